import PyProof.Rows.All
import Wide.All
import OpenK.AllK
import Wide.FinOn
import Lean
import PyProof.EqAt
import PyProof.EqKinds
import PyProof.TupleCall
import PyProof.ExcAttrAll.ValueError
import PyProof.EnumMake
import PyProof.EnumStmt
import PyProof.Rows.EnumRows
import KE.KDictOf
import KE.KEqDict
import PyProof.Draws
import KE.KDictSum
import PyProof.Rows.SortStr
import PyProof.Rows.SetFrom
import PyProof.WalksMore
import PyProof.TupleIter
import PyProof.DictIter
import PyProof.DictWalks
import KE.KDictList
import PySem.Challenge.RW_runrows_k43_lists_that_are_orders
set_option Elab.async false
set_option linter.all false
set_option maxRecDepth 100000
set_option maxHeartbeats 4000000
open PySem.W (instObj methodObj lookIn plainGet hasDictIn findIn plainGet_of isFn plainOver takerIn makesIn emptyDict keepIn fnOf codeIn kitOne mapOf_K nsIn mg_of binds_K mg_none_of)
namespace HK
open PySem PySem.W PyProof.Rows
def bg (o:Obj):Option Obj:=match o with
 |⟨_,_,.freed,_⟩=>none
 |o=>some o
theorem get_look (h:Heap)(a:Addr):h.get? a=(h.objs.toList[a]?).bind bg:=by
 unfold Heap.get?
 rw[Array.getElem?_toList]
 cases h.objs[a]? with
 |none=>rfl
 |some o =>
  obtain⟨c,d,x,s⟩:=o
  cases x<;>rfl
noncomputable def pick (os:List Obj):Nat->List Addr->List (Option Obj) :=
 List.rec (motive:=λ_=>Nat->List Addr->List (Option Obj)) (λ_ as=>as.map λ_=>none)
  (λo _ ih i as=>List.casesOn (motive:=λ_=>List (Option Obj)) as [] λa r=>cond (Nat.beq i a) (bg o::ih (Nat.succ i) r) (ih (Nat.succ i) (a::r))) os
def upB:Nat->List Addr->Bool
 |_,[]=>true
 |i,a::r=>Nat.ble i a&&upB (Nat.succ a) r
theorem upB_mono:∀{as:List Addr} {i j:Nat},i<=j->upB j as=true->upB i as=true
 |[],_,_,_,_=>rfl
 |a::r,i,j,h,u=>by
  unfold upB at u ⊢
  rw[Bool.and_eq_true] at u ⊢
  exact⟨Nat.ble_eq_true_of_le (Nat.le_trans h (Nat.le_of_ble_eq_true u.1)),u.2⟩
theorem pick_of:∀(os:List Obj) (i:Nat) (as:List Addr),upB i as=true->pick os i as=as.map λa=>(os[a - i]?).bind bg
 |[],i,as,_=>by
  show as.map (λ_=>none)=_
  apply List.map_congr_left
  intro a _
  simp
 |o::os,i,[],_=>rfl
 |o::os,i,a::r,u=>by
  have u':=u
  unfold upB at u
  rw[Bool.and_eq_true] at u
  have hle:=Nat.le_of_ble_eq_true u.1
  show cond (Nat.beq i a) (bg o::pick os (Nat.succ i) r) (pick os (Nat.succ i) (a::r))=_
  have step:∀l:List Addr,upB (Nat.succ i) l=true->(l.map λa=>(os[a - Nat.succ i]?).bind bg)=l.map λa=>((o::os)[a - i]?).bind bg:=by
   intro l hl
   apply List.map_congr_left
   intro b hb
   have hb':i+1<=b:=by
    clear u u' hle
    induction l generalizing i with
    |nil=>cases hb
    |cons c l ih =>
     unfold upB at hl
     rw[Bool.and_eq_true] at hl
     have h1:=Nat.le_of_ble_eq_true hl.1
     rcases List.mem_cons.mp hb with rfl|hb
     ·exact h1
     ·exact Nat.le_trans (by omega) (ih (i:=c) hl.2 hb)
   rw[show b - i=(b - (i+1))+1 by omega]
   rfl
  cases e:Nat.beq i a with
  |true =>
   have:i=a:=Nat.eq_of_beq_eq_true e
   subst this
   show bg o::pick os (Nat.succ i) r=_
   rw[pick_of os _ r u.2,step r u.2,List.map_cons,Nat.sub_self]
   rfl
  |false =>
   have ne:i≠a:=Nat.ne_of_beq_eq_false e
   show pick os (Nat.succ i) (a::r)=_
   have ua:upB (Nat.succ i) (a::r)=true:=by
    unfold upB
    rw[Bool.and_eq_true]
    exact⟨Nat.ble_eq_true_of_le (by omega),u.2⟩
   rw[pick_of os _ (a::r) ua,step _ ua]
noncomputable def fHook (K:Params->Frag)(as:List Addr)(e:∀P,as=(K P).map (·.1))(u:upB 0 as=true)(_:Unit):Hook :=
 ⟨List (Option Obj),λs=>pick s.heap.objs.toList 0 as,λw=>(K w.params).map λp=>some p.2,InK K,λw s x=>InK.of e w s (by
  rw[<- x,pick_of _ _ _ u]
  apply List.map_congr_left
  intro a _
  exact get_look _ _),InK.keeps⟩
theorem fIn_of {K:Params->Frag}{as:List Addr}{e:∀P,as=(K P).map (·.1)}{u:upB 0 as=true}{x:Unit}{w:World}{h:Heap}(Y:(fHook K as e u x).says w h):(K w.params).In h:=Y
end HK
namespace PySem.W.Fast
def tw1005173788690019851:=0
def tw10060359312174127303:=0
def tw10063989985920779836:=0
def tw10075512017119884784:=0
def tw10092139630330478797:=0
def tw10100058629184254601:=0
def tw10100578696706028736:=0
def tw10104765678899688894:=0
def tw10134566098258783481:=0
def tw10200206326863447829:=0
def tw10242088167143349997:=0
def tw10245487561661717882:=0
def tw10281374023347008928:=0
def tw10368913397629839234:=0
def tw10379439099379029554:=0
def tw10388741791110362639:=0
def tw10435599817104659172:=0
def tw10445663376186658478:=0
def tw10450617866842145369:=0
def tw10461927638859005960:=0
def tw10485855357471697020:=0
def tw10493164434791000859:=0
def tw10498202564433424204:=0
def tw10510030762014252840:=0
def tw10580477089347628428:=0
def tw10580814259076749872:=0
def tw10611172998604206030:=0
def tw10625236366922093791:=0
def tw10682748337632111883:=0
def tw10719972657941595304:=0
def tw1074301065537997329:=0
def tw10759581964760831524:=0
def tw107896879777198866:=0
def tw10806025333399231668:=0
def tw1082679321854627409:=0
def tw10897811909217028239:=0
def tw10917371647733704342:=0
def tw10947043233288611477:=0
def tw10987477045727259252:=0
def tw11021307206385835000:=0
def tw11046618816809529901:=0
def tw11056656866381054565:=0
def tw11070285496886431882:=0
def tw11077461799866295528:=0
def tw11096615642903603687:=0
def tw11102323385724044708:=0
def tw11123665289953901570:=0
def tw11182826388073579510:=0
def tw11183253305137500278:=0
def tw11186953487075431306:=0
def tw11221285977577468751:=0
def tw11238907809469873211:=0
def tw11258044373823654437:=0
def tw11283722053296865924:=0
def tw11294069299979276642:=0
def tw11313374731968681120:=0
def tw11314390216700792771:=0
def tw11336757231273104400:=0
def tw11370265203775534397:=0
def tw11426907597608393082:=0
def tw11460323453100147035:=0
def tw11478882785771472723:=0
def tw11488208132505884851:=0
def tw11491940086867272029:=0
def tw11499630231409859201:=0
def tw11505522682764161838:=0
def tw11505788364669064718:=0
def tw11522028473218285887:=0
def tw115479604208852781:=0
def tw11558945369256123384:=0
def tw11571456138968711182:=0
def tw11576344776789482591:=0
def tw11595938217821618230:=0
def tw11632404337107548985:=0
def tw11652445614587634473:=0
def tw1167181623441987721:=0
def tw1167361815565741651:=0
def tw11676012618201200202:=0
def tw11751293648130127852:=0
def tw11753263583317413369:=0
def tw11789443419461944193:=0
def tw11893901405565743977:=0
def tw11898575742323441105:=0
def tw11902680586356876255:=0
def tw11919072127654016858:=0
def tw11929166622182918730:=0
def tw11935730225788234833:=0
def tw11948090177027898835:=0
def tw11977603003151013416:=0
def tw11977911175569513859:=0
def tw12009039530689858950:=0
def tw12035866448343500953:=0
def tw12038668550242957169:=0
def tw12088705840298125537:=0
def tw12125788244495538069:=0
def tw121568456662757972:=0
def tw12176723239574704403:=0
def tw12215068243241074472:=0
def tw12230433972231366538:=0
def tw12252437623061684016:=0
def tw12291354881804714702:=0
def tw12299738739744620644:=0
def tw1230493475329595045:=0
def tw12352148731926666569:=0
def tw12401375444234156301:=0
def tw12405082470285203963:=0
def tw12413941089709456392:=0
def tw12421113681676412898:=0
def tw12502831236423183983:=0
def tw12512771797769383933:=0
def tw12520063649951841362:=0
def tw12522769556069013624:=0
def tw12528932386249549156:=0
def tw12553120526692023406:=0
def tw12558441382903586833:=0
def tw1258534884374294247:=0
def tw12643675599444042480:=0
def tw12682578044044121361:=0
def tw12701645907321708412:=0
def tw12731001929807655018:=0
def tw12773839344075265971:=0
def tw1277523441891055370:=0
def tw12784981992789054605:=0
def tw12835799946920037995:=0
def tw12836061820961539561:=0
def tw12859536937552053027:=0
def tw12863986327329689843:=0
def tw12873952335527638480:=0
def tw12886388678501028205:=0
def tw12964982885776427379:=0
def tw13011170928997286391:=0
def tw13042678235623567949:=0
def tw13062542572114840946:=0
def tw13095605014534063298:=0
def tw13125494966738179381:=0
def tw13131903189838957334:=0
def tw1317814717806925169:=0
def tw13183687784810363613:=0
def tw13228724006135263921:=0
def tw13236534319845289445:=0
def tw13249153036635125902:=0
def tw13260830031094245370:=0
def tw13264982570701994889:=0
def tw13266324230127834198:=0
def tw13277642143866186087:=0
def tw13312947048029317912:=0
def tw13316896325156032515:=0
def tw13347665698944405496:=0
def tw13365738356916301459:=0
def tw13376629272956970363:=0
def tw13396665944645023229:=0
def tw13397961234829119556:=0
def tw13437657517412116099:=0
def tw13447736348028483460:=0
def tw13451004212615895225:=0
def tw13451876757867439014:=0
def tw13470830028185799206:=0
def tw13473869857655966448:=0
def tw13478703522130922111:=0
def tw13494443238127716482:=0
def tw13509591472361146163:=0
def tw13534447289339707226:=0
def tw13553887817261553117:=0
def tw13555224114318934102:=0
def tw13559214285526934108:=0
def tw13563967911606524145:=0
def tw13611354647747179810:=0
def tw13711310423590081513:=0
def tw13788162783322889769:=0
def tw13794770848970378025:=0
def tw13823889890234461938:=0
def tw13850904301024844155:=0
def tw13893361227408403858:=0
def tw13926934077748688274:=0
def tw13973750026683291334:=0
def tw14000740858401267716:=0
def tw14004942702007167291:=0
def tw14010190788256253737:=0
def tw140177662593863645:=0
def tw14031623496888315451:=0
def tw14043791622332137100:=0
def tw14047663304401579100:=0
def tw14066896670045391682:=0
def tw14069220484530824724:=0
def tw14076542283864887512:=0
def tw14096368155912550807:=0
def tw1412278026383001703:=0
def tw14128754409473785343:=0
def tw14146799139181941156:=0
def tw14153580804727249740:=0
def tw14252560438642767234:=0
def tw14253993952688517502:=0
def tw14295081429919618608:=0
def tw14303667651840351171:=0
def tw14344228144536144537:=0
def tw14359684523330107097:=0
def tw14376715552018742277:=0
def tw14386578740652564936:=0
def tw14401545173453770018:=0
def tw14424363840540723876:=0
def tw14435136008105925932:=0
def tw14502892300672711294:=0
def tw14504088928248699976:=0
def tw14517677512315839579:=0
def tw1452762402344150502:=0
def tw14565655323682952118:=0
def tw14600462471713845711:=0
def tw14630698234972871363:=0
def tw14644991649167798041:=0
def tw14675514110255472197:=0
def tw14766692222951595340:=0
def tw14797918348054449791:=0
def tw14800673590053299537:=0
def tw14808749530901424809:=0
def tw14872590856777359287:=0
def tw14888743900789808151:=0
def tw14909866768453294079:=0
def tw14910313734244294197:=0
def tw14928368827852311939:=0
def tw14993132029760513841:=0
def tw15040300920748151760:=0
def tw15060447859626721829:=0
def tw15074400847455132594:=0
def tw15087881585353167779:=0
def tw15129367058744654258:=0
def tw15192507957097199215:=0
def tw1519968746213646991:=0
def tw15202031208338410800:=0
def tw15226245449146016274:=0
def tw15321116011043469824:=0
def tw1533137716377399061:=0
def tw15399964845582366446:=0
def tw15425868218597481570:=0
def tw15428470705852953288:=0
def tw15437617066798145067:=0
def tw15454951609121490990:=0
def tw15462958184535579612:=0
def tw15467612458089219950:=0
def tw15485350329771283677:=0
def tw15488443465714281488:=0
def tw15498247272945340178:=0
def tw15504565740918779026:=0
def tw15514353686653725723:=0
def tw15541279242606405146:=0
def tw15554477348516683138:=0
def tw15561712813124593487:=0
def tw1556211135660638446:=0
def tw15644436206628978265:=0
def tw15646051529941247779:=0
def tw15658581678701154901:=0
def tw15660316531407416708:=0
def tw15703899810166126352:=0
def tw15793390543519531290:=0
def tw15793727653164592453:=0
def tw15800335315318338926:=0
def tw15842536846886422916:=0
def tw15851715076194626764:=0
def tw15887896548279014740:=0
def tw1588969358316824134:=0
def tw15937644097708367395:=0
def tw15938926229656625753:=0
def tw15953924372992769263:=0
def tw159651924894167768:=0
def tw16013231413871042747:=0
def tw16027693218662223437:=0
def tw16086189428311177305:=0
def tw16089710586319353386:=0
def tw16101085430849928786:=0
def tw16105562878599849074:=0
def tw1613666834425060735:=0
def tw16187863561334881237:=0
def tw16191636447272343862:=0
def tw16229081717309517034:=0
def tw16283885853781933767:=0
def tw16292150527335008256:=0
def tw16314797458161742342:=0
def tw16326110618884136131:=0
def tw16407832248070174862:=0
def tw16414159575156695452:=0
def tw16461831348976634557:=0
def tw16470983403359722248:=0
def tw16489199436958377768:=0
def tw16502654890792859077:=0
def tw16551199176494838430:=0
def tw16558558332523127164:=0
def tw1657326038529687373:=0
def tw16590357572559156286:=0
def tw16648956795921808258:=0
def tw16699774830576251435:=0
def tw16727548109272857811:=0
def tw16741220973244544167:=0
def tw16782153864380478883:=0
def tw16791796274612117204:=0
def tw16798686861991120245:=0
def tw16911176654102400324:=0
def tw16921218083932178303:=0
def tw16943692418956708175:=0
def tw16974125337107445409:=0
def tw17001043336389773014:=0
def tw17056392906935609851:=0
def tw17063317192858182018:=0
def tw17073082719588719482:=0
def tw17083730337544359378:=0
def tw17088054167603944631:=0
def tw17097827027953519093:=0
def tw17101583969557157149:=0
def tw17104041578333866404:=0
def tw1711958752854999365:=0
def tw17130692111895985110:=0
def tw17135137040282987603:=0
def tw1718029207444232264:=0
def tw17184238213449918407:=0
def tw17239447862275601576:=0
def tw17248183200051593167:=0
def tw17252189876995523007:=0
def tw1728514289991056392:=0
def tw17334711066929613311:=0
def tw1743831159846050992:=0
def tw17452365036085245242:=0
def tw17466845721441786675:=0
def tw17479122622437461375:=0
def tw17485336093400003630:=0
def tw1749818084091129050:=0
def tw17509803538394827737:=0
def tw17548423572911977177:=0
def tw17564561433166725519:=0
def tw17591647945470682399:=0
def tw17598863831399322939:=0
def tw17626054097470793852:=0
def tw17651923661032425557:=0
def tw17664260400157051575:=0
def tw17697274531585061769:=0
def tw17710771220707859962:=0
def tw17713397106269969898:=0
def tw17721507996333804179:=0
def tw17807145488153083344:=0
def tw178164123489718630:=0
def tw17828467244855218218:=0
def tw17842134130359728971:=0
def tw17854506026287029910:=0
def tw17892490908670841471:=0
def tw17920623895489585348:=0
def tw17922307502991502474:=0
def tw17948310895310235807:=0
def tw18013768588897268797:=0
def tw180657637175875984:=0
def tw18103606400760498927:=0
def tw18122108514652354027:=0
def tw18153940544336658697:=0
def tw18161932697099322638:=0
def tw18190164903560398958:=0
def tw18197933086202076517:=0
def tw18210550623792106605:=0
def tw18229483162725759442:=0
def tw18254066186158434040:=0
def tw18256928246545037547:=0
def tw1826068165655266282:=0
def tw18284511809350680749:=0
def tw18288501783560604237:=0
def tw18310306412034765643:=0
def tw18311234961528146470:=0
def tw1834078919310443610:=0
def tw18345242908294094105:=0
def tw18391642802983023347:=0
def tw18395982156435874220:=0
def tw1846231640665078585:=0
def tw185455532616823839:=0
def tw1856631704111563385:=0
def tw1859061202487730456:=0
def tw1862531491432299508:=0
def tw1865556833436459227:=0
def tw1866676229490214501:=0
def tw1888074396922163448:=0
def tw1888743511125203435:=0
def tw1909611169594358516:=0
def tw1952330023656022165:=0
def tw1988535918006030992:=0
def tw1996727632795413124:=0
def tw2009041060375394155:=0
def tw2054912944624027771:=0
def tw2062720010103370391:=0
def tw2084854955386700180:=0
def tw2088815674090374610:=0
def tw2105013885529501842:=0
def tw2108984973379294782:=0
def tw2113498526000531069:=0
def tw2156263881550579476:=0
def tw2260219600633477477:=0
def tw2271818535215899405:=0
def tw2272474213322602414:=0
def tw229990223995812498:=0
def tw2311350353862669848:=0
def tw2344064096118158951:=0
def tw2362466172688746941:=0
def tw2403996037495686784:=0
def tw2407472561029146228:=0
def tw2454270941656798235:=0
def tw2464051291529655711:=0
def tw2483964808807974774:=0
def tw2491824476153064098:=0
def tw2492919937405720494:=0
def tw251032796237730559:=0
def tw2523529353283951111:=0
def tw2551658035941608285:=0
def tw2571372511639460147:=0
def tw2588953521615449187:=0
def tw2616286574033330746:=0
def tw2668502712081531520:=0
def tw2669508516808295531:=0
def tw2678225605933443642:=0
def tw2729561393644096938:=0
def tw2739044623550625638:=0
def tw2785707311187832728:=0
def tw2825775973767589421:=0
def tw2907284291472326108:=0
def tw2913966989605648805:=0
def tw2936282477181495790:=0
def tw3024251371420018252:=0
def tw3027330346760456151:=0
def tw3041464505536077818:=0
def tw3056980814210059540:=0
def tw3064641024964615567:=0
def tw3118095345827608277:=0
def tw3119430071814310485:=0
def tw3138777918314167672:=0
def tw314236866389670941:=0
def tw3142670392776635659:=0
def tw3150626823857348964:=0
def tw3163617724600528464:=0
def tw3190163965820868757:=0
def tw3257523538281903093:=0
def tw3269194022948515079:=0
def tw3271834578865835837:=0
def tw3279754553746123395:=0
def tw3296068668806359458:=0
def tw3354458516815402996:=0
def tw3356872613416584371:=0
def tw340402139420156446:=0
def tw3410058146015457285:=0
def tw341594212617440111:=0
def tw3475710799410562805:=0
def tw3495606932933987544:=0
def tw3510199712680911462:=0
def tw3541342684749874960:=0
def tw3541998558419698547:=0
def tw3656295960972810158:=0
def tw3693023010604837155:=0
def tw3710783835723445755:=0
def tw3716456984593091814:=0
def tw3718562613629038402:=0
def tw3778381776600212745:=0
def tw3794916076849317821:=0
def tw3801379705262146870:=0
def tw3835748667802389567:=0
def tw3848259483222875226:=0
def tw3864760151501857197:=0
def tw3882259225425168349:=0
def tw3907482003745393179:=0
def tw3914592528137343083:=0
def tw3949493749222937169:=0
def tw3970085422835517409:=0
def tw3993491438879763413:=0
def tw3999873353806265776:=0
def tw404869968803262046:=0
def tw4049469530670844697:=0
def tw4085094468198530065:=0
def tw4155651729833088104:=0
def tw4171167390754219295:=0
def tw4185415212316434210:=0
def tw4204661209680635154:=0
def tw4227719573418530855:=0
def tw4300806559520590735:=0
def tw4301350358394458544:=0
def tw4322595753251489079:=0
def tw4331665357604876066:=0
def tw4354562841007133836:=0
def tw4374136062738535783:=0
def tw4387201212273232175:=0
def tw4393744970688375421:=0
def tw4447753616055919098:=0
def tw445079398552215991:=0
def tw4498981938573517023:=0
def tw4531291905453788479:=0
def tw4531467254757925407:=0
def tw4533293380407475515:=0
def tw4539377686185660225:=0
def tw4549112480151844008:=0
def tw4551685443511588830:=0
def tw4644509285154934205:=0
def tw4655637819573725168:=0
def tw4656400717470340300:=0
def tw4668089068704552227:=0
def tw4683038761742972233:=0
def tw4726604301593653703:=0
def tw4736541655991583395:=0
def tw4812021468596702234:=0
def tw4879932996126512308:=0
def tw4948669500964576374:=0
def tw5022085784203842144:=0
def tw5059652125589815223:=0
def tw5130511024685209554:=0
def tw5147769519429402923:=0
def tw5158830243026360208:=0
def tw517836013190429345:=0
def tw5182054084845671353:=0
def tw5196851581187831512:=0
def tw5197827004272397659:=0
def tw5239592086678549882:=0
def tw528640861281434937:=0
def tw5291072533613413854:=0
def tw532564586494476993:=0
def tw5347554997025117095:=0
def tw5351801983716134747:=0
def tw5370829249225431565:=0
def tw538894206886515993:=0
def tw5422289422015366304:=0
def tw5529903157476703986:=0
def tw5533548050329804902:=0
def tw5591821715646829676:=0
def tw5691655815124059746:=0
def tw5692206693479986405:=0
def tw5758778616393086619:=0
def tw5798075635327780164:=0
def tw580490779884924560:=0
def tw5845282691760227405:=0
def tw5908741630445331240:=0
def tw5915610298572506963:=0
def tw593810323001794833:=0
def tw5950302231404010809:=0
def tw5974310439708836388:=0
def tw6006149982232093572:=0
def tw6030230407074168826:=0
def tw6099435051864373062:=0
def tw6099878868393225557:=0
def tw6107197623998295805:=0
def tw6127090029098636615:=0
def tw6128172389138625627:=0
def tw6143724142860324237:=0
def tw6176541796036774111:=0
def tw6188645330113548359:=0
def tw620628674583618262:=0
def tw6211123886770717603:=0
def tw6263389530701374456:=0
def tw6278354056529505328:=0
def tw6295546266092609322:=0
def tw6321816423787604094:=0
def tw6372803829195224114:=0
def tw6373988491272631831:=0
def tw6476626415123953078:=0
def tw6496656674308980730:=0
def tw6527097771972233964:=0
def tw6569352759113000892:=0
def tw6607195714598383028:=0
def tw6631660239296073812:=0
def tw6634903900661633298:=0
def tw6635831071340164351:=0
def tw6665888043678560999:=0
def tw6713212828281958604:=0
def tw6748134813031866028:=0
def tw6768767726526262890:=0
def tw6783101603747161880:=0
def tw6791785042681960741:=0
def tw6812364631582444891:=0
def tw6813583995878680687:=0
def tw6814470460581796080:=0
def tw6840921676735953097:=0
def tw6856706378575079650:=0
def tw6885916472047764549:=0
def tw6928831310693713394:=0
def tw6935053608991247667:=0
def tw693657343487213227:=0
def tw6939700587120419674:=0
def tw6953712094161980935:=0
def tw6977941479267888564:=0
def tw7009142572223859092:=0
def tw7039860270937523558:=0
def tw7050967643867335967:=0
def tw7059940894469422187:=0
def tw7062243838374122128:=0
def tw7088693715972972025:=0
def tw7097726485913934640:=0
def tw7099165987136855377:=0
def tw710512409216003770:=0
def tw7154652115520346437:=0
def tw7225289950005131511:=0
def tw7266686265081932470:=0
def tw7286640209926109843:=0
def tw7294505163643250816:=0
def tw730282963126898646:=0
def tw7321980220669440743:=0
def tw732892121484750508:=0
def tw7358069972002550622:=0
def tw7388181183197192898:=0
def tw7404262626487865053:=0
def tw7408308698659204709:=0
def tw7428390995301471059:=0
def tw7437384036974646289:=0
def tw7441328793783754426:=0
def tw7451027745878458152:=0
def tw7481470626449232986:=0
def tw7492661032564015619:=0
def tw7525164545945796403:=0
def tw7527781401563991324:=0
def tw7541120300033444207:=0
def tw759025311196064872:=0
def tw759760784826828160:=0
def tw7646057358400868887:=0
def tw7650014117065459421:=0
def tw7650658631538035166:=0
def tw7688806570005088709:=0
def tw7705985295393554115:=0
def tw7766871144779623343:=0
def tw7776890169973364847:=0
def tw789650111741087477:=0
def tw7911467381857369796:=0
def tw7913688872695729401:=0
def tw7943458208842943591:=0
def tw800597965054294346:=0
def tw8048490847063357357:=0
def tw8066830994599333788:=0
def tw8074711058656544008:=0
def tw8133797292121745829:=0
def tw8171463811706366748:=0
def tw8188992223712956548:=0
def tw819665288995774923:=0
def tw8211327356876588272:=0
def tw8227308574867369943:=0
def tw8240159863640817785:=0
def tw8275566912695477739:=0
def tw8277121477717666678:=0
def tw8278012004038627677:=0
def tw8305527101487683966:=0
def tw8310321691142376522:=0
def tw8390669859007141674:=0
def tw8414284572787003812:=0
def tw84143301266720351:=0
def tw8425928759635161860:=0
def tw8427916105763876321:=0
def tw8434610837845745358:=0
def tw8442134793820664248:=0
def tw845952209352734291:=0
def tw8483104587452942707:=0
def tw8538230466443137126:=0
def tw8543952178962916249:=0
def tw8566244285055041274:=0
def tw8576639859740842113:=0
def tw8577439698053931705:=0
def tw8607630254030796057:=0
def tw8650177414580966373:=0
def tw865438550626686239:=0
def tw8714700036925522406:=0
def tw8722053607243034404:=0
def tw8745079513840350792:=0
def tw8757637190290783800:=0
def tw8781603035631130900:=0
def tw8783601481109714971:=0
def tw8804880846429836836:=0
def tw8816367224786064700:=0
def tw8841146938325924739:=0
def tw8933373702464177502:=0
def tw8942729247927701892:=0
def tw8959535497316357123:=0
def tw8977402361024797762:=0
def tw8988883802941201577:=0
def tw9004356476826284078:=0
def tw9011846729844253800:=0
def tw902893260383212922:=0
def tw9057278928651577926:=0
def tw9122889990103652677:=0
def tw9167285691252281020:=0
def tw9202414491655537684:=0
def tw922196279392603236:=0
def tw9229964646667039236:=0
def tw9259618683578625996:=0
def tw9268251409997859076:=0
def tw9273957916288672550:=0
def tw9319776275135469650:=0
def tw9324808939811915254:=0
def tw9361010358102370232:=0
def tw9381775811910456141:=0
def tw93976428165788238:=0
def tw9429706949112129029:=0
def tw9456997727929224785:=0
def tw9460899548955850738:=0
def tw9470444957406608147:=0
def tw9529999649121925924:=0
def tw9558521603086156234:=0
def tw9623692033140370097:=0
def tw9627677828230900560:=0
def tw9656345436984910540:=0
def tw9658949513438671391:=0
def tw9663623256819479318:=0
def tw9673111248656485420:=0
def tw9682563135988009735:=0
def tw9690308440494646453:=0
def tw9699247842637155060:=0
def tw9702214756882556083:=0
def tw9728955027042283718:=0
def tw9822598017996461749:=0
def tw9840394320721873371:=0
def tw9849572349456269241:=0
def tw9892311901232504658:=0
def tw9923703732447792897:=0
def tw9928403583262560509:=0
def tw9941769532535095655:=0
end PySem.W.Fast
namespace HK
open PySem PySem.W PyProof.Rows
local macro_rules
 | `(tactic| o_head ($_:ident $k $a $e)) => `(tactic| o_head (HK.fHook $k $a $e (by decide +kernel) ()))
 | `(tactic| o_head ($_:ident $k $a $e $_)) => `(tactic| o_head (HK.fHook $k $a $e (by decide +kernel) ()))
set_option maxHeartbeats 0 in
open_top hd for PySem.Challenge.rw_runrows_k43_lists_that_are_orders
end HK
namespace L2
open PySem PySem.Spec PyProof.Rows
abbrev Key:=Sum Int Str
def qQ:Key->Value->Bool
 |.inl k,v=>Value.isInt k v
 |.inr x,v=>Value.isStrOf x v
def Mm (w:World):Key->Int
 |.inl k=>hashInt k
 |.inr x=>hashStr w x
theorem bj:∀{k:Key} {v:Value},qQ k v=true->(∃i t,k=Sum.inl i/\v=Value.int i t)\/(∃x t,k=Sum.inr x/\v=Value.str x t)
 |.inl i,v,h=>by
  obtain⟨t,e⟩:=Value.isInt_shape (k:=i) (v:=v) h
  exact .inl ⟨i,t,rfl,e⟩
 |.inr x,v,h=>by
  obtain⟨t,e⟩:=Value.isStrOf_shape (x:=x) (v:=v) h
  exact .inr ⟨x,t,rfl,e⟩
theorem Ae (i:Int)(t:Tok):qQ (.inl i) (.int i t)=true:=by simp[qQ,Value.isInt]
theorem Af (x:Str)(t:Tok):qQ (.inr x) (.str x t)=true:=by simp[qQ,Value.isStrOf]
theorem II (a b:Int):decide ((Sum.inl a:Key)=Sum.inl b)=(a == b):=by
 by_cases e:a=b
 ·subst e;simp
 ·have h:¬ (Sum.inl a:Key)=Sum.inl b:=λq=>e (Sum.inl.inj q)
  rw[decide_eq_false h]
  exact(beq_eq_false_iff_ne.mpr e).symm
theorem IL (a b:Str):decide ((Sum.inr a:Key)=Sum.inr b)=decide (a=b):=by
 by_cases e:a=b
 ·subst e;simp
 ·have h:¬ (Sum.inr a:Key)=Sum.inr b:=λq=>e (Sum.inr.inj q)
  rw[decide_eq_false h,decide_eq_false e]
theorem IJ (a:Int)(b:Str):decide ((Sum.inl a:Key)=Sum.inr b)=false:=decide_eq_false (λq=>nomatch q)
theorem IK (a:Str)(b:Int):decide ((Sum.inr a:Key)=Sum.inl b)=false:=decide_eq_false (λq=>nomatch q)
def bq (prog:Program)(w:World):PySem.KeyKind prog w Key where
 is:=qQ
 hash:=Mm w
 inj:=λv a b ha hb=>by
  rcases bj ha with⟨i,t,rfl,rfl⟩|⟨x,t,rfl,rfl⟩
  ·rcases bj hb with⟨j,u,rfl,e⟩|⟨y,u,rfl,e⟩
   ·injection e with e1 _;rw[e1]
   ·exact nomatch e
  ·rcases bj hb with⟨j,u,rfl,e⟩|⟨y,u,rfl,e⟩
   ·exact nomatch e
   ·injection e with e1 _;rw[e1]
 byValue:=λk v h=>by
  rcases bj h with⟨i,t,rfl,rfl⟩|⟨x,t,rfl,rfl⟩<;>rfl
 pyHash:=λhv h=>by
  rcases bj hv with⟨i,t,rfl,rfl⟩|⟨x,t,rfl,rfl⟩
  ·exact wpAny_pyHash_int h
  ·exact wpAny_pyHash_str h
 eqBool:=λhu hv h=>by
  rcases bj hu with⟨i,t,rfl,rfl⟩|⟨x,t,rfl,rfl⟩
  ·rcases bj hv with⟨j,u,rfl,rfl⟩|⟨y,u,rfl,rfl⟩
   ·rw[II] at h;exact wpAny_eqBool_int h
   ·rw[IJ] at h;exact SeqAt.EqAt.int_str i t y u _ _ _ _ h
  ·rcases bj hv with⟨j,u,rfl,rfl⟩|⟨y,u,rfl,rfl⟩
   ·rw[IK] at h;exact SeqAt.EqAt.str_int x t j u _ _ _ _ h
   ·rw[IL] at h;exact wpAny_eqBool_str h
 «strs»:=λk x t v h=>by
  rcases bj h with⟨i,u,rfl,e⟩|⟨y,u,rfl,e⟩
  ·exact nomatch e
  ·injection e with e1 _
   subst e1
   cases v<;>rfl
theorem v_ (prog:Program)(w:World)(i:Int)(t:Tok):(bq prog w).is (.inl i) (.int i t)=true:=Ae i t
theorem wA (prog:Program)(w:World)(x:Str)(t:Tok):(bq prog w).is (.inr x) (.str x t)=true:=Af x t
inductive V where
 |ak|bl (b:Bool)|int (i:Int)|str (x:Str)|wz (b:Array UInt8)|Ly (b:UInt64)|ref (a:Addr)|ty (n:String)
 deriving DecidableEq
def RelV:V->Value->Prop
 |.ak,u=>u=Value.none
 |.bl b,u=>u=Value.bool b
 |.int i,u=>∃t,u=Value.int i t
 |.str x,u=>∃t,u=Value.str x t
 |.wz b,u=>∃t,u=Value.bytes b t
 |.Ly b,u=>∃t,u=Value.float b t
 |.ref a,u=>u=Value.ref a
 |.ty n,u=>u=Value.type n
abbrev Vals:List V->List Value->Prop:=Paired RelV
theorem Vals.length {xs:List V}{us:List Value}(r:Vals xs us):xs.length=us.length:=Paired.length r
theorem Vals.get:∀{xs:List V} {us:List Value} {i:Nat} {x:V},Vals xs us->xs[i]?=some x->∃u,us[i]?=some u/\RelV x u
 |_,_,_,_,.nil,e=>by simp at e
 |_,_,0,_,.cons r _,e=>by simp at e;subst e;exact⟨_,rfl,r⟩
 |_,_,i+1,x,.cons _ t,e=>by
  obtain⟨u,h1,h2⟩:=Vals.get (i:=i) (x:=x) t (by simpa using e)
  exact⟨u,by simpa using h1,h2⟩
theorem Vals.set {x:V}{u:Value}(r:RelV x u):∀{xs:List V} {us:List Value} (i:Nat),Vals xs us->Vals (xs.set i x) (us.set i u)
 |_,_,_,.nil=>.nil
 |_,_,0,.cons _ t=>.cons r t
 |_,_,i+1,.cons q t=>.cons q (Vals.set r i t)
theorem Vals.append:∀{xs ys:List V} {us ws:List Value},Vals xs us->Vals ys ws->Vals (xs++ys) (us++ws)
 |_,_,_,_,.nil,s=>s
 |_,_,_,_,.cons r t,s=>.cons r (Vals.append t s)
theorem Vals.take:∀{xs:List V} {us:List Value} (n:Nat),Vals xs us->Vals (xs.take n) (us.take n)
 |_,_,0,_=>.nil
 |_,_,_+1,.nil=>.nil
 |_,_,n+1,.cons r t=>.cons r (Vals.take n t)
theorem Vals.drop:∀{xs:List V} {us:List Value} (n:Nat),Vals xs us->Vals (xs.drop n) (us.drop n)
 |_,_,0,r=>r
 |_,_,_+1,.nil=>.nil
 |_,_,n+1,.cons _ t=>Vals.drop n t
def jD:Option V->Option Value->Prop
 |some v,some u=>RelV v u
 |none,none=>True
 |_,_=>False
def KV {κ:Type}:List (κ × V)->List (κ × Value)->Prop:=Paired fun(p:κ × V) (q:κ × Value)=>p.1=q.1/\RelV p.2 q.2
def kV:Key->V
 |.inl i=>.int i
 |.inr x=>.str x
inductive HO where
 /-- a list -/
 |lst (xs:List V)
 /-- a tuple (never changes) -/
 |tup (xs:List V)
 /-- a dict whose keys are ints and texts;one whose keys are tuples of ints and texts (the empty one is both) -/
 |dK (kvs:List (Key × V))|dT (kvs:List (List Key × V))
 /-- a set of ints: its members,its size -/
 |set (S:Int->Bool) (n:Nat)
 /-- an instance of the class at C,its dict at dx,its attributes -/
 |ins (C dx:Addr) (fs:List (Str × V))
 /-- the dict of the instance at x -/
 |own (x:Addr)
 /-- the dict of an exception -/
 |xd (fs:List (Str × V))
 /-- a bound method,f of x -/
 |met (f x:Addr)
 /-- a range object lo,lo+1,.. below hi -/
 |M5 (lo hi:Int)
 /-- a thing that is known to the object (the script;a dict while a loop walks it): read,never written while it is so -/
 |fB (o:Obj) (u:HO)
 /-- a code object's table -/
 |GK (ps:Array Value)
 /-- any other thing,by what is true of its one object (a def of one's own: u0 a S n:=HO.ext λh=>..) -/
 |ext (φ:Heap->Prop)
abbrev Hp:=Addr->Option HO
def upd (H:Hp)(a:Addr)(o:HO):Hp:=λb=>if b=a then some o else H b
theorem aJ {H:Hp}{a:Addr}{o:HO}:upd H a o a=some o:=by unfold upd;rw[if_pos rfl]
theorem aI {H:Hp}{a b:Addr}{o:HO}(h:b≠a):upd H a o b=H b:=by unfold upd;rw[if_neg h]
theorem p6 {H:Hp}{a:Addr}{o u:HO}:upd (upd H a o) a u=upd H a u:=by
 funext b;unfold upd;split<;>rfl
theorem Kz {H:Hp}{a b:Addr}{o u:HO}(h:H a=some o)(h':H b=some u)(d:o≠u):a≠b:=by
 intro e;subst e;rw[h] at h';exact d (Option.some.inj h')
theorem a_ {H:Hp}{a b:Addr}{o:HO}(h:H a=some o)(h':H b=none):a≠b:=by
 intro e;subst e;rw[h] at h';cases h'
section
variable (P:Program)(w:World)
def bJ (H:Hp)(h:Heap)(a:Addr):HO->Prop
 |.lst xs=>xs.length<=sizeLine/\∃(its:List Value) (n:Nat),Vals xs its/\h.get? a=some { cls:=.type "list",data:=.seq its.toArray n }
 |.tup xs=>xs.length<=sizeLine/\∃its:List Value,Vals xs its/\IsTup h a its.toArray
 |.dK kvs=>kvs.length<=sizeLine/\(a == sysModules)=false/\∃vs,KV kvs vs/\h.DictOf (bq P w) a vs
 |.dT kvs=>kvs.length<=sizeLine/\(a == sysModules)=false/\∃xs:List (List Key × Addr × Value),
   Paired (fun(p:List Key × V) (q:List Key × Addr × Value)=>p.1=q.1/\H q.2.1=some (.tup (p.1.map kV))/\RelV p.2 q.2.2) kvs xs /\
   ∃o es ep,h.get? a=some o/\o.ExactDict/\o.data=.dict es ep/\es.toList=xs.map (entryOfKey (tupleKind (bq P w)))/\(xs.map (·.1)).Nodup
 |.set S n=>h.SetOf (intKind P w) a S n
 |.ins C dx fs=>H dx=some (.own a)/\fs.length<=1000/\dx≠a/\h.get? a=some (instObj C dx) /\
   ∃mA,h.Ns1 dx mA/\(∀f,jD (fs.lookup f) (mA f))/\PySem.Within mA (fs.map (·.1))
 |.own _=>∃o,h.get? a=some o
 |.xd fs=>∃mA,h.Ns1 a mA/\∀f,jD (fs.lookup f) (mA f)
 |.M5 lo hi=>∃t u v,h.get? a=some { cls:=.type "range",data:=.fields #[.int lo t,.int hi u,.int 1 v] }
 |.fB o u=>h.get? a=some o/\bJ H h a u
 |.GK ps=>h.get? a=some { cls:=.none,data:=.fields ps }
 |.met f x=>h.get? a=some (methodObj (.ref f) (.ref x))
 |.ext φ=>φ h/\(∃o,h.get? a=some o)/\∀h1 h2:Heap,φ h1->(∀o,h1.get? a=some o->h2.get? a=some o)->φ h2
def ki (H:Hp)(h:Heap):Prop:=∀a o,H a=some o->bJ P w H h a o
end
section
variable {P:Program}{w:World}{H H':Hp}{h h':Heap}{a:Addr}{o:HO}
theorem bJ.lt (x:bJ P w H h a o):a<h.objs.size:=by
 cases o with
 |lst xs=>obtain⟨_,_,_,_,e⟩:=x;exact Heap.lt_size e
 |tup xs=>obtain⟨_,_,_,p⟩:=x;exact p.lt
 |dK kvs=>obtain⟨_,_,_,_,o,_,_,e,_⟩:=x;exact Heap.lt_size e
 |dT kvs=>obtain⟨_,_,_,_,o,_,_,e,_⟩:=x;exact Heap.lt_size e
 |set S n=>obtain⟨o,_,_,_,e,_⟩:=x;exact Heap.lt_size e
 |ins C dx fs=>obtain⟨_,_,_,e,_⟩:=x;exact Heap.lt_size e
 |own y=>obtain⟨_,e⟩:=x;exact Heap.lt_size e
 |xd fs=>obtain⟨_,⟨_,_,_,e,_⟩,_⟩:=x;exact Heap.lt_size e
 |M5 lo hi=>obtain⟨_,_,_,e⟩:=x;exact Heap.lt_size e
 |fB ob u=>obtain⟨e,_⟩:=x;exact Heap.lt_size e
 |GK ps=>exact Heap.lt_size (show h.get? a=some _ from x)
 |met f y=>exact Heap.lt_size (show h.get? a=some _ from x)
 |ext φ=>obtain⟨_,⟨_,e⟩,_⟩:=x;exact Heap.lt_size e
theorem Paired.Ih {α β:Type}{F G:α->β->Prop}:∀{l₁:List α} {l₂:List β},Paired F l₁ l₂->(∀a b,F a b->G a b)->Paired G l₁ l₂
 |_,_,.nil,_=>.nil
 |_,_,.cons r t,f=>.cons (f _ _ r) (Paired.Ih t f)
theorem bJ.om (x:bJ P w H h a o)(k:∀b u,(b=a\/H b=some (.own a))->h.get? b=some u->h'.get? b=some u)
  (ho:∀b,H b=some (.own a)->H' b=some (.own a))(ht:∀b xs,H b=some (.tup xs)->H' b=some (.tup xs)):bJ P w H' h' a o:=by
 induction o with
 |lst xs=>obtain⟨z,its,n,r,e⟩:=x;exact⟨z,its,n,r,k _ _ (.inl rfl) e⟩
 |tup xs=>obtain⟨z,its,r,ob,e,c⟩:=x;exact⟨z,its,r,ob,k _ _ (.inl rfl) e,c⟩
 |dK kvs=>obtain⟨z,y,vs,r,ob,es,ep,e,c⟩:=x;exact⟨z,y,vs,r,ob,es,ep,k _ _ (.inl rfl) e,c⟩
 |dT kvs =>
  obtain⟨z,y,xs,r,ob,es,ep,e,c⟩:=x
  exact⟨z,y,xs,Paired.Ih r λp q z=>⟨z.1,ht _ _ z.2.1,z.2.2⟩,ob,es,ep,k _ _ (.inl rfl) e,c⟩
 |set S n=>obtain⟨ob,es,ep,t,e,c⟩:=x;exact⟨ob,es,ep,t,k _ _ (.inl rfl) e,c⟩
 |ins C dx fs =>
  obtain⟨d,z,ne,e,mA,⟨od,es,ep,e2,c⟩,r⟩:=x
  exact⟨ho _ d,z,ne,k _ _ (.inl rfl) e,mA,⟨od,es,ep,k _ _ (.inr d) e2,c⟩,r⟩
 |own y=>obtain⟨ob,e⟩:=x;exact⟨ob,k _ _ (.inl rfl) e⟩
 |xd fs=>obtain⟨mA,⟨od,es,ep,e,c⟩,r⟩:=x;exact⟨mA,⟨od,es,ep,k _ _ (.inl rfl) e,c⟩,r⟩
 |M5 lo hi=>obtain⟨t,u,v,e⟩:=x;exact⟨t,u,v,k _ _ (.inl rfl) e⟩
 |fB ob u ih=>obtain⟨e,q⟩:=x;exact⟨k _ _ (.inl rfl) e,ih q⟩
 |GK ps =>
  have e:h.get? a=some { cls:=.none,data:=.fields ps }:=x
  show h'.get? a=some { cls:=.none,data:=.fields ps }
  exact k a _ (.inl rfl) e
 |met f y =>
  have e:h.get? a=some (methodObj (.ref f) (.ref y)):=x
  show h'.get? a=some (methodObj (.ref f) (.ref y))
  exact k a _ (.inl rfl) e
 |ext φ=>obtain⟨p,⟨o,e⟩,st⟩:=x;exact⟨st _ _ p λo q=>k _ _ (.inl rfl) q,⟨o,k _ _ (.inl rfl) e⟩,st⟩
theorem ki.lt (x:ki P w H h)(e:H a=some o):a<h.objs.size:=(x a o e).lt
theorem ki.fresh (x:ki P w H h)(e:h.objs.size<=a):H a=none:=by
 cases q:H a with
 |none=>rfl
 |some u=>exact absurd (Nat.lt_of_lt_of_le (x.lt q) e) (Nat.lt_irrefl _)
theorem ki.kept (x:ki P w H h)(k:∀b u,h.get? b=some u->h'.get? b=some u):ki P w H h':=λa o e =>
 (x a o e).om (λb u _ q=>k b u q) (λ_ q=>q) λ_ _ q=>q
theorem ki.laid (x:ki P w H h)(k:∀b u,h.get? b=some u->h'.get? b=some u)(hp:h.objs.size<=a)(new:bJ P w (upd H a o) h' a o):ki P w (upd H a o) h':=λb u e=>by
 have hn:=x.fresh hp
 by_cases hb:b=a
 ·subst hb;rw[aJ] at e;cases e;exact new
 ·rw[aI hb] at e
  exact(x b u e).om (λc v _ q=>k c v q) (λc q=>by rw[aI (a_ q hn)];exact q) λc xs q=>by rw[aI (a_ q hn)];exact q
end
def Rd (H:Hp)(a:Addr)(u:HO):Prop:=H a=some u\/∃o,H a=some (.fB o u)
theorem Rd.of {H:Hp}{a:Addr}{u:HO}(h:H a=some u):Rd H a u:=.inl h
theorem Rd.ok {P:Program}{w:World}{H:Hp}{h:Heap}{a:Addr}{u:HO}(r:Rd H a u)(x:ki P w H h):bJ P w H h a u:=by
 rcases r with r|⟨o,r⟩
 ·exact x a u r
 ·obtain⟨_,q⟩:=x a _ r
  exact q
def J3:Option HO->Prop
 |some (.lst _)=>True
 |some (.dK _)=>True
 |some (.dT _)=>True
 |some (.set _ _)=>True
 |some (.ins _ _ _)=>True
 |some (.ext _)=>True
 |_=>False
section
variable {P:Program}{w:World}{H:Hp}{h h':Heap}{x e:Addr}{o':HO}
theorem ki.write (ok:ki P w H h)(mu:J3 (H x))(he:e=x\/H e=some (.own x))(k:∀b u,b≠e->h.get? b=some u->h'.get? b=some u)(heo:∃u,h'.get? e=some u)
  (new:bJ P w (upd H x o') h' x o'):ki P w (upd H x o') h':=λb u q=>by
 have nown:∀c y,H c=some (.own y)->c≠x:=λc y r z=>by subst z;rw[r] at mu;exact mu
 have ntup:∀c xs,H c=some (.tup xs)->c≠x:=λc xs r z=>by subst z;rw[r] at mu;exact mu
 by_cases hb:b=x
 ·subst hb;rw[aJ] at q;cases q;exact new
 ·rw[aI hb] at q
  by_cases hbe:b=e
  ·have q':H b=some (.own x):=by
    rcases he with z|z
    ·exact absurd (hbe.trans z) hb
    ·rw[hbe];exact z
   rw[q] at q';cases q'
   obtain⟨v,hv⟩:=heo
   exact⟨v,by rw[hbe];exact hv⟩
  ·refine(ok b u q).om (λc v hc r=>k c v ?_ r) (λc r=>by rw[aI (nown c b r)];exact r) λc xs r=>by rw[aI (ntup c xs r)];exact r
   rcases hc with rfl|hc
   ·exact hbe
   ·rintro rfl
    rcases he with z|z
    ·exact nown c b hc z
    ·rw[hc] at z;cases z;exact hb rfl
end
structure Un (fs ex:List Addr) (H H':Hp) (h h':Heap):Prop where
 keep:∀b o,h.get? b=some o->H b=none->b∉fs->b∉ex->h'.get? b=some o
 slot:∀b o,h.get? b=some o->H b=none->b∈fs->b∉ex->∃sl,h'.get? b=some { o with slots:=sl }
 free:∀b o,h.get? b=some o->H b=none->b∉ex->H' b=none
 there:∀b o,h.get? b=some o->b∉ex->∃o',h'.get? b=some o'
 q9:∀b xs,H b=some (.tup xs)->H' b=some (.tup xs)
 n8:∀b o u,H b=some (.fB o u)->H' b=some (.fB o u)
 qy:∀b ps,H b=some (.GK ps)->∃more,H' b=some (.GK (ps++more))
section
variable {fs fs' ex ex':List Addr}{H H1 H2:Hp}{h h1 h2 h':Heap}{a x e:Addr}{o:HO}
theorem Un.any (u:Un fs ex H H1 h h1){b:Addr}{ob:Obj}(q:h.get? b=some ob)(n:H b=none)(hx:b∉ex):∃sl,h1.get? b=some { ob with slots:=sl }:=by
 by_cases hb:b∈fs
 ·exact u.slot b ob q n hb hx
 ·exact⟨ob.slots,u.keep b ob q n hb hx⟩
theorem Un.kept (k:∀b u,h.get? b=some u->h'.get? b=some u):Un fs ex H H h h' :=
 ⟨λb ob q _ _ _=>k b ob q,λb ob q _ _ _=>⟨ob.slots,k b ob q⟩,λ_ _ _ n _=>n,λb ob q _=>⟨ob,k b ob q⟩,λ_ _ q=>q,λ_ _ _ q=>q,λ_ ps q=>⟨#[],by rw[q];simp⟩⟩
theorem Un.refl:Un fs ex H H h h:=Un.kept λ_ _ q=>q
theorem Un.laid (k:∀b u,h.get? b=some u->h'.get? b=some u)(hp:h.objs.size<=a)(hn:H a=none):Un fs ex H (upd H a o) h h' where
 keep:=λb u q _ _ _=>k b u q
 slot:=λb u q _ _ _=>⟨u.slots,k b u q⟩
 free:=λb u q n _=>by rw[aI (Nat.ne_of_lt (Nat.lt_of_lt_of_le (Heap.lt_size q) hp))];exact n
 there:=λb u q _=>⟨u,k b u q⟩
 q9:=λb xs q=>by rw[aI (a_ q hn)];exact q
 n8:=λb u xs q=>by rw[aI (a_ q hn)];exact q
 qy:=λb ps q=>⟨#[],by rw[aI (a_ q hn),q];simp⟩
theorem Un.write (mu:J3 (H x))(he:e=x\/H e=some (.own x))(k:∀b u,b≠e->h.get? b=some u->h'.get? b=some u)(heo:∃u,h'.get? e=some u):Un fs ex H (upd H x o) h h':=by
 have hx:∀b,H b=none->b≠x:=λb n z=>by subst z;rw[n] at mu;exact mu
 have hb:∀b,H b=none->b≠e:=λb n z=>by
  subst z
  rcases he with r|r
  ·exact hx b n r
  ·rw[n] at r;cases r
 have hm:∀b u,H b=some u->¬ J3 (some u)->b≠x:=λb u q nm z=>by subst z;rw[q] at mu;exact nm mu
 refine⟨λb u q n _ _=>k b u (hb b n) q,λb u q n _ _=>⟨u.slots,k b u (hb b n) q⟩,λb u q n _=>by rw[aI (hx b n)];exact n,λb u q _=>?_,
  λb xs q=>by rw[aI (hm b _ q λz=>z)];exact q,λb u xs q=>by rw[aI (hm b _ q λz=>z)];exact q,λb ps q=>⟨#[],by rw[aI (hm b _ q λz=>z),q];simp⟩⟩
 by_cases hbe:b=e
 ·subst hbe;exact heo
 ·exact⟨u,k b u hbe q⟩
end
def ME (h:Heap)(H:Hp):List Addr:=(List.range h.objs.size).filter λa=>(H a).isSome
def tY (h:Heap)(H:Hp):Heap:=PySem.W.hideAll h (ME h H)
theorem AW (h:Heap)(H:Hp):(tY h H).objs.size=h.objs.size:=PySem.W.hideAll_size _ _
theorem CA {h:Heap}{H:Hp}{b:Addr}{o:Obj}(e:h.get? b=some o)(n:H b=none):(tY h H).get? b=some o :=
 PySem.W.hideAll_get _ e λhm=>by
  have q:(H b).isSome=true:=(List.mem_filter.mp hm).2
  rw[n] at q;simp at q
theorem FR {h:Heap}{H:Hp}{b:Addr}{o:Obj}(e:(tY h H).get? b=some o):h.get? b=some o/\H b=none:=by
 have e':h.get? b=some o:=PySem.W.of_hideAll (ME h H) e
 refine⟨e',?_⟩
 cases q:H b with
 |none=>rfl
 |some x =>
  have hm:b∈ME h H:=List.mem_filter.mpr ⟨List.mem_range.mpr (Heap.lt_size e'),by simp[q]⟩
  have z:(tY h H).get? b=none:=PySem.W.hideAll_none (ME h H) hm
  rw[z] at e;cases e
structure Mod (K:PySem.W.Frag) (mg:Str->Option Value) (base:Heap):Prop where
 L0:K.In base
 glob:base.Ns mainGlobals mg
 blt:∃mb,base.Ns builtinsNs mb/\∀x:Str,x≠"__name__"->mb x=bootBuiltins x
 nolimit:base.NoLimit
structure Cx where
 prog:Program
 w:World
 K:PySem.W.Frag
 mg:Str->Option Value
 base:Heap
 A:Around
 N:List Str
 s₀:Shared
 H₀:Hp
 env:Env
 outer:List Env
 stack:List Env
 ex:List Addr
 fn:Str->Bool
 calm:Bool
 pn:List (Addr × Obj)
 xe:Value->Shared->Prop
def B9 (l:List Env):List Addr:=l.filterMap (·.frame)
abbrev Cx.fs (X:Cx):List Addr:=B9 X.outer
def uq (sc:Scope)(x:Str):Prop:=sc.names.lookup x=some .local\/sc.names.lookup x=some .cell\/sc.names.lookup x=some .free
def Loc (sc:Scope)(x:Str):Prop:=sc.names.lookup x=some .local\/sc.names.lookup x=some .cell
def Look (env:Env)(h:Heap)(m:Str->Option Value)(x:Str)(u:Value):Prop :=
 (env.kindOf x=some .local/\m x=some u)\/((env.kindOf x=some .cell\/env.kindOf x=some .free)/\∃c,env.cells.lookup x=some c/\h.IsCell c (some u))
structure Cx.Ok (X:Cx):Prop where
 mod:Mod X.K X.mg X.base
 kind:X.env.scope.kind=.function
 glob:X.env.globals=mainGlobals
 blt:X.env.builtins=builtinsNs
 above:X.s₀.heap.objs.size<=X.env.locals
 inj:∀x y c,X.env.cells.lookup x=some c->X.env.cells.lookup y=some c->x=y
 has:∀x,(X.env.kindOf x=some .cell\/X.env.kindOf x=some .free)->∃c,X.env.cells.lookup x=some c
 J_:∀x c,X.fn x=true->X.env.cells.lookup x=some c->X.s₀.heap.objs.size<=c
 hd:X.calm=true->X.A.handled=none
 frames:X.A.frames=some X.stack
 MB:X.stack=X.outer\/(X.stack=X.env::X.outer/\X.env.frame=some X.env.locals)
 Nf:∀b∈X.ex,b≠X.env.locals/\∀x c,X.env.cells.lookup x=some c->c≠b
 bs:∀b o,X.base.get? b=some o->X.s₀.heap.get? b=some o/\X.H₀ b=none
 Gg:X.base.objs.size<=X.s₀.heap.objs.size
 Cw:∀b o,X.base.get? b=some o->b∉X.ex
 B7:∀b∈X.ex,b∉X.fs
 n_:X.s₀.heap.FunFrames X.base X.outer
 Gs:∀b∈X.fs,X.H₀ b=none
structure Inv (X:Cx) (pins:List (Addr × Obj)) (σ:List (Option V)) (H:Hp) (s:Shared):Prop where
 ok:X.Ok
 os:s.os=X.s₀.os
 bare:AllBare s.gens
 base:Un X.fs X.ex X.H₀ H X.s₀.heap s.heap
 loc:∃m,s.heap.Ns X.env.locals m/\∀(i:Nat) (x:Str) (v:V),X.N[i]?=some x->σ[i]?=some (some v)->uq X.env.scope x->∃u,RelV v u/\Look X.env s.heap m x u
 cell:∀x c,X.env.cells.lookup x=some c->∃v,s.heap.IsCell c v
 free:H X.env.locals=none
 fA:∀x c,X.env.cells.lookup x=some c->H c=none
 pin:∀p∈X.pn++pins,s.heap.get? p.1=some p.2/\H p.1=none/\p.1≠X.env.locals/\p.1∉X.fs/\∀v,p.2.data≠.cell v
 bW:ki X.prog X.w H s.heap
 len:σ.length=X.N.length
section
variable {X:Cx}{pins:List (Addr × Obj)}{σ:List (Option V)}{H H':Hp}{s:Shared}{h':Heap}
theorem Cx.Ok.Mx (ok:X.Ok){b:Addr}{o:Obj}(e:X.base.get? b=some o):b∉X.fs:=λhb=>by
 have:=(ok.n_.mem hb).1
 rw[e] at this;cases this
theorem Inv.bs (I:Inv X pins σ H s):∀b o,X.base.get? b=some o->s.heap.get? b=some o/\H b=none:=λb o e =>
 ⟨I.base.keep b o (I.ok.bs b o e).1 (I.ok.bs b o e).2 (I.ok.Mx e) (I.ok.Cw b o e),I.base.free b o (I.ok.bs b o e).1 (I.ok.bs b o e).2 (I.ok.Cw b o e)⟩
theorem Inv.bk (I:Inv X pins σ H s):∀b o,X.base.get? b=some o->s.heap.get? b=some o:=λb o e=>(I.bs b o e).1
theorem Inv.mod (I:Inv X pins σ H s):Mod X.K X.mg X.base:=I.ok.mod
theorem Inv.uu (I:Inv X pins σ H s):X.K.In s.heap:=I.ok.mod.L0.keeps I.bk
theorem Inv.lt (I:Inv X pins σ H s):X.env.locals<s.heap.objs.size:=let ⟨_,hn,_⟩:=I.loc;hn.lt
theorem Inv.sz (I:Inv X pins σ H s):X.s₀.heap.objs.size<=s.heap.objs.size:=Nat.le_trans I.ok.above (Nat.le_of_lt I.lt)
theorem Inv.My (I:Inv X pins σ H s){a:Addr}(h:s.heap.objs.size<=a):a∉X.fs:=λhb=>by
 obtain⟨_,o,ho,_⟩:=I.ok.n_.mem hb
 exact absurd (Nat.lt_of_lt_of_le (Heap.lt_size ho) (Nat.le_trans I.sz h)) (Nat.lt_irrefl _)
theorem Inv.Hi (I:Inv X pins σ H s):∀x c,X.env.cells.lookup x=some c->c≠X.env.locals:=λx c e z=>by
 obtain⟨v,o,ho,hd⟩:=I.cell x c e
 obtain⟨m,⟨o',es,ep,ho',hd',_⟩,_⟩:=I.loc
 rw[z,ho'] at ho;cases ho;rw[hd'] at hd;cases hd
theorem Inv.n_ (I:Inv X pins σ H s):s.heap.FunFrames X.base X.outer:=by
 have all:∀(l:List Env),(∀b∈B9 l,b∈X.fs)->X.s₀.heap.FunFrames X.base l->s.heap.FunFrames X.base l:=by
  intro l
  induction l with
  |nil=>intro _ _;trivial
  |cons env r ih =>
   intro hs hl
   obtain⟨hk,⟨L,o,hf,hn,ho,hd⟩,hr⟩:=hl
   have hL:L∈X.fs:=hs L (by unfold B9;rw[List.filterMap_cons,hf];exact List.mem_cons_self)
   obtain⟨sl,e⟩:=I.base.slot L o ho (I.ok.Gs L hL) hL λz=>I.ok.B7 L z hL
   exact⟨hk,⟨L,_,hf,hn,e,hd⟩,ih (λb hb=>hs b (by unfold B9;rw[List.filterMap_cons,hf];exact List.mem_cons_of_mem _ hb)) hr⟩
 exact all X.outer (λ_ hb=>hb) I.ok.n_
theorem Inv.stack (I:Inv X pins σ H s):s.heap.FunFrames X.base X.stack:=by
 rcases I.ok.MB with e|⟨e,hf⟩
 ·rw[e];exact I.n_
 ·rw[e]
  obtain⟨m,hn,_⟩:=I.loc
  refine .cons (by rw[I.ok.kind];decide) hf hn ?_ I.n_
  exact Heap.get?_none_of_le (Nat.le_trans I.ok.Gg I.ok.above)
theorem Inv.uf (I:Inv X pins σ H s):∀b∈B9 X.stack,b∈X.env.locals::X.fs:=λb hb=>by
 rcases I.ok.MB with e|⟨e,hf⟩
 ·rw[e] at hb;exact List.mem_cons_of_mem _ hb
 ·rw[e] at hb
  unfold B9 at hb
  rw[List.filterMap_cons,hf] at hb
  exact hb
theorem Inv.zu (I:Inv X pins σ H s):∀b∈B9 X.stack,H b=none:=λb hb=>by
 rcases List.mem_cons.mp (I.uf b hb) with e|hb
 ·rw[e];exact I.free
 ·obtain⟨_,o,ho,_⟩:=I.ok.n_.mem hb
  exact I.base.free b o ho (I.ok.Gs b hb) λz=>I.ok.B7 b z hb
theorem Inv.step {g':Array GenState}{t':Nat}{d':Drawn}{ch:List Addr}(I:Inv X pins σ H s)
  (hch:∀b∈ch,(b∈X.ex\/X.s₀.heap.objs.size<=b)/\b≠X.env.locals/\(∀x c,X.env.cells.lookup x=some c->c≠b)/\∀p∈X.pn++pins,p.1≠b)
  (keep:∀b o,b≠X.env.locals->b∉X.fs->b∉ch->s.heap.get? b=some o->H b=none->h'.get? b=some o)
  (slot:∀b o,b≠X.env.locals->b∈X.fs->b∉ch->s.heap.get? b=some o->H b=none->∃sl,h'.get? b=some { o with slots:=sl })(free:∀b o,b∉ch->s.heap.get? b=some o->H b=none->H' b=none)
  (there:∀b o,b∉ch->s.heap.get? b=some o->∃o',h'.get? b=some o')
  (q9:∀b xs,H b=some (.tup xs)->H' b=some (.tup xs))(n8:∀b o u,H b=some (.fB o u)->H' b=some (.fB o u))(qy:∀b ps,H b=some (.GK ps)->∃more,H' b=some (.GK (ps++more)))
  (ns:∀m,s.heap.Ns X.env.locals m->h'.Ns X.env.locals m)(bW:ki X.prog X.w H' h')(hg:AllBare g') :
  Inv X pins σ H' { s with heap:=h',gens:=g',drawn:=d',toks:=t' }:=by
 have neL:∀b o,X.s₀.heap.get? b=some o->b≠X.env.locals:=λb o e=>Nat.ne_of_lt (Nat.lt_of_lt_of_le (Heap.lt_size e) I.ok.above)
 have neC:∀b o,X.s₀.heap.get? b=some o->b∉X.ex->b∉ch:=λb o e hx hb=>by
  rcases(hch b hb).1 with z|z
  ·exact hx z
  ·exact absurd (Nat.lt_of_lt_of_le (Heap.lt_size e) z) (Nat.lt_irrefl _)
 have cellK:∀x c,X.env.cells.lookup x=some c->∀v,s.heap.IsCell c v->h'.IsCell c v:=λx c e v ⟨o,ho,hd⟩=>by
  have nch:c∉ch:=λz=>(hch c z).2.2.1 x c e rfl
  by_cases hc:c∈X.fs
  ·obtain⟨sl,q⟩:=slot c o (I.Hi x c e) hc nch ho (I.fA x c e)
   exact⟨_,q,hd⟩
  ·exact⟨o,keep c o (I.Hi x c e) hc nch ho (I.fA x c e),hd⟩
 refine⟨I.ok,I.os,hg,⟨λb o e n hb hx=>?_,λb o e n hb hx=>?_,λb o e n hx=>?_,λb o e hx=>?_,λb xs e=>q9 b xs (I.base.q9 b xs e),λb o xs e=>n8 b o xs (I.base.n8 b o xs e),λb ps e=>?_⟩,?_,λx c e=>?_,?_,λx c e=>?_,λp hp=>?_,bW,I.len⟩
 ·exact keep b o (neL b o e) hb (neC b o e hx) (I.base.keep b o e n hb hx) (I.base.free b o e n hx)
 ·obtain⟨sl,e1⟩:=I.base.slot b o e n hb hx
  obtain⟨sl',e2⟩:=slot b _ (neL b o e) hb (neC b o e hx) e1 (I.base.free b o e n hx)
  exact⟨sl',e2⟩
 ·obtain⟨o',e1⟩:=I.base.there b o e hx
  exact free b o' (neC b o e hx) e1 (I.base.free b o e n hx)
 ·obtain⟨o',e1⟩:=I.base.there b o e hx
  exact there b o' (neC b o e hx) e1
 ·obtain⟨m1,e1⟩:=I.base.qy b ps e
  obtain⟨m2,e2⟩:=qy b _ e1
  exact⟨m1++m2,by rw[e2,Array.append_assoc]⟩
 ·obtain⟨m,hn,hl⟩:=I.loc
  refine⟨m,ns m hn,λi x v e1 e2 e3=>?_⟩
  obtain⟨u,r,l⟩:=hl i x v e1 e2 e3
  refine⟨u,r,?_⟩
  rcases l with l|⟨k,c,e,z⟩
  ·exact .inl l
  ·exact .inr ⟨k,c,e,cellK x c e _ z⟩
 ·obtain⟨v,z⟩:=I.cell x c e
  exact⟨v,cellK x c e v z⟩
 ·obtain⟨m,⟨o,_,_,ho,_⟩,_⟩:=I.loc
  exact free _ o (λz=>(hch _ z).2.1 rfl) ho I.free
 ·obtain⟨v,o,ho,hd⟩:=I.cell x c e
  exact free c o (λz=>(hch c z).2.2.1 x c e rfl) ho (I.fA x c e)
 ·obtain⟨e,n,ne,nf,d⟩:=I.pin p hp
  have nch:p.1∉ch:=λz=>(hch p.1 z).2.2.2 p hp rfl
  exact⟨keep p.1 p.2 ne nf nch e n,free p.1 p.2 nch e n,ne,nf,d⟩
theorem Inv.un {t':Nat}(I:Inv X pins σ H s)(u:Un X.fs [] H H' s.heap h')(bW:ki X.prog X.w H' h'):Inv X pins σ H' { s with heap:=h',toks:=t' }:=by
 obtain⟨m,⟨o,es,ep,ho,r⟩,_⟩:=id I.loc
 obtain⟨sl,hL⟩:=u.any ho I.free (by simp)
 exact I.step (g':=s.gens) (d':=s.drawn) (ch:=[]) (λ_ z=>nomatch z) (λb o _ hb _ e n=>u.keep b o e n hb (by simp)) (λb o _ hb _ e n=>u.slot b o e n hb (by simp)) (λb o _ e n=>u.free b o e n (by simp)) (λb o _ e=>u.there b o e (by simp)) u.q9 u.n8 u.qy (λm' hm=>by
  obtain⟨o',es',ep',ho',r'⟩:=hm
  rw[ho] at ho';cases ho'
  exact⟨_,es',ep',hL,r'⟩) bW I.bare
theorem Inv.call {g':Array GenState}{t':Nat}{d':Drawn}{ch:List Addr}(I:Inv X pins σ H s)(u:Un (B9 X.stack) ch H H' s.heap h')(bW:ki X.prog X.w H' h')(hg:AllBare g')
  (hch:∀b∈ch,(b∈X.ex\/X.s₀.heap.objs.size<=b)/\b≠X.env.locals/\(∀x c,X.env.cells.lookup x=some c->c≠b)/\∀p∈X.pn++pins,p.1≠b) :
  Inv X pins σ H' { s with heap:=h',gens:=g',drawn:=d',toks:=t' }:=by
 obtain⟨m,⟨o,es,ep,ho,r⟩,_⟩:=id I.loc
 obtain⟨sl,hL⟩:=u.any ho I.free λz=>(hch _ z).2.1 rfl
 exact I.step (ch:=ch) hch (λb o hL hb hc e n=>u.keep b o e n (λz=>(List.mem_cons.mp (I.uf b z)).elim hL hb) hc) (λb o _ _ hc e n=>u.any e n hc) (λb o hc e n=>u.free b o e n hc) (λb o hc e=>u.there b o e hc) u.q9 u.n8 u.qy (λm' hm=>by
  obtain⟨o',es',ep',ho',r'⟩:=hm
  rw[ho] at ho';cases ho'
  exact⟨_,es',ep',hL,r'⟩) bW hg
theorem Inv.turned {t':Nat}{it:Addr}(I:Inv X pins σ H s)(k:∀b o,b≠it->s.heap.get? b=some o->h'.get? b=some o)(hn:H it=none)(hL:it≠X.env.locals)
  (h1:it∈X.ex\/X.s₀.heap.objs.size<=it)(h2:∀x c,X.env.cells.lookup x=some c->c≠it)(h3:∀p∈X.pn++pins,p.1≠it):Inv X pins σ H { s with heap:=h',toks:=t' }:=by
 have nit:∀b u,H b=some u->b≠it:=λb u e z=>by rw[z,hn] at e;cases e
 refine I.step (g':=s.gens) (d':=s.drawn) (ch:=[it]) (λb hb=>?_) (λb o _ _ hc e _=>k b o (λz=>hc (by simp[z])) e) (λb o _ _ hc e _=>⟨o.slots,k b o (λz=>hc (by simp[z])) e⟩) (λ_ _ _ _ n=>n)
  (λb o hc e=>⟨o,k b o (λz=>hc (by simp[z])) e⟩) (λ_ _ e=>e) (λ_ _ _ e=>e) (λb ps e=>⟨#[],by rw[e];simp⟩) (λm hm=>?_) (λb u e=>?_) I.bare
 ·have e:b=it:=by simpa using hb
  subst e
  exact⟨h1,hL,h2,h3⟩
 ·obtain⟨o,es,ep,ho,r⟩:=hm
  exact⟨o,es,ep,k _ o (Ne.symm hL) ho,r⟩
 ·refine(I.bW b u e).om (λc v hc q=>k c v ?_ q) (λ_ q=>q) λ_ _ q=>q
  rcases hc with z|z
  ·rw[z];exact nit b u e
  ·exact nit c _ z
theorem Inv.tok (I:Inv X pins σ H s)(t:Nat):Inv X pins σ H { s with toks:=t }:=I.un (h':=s.heap) (t':=t) Un.refl I.bW
theorem Inv.kept {t':Nat}(I:Inv X pins σ H s)(k:∀b u,s.heap.get? b=some u->h'.get? b=some u):Inv X pins σ H { s with heap:=h',toks:=t' }:=I.un (Un.kept k) (I.bW.kept k)
theorem Inv.laid {a:Addr}{o:HO}{t':Nat}(I:Inv X pins σ H s)(k:∀b u,s.heap.get? b=some u->h'.get? b=some u)(hp:s.heap.objs.size<=a)(new:bJ X.prog X.w (upd H a o) h' a o) :
  Inv X pins σ (upd H a o) { s with heap:=h',toks:=t' }:=I.un (Un.laid k hp (I.bW.fresh hp)) (I.bW.laid k hp new)
theorem Inv.write {x e:Addr}{o:HO}{t':Nat}(I:Inv X pins σ H s)(mu:J3 (H x))(he:e=x\/H e=some (.own x))(k:∀b u,b≠e->s.heap.get? b=some u->h'.get? b=some u)(heo:∃u,h'.get? e=some u)
  (new:bJ X.prog X.w (upd H x o) h' x o):Inv X pins σ (upd H x o) { s with heap:=h',toks:=t' }:=I.un (Un.write mu he k heo) (I.bW.write mu he k heo new)
theorem Inv.weak {σ':List (Option V)}(I:Inv X pins σ H s)(hl:σ'.length=σ.length)(w:∀(i:Nat) v,σ'[i]?=some (some v)->σ[i]?=some (some v)):Inv X pins σ' H s :=
 ⟨I.ok,I.os,I.bare,I.base,let ⟨m,hn,hl'⟩:=I.loc;⟨m,hn,λi x v e1 e2 e3=>hl' i x v e1 (w i v e2) e3⟩,I.cell,I.free,I.fA,I.pin,I.bW,hl.trans I.len⟩
theorem Inv.uN {pins':List (Addr × Obj)}(I:Inv X pins σ H s)(h:∀p∈pins',s.heap.get? p.1=some p.2/\H p.1=none/\p.1≠X.env.locals/\p.1∉X.fs/\∀v,p.2.data≠.cell v):Inv X pins' σ H s :=
 ⟨I.ok,I.os,I.bare,I.base,I.loc,I.cell,I.free,I.fA,λp hp=>(List.mem_append.mp hp).elim (λz=>I.pin p (List.mem_append_left _ z)) (h p),I.bW,I.len⟩
theorem wK {N:List Str}(hN:N.Nodup){i j:Nat}{x:Str}(a:N[i]?=some x)(b:N[j]?=some x):i=j:=by
 obtain⟨h1,e1⟩:=List.getElem?_eq_some_iff.mp a
 obtain⟨h2,e2⟩:=List.getElem?_eq_some_iff.mp b
 exact(List.getElem_inj hN).mp (e1.trans e2.symm)
theorem A8 {M:Model}{A:Around}{E:Value->Shared->Prop}{i:Nat}{x:Str}{v:V}{u:Value}{Q:Unit->Shared->Prop}(I:Inv X pins σ H s)(hN:X.N.Nodup)(hi:X.N[i]?=some x)(hx:Loc X.env.scope x)(r:RelV v u)
  (h:∀s',Inv X pins (σ.set i (some v)) H s'->(∃a,Heap.SameBut a s.heap s'.heap/\(a=X.env.locals\/X.env.cells.lookup x=some a))->Q () s')(hf:X.fn x=true\/X.env.scope.names.lookup x=some .local:=by first|exact .inl rfl|exact .inr rfl|assumption):wpAny M A (storeName X.env x u) Q E s:=by
 obtain⟨m,hn,hl⟩:=id I.loc
 have hcls:(X.env.scope.kind == .class||(X.env.scope.kind == .module&&X.env.locals != X.env.globals))=false:=by rw[I.ok.kind];rfl
 have hiσ:i<σ.length:=by rw[I.len];exact(List.getElem?_eq_some_iff.mp hi).1
 have Hi:=I.Hi
 have tracked:∀{a:Addr} {h':Heap},(∃o,s.heap.get? a=some o/\H a=none)->Heap.SameBut a s.heap h'->ki X.prog X.w H h':=fun{a h'} ha hs b ob e=>by
  obtain⟨_,_,hfree⟩:=ha
  refine(I.bW b ob e).om (λc w' hc q=>(hs.2 c ?_).trans q) (λ_ q=>q) λ_ _ q=>q
  rintro rfl
  rcases hc with rfl|hc
  ·rw[hfree] at e;cases e
  ·rw[hfree] at hc;cases hc
 rcases hx with hk|hk
 ·refine wpAny_storeName_local hk hn (λh' hn' hs=>?_) hcls
  obtain⟨oL,_,_,hoL,_⟩:=id hn
  refine h _ ⟨I.ok,I.os,I.bare,⟨λb o e n hb hx=>?_,λb o e n hb hx=>?_,I.base.free,λb o e hx=>?_,I.base.q9,I.base.n8,I.base.qy⟩,⟨_,hn',λj y v' e1 e2 e3=>?_⟩,λy c e=>?_,I.free,I.fA,λp hp=>?_,tracked ⟨oL,hoL,I.free⟩ hs,by simpa using I.len⟩ ⟨_,hs,.inl rfl⟩
  ·exact(hs.2 b (Nat.ne_of_lt (Nat.lt_of_lt_of_le (Heap.lt_size e) I.ok.above))).trans (I.base.keep b o e n hb hx)
  ·obtain⟨sl,e1⟩:=I.base.slot b o e n hb hx
   exact⟨sl,(hs.2 b (Nat.ne_of_lt (Nat.lt_of_lt_of_le (Heap.lt_size e) I.ok.above))).trans e1⟩
  ·obtain⟨o',e1⟩:=I.base.there b o e hx
   exact⟨o',(hs.2 b (Nat.ne_of_lt (Nat.lt_of_lt_of_le (Heap.lt_size e) I.ok.above))).trans e1⟩
  ·by_cases hj:j=i
   ·subst hj
    rw[hi] at e1;cases e1
    rw[List.getElem?_set_self hiσ] at e2
    cases e2
    exact⟨u,r,.inl ⟨hk,by simp⟩⟩
   ·rw[List.getElem?_set_ne (Ne.symm hj)] at e2
    obtain⟨u',r',q⟩:=hl j y v' e1 e2 e3
    refine⟨u',r',?_⟩
    rcases q with⟨k,e⟩|⟨k,c,e,z⟩
    ·refine .inl ⟨k,?_⟩
     have:y≠x:=λe=>hj (wK hN e1 (e ▸ hi))
     simp[this,e]
    ·exact .inr ⟨k,c,e,z.sameBut hs (Hi y c e)⟩
  ·obtain⟨w',z⟩:=I.cell y c e
   exact⟨w',z.sameBut hs (Hi y c e)⟩
  ·obtain⟨e,n,ne,nf,d⟩:=I.pin p hp
   exact⟨(hs.2 p.1 ne).trans e,n,ne,nf,d⟩
 ·have hfn:X.fn x=true:=by
   rcases hf with z|z
   ·exact z
   ·rw[z] at hk;cases hk
  obtain⟨c,hc⟩:=I.ok.has x (.inl hk)
  obtain⟨w',z⟩:=I.cell x c hc
  refine wpAny_storeName_cell I.ok.kind hk hc z (λh' hc' hs=>?_)
  obtain⟨oc,hoc,hocd⟩:=id z
  refine h { s with heap:=h' } ⟨I.ok,I.os,I.bare,⟨λb o e n hb hx=>?_,λb o e n hb hx=>?_,I.base.free,λb o e hx=>?_,I.base.q9,I.base.n8,I.base.qy⟩,⟨m,hn.sameBut hs (Ne.symm (Hi x c hc)),λj y v' e1 e2 e3=>?_⟩,λy c' e=>?_,I.free,I.fA,λp hp=>?_,tracked ⟨oc,hoc,I.fA x c hc⟩ hs,by simpa using I.len⟩ ⟨c,hs,.inr hc⟩
  ·exact(hs.2 b (Nat.ne_of_lt (Nat.lt_of_lt_of_le (Heap.lt_size e) (I.ok.J_ x c hfn hc)))).trans (I.base.keep b o e n hb hx)
  ·obtain⟨sl,e1⟩:=I.base.slot b o e n hb hx
   exact⟨sl,(hs.2 b (Nat.ne_of_lt (Nat.lt_of_lt_of_le (Heap.lt_size e) (I.ok.J_ x c hfn hc)))).trans e1⟩
  ·obtain⟨o',e1⟩:=I.base.there b o e hx
   exact⟨o',(hs.2 b (Nat.ne_of_lt (Nat.lt_of_lt_of_le (Heap.lt_size e) (I.ok.J_ x c hfn hc)))).trans e1⟩
  ·by_cases hj:j=i
   ·subst hj
    rw[hi] at e1;cases e1
    rw[List.getElem?_set_self hiσ] at e2
    cases e2
    exact⟨u,r,.inr ⟨.inl hk,c,hc,hc'⟩⟩
   ·rw[List.getElem?_set_ne (Ne.symm hj)] at e2
    obtain⟨u',r',q⟩:=hl j y v' e1 e2 e3
    refine⟨u',r',?_⟩
    rcases q with q|⟨k,c',e,z'⟩
    ·exact .inl q
    ·refine .inr ⟨k,c',e,z'.sameBut hs ?_⟩
     rintro rfl
     exact hj (wK hN e1 (I.ok.inj _ _ _ e hc ▸ hi))
  ·by_cases hcc:c'=c
   ·subst hcc;exact⟨_,hc'⟩
   ·obtain⟨w2,z2⟩:=I.cell y c' e
    exact⟨w2,z2.sameBut hs hcc⟩
  ·obtain⟨e,n,ne,nf,d⟩:=I.pin p hp
   refine⟨(hs.2 p.1 ?_).trans e,n,ne,nf,d⟩
   intro q
   rw[q,hoc] at e
   have q':oc=p.2:=Option.some.inj e
   exact d w' (by rw[<- q'];exact hocd)
theorem wo {M:Model}{A:Around}{E:Value->Shared->Prop}{i:Nat}{x:Str}{v:V}{u:Value}{Q:Unit->Shared->Prop}(I:Inv X pins σ H s)(hN:X.N.Nodup)(hi:X.N[i]?=some x)(hx:Loc X.env.scope x)(r:RelV v u)
  (h:∀s',Inv X pins (σ.set i (some v)) H s'->Q () s')(hf:X.fn x=true\/X.env.scope.names.lookup x=some .local:=by first|exact .inl rfl|exact .inr rfl|assumption):wpAny M A (storeName X.env x u) Q E s :=
 A8 I hN hi hx r (λs' I' _=>h s' I') hf
theorem Inv.Bc {s':Shared}{ch:List Addr}(I:Inv X pins σ H s)(ho:s'.os=s.os)(u:Un (B9 X.stack) ch H H' s.heap s'.heap)(bW:ki X.prog X.w H' s'.heap)(hg:AllBare s'.gens)
  (hch:∀b∈ch,(b∈X.ex\/X.s₀.heap.objs.size<=b)/\b≠X.env.locals/\(∀x c,X.env.cells.lookup x=some c->c≠b)/\∀p∈X.pn++pins,p.1≠b):Inv X pins σ H' s':=by
 obtain⟨h',g',d',t',o'⟩:=s'
 have e:o'=s.os:=ho
 subst e
 exact I.call (g':=g') (t':=t') (d':=d') u bW hg hch
end
abbrev XK:=Value->Option Addr->Hp->Prop
abbrev St:=List (Option V)
abbrev VK:=V->Hp->Prop
abbrev TE:=St->Hp->VK->Prop
abbrev TT:=St->Hp->(Bool->Hp->Prop)->Prop
abbrev TA:=St->Hp->(List V->Hp->Prop)->Prop
structure Ends where
 nx:St->Hp->Prop
 rt:VK
 bk:St->Hp->Prop:=λ_ _=>False
 ct:St->Hp->Prop:=λ_ _=>False
abbrev TS:=Ends->St->Hp->Prop
def EP (X:Cx)(pins:List (Addr × Obj))(σ:St)(Q:VK)(u:Value)(s':Shared):Prop:=∃v H',Inv X pins σ H' s'/\RelV v u/\Q v H'
def TP (X:Cx)(pins:List (Addr × Obj))(σ:St)(Q:Bool->Hp->Prop)(b:Bool)(s':Shared):Prop:=∃H',Inv X pins σ H' s'/\Q b H'
def AP (X:Cx)(pins:List (Addr × Obj))(σ:St)(Q:List V->Hp->Prop)(us:List Value)(s':Shared):Prop:=∃vs H',Inv X pins σ H' s'/\Vals vs us/\Q vs H'
def SP (X:Cx)(pins:List (Addr × Obj))(D:Ends)(f:Flow)(s':Shared):Prop :=
 match f with
 |.next=>∃ σ' H',Inv X pins σ' H' s'/\D.nx σ' H'
 |.brk=>∃ σ' H',Inv X pins σ' H' s'/\D.bk σ' H'
 |.cont=>∃ σ' H',Inv X pins σ' H' s'/\D.ct σ' H'
 |.ret u=>∃v σ' H',Inv X pins σ' H' s'/\RelV v u/\D.rt v H'
def PE (X:Cx)(e:Expr)(t:TE):Prop :=
 ∀(pins:List (Addr × Obj)) (s:Shared) (σ:St) (H:Hp) (Q:VK),Inv X pins σ H s->t σ H Q->wpAny (model X.prog X.w) X.A (eval e X.env) (EP X pins σ Q) X.xe s
def PT (X:Cx)(e:Expr)(t:TT):Prop :=
 ∀(pins:List (Addr × Obj)) (s:Shared) (σ:St) (H:Hp) (Q:Bool->Hp->Prop),Inv X pins σ H s->t σ H Q->wpAny (model X.prog X.w) X.A (isTrue e X.env (eval e X.env)) (TP X pins σ Q) X.xe s
def PW (X:Cx)(e:Expr)(t:TT):Prop :=
 ∀(whole:Sem Value) (pins:List (Addr × Obj)) (s:Shared) (σ:St) (H:Hp) (Q:Bool->Hp->Prop),Inv X pins σ H s->t σ H Q->wpAny (model X.prog X.w) X.A (isTrue e X.env whole) (TP X pins σ Q) X.xe s
theorem PW.pt {X:Cx}{e:Expr}{t:TT}(h:PW X e t):PT X e t:=h _
def PA (X:Cx)(es:List Expr)(t:TA):Prop :=
 ∀(pos:Pos) (pins:List (Addr × Obj)) (s:Shared) (σ:St) (H:Hp) (Q:List V->Hp->Prop),Inv X pins σ H s->t σ H Q->wpAny (model X.prog X.w) X.A (spliced (backTo pos (starEach es X.env))) (AP X pins σ Q) X.xe s
def PS (X:Cx)(st:Stmt)(t:TS):Prop :=
 ∀(pins:List (Addr × Obj)) (s:Shared) (σ:St) (H:Hp) (D:Ends),Inv X pins σ H s->t D σ H->wpAny (model X.prog X.w) X.A (exec st X.env) (SP X pins D) X.xe s
def ly (X:Cx)(st:List Stmt)(t:TS):Prop :=
 ∀(pins:List (Addr × Obj)) (s:Shared) (σ:St) (H:Hp) (D:Ends),Inv X pins σ H s->t D σ H->wpAny (model X.prog X.w) X.A (execs st X.env) (SP X pins D) X.xe s
theorem b6 {α:Type}{t:Sem α}{Q Q':α->Shared->Prop}{M:Model}{A:Around}{E:Value->Shared->Prop}{s:Shared}(h:wpAny M A t Q E s)(hQ:∀a s,Q a s->Q' a s):wpAny M A t Q' E s:=wpAny_mono h hQ λ_ _ x=>x
section
variable {X:Cx}
def wq (i:Nat):TE:=λσ H Q=>∃v,σ[i]?=some (some v)/\Q v H
def tC (v:V):TE:=λ_ H Q=>Q v H
theorem eB {i:Nat}{x:Str}{pos:Pos}(hN:X.N[i]?=some x)(hv:uq X.env.scope x)(hd:(x == ("__debug__":Str))=false:=by decide)(hcd:(x == ("__classdict__":Str))=false:=by decide):PE X (.Name x pos) (wq i):=by
 intro pins s σ H Q I h
 obtain⟨v,e,h⟩:=h
 obtain⟨m,hn,hl⟩:=I.loc
 obtain⟨u,r,l⟩:=hl i x v hN e hv
 have fin:EP X pins σ Q u s:=⟨v,H,I,r,h⟩
 rcases l with⟨hk,hm⟩|⟨hk,c,hc,hcell⟩
 ·exact wpAny_Name (wpAny_loadName_local I.ok.kind hk hn hm fin) hd
 ·rcases hk with hk|hk
  ·exact wpAny_Name (wpAny_loadName_cell I.ok.kind hk hc hcell fin) hd
  ·exact wpAny_Name (wpAny_loadName_free I.ok.kind hk hc hcell fin hcd) hd
theorem JH {i j pos}:PE X (.Constant (.int i) j pos) (tC (.int i)):=λ_ _ _ H _ I h=>wpAny_Constant_int ⟨.int i,H,I.tok _,⟨_,rfl⟩,h⟩
theorem K6 {b j pos}:PE X (.Constant (.bool b) j pos) (tC (.bl b)):=λ_ _ _ H _ I h=>Constant_bool ⟨.bl b,H,I,rfl,h⟩
theorem JI {j pos}:PE X (.Constant .none j pos) (tC .ak):=λ_ _ _ H _ I h=>Constant_none ⟨.ak,H,I,rfl,h⟩
theorem JK {x j pos}:PE X (.Constant (.str x) j pos) (tC (.str x)):=λ_ _ _ H _ I h=>Calls.Constant_str ⟨.str x,H,I.tok _,⟨_,rfl⟩,h⟩
def Gl (X:Cx)(x:Str):Prop:=X.env.kindOf x=some .globalImplicit
theorem uF {E:Value->Shared->Prop}{pins:List (Addr × Obj)}{s:Shared}{σ:St}{H:Hp}{x:Str}{u:Value}{pos:Pos}{Q:Value->Shared->Prop}(I:Inv X pins σ H s)(hg:Gl X x)(hm:X.mg x=some u)(h:Q u s)
  (hd:(x == ("__debug__":Str))=false:=by decide):wpAny (model X.prog X.w) X.A (eval (.Name x pos) X.env) Q E s :=
 Calls.Name_function_global I.ok.kind hg (Calls.loadGlobal_global (by rw[I.ok.glob];exact I.mod.glob.keeps I.bk) hm h) hd
theorem oK {E:Value->Shared->Prop}{pins:List (Addr × Obj)}{s:Shared}{σ:St}{H:Hp}{x:Str}{u:Value}{pos:Pos}{Q:Value->Shared->Prop}(I:Inv X pins σ H s)(hg:Gl X x)(hm:X.mg x=none)(hv:bootBuiltins x=some u)(h:Q u s)
  (hn:x≠"__name__":=by decide)(hd:(x == ("__debug__":Str))=false:=by decide):wpAny (model X.prog X.w) X.A (eval (.Name x pos) X.env) Q E s:=by
 obtain⟨mb,h1,h2⟩:=I.mod.blt
 exact Calls.Name_function_global I.ok.kind hg (Calls.loadGlobal_builtin (by rw[I.ok.glob];exact I.mod.glob.keeps I.bk) hm (by rw[I.ok.blt];exact h1.keeps I.bk) ((h2 x hn).trans hv) h) hd
theorem zY {x:Str}{v:V}{u:Value}{pos:Pos}(hg:Gl X x)(hm:X.mg x=some u)(r:RelV v u)(hd:(x == ("__debug__":Str))=false:=by decide):PE X (.Name x pos) (tC v) :=
 λ_ _ _ H _ I h=>uF I hg hm ⟨v,H,I,r,h⟩ hd
theorem Fg {x:Str}{v:V}{u:Value}{pos:Pos}(hg:Gl X x)(hm:X.mg x=none)(hv:bootBuiltins x=some u)(r:RelV v u)(hn:x≠"__name__":=by decide)(hd:(x == ("__debug__":Str))=false:=by decide):PE X (.Name x pos) (tC v) :=
 λ_ _ _ H _ I h=>oK I hg hm hv ⟨v,H,I,r,h⟩ hn hd
variable {a b:Expr}{ta tb:TE}{pos:Pos}
def PC (X:Cx)(op:CmpOp)(a b:Expr)(t:TE):Prop :=
 ∀(pins:List (Addr × Obj)) (s:Shared) (σ:St) (H:Hp) (Q:VK),Inv X pins σ H s->t σ H Q ->
  wpAny (model X.prog X.w) X.A (eval a X.env) (λv s₁=>wpAny (model X.prog X.w) X.A (eval b X.env) (λu s₂=>wpAny (model X.prog X.w) X.A (compareOp op v u) (EP X pins σ Q) X.xe s₂) X.xe s₁) X.xe s
def tB (t:TE):TT:=λσ H Q=>t σ H λx H1=>∃c,x=.bl c/\Q c H1
theorem C8 {op:CmpOp}{t:TE}(h:PC X op a b t)(h1:behindInMarks op b=false:=by first|exact Cv _ (by decide) (by decide)|rfl):PE X (.Compare a [op] [b] pos) t:=λpins s σ H Q I hw=>wpAny_Compare1 (h pins s σ H Q I hw) h1
theorem JP {op:CmpOp}{t:TE}(h:PC X op a b t)(h1:behindInMarks op b=false:=by first|exact Cv _ (by decide) (by decide)|rfl):PT X (.Compare a [op] [b] pos) (tB t):=by
 intro pins s σ H Q I hw
 refine wpAny_isTrue_Compare1 (b6 (h pins s σ H _ I hw) λv s1 h1=>b6 h1 λu s2 h2=>b6 h2 λc s3 ⟨x,H1,I1,r1,q1⟩=>?_) h1
 obtain⟨d,rfl,q⟩:=q1
 cases r1
 exact wpAny_truthy_bool ⟨H1,I1,q⟩
variable {tA tB':TT}{rest:List Expr}
def M_ (t u:TT):TT:=λσ H Q=>t σ H λc H1=>if c=true then u σ H1 Q else Q false H1
def OH (t u:TT):TT:=λσ H Q=>t σ H λc H1=>if c=true then Q true H1 else u σ H1 Q
def ND (t:TT):TT:=λσ H Q=>t σ H λc H1=>Q (!c) H1
theorem Fy (ha:PT X a tA):PW X (.BoolOp .And [a] pos) tA:=by
 intro wh pins s σ H Q I h
 refine isTrue_and (b6 (ha pins s σ H Q I h) λc s1 e=>?_)
 cases c with
 |true=>exact isTrue_and_nil e
 |false=>exact e
theorem JS (ha:PT X a tA):PW X (.BoolOp .Or [a] pos) tA:=by
 intro wh pins s σ H Q I h
 refine isTrue_or (b6 (ha pins s σ H Q I h) λc s1 e=>?_)
 cases c with
 |false=>exact isTrue_or_nil e
 |true=>exact e
theorem JR (ha:PT X a tA)(hb:PW X (.BoolOp .And (b::rest) pos) tB'):PW X (.BoolOp .And (a::b::rest) pos) (M_ tA tB'):=by
 intro wh pins s σ H Q I h
 refine isTrue_and (b6 (ha pins s σ H _ I h) λc s1 ⟨H1,I1,q1⟩=>?_)
 cases c with
 |true=>exact hb wh pins s1 σ H1 Q I1 q1
 |false=>exact⟨H1,I1,q1⟩
theorem LB (ha:PT X a tA)(hb:PW X (.BoolOp .Or (b::rest) pos) tB'):PW X (.BoolOp .Or (a::b::rest) pos) (OH tA tB'):=by
 intro wh pins s σ H Q I h
 refine isTrue_or (b6 (ha pins s σ H _ I h) λc s1 ⟨H1,I1,q1⟩=>?_)
 cases c with
 |true=>exact⟨H1,I1,q1⟩
 |false=>exact hb wh pins s1 σ H1 Q I1 q1
theorem JQ (ha:PT X a tA):PT X (.UnaryOp .Not a pos) (ND tA):=by
 intro pins s σ H Q I h
 exact isTrue_not (ha pins s σ H (λc H1=>Q (!c) H1) I h)
def La (ta tb:TE):TE:=λσ H Q=>ta σ H λx H1=>∃c,x=.bl c/\if c=true then tb σ H1 Q else Q (.bl false) H1
def NF (ta tb:TE):TE:=λσ H Q=>ta σ H λx H1=>∃c,x=.bl c/\if c=true then Q (.bl true) H1 else tb σ H1 Q
theorem JJ {op}{t:TE}(h:PE X a t):PE X (.BoolOp op [a] pos) t:=λpins s σ H Q I hw=>BoolOp_one (h pins s σ H Q I hw)
theorem JF (ha:PE X a ta)(hb:PE X (.BoolOp .And (b::rest) pos) tb):PE X (.BoolOp .And (a::b::rest) pos) (La ta tb):=by
 intro pins s σ H Q I h
 refine BoolOp_and (b6 (ha pins s σ H _ I h) λv s1 ⟨x,H1,I1,r1,q1⟩=>?_)
 obtain⟨c,rfl,q1⟩:=q1
 cases r1
 refine wpAny_truthy_bool ?_
 cases c with
 |true=>exact hb pins s1 σ H1 Q I1 q1
 |false=>exact⟨.bl false,H1,I1,rfl,q1⟩
theorem K8 (ha:PE X a ta)(hb:PE X (.BoolOp .Or (b::rest) pos) tb):PE X (.BoolOp .Or (a::b::rest) pos) (NF ta tb):=by
 intro pins s σ H Q I h
 refine BoolOp_or (b6 (ha pins s σ H _ I h) λv s1 ⟨x,H1,I1,r1,q1⟩=>?_)
 obtain⟨c,rfl,q1⟩:=q1
 cases r1
 refine wpAny_truthy_bool ?_
 cases c with
 |false=>exact hb pins s1 σ H1 Q I1 q1
 |true=>exact⟨.bl true,H1,I1,rfl,q1⟩
def OG (t:TT)(ta tb:TE):TE:=λσ H Q=>t σ H λc H1=>if c=true then ta σ H1 Q else tb σ H1 Q
theorem wR {c:Expr}(hc:PT X c tA)(ha:PE X a ta)(hb:PE X b tb):PE X (.IfExp c a b pos) (OG tA ta tb):=by
 intro pins s σ H Q I h
 refine wpAny_IfExp (b6 (hc pins s σ H _ I h) λd s1 ⟨H1,I1,q1⟩=>?_)
 cases d with
 |true=>exact ha pins s1 σ H1 Q I1 q1
 |false=>exact hb pins s1 σ H1 Q I1 q1
end
def cu (K:PySem.W.Frag)(H:Hp)(a:Addr)(xs:List V):Prop :=
 Rd H a (.lst xs) \/
  ∃(o:Obj) (its:Array Value) (n:Nat),K.lookup a=some o/\o.cls=.type "list"/\o.dict=none/\o.data=.seq its n/\its.size<=sizeLine/\Vals xs its.toList
def iM (K:PySem.W.Frag)(H:Hp)(a:Addr)(xs:List V):Prop :=
 Rd H a (.tup xs) \/
  ∃(o:Obj) (its:Array Value) (n:Nat),K.lookup a=some o/\o.cls=.type "tuple"/\o.data=.seq its n/\its.size<=sizeLine/\Vals xs its.toList
def MS:Value->Option V
 |.none=>some .ak
 |.bool b=>some (.bl b)
 |.int i _=>some (.int i)
 |.str x _=>some (.str x)
 |.bytes b _=>some (.wz b)
 |.float b _=>some (.Ly b)
 |.ref a=>some (.ref a)
 |.type n=>some (.ty n)
 |_=>none
theorem RelV.abs {x:V}{u:Value}(r:RelV x u):MS u=some x:=by
 cases x with
 |ak=>cases r;rfl
 |bl _=>cases r;rfl
 |int _=>obtain⟨t,rfl⟩:=r;rfl
 |str _=>obtain⟨t,rfl⟩:=r;rfl
 |wz _=>obtain⟨t,rfl⟩:=r;rfl
 |Ly _=>obtain⟨t,rfl⟩:=r;rfl
 |ref _=>cases r;rfl
 |ty _=>cases r;rfl
theorem RelV.inj {x y:V}{u:Value}(r:RelV x u)(q:RelV y u):x=y:=Option.some.inj (r.abs.symm.trans q.abs)
theorem Vals.inj:∀{xs ys:List V} {us:List Value},Vals xs us->Vals ys us->xs=ys
 |_,_,_,.nil,.nil=>rfl
 |_,_,_,.cons r t,.cons r' t'=>by rw[r.inj r',Vals.inj t t']
section
variable {X:Cx}{pins:List (Addr × Obj)}{σ:St}{H:Hp}{s:Shared}{a:Addr}{xs ys:List V}
theorem cu.of {K:PySem.W.Frag}(h:H a=some (.lst xs)):cu K H a xs:=.inl (.inl h)
theorem iM.of {K:PySem.W.Frag}(h:H a=some (.tup xs)):iM K H a xs:=.inl (.inl h)
theorem Inv.list (I:Inv X pins σ H s)(h:cu X.K H a xs):∃its:List Value,Vals xs its/\PlainL s.heap a its.toArray/\xs.length<=sizeLine:=by
 rcases h with h|⟨o,its,n,hk,hc,hd,hs,hz,r⟩
 ·obtain⟨z,its,n,r,e⟩:=h.ok I.bW
  exact⟨its,r,⟨_,n,e,rfl,rfl,rfl⟩,z⟩
 ·refine⟨its.toList,r,⟨o,n,I.uu a o hk,hc,hd,by simpa using hs⟩,?_⟩
  have e:=r.length
  simp only[Array.length_toList] at e
  omega
theorem Inv.tuple (I:Inv X pins σ H s)(h:iM X.K H a xs):∃its:List Value,Vals xs its/\IsTup s.heap a its.toArray/\xs.length<=sizeLine:=by
 rcases h with h|⟨o,its,n,hk,hc,hs,hz,r⟩
 ·obtain⟨z,its,r,p⟩:=h.ok I.bW
  exact⟨its,r,p,z⟩
 ·refine⟨its.toList,r,⟨o,I.uu a o hk,hc,n,by simpa using hs⟩,?_⟩
  have e:=r.length
  simp only[Array.length_toList] at e
  omega
theorem Inv.vy (I:Inv X pins σ H s)(h:cu X.K H a xs)(h':cu X.K H a ys):xs=ys:=by
 obtain⟨its,r,⟨o,n,e,_,_,d⟩,_⟩:=I.list h
 obtain⟨its',r',⟨o',n',e',_,_,d'⟩,_⟩:=I.list h'
 rw[e] at e';cases e'
 rw[d] at d'
 injection d' with d1 _
 have:its=its':=by simpa using congrArg Array.toList d1
 subst this
 exact r.inj r'
theorem Inv.BD (I:Inv X pins σ H s)(h:iM X.K H a xs)(h':iM X.K H a ys):xs=ys:=by
 obtain⟨its,r,⟨o,e,_,n,d⟩,_⟩:=I.tuple h
 obtain⟨its',r',⟨o',e',_,n',d'⟩,_⟩:=I.tuple h'
 rw[e] at e';cases e'
 rw[d] at d'
 injection d' with d1 _
 have:its=its':=by simpa using congrArg Array.toList d1
 subst this
 exact r.inj r'
end
abbrev Cx.rO (X:Cx)(E:Value->Shared->Prop):Cx:={ X with xe:=E }
abbrev Cx.Im (X:Cx):Cx:=X.rO λ_ _=>False
theorem Cx.Ok.rO {X:Cx}(ok:X.Ok)(E:Value->Shared->Prop):(X.rO E).Ok :=
 ⟨ok.mod,ok.kind,ok.glob,ok.blt,ok.above,ok.inj,ok.has,ok.J_,ok.hd,ok.frames,ok.MB,ok.Nf,ok.bs,ok.Gg,ok.Cw,ok.B7,ok.n_,ok.Gs⟩
theorem Cx.Ok.kc {X:Cx}{E:Value->Shared->Prop}(ok:(X.rO E).Ok):X.Ok :=
 ⟨ok.mod,ok.kind,ok.glob,ok.blt,ok.above,ok.inj,ok.has,ok.J_,ok.hd,ok.frames,ok.MB,ok.Nf,ok.bs,ok.Gg,ok.Cw,ok.B7,ok.n_,ok.Gs⟩
section
variable {X:Cx}{pins:List (Addr × Obj)}{σ:St}{H:Hp}{s:Shared}{E:Value->Shared->Prop}
theorem Inv.rO (I:Inv X pins σ H s)(E:Value->Shared->Prop):Inv (X.rO E) pins σ H s:=⟨I.ok.rO E,I.os,I.bare,I.base,I.loc,I.cell,I.free,I.fA,I.pin,I.bW,I.len⟩
theorem Inv.kc (I:Inv (X.rO E) pins σ H s):Inv X pins σ H s:=⟨I.ok.kc,I.os,I.bare,I.base,I.loc,I.cell,I.free,I.fA,I.pin,I.bW,I.len⟩
theorem SP.kc {D:Ends}{f:Flow}{s':Shared}(h:SP (X.rO E) pins D f s'):SP X pins D f s':=by
 cases f with
 |next=>obtain⟨σ',H',I,q⟩:=h;exact⟨σ',H',I.kc,q⟩
 |brk=>obtain⟨σ',H',I,q⟩:=h;exact⟨σ',H',I.kc,q⟩
 |cont=>obtain⟨σ',H',I,q⟩:=h;exact⟨σ',H',I.kc,q⟩
 |ret u=>obtain⟨v,σ',H',I,r,q⟩:=h;exact⟨v,σ',H',I.kc,r,q⟩
theorem ly.Im {st:List Stmt}{t:TS}(h:ly X.Im st t):ly X st t:=λpins s σ H D I hw =>
 wpAny_mono (h pins s σ H D (I.rO _) hw) (λ_ _ q=>q.kc) λ_ _ z=>False.elim z
end
section
variable {X:Cx}{st:Stmt}{rest:List Stmt}{t u:TS}{e:Expr}{te:TE}{pos:Pos}
def Lj:TS:=λD σ H=>D.nx σ H
def NH (t u:TS):TS:=λD σ H=>t { D with nx:=u D } σ H
theorem uQ:ly X [] Lj:=λ_ _ σ H _ I h=>wpAny_execs_nil ⟨σ,H,I,h⟩
theorem qe (h1:PS X st t)(h2:ly X rest u):ly X (st::rest) (NH t u):=by
 intro pins s σ H D I h
 refine wpAny_execs_cons (b6 (h1 pins s σ H { D with nx:=u D } I h) λf s1 q=>?_)
 cases f with
 |next =>
  obtain⟨σ',H',I',q⟩:=q
  exact h2 pins s1 σ' H' D I' q
 |ret v=>exact q
 |brk=>exact q
 |cont=>exact q
theorem zc (h1:PS X st t):ly X [st] t:=by
 intro pins s σ H D I h
 refine wpAny_execs_cons (b6 (h1 pins s σ H D I h) λf s1 q=>?_)
 cases f with
 |next=>exact wpAny_execs_nil q
 |ret v=>exact q
 |brk=>exact q
 |cont=>exact q
theorem Inv.quiet {pins:List (Addr × Obj)}{σ:St}{H:Hp}{s:Shared}(I:Inv X pins σ H s):interactive X.env=false:=by simp[interactive,I.ok.kind]
def Lf (te:TE):TS:=λD σ H=>te σ H λ_ H1=>D.nx σ H1
theorem ie (he:PE X e te)(hs:swapsWith e none pos.line X.env=pure false:=by rfl):PS X (.Expr e pos) (Lf te):=by
 intro pins s σ H D I h
 exact wpAny_Expr_any (b6 (he pins s σ H _ I h) λv s1 ⟨x,H1,I1,r1,q1⟩=>⟨σ,H1,I1,q1⟩) I.quiet hs
def NG (te:TE):TS:=λD σ H=>te σ H D.rt
theorem yJ (he:PE X e te):PS X (.Return (some e) pos) (NG te):=by
 intro pins s σ H D I h
 exact wpAny_Return_some (b6 (he pins s σ H _ I h) λv s1 ⟨x,H1,I1,r1,q1⟩=>⟨x,σ,H1,I1,r1,q1⟩)
def NB (c:TT)(t u:TS):TS:=λD σ H=>c σ H λb H1=>if b=true then t D σ H1 else u D σ H1
theorem G8 {c:Expr}{a b:List Stmt}{tc:TT}(hc:PT X c tc)(ha:ly X a t)(hb:ly X b u):PS X (.If c a b pos) (NB tc t u):=by
 intro pins s σ H D I h
 refine wpAny_If (b6 (hc pins s σ H _ I h) λd s1 ⟨H1,I1,q1⟩=>?_)
 cases d with
 |true=>exact ha pins s1 σ H1 D I1 q1
 |false=>exact hb pins s1 σ H1 D I1 q1
def Ji:TS:=λ_ _ _=>False
theorem DI:PS X st Ji:=λ_ _ _ _ _ _ h=>h.elim
end
abbrev TG:=V->St->Hp->(St->Hp->Prop)->Prop
abbrev Gd:=List V->St->Hp->(St->Hp->Prop)->Prop
def PG (X:Cx)(target:Expr)(t:TG):Prop :=
 ∀(pins:List (Addr × Obj)) (s:Shared) (σ:St) (H:Hp) (v:V) (u:Value) (Q:St->Hp->Prop),Inv X pins σ H s->RelV v u->t v σ H Q ->
  wpAny (model X.prog X.w) X.A (assign target X.env u) (λ_ s'=>∃ σ' H',Inv X pins σ' H' s'/\Q σ' H') X.xe s
def D7 (X:Cx)(ts:List Expr)(t:Gd):Prop :=
 ∀(pins:List (Addr × Obj)) (s:Shared) (σ:St) (H:Hp) (vs:List V) (us:List Value) (Q:St->Hp->Prop),Inv X pins σ H s->Vals vs us->t vs σ H Q ->
  wpAny (model X.prog X.w) X.A (assignInOrder ((assignEach ts X.env).map (·.2)) us) (λ_ s'=>∃ σ' H',Inv X pins σ' H' s'/\Q σ' H') X.xe s
abbrev HW:=V->V->V->Hp->(Hp->Prop)->Prop
def J5 (X:Cx)(t:HW):Prop :=
 ∀(pins:List (Addr × Obj)) (s:Shared) (σ:St) (H:Hp) (o i v:V) (ov iv u:Value) (Q:Hp->Prop),Inv X pins σ H s->RelV o ov->RelV i iv->RelV v u->t o i v H Q ->
  wpAny (model X.prog X.w) X.A (setItem ov iv u) (λ_ s'=>∃H',Inv X pins σ H' s'/\Q H') X.xe s
section
variable {X:Cx}{pos:Pos}
def dD (i:Nat):TG:=λv σ H Q=>Q (σ.set i (some v)) H
theorem bF {i:Nat}{x:Str}(hN:X.N.Nodup)(hi:X.N[i]?=some x)(hx:Loc X.env.scope x)(hf:X.fn x=true\/X.env.scope.names.lookup x=some .local:=by first|exact .inl rfl|exact .inr rfl|assumption):PG X (.Name x pos) (dD i):=by
 intro pins s σ H v u Q I r h
 exact wpAny_assign_Name (wo I hN hi hx r (λs' I'=>⟨_,H,I',h⟩) hf)
def IA:Gd:=λvs σ H Q=>vs=[]/\Q σ H
def mm (t:TG)(u:Gd):Gd:=λvs σ H Q=>∃v r,vs=v::r/\t v σ H λσ' H'=>u r σ' H' Q
theorem za:D7 X [] IA:=by
 intro pins s σ H vs us Q I r h
 obtain⟨e,h⟩:=h
 subst e
 cases r
 exact assignInOrder_nil ⟨σ,H,I,h⟩
theorem jZ {e:Expr}{es:List Expr}{t:TG}{u:Gd}(h1:PG X e t)(h2:D7 X es u)
  (hs:(assignEach (e::es) X.env).map (·.2)=assign e X.env::(assignEach es X.env).map (·.2):=by rfl):D7 X (e::es) (mm t u):=by
 intro pins s σ H vs us Q I r h
 obtain⟨v,vr,e1,h⟩:=h
 subst e1
 cases r with
 |cons r rr =>
  rw[hs]
  refine assignInOrder_cons (b6 (h1 pins s σ H _ _ _ I r h) λ_ s1 ⟨σ1,H1,I1,q1⟩=>?_)
  exact h2 pins s1 σ1 H1 _ _ Q I1 rr q1
def IB (K:PySem.W.Frag)(n:Nat)(t:Gd):TG:=λv σ H Q=>∃a xs,v=.ref a/\iM K H a xs/\xs.length=n/\t xs σ H Q
theorem DD {es:List Expr}{k:Nat}{t:Gd}{n:Nat}(hc:X.calm=true)(h:D7 X es t)
  (hn:(assignEach es X.env).length=n:=by rfl)(hst:(assignEach es X.env).findIdx? (·.1)=none:=by rfl):PG X (.Tuple es k pos) (IB X.K n t):=by
 intro pins s σ H v u Q I r hw
 obtain⟨a,xs,e1,hq,hl,hw⟩:=hw
 subst e1
 cases r
 obtain⟨its,rv,ht,hz⟩:=I.tuple hq
 refine assign_Tuple_tuple (I.ok.hd hc) ht (by simp[hn,<- hl,rv.length]) hst λh' hx=>?_
 have I1:Inv X pins σ H { s with heap:=h' }:=I.kept (t':=s.toks) λb o e=>hx b o (Nat.ne_of_lt (Heap.lt_size e)) e
 exact h pins _ σ H xs _ Q I1 (by simpa using rv) hw
def Me (to ti:TE)(t:HW):TG:=λv σ H Q=>to σ H λo H1=>ti σ H1 λi H2=>t o i v H2 λH3=>Q σ H3
theorem DB {o i:Expr}{to ti:TE}{t:HW}(ho:PE X o to)(hi:PE X i ti)(hs:J5 X t)
  (ha:∀v,assign (.Subscript o i pos) X.env v=(do
   let ov <- holding [v] (eval o X.env)
   let iv <- holding [v,ov] (eval i X.env)
   standAt pos
   holding [v,ov,iv] (setItem ov iv v)
   release [v,ov,iv] []):=by intro _;rfl):PG X (.Subscript o i pos) (Me to ti t):=by
 intro pins s σ H v u Q I r h
 rw[ha]
 refine wpAny_bind (wpAny_holding (b6 (ho pins s σ H _ I h) λov s1 ⟨x,H1,I1,r1,q1⟩=>?_))
 refine wpAny_bind (wpAny_holding (b6 (hi pins s1 σ H1 _ I1 q1) λiv s2 ⟨y,H2,I2,r2,q2⟩=>?_))
 refine wpAny_bind (wpAny_standAt (wpAny_bind (wpAny_holding (b6 (hs pins s2 σ H2 x y v ov iv u _ I2 r1 r2 r q2) λ_ s3 ⟨H3,I3,q3⟩=>?_))))
 exact wpAny_release ⟨σ,H3,I3,q3⟩
def Lb (te:TE)(g:TG):TS:=λD σ H=>te σ H λx H1=>g x σ H1 D.nx
theorem DG {tg e:Expr}{te:TE}{g:TG}(he:PE X e te)(hg:PG X tg g)(hs:swapsWithSole [tg] e pos.line X.env=pure false:=by rfl)(hw:swappedStores [tg] e X.env=pure none:=by rfl)
  (h1:(assignEach [tg] X.env).map (·.2)=[assign tg X.env]:=by rfl):PS X (.Assign [tg] e pos) (Lb te g):=by
 intro pins s σ H D I h
 refine wpAny_Assign_stores (b6 (he pins s σ H _ I h) λv s1 ⟨x,H1,I1,r1,q1⟩=>?_) hs hw
 rw[h1]
 exact b6 (hg pins s1 σ H1 x v _ I1 r1 q1) λ_ s2 q=>q
theorem uO {i:Nat}{x:Str}{e:Expr}{te:TE}{pos':Pos}(hN:X.N.Nodup)(hi:X.N[i]?=some x)(hx:Loc X.env.scope x)(he:PE X e te)(hs:swapsWith e (some (.Name x pos')) pos.line X.env=pure false:=by rfl)(hf:X.fn x=true\/X.env.scope.names.lookup x=some .local:=by first|exact .inl rfl|exact .inr rfl|assumption) :
  PS X (.Assign [.Name x pos'] e pos) (Lb te (dD i)):=by
 intro pins s σ H D I h
 refine wpAny_Assign_Name (b6 (he pins s σ H _ I h) λv s1 ⟨y,H1,I1,r1,q1⟩=>?_) hs
 exact wo I1 hN hi hx r1 (λs2 I2=>⟨_,H1,I2,q1⟩) hf
end
section
variable {X:Cx}{pos:Pos}
def Jk (c:TT)(tb:TS):TS:=λD σ H=>∃W:Nat->St->Hp->Prop,(∃m,W m σ H)/\∀m σ H,W m σ H ->
 c σ H λb H1=>if b=true then ∃N:St->Hp->Prop,(∀ σ' H',N σ' H'->∃m',m'<m/\W m' σ' H')/\tb { D with nx:=N,ct:=N,bk:=D.nx } σ H1 else D.nx σ H1
theorem DJ {c:Expr}{body:List Stmt}{tc:TT}{tb:TS}(hp:PassesOwn (model X.prog X.w) X.A X.env X.xe)(hc:PT X c tc)(hb:ly X body tb):PS X (.While c body [] pos) (Jk tc tb):=by
 intro pins s σ H D I h
 obtain⟨W,⟨m0,w0⟩,turn⟩:=h
 refine wpAny_While (codeAny_whileLoop (λn s'=>∃ σ' H',Inv X pins σ' H' s'/\W n σ' H') ?_ m0 ⟨σ,H,I,w0⟩)
 rintro n s1 ⟨σ1,H1,I1,w1⟩
 refine wpAny_passesOwn hp (b6 (hc pins s1 σ1 H1 _ I1 (turn n σ1 H1 w1)) λb s2 ⟨H2,I2,q2⟩=>?_)
 cases b with
 |true =>
  obtain⟨N,hN,q2⟩:=q2
  rw[if_pos rfl]
  refine wpAny_passesOwn hp (b6 (hb pins s2 σ1 H2 _ I2 q2) λf s3 q3=>?_)
  cases f with
  |next =>
   obtain⟨σ3,H3,I3,n3⟩:=q3
   obtain⟨m',hm,w3⟩:=hN σ3 H3 n3
   exact⟨m',hm,σ3,H3,I3,w3⟩
  |cont =>
   obtain⟨σ3,H3,I3,n3⟩:=q3
   obtain⟨m',hm,w3⟩:=hN σ3 H3 n3
   exact⟨m',hm,σ3,H3,I3,w3⟩
  |brk=>exact q3
  |ret v=>exact q3
 |false =>
  rw[if_neg Bool.false_ne_true]
  exact wpAny_execs_nil ⟨σ1,H2,I2,q2⟩
end
structure It where
 go:Nat->Hp->Prop
 BR:Nat->Hp->V->Hp->Prop
 stop:Nat->Hp->Prop
def jG (X:Cx)(pins:List (Addr × Obj))(H:Hp)(b:Addr):Prop :=
 H b=none/\b≠X.env.locals/\b∉X.fs/\(b∈X.ex\/X.s₀.heap.objs.size<=b)/\(∀x c,X.env.cells.lookup x=some c->c≠b)/\∀p∈X.pn++pins,p.1≠b
theorem Inv.B8 {X:Cx}{pins:List (Addr × Obj)}{σ:St}{H H':Hp}{s:Shared}{b:Addr}(I:Inv X pins σ H s)(hb:s.heap.objs.size<=b)(hn:H' b=none):jG X pins H' b:=by
 refine⟨hn,Nat.ne_of_gt (Nat.lt_of_lt_of_le I.lt hb),I.My hb,.inr (Nat.le_trans I.sz hb),λx c e z=>?_,λp hp z=>?_⟩
 ·obtain⟨v,q⟩:=I.cell x c e
  exact absurd (Nat.lt_of_lt_of_le q.lt (by rw[z];exact hb)) (Nat.lt_irrefl _)
 ·exact absurd (Nat.lt_of_lt_of_le (Heap.lt_size (I.pin p hp).1) (by rw[z];exact hb)) (Nat.lt_irrefl _)
structure Turn (P:Program) (w:World) (K:PySem.W.Frag) (tg:Expr) (J:It) (fp:List Addr) (it:Addr) (tn:Nat->Heap->Prop):Prop where
 mem:it∈fp
 obj:∀i h,tn i h->∀b∈fp,∃o,h.get? b=some o/\∀v,o.data≠.cell v
 keep:∀i h h',tn i h->(∀b∈fp,∀o,h.get? b=some o->h'.get? b=some o)->tn i h'
 item:∀(X:Cx),X.prog=P->X.w=w->X.K=K->X.calm=true->∀(i:Nat) (pins:List (Addr × Obj)) (s:Shared) (σ:St) (H:Hp) (E:Value->Shared->Prop),Inv X pins σ H s->(∀b∈fp,jG X pins H b)->tn i s.heap->J.go i H ->
  wpAny (model P w) X.A (pyNext (.ref it)) (λr s1=>∃u,r=some u /\
   wpAny (model P w) X.A (letOwnedTupleGo tg (.ref it) u) (λ_ s2=>∃x H',Inv X pins σ H' s2/\RelV x u/\J.BR i H x H'/\tn (i+1) s2.heap/\∀b∈fp,H' b=none) E s1) E s
 done:∀(X:Cx),X.prog=P->X.w=w->X.K=K->X.calm=true->∀(i:Nat) (pins:List (Addr × Obj)) (s:Shared) (σ:St) (H:Hp) (E:Value->Shared->Prop),Inv X pins σ H s->(∀b∈fp,jG X pins H b)->tn i s.heap->J.stop i H ->
  wpAny (model P w) X.A (pyNext (.ref it)) (λr s1=>r=none/\Inv X pins σ H s1) E s
 self:∀(A:Around) (i:Nat) (s:Shared) (Q:Value->Shared->Prop) (E:Value->Shared->Prop),tn i s.heap->Q (.ref it) s->wpAny (model P w) A (pyIter (.ref it)) Q E s
abbrev TI:=St->Hp->(It->Hp->Prop)->Prop
def Na (X:Cx)(pins:List (Addr × Obj))(σ:St)(tg:Expr)(R:It->Hp->Prop)(itv:Value)(s2:Shared):Prop :=
 ∃(it:Addr) (fp:List Addr) (tn:Nat->Heap->Prop) (J:It) (H':Hp),itv=.ref it/\Inv X pins σ H' s2/\Turn X.prog X.w X.K tg J fp it tn/\tn 0 s2.heap/\(∀b∈fp,jG X pins H' b)/\R J H'
def PI (X:Cx)(tg iter:Expr)(wi:TI):Prop :=
 ∀(pins:List (Addr × Obj)) (s:Shared) (σ:St) (H:Hp) (R:It->Hp->Prop),Inv X pins σ H s->wi σ H R ->
  wpAny (model X.prog X.w) X.A (eval iter X.env) (λv s1=>wpAny (model X.prog X.w) X.A (pyIter v) (Na X pins σ tg R) X.xe s1) X.xe s
theorem rY {M:Model}{A:Around}{E:Value->Shared->Prop}{s:Shared}{tg:Expr}{it:Addr}{u:Value}{o:Obj}{n:String}{vs:Array Value}{Q:Unit->Shared->Prop}(ho:s.heap.get? it=some o)(hc:o.cls=.type n)(hd:o.data=.fields vs)
    (hn:["enumerate","zip","dict_itemiterator","dict_reverseitemiterator","odict_iterator","itertools.zip_longest","itertools.pairwise"].contains n=false)(hQ:Q () s):wpAny M A (letOwnedTupleGo tg (.ref it) u) Q E s:=by
  unfold letOwnedTupleGo
  cases tg<;>first
    |exact wpAny_pure hQ
    | (cases u<;>first
        |exact wpAny_pure hQ
        | (refine wpAny_bind (wpAny_load ho ?_)
           rw[hc,hd]
           show wpAny M A (if(["enumerate","zip","dict_itemiterator","dict_reverseitemiterator","odict_iterator","itertools.zip_longest","itertools.pairwise"].contains n&&vs[0]? == some (rawInt _))=true then _ else _) Q E s
           rw[if_neg (by intro h;rw[hn,Bool.false_and] at h;cases h)]
           exact wpAny_pure hQ))
def NY (K:PySem.W.Frag)(a:Addr):It :=
 ⟨λi H=>∃xs x,cu K H a xs/\xs[i]?=some x,λi H x H'=>H'=H/\∀xs,cu K H a xs->xs[i]?=some x,λi H=>∃xs,cu K H a xs/\xs.length<=i⟩
def NZ (K:PySem.W.Frag)(a:Addr):It :=
 ⟨λi H=>∃xs x,iM K H a xs/\xs[i]?=some x,λi H x H'=>H'=H/\∀xs,iM K H a xs->xs[i]?=some x,λi H=>∃xs,iM K H a xs/\xs.length<=i⟩
def Ls (lo:Int)(n:Nat):It:=⟨λi _=>i<n,λi H x H'=>H'=H/\x=.int (lo+i),λi _=>n<=i⟩
theorem BG {P:Program}{w:World}{K:PySem.W.Frag}{tg:Expr}(a it:Addr):Turn P w K tg (NY K a) [it] it (λi h=>h.IsListIter it a i) where
 mem:=by simp
 obj:=λi h st b hb=>by
  have e:b=it:=by simpa using hb
  subst e
  obtain⟨o,e,c,d⟩:=st
  exact⟨o,e,λv z=>by rw[d] at z;cases z⟩
 keep:=λi h h' st k=>st.at λo e=>k it (by simp) o e
 item:=by
  intro X hP hw hK hc i pins s σ H E I hf st hg
  subst hP hw hK
  obtain⟨xs,x,hq,hx⟩:=hg
  obtain⟨its,rv,p,hz⟩:=I.list hq
  obtain⟨u,hu,ru⟩:=rv.get hx
  obtain⟨f0,f1,f2,f3,f4,f5⟩:=hf it (by simp)
  refine wpAny_pyNext_list_item st p.isList (x:=u) (by simpa using hu) λh' st' sb=>?_
  have I1:Inv X pins σ H { s with heap:=h' }:=I.turned (t':=s.toks) (λb o hb e=>(sb.2 b hb).trans e) f0 f1 f3 f4 f5
  obtain⟨o,e,c,d⟩:=id st'
  exact⟨u,rfl,rY (s:={ s with heap:=h' }) e c d (by decide) ⟨x,H,I1,ru,⟨rfl,λys hy=>by rw[I.vy hy hq];exact hx⟩,st',λb hb=>(hf b hb).1⟩⟩
 done:=by
  intro X hP hw hK hc i pins s σ H E I hf st hg
  subst hP hw hK
  obtain⟨xs,hq,hx⟩:=hg
  obtain⟨its,rv,p,hz⟩:=I.list hq
  obtain⟨f0,f1,f2,f3,f4,f5⟩:=hf it (by simp)
  have hl:=rv.length
  exact wpAny_pyNext_list_end (I.ok.hd hc) st p.isList (by simp;omega) λh' eb=>⟨rfl,I.turned (t':=s.toks) (λb o hb e=>eb b o hb e) f0 f1 f3 f4 f5⟩
 self:=λ_ _ _ _ _ st h=>wpAny_pyIter_listiter st h
theorem yZ {P:Program}{w:World}{K:PySem.W.Frag}{tg:Expr}(a it:Addr):Turn P w K tg (NZ K a) [it] it (λi h=>h.IsTupleIter it a i) where
 mem:=by simp
 obj:=λi h st b hb=>by
  have e:b=it:=by simpa using hb
  subst e
  obtain⟨o,e,c,d⟩:=st
  exact⟨o,e,λv z=>by rw[d] at z;cases z⟩
 keep:=λi h h' st k=>st.at λo e=>k it (by simp) o e
 item:=by
  intro X hP hw hK hc i pins s σ H E I hf st hg
  subst hP hw hK
  obtain⟨xs,x,hq,hx⟩:=hg
  obtain⟨its,rv,p,hz⟩:=I.tuple hq
  obtain⟨u,hu,ru⟩:=rv.get hx
  obtain⟨f0,f1,f2,f3,f4,f5⟩:=hf it (by simp)
  refine wpAny_pyNext_tuple_item st (show s.heap.IsTuple a its.toArray from p) (x:=u) (by simpa using hu) λh' st' sb=>?_
  have I1:Inv X pins σ H { s with heap:=h' }:=I.turned (t':=s.toks) (λb o hb e=>(sb.2 b hb).trans e) f0 f1 f3 f4 f5
  obtain⟨o,e,c,d⟩:=id st'
  exact⟨u,rfl,rY (s:={ s with heap:=h' }) e c d (by decide) ⟨x,H,I1,ru,⟨rfl,λys hy=>by rw[I.BD hy hq];exact hx⟩,st',λb hb=>(hf b hb).1⟩⟩
 done:=by
  intro X hP hw hK hc i pins s σ H E I hf st hg
  subst hP hw hK
  obtain⟨xs,hq,hx⟩:=hg
  obtain⟨its,rv,p,hz⟩:=I.tuple hq
  obtain⟨f0,f1,f2,f3,f4,f5⟩:=hf it (by simp)
  have hl:=rv.length
  exact wpAny_pyNext_tuple_end (I.ok.hd hc) st (show s.heap.IsTuple a its.toArray from p) (by simp;omega) λh' eb=>⟨rfl,I.turned (t':=s.toks) (λb o hb e=>eb b o hb e) f0 f1 f3 f4 f5⟩
 self:=λ_ _ _ _ _ st h=>wpAny_pyIter_tupleiter st h
theorem yY {P:Program}{w:World}{K:PySem.W.Frag}{tg:Expr}(it:Addr)(lo:Int)(n:Nat):Turn P w K tg (Ls lo n) [it] it (λi h=>IsRangeIter h it (lo+(i:Nat)*1) ((n:Int) - (i:Nat)) 1) where
 mem:=by simp
 obj:=λi h st b hb=>by
  have e:b=it:=by simpa using hb
  subst e
  exact⟨_,st,λv z=>by
   have z':Data.fields _=Data.cell v:=z
   cases z'⟩
 keep:=λi h h' st k=>k it (by simp) _ st
 item:=by
  intro X hP hw hK hc i pins s σ H E I hf st hg
  subst hP hw hK
  obtain⟨f0,f1,f2,f3,f4,f5⟩:=hf it (by simp)
  have W:=Walks.range (prog:=X.prog) (w:=X.w) (I.ok.hd hc) it lo 1 n
  refine W.item i s _ _ hg st λv h' tk hv st' kk=>?_
  obtain⟨t,rfl⟩:=hv
  have I1:Inv X pins σ H { s with heap:=h',toks:=tk }:=I.turned (λb o hb e=>kk b o (by simpa using hb) e) f0 f1 f3 f4 f5
  refine⟨_,rfl,rY (s:={ s with heap:=h',toks:=tk }) (n:="range_iterator") st' rfl rfl (by decide) ⟨.int (lo+i),H,I1,⟨t,?_⟩,⟨rfl,rfl⟩,st',λb hb=>(hf b hb).1⟩⟩
  rw[Int.mul_one]
 done:=by
  intro X hP hw hK hc i pins s σ H E I hf st hg
  subst hP hw hK
  obtain⟨f0,f1,f2,f3,f4,f5⟩:=hf it (by simp)
  exact wpAny_pyNext_range_end (I.ok.hd hc) st (by have:n<=i:=hg;omega) λh' eb=>⟨rfl,I.turned (t':=s.toks) (λb o hb e=>eb b o hb e) f0 f1 f3 f4 f5⟩
 self:=λ_ _ _ _ _ st h=>wpAny_pyIter_rangeiter st h
section
variable {X:Cx}{tg:Expr}
theorem DN {pins:List (Addr × Obj)}{σ:St}{H:Hp}{s:Shared}{R:It->Hp->Prop}{E:Value->Shared->Prop}{lo hi:Int}{t u v:Tok}{tk:Nat}(I:Inv X pins σ H s)(h1:-(2 ^ 62)<=lo)(h2:lo<2 ^ 62)(h3:-(2 ^ 62)<=hi)(h4:hi<2 ^ 62)
  (q:R (Ls lo (hi - lo).toNat) H):wpAny (model X.prog X.w) X.A (pyIter (.ref s.heap.objs.size)) (Na X pins σ tg R) E { s with heap:=s.heap.push { cls:=.type "range",data:=.fields #[.int lo t,.int hi u,.int 1 v] },toks:=tk }:=by
 refine wpAny_pyIter_range (IsRange.new ..) (small_one h1 h2 h3 h4) ?_
 have I1:Inv X pins σ H { s with heap:=s.heap.push { cls:=.type "range",data:=.fields #[.int lo t,.int hi u,.int 1 v] },toks:=tk }:=I.kept λb o e=>Heap.get?_push_of_some _ e
 refine⟨(s.heap.push { cls:=.type "range",data:=.fields #[.int lo t,.int hi u,.int 1 v] }).objs.size,[(s.heap.push { cls:=.type "range",data:=.fields #[.int lo t,.int hi u,.int 1 v] }).objs.size],_,_,H,rfl,
  I1.kept (t':=tk) λb o e=>Heap.get?_push_of_some _ e,yY _ lo (hi - lo).toNat,?_,λb hb=>?_,q⟩
 ·have e1:lo+((0:Nat):Int)*1=lo:=by simp
  have e2:(((hi - lo).toNat:Nat):Int) - ((0:Nat):Int)=Builtin.Range.rangeSize lo hi 1:=by rw[rangeSize_one];split<;>omega
  show IsRangeIter _ _ (lo+((0:Nat):Int)*1) ((((hi - lo).toNat:Nat):Int) - ((0:Nat):Int)) 1
  rw[e1,e2]
  exact Heap.get?_push_size _ rfl
 ·have e:b=(s.heap.push { cls:=.type "range",data:=.fields #[.int lo t,.int hi u,.int 1 v] }).objs.size:=by simpa using hb
  subst e
  exact I1.B8 (Nat.le_refl _) (I1.bW.fresh (Nat.le_refl _))
def Kc (ta:TA):TI:=λσ H R=>ta σ H λvs H1=>∃j:Int,vs=[.int j]/\-(2 ^ 62)<=j/\j<2 ^ 62/\R (Ls 0 j.toNat) H1
theorem Az {a:Expr}{ta:TA}{p pos:Pos}(hg:Gl X "range")(hm:X.mg "range"=none)(ha:PA X [a] ta)(hs:starEach [a] X.env=[(false,eval a X.env)]:=by rfl):PI X tg (.Call (.Name "range" p) [a] [] pos) (Kc ta):=by
 intro pins s σ H R I h
 refine Call_ (oK I hg hm boot_range (PyProof.Rows.callWith_type1 (b6 (ha pos pins s σ H _ I h) λus s1 ⟨vs,H1,I1,r1,q1⟩=>?_) hs rfl))
 obtain⟨j,e,q1,q2,q⟩:=q1
 subst e
 cases r1 with
 |cons r rr =>
  cases rr
  obtain⟨t,rfl⟩:=r
  exact call_range_1 (DN I1 (by omega) (by omega) q1 q2 (by simpa using q))
def Lh (wi:TI)(g:TG)(tb:TS):TS:=λD σ H=>wi σ H λJ H1=>∃W:Nat->Nat->St->Hp->Prop,(∃m,W 0 m σ H1)/\∀i m σ H,W i m σ H ->
 (J.stop i H/\D.nx σ H)\/(J.go i H/\∃N:St->Hp->Prop,(∀ σ' H',N σ' H'->∃m',m'<m/\W (i+1) m' σ' H')/\∀x H',J.BR i H x H'->g x σ H' λσ2 H2=>tb { D with nx:=N,ct:=N,bk:=D.nx } σ2 H2)
def mJ (fp:List Addr)(h:Heap):List (Addr × Obj):=fp.filterMap λb=>(h.get? b).map λo=>(b,o)
theorem f_ {fp:List Addr}{h:Heap}{b:Addr}{o:Obj}(hb:b∈fp)(e:h.get? b=some o):(b,o)∈mJ fp h:=List.mem_filterMap.mpr ⟨b,hb,by rw[e];rfl⟩
theorem oU {fp:List Addr}{h:Heap}{p:Addr × Obj}(hp:p∈mJ fp h):p.1∈fp/\h.get? p.1=some p.2:=by
 obtain⟨b,hb,e⟩:=List.mem_filterMap.mp hp
 cases q:h.get? b with
 |none=>rw[q] at e;cases e
 |some o =>
  rw[q] at e
  have e':(b,o)=p:=Option.some.inj e
  subst e'
  exact⟨hb,q⟩
theorem Inv.pinned {pins:List (Addr × Obj)}{σ:St}{H:Hp}{s:Shared}{fp:List Addr}(I:Inv X pins σ H s)(hf:∀b∈fp,jG X pins H b)(ho:∀b∈fp,∃o,s.heap.get? b=some o/\∀v,o.data≠.cell v):Inv X (pins++mJ fp s.heap) σ H s :=
 I.uN λp hp=>(List.mem_append.mp hp).elim (λz=>I.pin p (List.mem_append_right _ z)) λz=>by
  obtain⟨hb,e⟩:=oU z
  obtain⟨f0,f1,f2,_⟩:=hf p.1 hb
  obtain⟨o,e',d⟩:=ho p.1 hb
  rw[e] at e';cases e'
  exact⟨e,f0,f1,f2,d⟩
theorem Inv.iK {pins pl:List (Addr × Obj)}{σ:St}{H:Hp}{s:Shared}(I:Inv X (pins++pl) σ H s):Inv X pins σ H s:=I.uN λp hp=>I.pin p (List.mem_append_right _ (List.mem_append_left _ hp))
theorem yH {iter:Expr}{body:List Stmt}{wi:TI}{g:TG}{tb:TS}{pos:Pos}(hp:PassesOwn (model X.prog X.w) X.A X.env X.xe)(hc:X.calm=true)(hi:PI X tg iter wi)(hg:PG X tg g)(hb:ly X body tb)
  (hs:∀x,foldedSetIterable iter X.env x=pure x:=by intro _;rfl):PS X (.For tg iter body [] pos) (Lh wi g tb):=by
 intro pins s σ H D I h
 refine wpAny_For (b6 (hi pins s σ H _ I h) λv s1 h1=>b6 h1 λitv s2 h2=>?_) hs
 obtain⟨it,fp,tn,J,H2,e,I2,T,st2,f2,W,⟨m0,w0⟩,turn⟩:=h2
 subst e
 -- what stays true of the iterator's objects through the loop
 have stat:∀{H':Hp},(∀b∈fp,H' b=none)->∀b∈fp,jG X pins H' b:=λhn b hb=>⟨hn b hb,(f2 b hb).2⟩
 refine codeAny_forLoop_any (λn s'=>∃i σ' H',Inv X pins σ' H' s'/\tn i s'.heap/\(∀b∈fp,H' b=none)/\W i n σ' H') ?_ m0 ⟨0,σ,H2,I2,st2,λb hb=>(f2 b hb).1,w0⟩
 rintro n s3 ⟨i,σ3,H3,I3,st3,fr3,w3⟩
 rcases turn i n σ3 H3 w3 with⟨stop,qn⟩|⟨go,N,hN,step⟩
 ·refine wpAny_passesOwn hp (b6 (T.done X rfl rfl rfl hc i pins s3 σ3 H3 X.xe I3 (stat fr3) st3 stop) λr s4 ⟨hr,I4⟩=>?_)
  subst hr
  exact wpAny_execs_nil ⟨σ3,H3,I4,qn⟩
 ·refine wpAny_passesOwn hp (b6 (T.item X rfl rfl rfl hc i pins s3 σ3 H3 X.xe I3 (stat fr3) st3 go) λr s4 ⟨u,hr,h4⟩=>?_)
  subst hr
  refine wpAny_passesOwn hp (b6 h4 λ_ s5 ⟨x,H5,I5,r5,y5,st5,fr5⟩=>?_)
  have I5':=I5.pinned (stat fr5) (T.obj _ _ st5)
  refine wpAny_passesOwn hp (b6 (hg _ s5 σ3 H5 x u _ I5' r5 (step x H5 y5)) λ_ s6 ⟨σ6,H6,I6,q6⟩=>?_)
  refine wpAny_passesOwn hp (b6 (hb _ s6 σ6 H6 _ I6 q6) λf s7 q7=>?_)
  have again:∀{σ7:St} {H7:Hp},Inv X (pins++mJ fp s5.heap) σ7 H7 s7->N σ7 H7->∃m,m<n/\∃i σ' H',Inv X pins σ' H' s7/\tn i s7.heap/\(∀b∈fp,H' b=none)/\W i m σ' H':=fun{σ7 H7} I7 n7=>by
   obtain⟨m',hm,w7⟩:=hN σ7 H7 n7
   refine⟨m',hm,i+1,σ7,H7,I7.iK,T.keep _ _ _ st5 λb hb o e=>(I7.pin (b,o) (List.mem_append_right _ (List.mem_append_right _ (f_ hb e)))).1,λb hb=>?_,w7⟩
   obtain⟨o,e,d⟩:=T.obj _ _ st5 b hb
   exact(I7.pin (b,o) (List.mem_append_right _ (List.mem_append_right _ (f_ hb e)))).2.1
  cases f with
  |next=>obtain⟨σ7,H7,I7,n7⟩:=q7;exact again I7 n7
  |cont=>obtain⟨σ7,H7,I7,n7⟩:=q7;exact again I7 n7
  |brk=>obtain⟨σ7,H7,I7,q7⟩:=q7;exact⟨σ7,H7,I7.iK,q7⟩
  |ret v=>obtain⟨x7,σ7,H7,I7,r7,q7⟩:=q7;exact⟨x7,σ7,H7,I7.iK,r7,q7⟩
end
abbrev R2:=V->V->Hp->VK->Prop
def gq (X:Cx)(f:Value->Value->Sem Value)(r:R2):Prop :=
 ∀(pins:List (Addr × Obj)) (s:Shared) (σ:St) (H:Hp) (x y:V) (v u:Value) (Q:VK),Inv X pins σ H s->RelV x v->RelV y u->r x y H Q ->
  wpAny (model X.prog X.w) X.A (f v u) (EP X pins σ Q) X.xe s
def MN (X:Cx)(f:Value->Sem Value)(r:V->Hp->VK->Prop):Prop :=
 ∀(pins:List (Addr × Obj)) (s:Shared) (σ:St) (H:Hp) (x:V) (v:Value) (Q:VK),Inv X pins σ H s->RelV x v->r x H Q ->
  wpAny (model X.prog X.w) X.A (f v) (EP X pins σ Q) X.xe s
def eW (X:Cx)(f:Value)(r:List V->Hp->VK->Prop):Prop :=
 ∀(pins:List (Addr × Obj)) (s:Shared) (σ:St) (H:Hp) (xs:List V) (us:List Value) (Q:VK),Inv X pins σ H s->Vals xs us->r xs H Q ->
  wpAny (model X.prog X.w) X.A (call f us) (EP X pins σ Q) X.xe s
def MM (X:Cx)(r:V->Hp->(Bool->Hp->Prop)->Prop):Prop :=
 ∀(pins:List (Addr × Obj)) (s:Shared) (σ:St) (H:Hp) (x:V) (v:Value) (Q:Bool->Hp->Prop),Inv X pins σ H s->RelV x v->r x H Q ->
  wpAny (model X.prog X.w) X.A (truthy v) (TP X pins σ Q) X.xe s
def Jj (r:R2)(ta tb:TE):TE:=λσ H Q=>ta σ H λx H1=>tb σ H1 λy H2=>r x y H2 Q
def OJ (r:V->Hp->VK->Prop)(ta:TE):TE:=λσ H Q=>ta σ H λx H1=>r x H1 Q
def rI (C:Int->Int->Prop)(g:Int->Int->V):R2:=λx y H Q=>∃i j,x=.int i/\y=.int j/\C i j/\Q (g i j) H
def D9 (g:Int->Int->V):R2:=λx y H Q=>∃i j,x=.int i/\y=.int j/\Q (g i j) H
def rU (g:Int->V):V->Hp->VK->Prop:=λx H Q=>∃i,x=.int i/\Q (g i) H
section
variable {X:Cx}{a b c:Expr}{ta tb tc:TE}{pos:Pos}
theorem HZ (ha:PE X a ta)(hb:PE X b tb){pins:List (Addr × Obj)}{s:Shared}{σ:St}{H:Hp}{R:V->V->Hp->Prop}(I:Inv X pins σ H s)
  (h:ta σ H λx H1=>tb σ H1 λy H2=>R x y H2){Q:Value->Shared->Prop}{f:Value->Value->Sem Value}
  (hf:∀v u s2 x y H2,Inv X pins σ H2 s2->RelV x v->RelV y u->R x y H2->wpAny (model X.prog X.w) X.A (f v u) Q X.xe s2) :
  wpAny (model X.prog X.w) X.A (eval a X.env) (λv s₁=>wpAny (model X.prog X.w) X.A (eval b X.env) (λu s₂=>wpAny (model X.prog X.w) X.A (f v u) Q X.xe s₂) X.xe s₁) X.xe s:=by
 refine b6 (ha pins s σ H _ I h) λv s1 ⟨x,H1,I1,r1,q1⟩=>?_
 refine b6 (hb pins s1 σ H1 _ I1 q1) λu s2 ⟨y,H2,I2,r2,q2⟩=>?_
 exact hf v u s2 x y H2 I2 r1 r2 q2
theorem K7 {op:Operator}{r:R2}(ho:gq X (binaryOp op) r)(ha:PE X a ta)(hb:PE X b tb):PE X (.BinOp a op b pos) (Jj r ta tb):=by
 intro pins s σ H Q I h
 exact wpAny_BinOp (HZ ha hb I h λv u s2 x y H2 I2 rx ry q=>ho pins s2 σ H2 x y v u Q I2 rx ry q)
theorem K9 {op:UnaryOp}{r:V->Hp->VK->Prop}(ho:MN X (unaryOp op) r)(ha:PE X a ta):PE X (.UnaryOp op a pos) (OJ r ta):=by
 intro pins s σ H Q I h
 exact UnaryOp_ (b6 (ha pins s σ H _ I h) λv s1 ⟨x,H1,I1,r1,q1⟩=>ho pins s1 σ H1 x v Q I1 r1 q1)
theorem M1 {f:Value->Value->Sem Value}{C:Int->Int->Prop}{g:Int->Int->Int}
  (rule:∀(i j:Int) (t u:Tok) (s:Shared) (Q:Value->Shared->Prop) (E:Value->Shared->Prop),C i j->Q (.int (g i j) s.toks) { s with toks:=s.toks+1 }->wpAny (model X.prog X.w) X.A (f (.int i t) (.int j u)) Q E s) :
  gq X f (rI C λi j=>.int (g i j)):=by
 intro pins s σ H x y v u Q I rx ry h
 obtain⟨i,j,rfl,rfl,hc,q⟩:=h
 obtain⟨t,rfl⟩:=rx
 obtain⟨t',rfl⟩:=ry
 exact rule i j t t' s _ _ hc ⟨.int (g i j),H,I.tok _,⟨_,rfl⟩,q⟩
theorem K3 {f:Value->Value->Sem Value}{g:Int->Int->Int}
  (rule:∀(i j:Int) (t u:Tok) (s:Shared) (Q:Value->Shared->Prop) (E:Value->Shared->Prop),Q (.int (g i j) s.toks) { s with toks:=s.toks+1 }->wpAny (model X.prog X.w) X.A (f (.int i t) (.int j u)) Q E s) :
  gq X f (D9 λi j=>.int (g i j)):=by
 intro pins s σ H x y v u Q I rx ry h
 obtain⟨i,j,rfl,rfl,q⟩:=h
 obtain⟨t,rfl⟩:=rx
 obtain⟨t',rfl⟩:=ry
 exact rule i j t t' s _ _ ⟨.int (g i j),H,I.tok _,⟨_,rfl⟩,q⟩
theorem Iv {f:Value->Value->Sem Value}{g:Int->Int->Bool}
  (rule:∀(i j:Int) (t u:Tok) (s:Shared) (Q:Value->Shared->Prop) (E:Value->Shared->Prop),Q (.bool (g i j)) s->wpAny (model X.prog X.w) X.A (f (.int i t) (.int j u)) Q E s) :
  gq X f (D9 λi j=>.bl (g i j)):=by
 intro pins s σ H x y v u Q I rx ry h
 obtain⟨i,j,rfl,rfl,q⟩:=h
 obtain⟨t,rfl⟩:=rx
 obtain⟨t',rfl⟩:=ry
 exact rule i j t t' s _ _ ⟨.bl (g i j),H,I,rfl,q⟩
def HP (i j:Int):Prop:=0<j/\j<1073741824
def w6 (i j:Int):Prop:=(-(2 ^ 64)<i/\i<2 ^ 64)\/(-(2 ^ 64)<j/\j<2 ^ 64)
theorem w6.ok {i j:Int}(h:w6 i j):IntMulOk i j:=by
 rcases h with⟨h1,h2⟩|⟨h1,h2⟩
 ·exact .of_left (intBits_le_64 h1 h2)
 ·exact .of_right (intBits_le_64 h1 h2)
theorem Iw:gq X (binaryOp .Add) (D9 λi j=>.int (i+j)):=K3 λ_ _ _ _ _ _ _ q=>add_int q
theorem JB:gq X (binaryOp .Sub) (D9 λi j=>.int (i - j)):=K3 λ_ _ _ _ _ _ _ q=>sub_int q
theorem FZ:gq X (binaryOp .FloorDiv) (rI HP λi j=>.int (i / j)):=M1 λi j _ _ _ _ _ hc q=>by
 have h1:(0:Int)<j:=hc.1
 have h2:j<1073741824:=hc.2
 exact floordiv_int (by omega) (by rw[Int.fdiv_eq_ediv_of_nonneg i (by omega)];exact q) (.inl (PyProof.noPylong_small (by omega)))
theorem I_:gq X (binaryOp .Mod) (rI (λ_ j=>0<j) λi j=>.int (i%j)):=M1 λi j _ _ _ _ _ hc q=>by
 have h1:(0:Int)<j:=hc
 exact mod_int' (by omega) (by rw[Int.fmod_eq_emod_of_nonneg i (by omega)];exact q)
theorem OL {f:Value->Sem Value}{g:Int->Int}
  (rule:∀(i:Int) (t:Tok) (s:Shared) (Q:Value->Shared->Prop) (E:Value->Shared->Prop),Q (.int (g i) s.toks) { s with toks:=s.toks+1 }->wpAny (model X.prog X.w) X.A (f (.int i t)) Q E s) :
  MN X f (rU λi=>.int (g i)):=by
 intro pins s σ H x v Q I rx h
 obtain⟨i,rfl,q⟩:=h
 obtain⟨t,rfl⟩:=rx
 exact rule i t s _ _ ⟨.int (g i),H,I.tok _,⟨_,rfl⟩,q⟩
theorem Jn:MN X (unaryOp .USub) (rU λi=>.int (-i)):=OL λ_ _ _ _ _ q=>neg_int q
end
def LP:V->V->Bool
 |.ak,.ak=>true|.ak,.int _=>true|.int _,.ak=>true|.ak,.bl _=>true|.bl _,.ak=>true|.ak,.str _=>true|.str _,.ak=>true
 |.int _,.int _=>true|.bl _,.bl _=>true|.str _,.str _=>true|.wz _,.wz _=>true
 |.int _,.str _=>true|.str _,.int _=>true|.bl _,.str _=>true|.str _,.bl _=>true
 |_,_=>false
def Np:R2:=λx y H Q=>LP x y=true/\Q (.bl (decide (x=y))) H
def Nr:R2:=λx y H Q=>LP x y=true/\Q (.bl (!decide (x=y))) H
theorem yr {i j:Int}:decide (V.int i=V.int j)=(i == j):=by
 rw[Bool.eq_iff_iff]
 simp
theorem Bv {i j:Bool}:decide (V.bl i=V.bl j)=(i == j):=by
 rw[Bool.eq_iff_iff]
 simp
theorem yt {i j:Str}:decide (V.str i=V.str j)=(i == j):=by
 rw[Bool.eq_iff_iff]
 simp
theorem yq {i j:Array UInt8}:decide (V.wz i=V.wz j)=(i.toList == j.toList):=by
 rw[Bool.eq_iff_iff]
 cases i
 cases j
 simp
section
variable {X:Cx}{a b c:Expr}{ta tb tc:TE}{pos:Pos}
theorem bA {pins:List (Addr × Obj)}{σ:St}{H:Hp}{s:Shared}{Q:VK}{k k':Bool}(I:Inv X pins σ H s)(q:Q (.bl k) H)(e:k=k'):EP X pins σ Q (.bool k') s:=by
 subst e
 exact⟨.bl k,H,I,rfl,q⟩
theorem G5:gq X (compareOp .Eq) Np:=by
 intro pins s σ H x y v u Q I rx ry h
 obtain⟨hs,q⟩:=h
 cases x with
 |ak =>
  cases rx
  cases y with
  |ak=>cases ry;exact PySem.EqNone.eq_none_none (bA I q (by simp))
  |bl j=>cases ry;exact PySem.EqNone.eq_none_bool (bA I q (by simp))
  |int j=>obtain⟨t',rfl⟩:=ry;exact PySem.EqNone.eq_none_int (bA I q (by simp))
  |str j=>obtain⟨t',rfl⟩:=ry;exact PySem.EqNone.eq_none_str (bA I q (by simp))
  |_=>exact absurd (show false=true from hs) Bool.false_ne_true
 |bl i =>
  cases rx
  cases y with
  |ak=>cases ry;exact PySem.EqNone.eq_bool_none (bA I q (by simp))
  |bl j=>cases ry;exact eq_bool (bA I q Bv)
  |str j=>obtain⟨t',rfl⟩:=ry;exact PySem.EqMixed.eq_bool_str (bA I q (by simp))
  |_=>exact absurd (show false=true from hs) Bool.false_ne_true
 |int i =>
  obtain⟨t,rfl⟩:=rx
  cases y with
  |ak=>cases ry;exact PySem.EqNone.eq_int_none (bA I q (by simp))
  |int j=>obtain⟨t',rfl⟩:=ry;exact eq_int (bA I q yr)
  |str j=>obtain⟨t',rfl⟩:=ry;exact PySem.EqMixed.eq_int_str (bA I q (by simp))
  |_=>exact absurd (show false=true from hs) Bool.false_ne_true
 |str i =>
  obtain⟨t,rfl⟩:=rx
  cases y with
  |ak=>cases ry;exact PySem.EqNone.eq_str_none (bA I q (by simp))
  |bl j=>cases ry;exact PySem.EqMixed.eq_str_bool (bA I q (by simp))
  |int j=>obtain⟨t',rfl⟩:=ry;exact PySem.EqMixed.eq_str_int (bA I q (by simp))
  |str j=>obtain⟨t',rfl⟩:=ry;exact eq_str (bA I q yt)
  |_=>exact absurd (show false=true from hs) Bool.false_ne_true
 |wz i =>
  obtain⟨t,rfl⟩:=rx
  cases y with
  |wz j=>obtain⟨t',rfl⟩:=ry;exact PySem.W.eq_bytes (bA I q yq)
  |_=>exact absurd (show false=true from hs) Bool.false_ne_true
 |_=>cases y<;>exact absurd (show false=true from hs) Bool.false_ne_true
theorem K5:gq X (compareOp .NotEq) Nr:=by
 intro pins s σ H x y v u Q I rx ry h
 obtain⟨hs,q⟩:=h
 cases x with
 |ak =>
  cases rx
  cases y with
  |ak=>cases ry;exact PySem.EqNone.ne_none_none (bA I q (by simp))
  |bl j=>cases ry;exact PySem.EqNone.ne_none_bool (bA I q (by simp))
  |int j=>obtain⟨t',rfl⟩:=ry;exact PySem.EqNone.ne_none_int (bA I q (by simp))
  |str j=>obtain⟨t',rfl⟩:=ry;exact PySem.EqNone.ne_none_str (bA I q (by simp))
  |_=>exact absurd (show false=true from hs) Bool.false_ne_true
 |bl i =>
  cases rx
  cases y with
  |ak=>cases ry;exact PySem.EqNone.ne_bool_none (bA I q (by simp))
  |bl j=>cases ry;exact ne_bool (bA I q (congrArg not Bv))
  |str j=>obtain⟨t',rfl⟩:=ry;exact PySem.EqMixed.ne_bool_str (bA I q (by simp))
  |_=>exact absurd (show false=true from hs) Bool.false_ne_true
 |int i =>
  obtain⟨t,rfl⟩:=rx
  cases y with
  |ak=>cases ry;exact PySem.EqNone.ne_int_none (bA I q (by simp))
  |int j=>obtain⟨t',rfl⟩:=ry;exact ne_int (bA I q (congrArg not yr))
  |str j=>obtain⟨t',rfl⟩:=ry;exact PySem.EqMixed.ne_int_str (bA I q (by simp))
  |_=>exact absurd (show false=true from hs) Bool.false_ne_true
 |str i =>
  obtain⟨t,rfl⟩:=rx
  cases y with
  |ak=>cases ry;exact PySem.EqNone.ne_str_none (bA I q (by simp))
  |bl j=>cases ry;exact PySem.EqMixed.ne_str_bool (bA I q (by simp))
  |int j=>obtain⟨t',rfl⟩:=ry;exact PySem.EqMixed.ne_str_int (bA I q (by simp))
  |str j=>obtain⟨t',rfl⟩:=ry;exact ne_str (bA I q (congrArg not yt))
  |_=>exact absurd (show false=true from hs) Bool.false_ne_true
 |wz i =>
  obtain⟨t,rfl⟩:=rx
  cases y with
  |wz j=>obtain⟨t',rfl⟩:=ry;exact PySem.W.ne_bytes (bA I q (congrArg not yq))
  |_=>exact absurd (show false=true from hs) Bool.false_ne_true
 |_=>cases y<;>exact absurd (show false=true from hs) Bool.false_ne_true
theorem K4:gq X (compareOp .Lt) (D9 λi j=>.bl (decide (i<j))):=Iv λ_ _ _ _ _ _ _ q=>lt_int q
theorem C4:gq X (compareOp .LtE) (D9 λi j=>.bl (decide (i<=j))):=Iv λ_ _ _ _ _ _ _ q=>le_int q
theorem G6:gq X (compareOp .Gt) (D9 λi j=>.bl (decide (j<i))):=Iv λ_ _ _ _ _ _ _ q=>gt_int q
theorem sH:gq X (compareOp .In) (λx y H Q=>∃i j,x=.str i/\y=.str j/\Q (.bl (!(Builtin.Str.occurrences j i 0 j.length 1).isEmpty)) H):=by
 intro pins s σ H x y v u Q I rx ry h
 obtain⟨i,j,rfl,rfl,q⟩:=h
 obtain⟨t,rfl⟩:=rx
 obtain⟨t',rfl⟩:=ry
 exact in_str (bA I q rfl)
theorem Iz:gq X (compareOp .Is) (λx y H Q=>y=.ak/\Q (.bl (decide (x=.ak))) H):=by
 intro pins s σ H x y v u Q I rx ry h
 obtain⟨rfl,q⟩:=h
 cases ry
 refine is_none_gen (bA I q ?_)
 cases x<;>first
  | (cases rx;rfl)
  | (obtain⟨t,rfl⟩:=rx;rfl)
theorem Fd:gq X (compareOp .IsNot) (λx y H Q=>y=.ak/\Q (.bl (!decide (x=.ak))) H):=by
 intro pins s σ H x y v u Q I rx ry h
 obtain⟨rfl,q⟩:=h
 cases ry
 refine isnot_none_gen (bA I q ?_)
 cases x<;>first
  | (cases rx;rfl)
  | (obtain⟨t,rfl⟩:=rx;rfl)
theorem nD:gq X (compareOp .NotIn) (λx y H Q=>∃i j,x=.str i/\y=.str j/\Q (.bl (!(!(Builtin.Str.occurrences j i 0 j.length 1).isEmpty))) H):=by
 intro pins s σ H x y v u Q I rx ry h
 obtain⟨i,j,rfl,rfl,q⟩:=h
 obtain⟨t,rfl⟩:=rx
 obtain⟨t',rfl⟩:=ry
 exact notIn_str (bA I q rfl)
theorem gq.or {f:Value->Value->Sem Value}{r r':R2}(h:gq X f r)(h':gq X f r'):gq X f (λx y H Q=>r x y H Q\/r' x y H Q):=by
 intro pins s σ H x y v u Q I rx ry q
 rcases q with q|q
 ·exact h pins s σ H x y v u Q I rx ry q
 ·exact h' pins s σ H x y v u Q I rx ry q
theorem iZ (b:Expr){op:CmpOp}(h:op≠.In:=by decide)(h2:op≠.NotIn:=by decide):behindInMarks op b=false:=by
 have e1:(op == CmpOp.In)=false:=by cases op<;>first|rfl|exact absurd rfl h
 have e2:(op == CmpOp.NotIn)=false:=by cases op<;>first|rfl|exact absurd rfl h2
 cases b<;>simp[behindInMarks,e1,e2]
theorem Fh {op:CmpOp}{r:R2}(ho:gq X (compareOp op) r)(ha:PE X a ta)(hb:PE X b tb)(hm:behindInMarks op b=false):PE X (.Compare a [op] [b] pos) (Jj r ta tb):=by
 intro pins s σ H Q I h
 exact wpAny_Compare1 (HZ ha hb I h λv u s2 x y H2 I2 rx ry q=>ho pins s2 σ H2 x y v u Q I2 rx ry q) hm
def HJ (t:TE):TT:=λσ H Q=>t σ H λx H'=>∃k,x=.bl k/\Q k H'
theorem Fu {op:CmpOp}{r:R2}(ho:gq X (compareOp op) r)(ha:PE X a ta)(hb:PE X b tb)(hm:behindInMarks op b=false):PT X (.Compare a [op] [b] pos) (HJ (Jj r ta tb)):=by
 intro pins s σ H Q I h
 refine wpAny_isTrue_Compare1 (b6 (ha pins s σ H _ I h) λv s1 ⟨x,H1,I1,r1,q1⟩=>b6 (hb pins s1 σ H1 _ I1 q1) λu s2 ⟨y,H2,I2,r2,q2⟩ =>
  b6 (ho pins s2 σ H2 x y v u _ I2 r1 r2 q2) λc s3 ⟨z,H3,I3,r3,k,e,q3⟩=>?_) hm
 subst e
 cases r3
 exact wpAny_truthy_bool ⟨H3,I3,q3⟩
def Dl (r r':R2)(ta tb tc:TE):TE:=λσ H Q=>ta σ H λx H1=>tb σ H1 λy H2=>r x y H2 λz H3=>∃k,z=.bl k /\
 (if k=true then tc σ H3 λw' H4=>r' y w' H4 Q else Q (.bl false) H3)
theorem C7 {op op':CmpOp}{r r':R2}(ho:gq X (compareOp op) r)(ho':gq X (compareOp op') r')(ha:PE X a ta)(hb:PE X b tb)(hc:PE X c tc)
  (hm:lastMarks [op,op'] [b,c]=false:=by with_unfolding_all rfl):PE X (.Compare a [op,op'] [b,c] pos) (Dl r r' ta tb tc):=by
 intro pins s σ H Q I h
 refine Compare_chain (b6 (ha pins s σ H _ I h) λv s1 ⟨x,H1,I1,r1,q1⟩=>chain_link (b6 (hb pins s1 σ H1 _ I1 q1) λu s2 ⟨y,H2,I2,r2,q2⟩ =>
  b6 (ho pins s2 σ H2 x y v u _ I2 r1 r2 q2) λd s3 ⟨z,H3,I3,r3,k,e,q3⟩=>?_)) hm
 subst e
 cases r3
 refine wpAny_truthy_bool ?_
 cases k with
 |false=>exact ite_ff ⟨.bl false,H3,I3,rfl,q3⟩
 |true=>exact ite_tt (chain_last (b6 (hc pins s3 σ H3 _ I3 q3) λw' s4 ⟨z',H4,I4,r4,q4⟩=>ho' pins s4 σ H4 y z' u w' Q I4 r2 r4 q4))
def HX (K:PySem.W.Frag)(x:V)(H:Hp)(k:Bool):Prop :=
 match x with
 |.ak=>k=false
 |.bl b=>k=b
 |.int i=>k=(i != 0)
 |.str y=>y.length<=sizeLine/\k=((y.length:Int) != 0)
 |.wz y=>y.size<=sizeLine/\k=((y.size:Int) != 0)
 |.ref p=>(∃xs,cu K H p xs/\k=!xs.isEmpty)\/(∃xs,iM K H p xs/\k=!xs.isEmpty)\/∃kvs,H p=some (.dK kvs)/\k=!kvs.isEmpty
 |_=>False
theorem xU {κ:Type}{kvs:List (κ × V)}{vs:List (κ × Value)}(r:KV kvs vs):(!vs.isEmpty)=!kvs.isEmpty:=by
 cases r<;>rfl
theorem qM {xs:List V}{its:List Value}(r:Vals xs its):(!its.toArray.isEmpty)=!xs.isEmpty:=by
 cases r<;>simp
theorem oN:(sizeLine:Nat)<2 ^ 63:=by rw[sizeLine_eq];decide
theorem Jm:MM X (λx H Q=>∃k,HX X.K x H k/\Q k H):=by
 intro pins s σ H x v Q I rx h
 obtain⟨k,e,q⟩:=h
 have hl:=oN
 have hs:sizeLine=16777216:=sizeLine_eq
 cases x with
 |ak =>
  cases rx
  have e':k=false:=e
  subst e'
  exact truthy_none ⟨H,I,q⟩
 |bl b =>
  cases rx
  have e':k=b:=e
  subst e'
  exact wpAny_truthy_bool ⟨H,I,q⟩
 |int i =>
  obtain⟨t,rfl⟩:=rx
  have e':k=(i != 0):=e
  subst e'
  exact PySem.P.truthy_int ⟨H,I,q⟩
 |str y =>
  obtain⟨t,rfl⟩:=rx
  obtain⟨hy,e'⟩:y.length<=sizeLine/\k=((y.length:Int) != 0):=e
  subst e'
  exact PySem.P.truthy_str (by omega) ⟨H,I.tok _,q⟩
 |wz y =>
  obtain⟨t,rfl⟩:=rx
  obtain⟨hy,e'⟩:y.size<=sizeLine/\k=((y.size:Int) != 0):=e
  subst e'
  exact PySem.W.truthy_bytes (by omega) ⟨H,I.tok _,q⟩
 |ref p =>
  cases rx
  have e':(∃xs,cu X.K H p xs/\k=!xs.isEmpty)\/(∃xs,iM X.K H p xs/\k=!xs.isEmpty)\/∃kvs,H p=some (.dK kvs)/\k=!kvs.isEmpty:=e
  rcases e' with⟨xs,hx,e'⟩|⟨xs,hx,e'⟩|⟨kvs,hx,e'⟩
  ·subst e'
   obtain⟨its,r,pl,hz⟩:=I.list hx
   have hlen:=r.length
   exact wpAny_truthy_list pl.isList (by simp only[List.size_toArray];omega) ⟨H,I.tok _,by rw[qM r];exact q⟩
  ·subst e'
   obtain⟨its,r,pl,hz⟩:=I.tuple hx
   have hlen:=r.length
   exact truthy_tuple pl (by simp only[List.size_toArray];omega) ⟨H,I.tok _,by rw[qM r];exact q⟩
  ·subst e'
   obtain⟨hz,hS,vs,r,m⟩:kvs.length<=sizeLine/\(p == sysModules)=false/\∃vs,KV kvs vs/\s.heap.DictOf (bq X.prog X.w) p vs:=I.bW p _ hx
   have hlen:kvs.length=vs.length:=Paired.length r
   exact wpAny_truthy_dict hS m (by omega) ⟨H,I.tok _,by rw[xU r];exact q⟩
 |_=>exact(show False from e).elim
theorem DK (ha:PE X a ta)(he:∀whole,isTrue a X.env whole=(do let v <- whole;standAt a.pos;holding [v] (truthy v))) :
  PT X a (λσ H Q=>ta σ H λx H'=>∃k,HX X.K x H' k/\Q k H'):=by
 intro pins s σ H Q I h
 exact isTrue_plain (b6 (ha pins s σ H _ I h) λv s1 ⟨x,H1,I1,r1,q1⟩=>Jm pins s1 σ H1 x v Q I1 r1 q1) (he _)
theorem xx:gq X (binaryOp .Add) (λx y H Q=>∃i j,x=.str i/\y=.str j/\i.length+j.length<=sizeLine/\Q (.str (i++j)) H):=by
 intro pins s σ H x y v u Q I rx ry h
 obtain⟨i,j,rfl,rfl,hz,q⟩:=h
 obtain⟨t,rfl⟩:=rx
 obtain⟨t',rfl⟩:=ry
 exact add_str (λt' tk=>⟨.str (i++j),H,I.tok _,⟨_,rfl⟩,q⟩) hz
theorem vals1 {x:V}{us:List Value}(r:Vals [x] us):∃u,us=[u]/\RelV x u:=by
 cases r with
 |cons r1 r2=>cases r2;exact⟨_,rfl,r1⟩
theorem vals2 {x y:V}{us:List Value}(r:Vals [x,y] us):∃u w',us=[u,w']/\RelV x u/\RelV y w':=by
 cases r with
 |cons r1 r2 =>
  cases r2 with
  |cons r3 r4=>cases r4;exact⟨_,_,rfl,r1,r3⟩
def J1 (K:PySem.W.Frag)(x:V)(H:Hp)(n:Nat):Prop :=
 match x with
 |.str y=>y.length<=sizeLine/\n=y.length
 |.wz y=>y.size<=sizeLine/\n=y.size
 |.ref p=>(∃xs,cu K H p xs/\n=xs.length)\/∃xs,iM K H p xs/\n=xs.length
 |_=>False
theorem Bf:eW X (.builtin "len") (λxs H Q=>∃x n,xs=[x]/\J1 X.K x H n/\Q (.int n) H):=by
 intro pins s σ H xs us Q I r h
 obtain⟨x,n,rfl,e,q⟩:=h
 obtain⟨u,rfl,rx⟩:=vals1 r
 have hl:=oN
 have hs:sizeLine=16777216:=sizeLine_eq
 cases x with
 |str y =>
  obtain⟨t,rfl⟩:=rx
  obtain⟨hy,e'⟩:y.length<=sizeLine/\n=y.length:=e
  subst e'
  exact len_str (by omega) ⟨.int _,H,I.tok _,⟨_,rfl⟩,q⟩
 |wz y =>
  obtain⟨t,rfl⟩:=rx
  obtain⟨hy,e'⟩:y.size<=sizeLine/\n=y.size:=e
  subst e'
  exact PySem.W.len_bytes (by omega) ⟨.int _,H,I.tok _,⟨_,rfl⟩,q⟩
 |ref p =>
  cases rx
  have e':(∃xs,cu X.K H p xs/\n=xs.length)\/∃xs,iM X.K H p xs/\n=xs.length:=e
  rcases e' with⟨xs,hx,e'⟩|⟨xs,hx,e'⟩
  ·subst e'
   obtain⟨its,r',pl,hz⟩:=I.list hx
   have hlen:=r'.length
   exact Calls.call_len_list pl.isList (by simp only[List.size_toArray];omega) ⟨.int xs.length,H,I.tok _,⟨_,by simp only[List.size_toArray];rw[hlen]⟩,q⟩
  ·subst e'
   obtain⟨its,r',pl,hz⟩:=I.tuple hx
   have hlen:=r'.length
   exact len_tuple pl (by simp only[List.size_toArray];omega) ⟨.int xs.length,H,I.tok _,⟨_,by simp only[List.size_toArray];rw[hlen]⟩,q⟩
 |_=>exact(show False from e).elim
end
structure uz (h:Heap) (x dx C:Addr) (mA:Str->Option Value):Prop where
 obj:h.get? x=some (instObj C dx)
 ns:h.Ns1 dx mA
 ne:dx≠x
theorem Aj {h:Heap}{dx:Addr}{mA:Str->Option Value}(n:h.Ns1 dx mA):∃od,h.get? dx=some od/\∀name,lookIn name od=some (mA name):=by
 obtain⟨o,es,ep,ho,hd,hk,_,hm⟩:=n
 refine⟨o,ho,λname=>?_⟩
 have e:=hm name
 unfold nsFind findBy at e
 rw[<- Array.find?_toList] at e
 unfold lookIn
 rw[hd]
 dsimp only
 split
 ·rename_i y q
  rw[q] at e
  exact congrArg some e
 ·rename_i q
  rw[q] at e
  have a:es.toList.any (·.refKey)=false:=by
   rw[List.any_eq_false]
   intro y hy
   obtain⟨z,t,hkey⟩:=hk y (Array.mem_toList_iff.mp hy)
   simp[DictEntry.refKey,hkey]
  have a':¬ es.toList.any (·.refKey)=true:=by rw[a];exact Bool.false_ne_true
  rw[if_neg a']
  exact congrArg some e
theorem uz.look {h:Heap}{x dx C:Addr}{mA:Str->Option Value}(I:uz h x dx C mA):∃od,PySem.W.InstAt h x (instObj C dx) C (some od)/\∀name,lookIn name od=some (mA name) :=
 let ⟨od,ho,hl⟩:=Aj I.ns
 ⟨od,⟨I.obj,rfl,rfl,ho⟩,hl⟩
section
variable {prog:Program}{w:World}{A:Around}{E:Value->Shared->Prop}{s:Shared}{K:PySem.W.Frag}{x dx C f:Addr}{mA:Str->Option Value}{name:Str}{v:Value}
theorem get_map {expr:Bool}{Q:Value->Shared->Prop}(X:K.In s.heap)(I:uz s.heap x dx C mA)(hg:plainGet K C name=true)(hh:hasDictIn K C=true)
  (ha:findIn K (.ref C) name=some none)(hv:mA name=some v)(hv':PySem.W.handedIn v=true)(h:Q v { s with toks:=s.toks+1 }) :
  wpAny (model prog w) A (getAttr (.ref x) name expr) Q E s:=by
 obtain⟨od,J,hl⟩:=I.look
 exact PySem.W.get_value X J (plainGet_of hg).1 (PySem.W.findObj_own hh ha rfl (by rw[hl,hv])) hv' h
theorem B_ {pl:Sem Bool}{Q:Value × List Value->Shared->Prop}(X:K.In s.heap)(I:uz s.heap x dx C mA)(hg:plainGet K C name=true)
  (hf:findIn K (.ref C) name=some (some (.ref f)))(ht:isFn K (.ref f)=true)(hv:mA name=none)(h:Q (.ref f,[.ref x]) s) :
  wpAny (model prog w) A (getMethod (.ref x) name pl) Q E s:=by
 obtain⟨od,J,hl⟩:=I.look
 exact PySem.W.method_fn X J (plainGet_of hg).1 (plainGet_of hg).2 hf (beq_iff_eq.mp ht) (by show(lookIn name od).map (·.isSome)=some false;rw[hl,hv];rfl) h
theorem F8 {ns:List Str}{Q:Unit->Shared->Prop}(X:K.In s.heap)(I:uz s.heap x dx C mA)
  (hs:findIn K (.ref C) "__setattr__"=some (some (.builtin "object.__setattr__")))(hp:plainOver K C=true)(ht:takerIn K C name=some none)(hh:hasDictIn K C=true)
  (hw:PySem.Within mA ns)(hsz:ns.length<=sizeLine)
  (h:∀h',uz h' x dx C (λy=>if y=name then some v else mA y)->Heap.SameBut dx s.heap h'->Q () { s with heap:=h',toks:=s.toks+2 }) :
  wpAny (model prog w) A (setAttr (.ref x) name v) Q E s:=by
 obtain⟨od,J,hl⟩:=I.look
 refine PySem.W.set_plain X J hs (PySem.W.osa_open (s:={ s with toks:=s.toks+1 }) (r:=none) X J hp ht λb=>?_)
 obtain⟨cd,hc,hd'⟩:=PySem.W.any_some hh
 have hx:s.heap.get? x=some ⟨.ref C,some dx,.plain,#[]⟩:=I.obj
 refine wpAny_bind (wpAny_pure (wpAny_bind (wpAny_bind (wpAny_loadPart hx (wpAny_bind (PySem.W.Looks.here (s:={ s with toks:=s.toks+1 }) (PySem.W.looks_clsIn X hc) ?_))))))
 rw[hd']
 refine wpAny_pure (a:=some dx) (wpAny_bind (wpAny_pure (wpAny_bind ?_)))
 refine wpAny_nsSet1 (s:={ s with toks:=s.toks+1 }) I.ns λh' hn2 hs2=>?_
 obtain⟨oD,esD,epD,hoD,hdD,hcD⟩:=hn2.count (PySem.Within.cons name v hw)
 refine wpAny_bind (wpAny_lookBehind hoD (by rw[hdD];exact pastItsLine_dict (Nat.le_trans hcD (by rw[List.length_cons];omega))) ?_)
 exact wpAny_pure (h _ ⟨(hs2.2 _ (Ne.symm I.ne)).trans I.obj,hn2,I.ne⟩ hs2)
theorem Cd {R:Result->Shared->Prop}{vs:List Value}{kw:List (Str × Value)}(X:K.In s.heap)(hm:makesIn K C=true)
  (hi:findIn K (.ref C) "__init__"=some (some (.ref f)))(hf:PySem.W.typeIn K (.ref f)=some (.type "function"))
  (h:codeAny (model prog w) (A.under (.builtin "type.__call__" ⟨.ref C::vs,kw⟩)) (.call (.ref f) ⟨.ref (s.heap.objs.size+1)::vs,kw⟩) (PySem.W.InitBack (s.heap.objs.size+1) R)
   { s with heap:=(s.heap.push emptyDict).push (instObj C s.heap.objs.size)}) :
  codeAny (model prog w) A (.call (.ref C) ⟨vs,kw⟩) R s:=by
 obtain⟨hh,g,d,t,os⟩:=s
 exact PySem.W.make_core (PySem.W.makes_of X hm) (PySem.W.looks_findIn X hi) (λself=>PySem.W.bind_fn X self hf) (.inl rfl) h
end
def ig (f:Str)(v:V):List (Str × V)->List (Str × V)
 |[]=>[(f,v)]
 | (g,x)::r=>if g=f then(g,v)::r else(g,x)::ig f v r
theorem pC (f g:Str)(v:V):∀fs:List (Str × V),(ig f v fs).lookup g=if g=f then some v else fs.lookup g
 |[]=>by
  show List.lookup g [(f,v)]=_
  by_cases h:g=f
  ·have hb:(g == f)=true:=beq_iff_eq.mpr h
   simp only[List.lookup,hb,if_pos h]
  ·have hb:(g == f)=false:=beq_eq_false_iff_ne.mpr h
   simp only[List.lookup,hb,if_neg h]
 | (k,x)::r=>by
  have ih:=pC f g v r
  rw[show ig f v ((k,x)::r)=(if k=f then(k,v)::r else(k,x)::ig f v r) from rfl]
  by_cases hk:k=f
  ·rw[if_pos hk]
   by_cases h:g=k
   ·have hb:(g == k)=true:=beq_iff_eq.mpr h
    simp only[List.lookup,hb,if_pos (h.trans hk)]
   ·have hb:(g == k)=false:=beq_eq_false_iff_ne.mpr h
    simp only[List.lookup,hb,if_neg (λe:g=f=>h (e.trans hk.symm))]
  ·rw[if_neg hk]
   by_cases h:g=k
   ·have hb:(g == k)=true:=beq_iff_eq.mpr h
    simp only[List.lookup,hb,if_neg (λe:g=f=>hk (h.symm.trans e))]
   ·have hb:(g == k)=false:=beq_eq_false_iff_ne.mpr h
    simp only[List.lookup,hb]
    exact ih
theorem oH (f:Str)(v:V):∀fs:List (Str × V),f∈(ig f v fs).map (·.1)/\∀g,g∈fs.map (·.1)->g∈(ig f v fs).map (·.1)
 |[]=>⟨by simp[ig],λg h=>by simp at h⟩
 | (k,x)::r=>by
  obtain⟨i1,i2⟩:=oH f v r
  rw[show ig f v ((k,x)::r)=(if k=f then(k,v)::r else(k,x)::ig f v r) from rfl]
  by_cases hk:k=f
  ·rw[if_pos hk]
   subst hk
   exact⟨by simp,λg h=>by simpa using h⟩
  ·rw[if_neg hk]
   refine⟨?_,λg h=>?_⟩
   ·rw[List.map_cons]
    exact List.mem_cons_of_mem _ i1
   ·rw[List.map_cons] at h ⊢
    rcases List.mem_cons.mp h with e|e
    ·exact List.mem_cons.mpr (.inl e)
    ·exact List.mem_cons_of_mem _ (i2 g e)
theorem pA (f:Str)(v:V):∀fs:List (Str × V),(ig f v fs).length<=fs.length+1
 |[]=>by simp[ig]
 | (k,x)::r=>by
  have ih:=pA f v r
  rw[show ig f v ((k,x)::r)=(if k=f then(k,v)::r else(k,x)::ig f v r) from rfl]
  by_cases hk:k=f
  ·rw[if_pos hk,List.length_cons,List.length_cons];omega
  ·rw[if_neg hk,List.length_cons,List.length_cons];omega
theorem jD.some_of {v:V}{o:Option Value}(r:jD (some v) o):∃u,o=some u/\RelV v u:=by
 cases o with
 |none=>exact(show False from r).elim
 |some u=>exact⟨u,rfl,r⟩
theorem jD.none_of {o:Option Value}(r:jD none o):o=none:=by
 cases o with
 |none=>rfl
 |some u=>exact(show False from r).elim
theorem AU {v:V}{u:Value}(r:RelV v u):PySem.W.handedIn u=true:=by
 cases v with
 |ak=>cases(show u=Value.none from r);rfl
 |bl b=>cases(show u=Value.bool b from r);rfl
 |int i=>obtain⟨t,e⟩:=(show ∃t,u=Value.int i t from r);cases e;rfl
 |str x=>obtain⟨t,e⟩:=(show ∃t,u=Value.str x t from r);cases e;rfl
 |wz b=>obtain⟨t,e⟩:=(show ∃t,u=Value.bytes b t from r);cases e;rfl
 |Ly b=>obtain⟨t,e⟩:=(show ∃t,u=Value.float b t from r);cases e;rfl
 |ref a=>cases(show u=Value.ref a from r);rfl
 |ty n=>cases(show u=Value.type n from r);rfl
section
variable {P:Program}{w:World}{H H':Hp}{h h':Heap}{a C dx:Addr}{fs fs':List (Str × V)}
theorem Er (bW:ki P w H h)(e:H a=some (.ins C dx fs)):∃mA,uz h a dx C mA/\(∀f,jD (fs.lookup f) (mA f))/\PySem.Within mA (fs.map (·.1))/\fs.length<=1000/\H dx=some (.own a):=by
 obtain⟨d,z,ne,ob,mA,n,r,q⟩:=(show bJ P w H h a (.ins C dx fs) from bW a _ e)
 exact⟨mA,⟨ob,n,ne⟩,r,q,z,d⟩
end
structure rE (K:PySem.W.Frag) (C:Addr):Prop where
 pg:plainGet K C Str.empty=true
 hd:hasDictIn K C=true
 po:plainOver K C=true
 sa:findIn K (.ref C) "__setattr__"=some (some (.builtin "object.__setattr__"))
theorem rE.get {K:PySem.W.Frag}{C:Addr}(c:rE K C)(f:Str):plainGet K C f=true:=c.pg
def dE (K:PySem.W.Frag)(C:Addr)(f:Str):Prop:=findIn K (.ref C) f=some none
theorem dE.Ll {K:PySem.W.Frag}{C:Addr}{f:Str}(n:dE K C f):takerIn K C f=some none:=by
 unfold takerIn
 rw[show findIn K (.ref C) f=some none from n]
 rfl
structure Meth (K:PySem.W.Frag) (C:Addr) (m:Str) (f:Addr):Prop where
 at_:findIn K (.ref C) m=some (some (.ref f))
 fn:isFn K (.ref f)=true
 kp:keepIn K (.ref f)=true
section
variable {X:Cx}{pins:List (Addr × Obj)}{σ:St}{H:Hp}{s:Shared}{a C dx:Addr}{fs:List (Str × V)}{f:Str}{v:V}{A:Around}{E:Value->Shared->Prop}
theorem yT {y:V}{u:Value}{Q:Unit->Shared->Prop}(I:Inv X pins σ H s)(e:H a=some (.ins C dx fs))(c:rE X.K C)(n:dE X.K C f)(hl:fs.length<1000)(ry:RelV y u)
  (h:∀s',Inv X pins σ (upd H a (.ins C dx (ig f y fs))) s'->Q () s'):wpAny (model X.prog X.w) A (setAttr (.ref a) f u) Q E s:=by
 obtain⟨mA,O,r,wi,_,ho⟩:=Er I.bW e
 have hz:(fs.map (·.1)).length<=sizeLine:=by rw[List.length_map,sizeLine_eq];omega
 refine F8 I.uu O c.sa c.po n.Ll c.hd wi hz λh' O' sb=>h _ ?_
 have hd:∃o,h'.get? dx=some o:=let ⟨o,_,_,e',_⟩:=O'.ns;⟨o,e'⟩
 refine I.write (x:=a) (e:=dx) (by rw[e];exact True.intro) (.inr ho) (λb q hb z=>(sb.2 b hb).trans z) hd ?_
 refine⟨by rw[aI O.ne];exact ho,?_,O.ne,O'.obj,_,O'.ns,λg=>?_,λg hg=>?_⟩
 ·have:=pA f y fs;omega
 ·show jD ((ig f y fs).lookup g) (if g=f then some u else mA g)
  rw[pC]
  by_cases q:g=f
  ·rw[if_pos q,if_pos q];exact ry
  ·rw[if_neg q,if_neg q];exact r g
 ·by_cases q:g=f
  ·rw[q];exact(oH f y fs).1
  ·refine(oH f y fs).2 g (wi g λz=>hg ?_)
   show(if g=f then some u else mA g)=none
   rw[if_neg q];exact z
theorem Inv.made (I:Inv X pins σ H s):Inv X pins σ (upd (upd H s.heap.objs.size (.own (s.heap.objs.size+1))) (s.heap.objs.size+1) (.ins C s.heap.objs.size []))
  { s with heap:=(s.heap.push emptyDict).push (instObj C s.heap.objs.size)}:=by
 have e1:(s.heap.push emptyDict).get? s.heap.objs.size=some emptyDict:=Heap.get?_push_size s.heap rfl
 have e2:((s.heap.push emptyDict).push (instObj C s.heap.objs.size)).get? (s.heap.objs.size+1)=some (instObj C s.heap.objs.size):=by
  have:=Heap.get?_push_size (s.heap.push emptyDict) (o:=instObj C s.heap.objs.size) rfl
  rwa [Heap.size_push] at this
 have e3:(s.heap.push emptyDict).Ns s.heap.objs.size (λ_=>none):=⟨emptyDict,#[],_,e1,rfl,(λe he=>absurd he (by simp)),λ_=>rfl⟩
 have I1:=I.laid (a:=s.heap.objs.size) (o:=.own (s.heap.objs.size+1)) (h':=s.heap.push emptyDict) (t':=s.toks) (λb u q=>Heap.get?_push_of_some _ q) (Nat.le_refl _) ⟨_,e1⟩
 refine I1.laid (a:=s.heap.objs.size+1) (o:=.ins C s.heap.objs.size []) (t':=s.toks) (λb u q=>Heap.get?_push_of_some _ q) (Nat.le_of_eq (Heap.size_push _ _)) ?_
 have ne:s.heap.objs.size≠s.heap.objs.size+1:=Nat.ne_of_lt (Nat.lt_succ_self _)
 refine⟨by rw[aI ne,aJ],Nat.zero_le _,ne,e2,λ_=>none,(Heap.Ns1.of_empty e3).at λo q=>Heap.get?_push_of_some _ q,λ_=>True.intro,λy hy=>absurd rfl hy⟩
theorem EM {prog:Program}{w:World}{env:Env}{e:Expr}{f:Str}{pos:Pos}{s:Shared}{Q:Value->Shared->Prop}(hb:attributeBase e f env (eval e env)=eval e env)
  (h:wpAny (model prog w) A (eval e env) (λo s₁=>wpAny (model prog w) A (getAttr o f true) Q E s₁) E s):wpAny (model prog w) A (eval (.Attribute e f pos) env) Q E s :=
 Attribute_any_ h (by rw[arm_eval_Attribute,hb])
end
def M6 (K:PySem.W.Frag)(ta tv:TE)(f:Str):TS:=λD σ H=>tv σ H λy H1=>ta σ H1 λx H2=>∃a C dx fs,x=.ref a/\H2 a=some (.ins C dx fs)/\rE K C/\dE K C f/\fs.length<1000 /\
 D.nx σ (upd H2 a (.ins C dx (ig f y fs)))
section
variable {X:Cx}{o e value:Expr}{f:Str}{pos pos' tpos:Pos}{ta tv:TE}
theorem JO (ha:PE X o ta)(hv:PE X value tv)(hs:swapsWith value (some (.Attribute o f pos')) pos.line X.env=pure false):PS X (.Assign [.Attribute o f pos'] value pos) (M6 X.K ta tv f):=by
 intro pins s σ H D I h
 refine plainObj_wpAny_Assign_Attribute (b6 (hv pins s σ H _ I h) λu s1 ⟨y,H1,I1,ry,q⟩=>b6 (ha pins s1 σ H1 _ I1 q) λov s2 ⟨x,H2,I2,rx,a,C,dx,fs,ex,ea,c,n,l,q2⟩=>?_) hs
 subst ex
 obtain rfl:ov=Value.ref a:=rx
 exact yT I2 ea c n l ry λs3 I3=>⟨σ,_,I3,q2⟩
end
section
variable {X:Cx}{pins:List (Addr × Obj)}{σ:St}{H:Hp}{s:Shared}{A:Around}{E:Value->Shared->Prop}{Q:Value->Shared->Prop}{c:Value}{b:Bool}
end
structure cH (k:Nat) (A:Around):Prop where
 hd:A.handled=none
 dp:A.depth+3*k+5<recursionLimit
 un:A.units+16*k+200<cLine
theorem cH.mono {j k:Nat}{A:Around}(r:cH k A)(h:j<=k):cH j A:=⟨r.hd,by have:=r.dp;omega,by have:=r.un;omega⟩
theorem cH.deeper {k:Nat}{A:Around}(r:cH (k+1) A)(env:Env):cH k (A.deeper env) :=
 ⟨r.hd,by have:=r.dp;show A.depth+1+3*k+5<_;omega,by have:=r.un;show A.units+3+16*k+200<_;omega⟩
theorem xh {A:Around}{C:Addr}{us:List Value}{kw:List (Str × Value)}:(A.under (.builtin "type.__call__" ⟨.ref C::us,kw⟩)).depth=A.depth+1:=by
 first|rfl|simp[Around.under,Code.weight,Code.isCreation,Code.isGuard,Code.isCaller,Code.frames,Code.isFrame,guardIds]
theorem xi {A:Around}{C:Addr}{us:List Value}{kw:List (Str × Value)}:(A.under (.builtin "type.__call__" ⟨.ref C::us,kw⟩)).units=A.units+1:=by
 first|rfl|simp[Around.under,Code.cUnits,Code.frames,Code.isFrame]
theorem cH.make {k:Nat}{A:Around}(r:cH (k+1) A)(C:Addr)(us:List Value)(kw:List (Str × Value)):cH k (A.under (.builtin "type.__call__" ⟨.ref C::us,kw⟩)) :=
 ⟨r.hd,by have:=r.dp;rw[xh];omega,by have:=r.un;rw[xi];omega⟩
theorem cH.depth {k:Nat}{A:Around}(r:cH k A):A.depth<recursionLimit:=by have:=r.dp;omega
theorem cH.units {k:Nat}{A:Around}(r:cH k A):A.units+64<cLine:=by have:=r.un;omega
def GF:TA:=λ_ H Q=>Q [] H
def zw (ta:TE)(tr:TA):TA:=λσ H Q=>ta σ H λx H1=>tr σ H1 λxs H2=>Q (x::xs) H2
section
variable {X:Cx}{e:Expr}{es:List Expr}{te:TE}{t:TA}{pos:Pos}
theorem ic:PA X [] GF:=λ_ _ _ _ H Q I h=>Calls.spliced_nil ⟨[],H,I,.nil,h⟩
theorem eA (ha:PE X e te)(hr:PA X es t)(hs:starEach (e::es) X.env=(false,eval e X.env)::starEach es X.env:=by rfl):PA X (e::es) (zw te t):=by
 intro pos pins s σ H Q I h
 rw[hs]
 show wpAny _ _ (spliced ((false,eval e X.env)::backTo pos (starEach es X.env))) _ _ s
 refine Calls.spliced_cons (b6 (ha pins s σ H _ I h) λu s1 ⟨x,H1,I1,r1,q1⟩=>?_)
 exact b6 (hr pos pins s1 σ H1 _ I1 q1) λus s2 ⟨xs,H2,I2,r2,q2⟩=>⟨x::xs,H2,I2,.cons r1 r2,q2⟩
def NI (t:TA):TE:=λσ H Q=>t σ H λxs H1=>xs.length<=sizeLine/\∀p,H1 p=none->Q (.ref p) (upd H1 p (.tup xs))
def NC (t:TA):TE:=λσ H Q=>t σ H λxs H1=>xs.length<=sizeLine/\∀p,H1 p=none->Q (.ref p) (upd H1 p (.lst xs))
theorem JL {x1}(h:PA X es t):PE X (.Tuple es x1 pos) (NI t):=by
 intro pins s σ H Q I hq
 refine wpAny_Tuple_spliced (b6 (h pos pins s σ H _ I hq) λus s1 ⟨xs,H1,I1,r,z,q⟩=>⟨by rw[<- r.length];exact z,?_⟩)
 have hf:H1 s1.heap.objs.size=none:=I1.bW.fresh (Nat.le_refl _)
 refine⟨.ref s1.heap.objs.size,upd H1 s1.heap.objs.size (.tup xs),I1.laid (t':=s1.toks) (λb u e=>Heap.get?_push_of_some _ e) (Nat.le_refl _) ?_,rfl,q _ hf⟩
 exact⟨z,us,r,⟨_,Heap.get?_push_size _ rfl,rfl,_,rfl⟩⟩
theorem yF (h:PA X es t):PE X (.List es pos) (NC t):=by
 intro pins s σ H Q I hq
 refine wpAny_List_spliced (b6 (h pos pins s σ H _ I hq) λus s1 ⟨xs,H1,I1,r,z,q⟩=>⟨by rw[<- r.length];exact z,?_⟩)
 have hf:H1 s1.heap.objs.size=none:=I1.bW.fresh (Nat.le_refl _)
 refine⟨.ref s1.heap.objs.size,upd H1 s1.heap.objs.size (.lst xs),I1.laid (t':=s1.toks) (λb u e=>Heap.get?_push_of_some _ e) (Nat.le_refl _) ?_,rfl,q _ hf⟩
 exact⟨z,us,0,r,Heap.get?_push_size _ rfl⟩
end
abbrev Sp:=List V->Hp->VK->XK->Prop
abbrev yg:=List Env->Hp->Shared->XK->Value->Shared->Prop
structure w_ (P:Program) (w:World) (K:PySem.W.Frag) (mg:Str->Option Value) (base:Heap) (A:Around) (outer:List Env) (s:Shared) (H:Hp):Prop where
 frames:A.frames=some outer
 mod:Mod K mg base
 bs:∀b o,base.get? b=some o->s.heap.get? b=some o/\H b=none
 Gg:base.objs.size<=s.heap.objs.size
 n_:s.heap.FunFrames base outer
 Gs:∀b∈B9 outer,H b=none
 bW:ki P w H s.heap
 bare:AllBare s.gens
def CE (outer:List Env)(P:Program)(w:World)(H:Hp)(s:Shared)(Q:VK)(u:Value)(s':Shared):Prop :=
 ∃v H',s'.os=s.os/\AllBare s'.gens/\Un (B9 outer) [] H H' s.heap s'.heap/\ki P w H' s'.heap/\RelV v u/\Q v H'
def CR (CX:yg)(outer:List Env)(P:Program)(w:World)(H:Hp)(s:Shared)(Q:VK)(E:XK)(r:Result)(s':Shared):Prop :=
 match r with
 |.ok (.ret u)=>CE outer P w H s Q u s'
 |.ok _=>False
 |.error e=>CX outer H s E e s'
structure cP (P:Program) (w:World) (K:PySem.W.Frag) (mg:Str->Option Value) (base:Heap) (CX:yg) (k:Nat) (f:Addr) (fd:FuncData) (ps:List Str) (sp:Sp):Prop where
 len:∀vs H Q E,sp vs H Q E->vs.length=ps.length
 run:∀(A:Around) (outer:List Env) (s:Shared) (H:Hp) (args:Args) (us:List Value) (vs:List V) (Q:VK) (E:XK),cH k A->w_ P w K mg base A outer s H->BindsTo s fd args (ps.zip us)->Vals vs us->sp vs H Q E ->
  codeAny (model P w) A (.call (.ref f) args) (CR CX outer P w H s Q E) s
theorem cP.mono {P:Program}{w:World}{K:PySem.W.Frag}{mg:Str->Option Value}{base:Heap}{CX:yg}{j k:Nat}{f:Addr}{fd:FuncData}{ps:List Str}{sp:Sp}(F:cP P w K mg base CX j f fd ps sp)(h:j<=k) :
  cP P w K mg base CX k f fd ps sp:=⟨F.len,λA outer s H args us vs Q E hr=>F.run A outer s H args us vs Q E (hr.mono h)⟩
theorem cP.imp {P:Program}{w:World}{K:PySem.W.Frag}{mg:Str->Option Value}{base:Heap}{CX:yg}{k:Nat}{f:Addr}{fd:FuncData}{ps:List Str}{sp sp':Sp}(F:cP P w K mg base CX k f fd ps sp)
  (h:∀vs H Q E,sp' vs H Q E->sp vs H Q E):cP P w K mg base CX k f fd ps sp' :=
 ⟨λvs H Q E q=>F.len vs H Q E (h _ _ _ _ q),λA outer s H args us vs Q E hr he hb hv hs=>F.run A outer s H args us vs Q E hr he hb hv (h _ _ _ _ hs)⟩
theorem w_.make {P:Program}{w:World}{K:PySem.W.Frag}{mg:Str->Option Value}{base:Heap}{A:Around}{outer:List Env}{s:Shared}{H:Hp}(e:w_ P w K mg base A outer s H)(C:Addr)(us:List Value)(kw:List (Str × Value)) :
  w_ P w K mg base (A.under (.builtin "type.__call__" ⟨.ref C::us,kw⟩)) outer s H:=⟨by first|exact e.frames|(simpa [Around.under,Code.envs,Code.isFrame,pushEnvs] using e.frames),e.mod,e.bs,e.Gg,e.n_,e.Gs,e.bW,e.bare⟩
section
variable {X:Cx}{pins:List (Addr × Obj)}{σ:St}{H:Hp}{s s':Shared}
theorem Inv.KO (I:Inv X pins σ H s):w_ X.prog X.w X.K X.mg X.base X.A X.stack s H :=
 ⟨I.ok.frames,I.ok.mod,I.bs,Nat.le_trans I.ok.Gg I.sz,I.stack,I.zu,I.bW,I.bare⟩
theorem Inv.after {Q:VK}{u:Value}(I:Inv X pins σ H s)(h:CE X.stack X.prog X.w H s Q u s'):EP X pins σ Q u s':=by
 obtain⟨v,H',os,bare,un,bW,r,q⟩:=h
 obtain⟨hh,g,d,t,os'⟩:=s'
 obtain rfl:os'=s.os:=os
 exact⟨v,H',I.call (h':=hh) (g':=g) (d':=d) (t':=t) (ch:=[]) un bW bare (λb z=>absurd z (by simp)),r,q⟩
end
def HI (sp:Sp)(dvs:List V)(E:XK)(t:TA):TE:=λσ H Q=>t σ H λvs H1=>sp (vs++dvs) H1 Q E
def Li (C:Addr)(sp:Sp)(dvs:List V)(E:XK)(t:TA):TE:=λσ H Q=>t σ H λvs H1=>∀x dx,H1 x=none->H1 dx=none->dx≠x ->
 sp (.ref x::(vs++dvs)) (upd (upd H1 dx (.own x)) x (.ins C dx [])) (λv H2=>v=.ak/\Q (.ref x) H2) E
def Binds (K:PySem.W.Frag)(fd:FuncData)(ps:List Str)(ds:List Value):Prop :=
 ∀(s:Shared) (us:List Value),K.In s.heap->(us++ds).length=ps.length->BindsTo s fd ⟨us,[]⟩ (ps.zip (us++ds))
theorem Binds.all {K:PySem.W.Frag}{fd:FuncData}{ps:List Str}(h:∀us:List Value,us.length=ps.length->bindArgs fd ⟨us,[]⟩=pure (ps.zip us)):Binds K fd ps []:=λs us _ hl=>by
 rw[List.append_nil] at hl ⊢
 exact .of_eq (h us hl)
def Passes (CX:yg)(X:Cx)(E:XK):Prop:=∀(pins:List (Addr × Obj)) (σ:St) (H:Hp) (s:Shared) (e:Value) (s':Shared),Inv X pins σ H s->CX X.stack H s E e s'->X.xe e s'
section
variable {X:Cx}{CX:yg}{k:Nat}{f C:Addr}{fd:FuncData}{ps:List Str}{sp:Sp}{dvs:List V}{ds:List Value}{E:XK}{x m:Str}{p pos apos:Pos}{e o:Expr}{es:List Expr}{ta:TE}{t:TA}
theorem yN {pins:List (Addr × Obj)}{σ:St}{H:Hp}{s:Shared}{Q:VK}{us:List Value}{vs:List V}(F:cP X.prog X.w X.K X.mg X.base CX k f fd ps sp)(hr:cH k X.A)(hb:Binds X.K fd ps ds)(hd:Vals dvs ds)(hx:Passes CX X E)
  (I:Inv X pins σ H s)(r:Vals vs us)(h:sp (vs++dvs) H Q E):wpAny (model X.prog X.w) X.A (call (.ref f) us) (EP X pins σ Q) X.xe s:=by
 have r2:Vals (vs++dvs) (us++ds):=r.append hd
 have hl:(us++ds).length=ps.length:=by rw[<- r2.length];exact F.len _ _ _ _ h
 refine wpAny_call (codeAny_mono (F.run X.A X.stack s H ⟨us,[]⟩ (us++ds) (vs++dvs) Q E hr I.KO (hb s us I.uu hl) r2 h) λr s' hq=>?_)
 cases r with
 |error e=>exact hx pins σ H s e s' I hq
 |ok fl =>
  cases fl with
  |ret u=>exact I.after hq
  |next=>exact False.elim hq
  |brk=>exact False.elim hq
  |cont=>exact False.elim hq
theorem uM (F:cP X.prog X.w X.K X.mg X.base CX k f fd ps sp)(hr:cH k X.A)(hg:Gl X x)(hm:X.mg x=some (.ref f))(hk:keepIn X.K (.ref f)=true)(hb:Binds X.K fd ps ds)(hd:Vals dvs ds)(hx:Passes CX X E)
  (ha:PA X (e::es) t)(hdb:(x == ("__debug__":Str))=false:=by decide)(he:starEach (e::es) X.env=(false,eval e X.env)::starEach es X.env:=by rfl)(hpl:(backTo pos (starEach es X.env)).any (·.1)=false:=by rfl) :
  PE X (.Call (.Name x p) (e::es) [] pos) (HI sp dvs E t):=by
 intro pins s σ H Q I h
 refine wpAny_Call_Name_kw (uF I hg hm ?_ hdb)
 refine PySem.W.callWith_K (h₀:=X.base) I.ok.mod.L0 hk (b6 (ha pos pins s σ H _ I h) λus s1 ⟨vs,H1,I1,r,q⟩=>⟨I1.uu,?_⟩) he hpl
 exact yN F hr hb hd hx I1 r q
structure Mk (K:PySem.W.Frag) (C f:Addr):Prop where
 makes:makesIn K C=true
 init:findIn K (.ref C) "__init__"=some (some (.ref f))
 fn:isFn K (.ref f)=true
 kp:keepIn K (.ref C)=true
theorem DQ {pins:List (Addr × Obj)}{σ:St}{H:Hp}{s:Shared}{Q:VK}{us:List Value}{vs:List V}(M:Mk X.K C f)(F:cP X.prog X.w X.K X.mg X.base CX k f fd ps sp)(hr:cH (k+1) X.A)(hb:Binds X.K fd ps ds)(hd:Vals dvs ds)
  (hx:Passes CX X E)(I:Inv X pins σ H s)(r:Vals vs us)
  (h:∀x dx,H x=none->H dx=none->dx≠x->sp (.ref x::(vs++dvs)) (upd (upd H dx (.own x)) x (.ins C dx [])) (λv H2=>v=.ak/\Q (.ref x) H2) E) :
  wpAny (model X.prog X.w) X.A (call (.ref C) us) (EP X pins σ Q) X.xe s:=by
 have hq:=h (s.heap.objs.size+1) s.heap.objs.size (I.bW.fresh (Nat.le_succ _)) (I.bW.fresh (Nat.le_refl _)) (Nat.ne_of_lt (Nat.lt_succ_self _))
 have I2:=Inv.made (C:=C) I
 have r2:Vals (V.ref (s.heap.objs.size+1)::(vs++dvs)) (Value.ref (s.heap.objs.size+1)::(us++ds)):=.cons rfl (r.append hd)
 have hl:(Value.ref (s.heap.objs.size+1)::us++ds).length=ps.length:=by
  have e:=r2.length
  rw[F.len _ _ _ _ hq] at e
  exact e.symm
 refine wpAny_call (Cd (f:=f) I.uu M.makes M.init (beq_iff_eq.mp M.fn) (codeAny_mono (F.run _ X.stack _ _ ⟨Value.ref (s.heap.objs.size+1)::us,[]⟩ (Value.ref (s.heap.objs.size+1)::(us++ds)) _ _ E (hr.make C us [])
  (I2.KO.make C us []) (hb _ (Value.ref (s.heap.objs.size+1)::us) I2.uu hl) r2 hq) λr s' hq'=>?_))
 cases r with
 |error e=>exact hx pins σ _ _ e s' I2 hq'
 |ok fl =>
  cases fl with
  |ret u =>
   obtain⟨v,H',I3,rv,ev,q3⟩:=I2.after hq'
   subst ev
   exact⟨rv,⟨V.ref (s.heap.objs.size+1),H',I3,rfl,q3⟩⟩
  |next=>exact False.elim hq'
  |brk=>exact False.elim hq'
  |cont=>exact False.elim hq'
theorem Fm (M:Mk X.K C f)(F:cP X.prog X.w X.K X.mg X.base CX k f fd ps sp)(hr:cH (k+1) X.A)(hg:Gl X x)(hm:X.mg x=some (.ref C))(hb:Binds X.K fd ps ds)(hd:Vals dvs ds)(hx:Passes CX X E)
  (ha:PA X (e::es) t)(hdb:(x == ("__debug__":Str))=false:=by decide)(he:starEach (e::es) X.env=(false,eval e X.env)::starEach es X.env:=by rfl)(hpl:(backTo pos (starEach es X.env)).any (·.1)=false:=by rfl) :
  PE X (.Call (.Name x p) (e::es) [] pos) (Li C sp dvs E t):=by
 intro pins s σ H Q I h
 refine wpAny_Call_Name_kw (uF I hg hm ?_ hdb)
 refine PySem.W.callWith_K (h₀:=X.base) I.ok.mod.L0 M.kp (b6 (ha pos pins s σ H _ I h) λus s1 ⟨vs,H1,I1,r,q⟩=>⟨I1.uu,?_⟩) he hpl
 exact DQ M F hr hb hd hx I1 r q
end
def PK (X:Cx)(kws:List Keyword)(t:TA):Prop :=
 ∀(pos:Pos) (pins:List (Addr × Obj)) (s:Shared) (σ:St) (H:Hp) (Q:List V->Hp->Prop),Inv X pins σ H s->t σ H Q->wpAny (model X.prog X.w) X.A (evalAll ((backToKw pos (keywordEach kws X.env)).map (·.2))) (AP X pins σ Q) X.xe s
section
variable {X:Cx}{CX:yg}{k:Nat}{f C:Addr}{fd:FuncData}{ps ks:List Str}{sp:Sp}{E:XK}{x m:Str}{p pos apos kpos:Pos}{e o:Expr}{es:List Expr}{kws:List Keyword}{te ta:TE}{t tk:TA}{nm:Option Str}
theorem JN:PK X [] GF:=λ_ _ _ _ H Q I h=>wpAny_evalAll_nil ⟨[],H,I,.nil,h⟩
theorem Fp (ha:PE X e te)(hr:PK X kws t):PK X (⟨nm,e,kpos⟩::kws) (zw te t):=by
 intro pos pins s σ H Q I h
 show wpAny _ _ (evalAll ((do let v <- eval e X.env;standAt pos;pure v)::(backToKw pos (keywordEach kws X.env)).map (·.2))) _ _ s
 refine wpAny_evalAll_cons (wpAny_bind (b6 (ha pins s σ H _ I h) λu s1 ⟨x,H1,I1,r1,q1⟩=>wpAny_bind (wpAny_standAt (wpAny_pure ?_))))
 exact b6 (hr pos pins s1 σ H1 _ I1 q1) λus s2 ⟨xs,H2,I2,r2,q2⟩=>⟨x::xs,H2,I2,.cons r1 r2,q2⟩
variable {g:List Value->List Value->List Value}{gV:List V->List V->List V}
end
structure aE (N P:List Str) (sc:Scope):Prop where
 kind:sc.kind=.function
 co:sc.isCoroutine=false
 gen:sc.isGenerator=false
 nd:N.Nodup
 pre:N.take P.length=P
 par:∀x∈P,sc.names.lookup x=some .local\/sc.names.lookup x=some .cell
 Il:∀y∈sc.names,y.2≠.free
theorem rT {kindOf:Str->Option NameKind}{x:Str}:∀{binds:List (Str × Value)} {m:Str->Option Value},(∀v,(x,v)∉binds)->bindL kindOf binds m x=m x
 |[],_,_=>rfl
 | (n,v)::r,m,h=>by
  unfold bindL
  rw[rT λw hw=>h w (List.mem_cons_of_mem _ hw)]
  split
  ·have:x≠n:=by rintro rfl;exact h v List.mem_cons_self
   simp[this]
  ·rfl
theorem rR {kindOf:Str->Option NameKind}{x:Str}:∀{binds:List (Str × Value)} {m:Str->Option Value},(∀v,(x,v)∉binds)->bindC kindOf binds m x=m x
 |[],_,_=>rfl
 | (n,v)::r,m,h=>by
  unfold bindC
  rw[rR λw hw=>h w (List.mem_cons_of_mem _ hw)]
  split
  ·rfl
  ·have:x≠n:=by rintro rfl;exact h v List.mem_cons_self
   simp[this]
theorem rS {kindOf:Str->Option NameKind}{x:Str}{v:Value}:∀{P:List Str} {vs:List Value} {i:Nat} {m:Str->Option Value},P.Nodup->P[i]?=some x->vs[i]?=some v->kindOf x=some .local ->
  bindL kindOf (P.zip vs) m x=some v
 |[],_,_,_,_,h,_,_=>by simp at h
 |_::_,[],_,_,_,_,h,_=>by simp at h
 |p::P,w::vs,0,m,nd,h1,h2,hk=>by
  simp at h1 h2;subst h1;subst h2
  show bindL kindOf ((p,w)::P.zip vs) m p=_
  unfold bindL
  rw[rT λv hv=>(List.nodup_cons.mp nd).1 (List.of_mem_zip hv).1,if_pos hk]
  simp
 |p::P,w::vs,i+1,m,nd,h1,h2,hk=>by
  show bindL kindOf ((p,w)::P.zip vs) m x=_
  unfold bindL
  exact rS (i:=i) (List.nodup_cons.mp nd).2 (by simpa using h1) (by simpa using h2) hk
theorem rQ {kindOf:Str->Option NameKind}{x:Str}{v:Value}:∀{P:List Str} {vs:List Value} {i:Nat} {m:Str->Option Value},P.Nodup->P[i]?=some x->vs[i]?=some v->kindOf x≠some .local ->
  bindC kindOf (P.zip vs) m x=some v
 |[],_,_,_,_,h,_,_=>by simp at h
 |_::_,[],_,_,_,_,h,_=>by simp at h
 |p::P,w::vs,0,m,nd,h1,h2,hk=>by
  simp at h1 h2;subst h1;subst h2
  show bindC kindOf ((p,w)::P.zip vs) m p=_
  unfold bindC
  rw[rR λv hv=>(List.nodup_cons.mp nd).1 (List.of_mem_zip hv).1,if_neg hk]
  simp
 |p::P,w::vs,i+1,m,nd,h1,h2,hk=>by
  show bindC kindOf ((p,w)::P.zip vs) m x=_
  unfold bindC
  exact rQ (i:=i) (List.nodup_cons.mp nd).2 (by simpa using h1) (by simpa using h2) hk
def start (N:List Str)(vs:List V):St:=vs.map some++List.replicate (N.length - vs.length) none
def vH (CX:yg)(P:Program)(w:World)(K:PySem.W.Frag)(mg:Str->Option Value)(base:Heap)(N:List Str)(qual:Str)(scope:Scope)(f:Addr)(cd:Value)(A:Around)(outer:List Env)(s:Shared)(H:Hp)(E:XK):Cx where
 prog:=P
 w:=w
 K:=K
 mg:=mg
 base:=base
 A:=A.deeper (envOfC qual scope s.heap.objs.size f cd)
 N:=N
 s₀:=s
 H₀:=H
 env:=envOfC qual scope s.heap.objs.size f cd
 outer:=outer
 stack:=envOfC qual scope s.heap.objs.size f cd::outer
 ex:=[]
 calm:=true
 fn:=λ_=>true
 pn:=[]
 xe:=λe s'=>wpAny (model P w) (A.deeper (envOfC qual scope s.heap.objs.size f cd)) (leaving (envOfC qual scope s.heap.objs.size f cd) e) (λ_ s''=>CX outer H s E e s'') (λe' s''=>CX outer H s E e' s'') s'
theorem vE {sc:Scope}{n:Nat}{x:Str}(h:sc.names.lookup x=some .cell):∃c,(cellsFrom n sc.names []).lookup x=some c:=by
 have q:=PySem.W.cellsFrom_some sc.names n [] (.inl h)
 exact Option.isSome_iff_exists.mp q
theorem Ac {CX:yg}{P:Program}{w:World}{K:PySem.W.Frag}{mg:Str->Option Value}{base:Heap}{N ps:List Str}{qual:Str}{scope:Scope}{f:Addr}{cd:Value}{A:Around}{outer:List Env}{s s1:Shared}{H:Hp}{E:XK}{us:List Value}{vs:List V}
  (S:aE N ps scope)(hd:A.handled=none)(e0:w_ P w K mg base A outer s H)(hl:vs.length=ps.length)(r:Vals vs us)
  (x:InCallC s s.heap.objs.size (bindL (envOfC qual scope s.heap.objs.size f cd).kindOf (ps.zip us) λ_=>none) (cellsFrom (s.heap.objs.size+1) scope.names []) (bindC (envOfC qual scope s.heap.objs.size f cd).kindOf (ps.zip us) λ_=>none) s1) :
  Inv (vH CX P w K mg base N qual scope f cd A outer s H E) [] (start N vs) H s1:=by
 have hpl:ps.length<=N.length:=by have:=congrArg List.length S.pre;rw[List.length_take] at this;omega
 obtain⟨h1,tk,rfl,hk⟩:=x.done
 have noA:∀b:Addr,b∉(vH CX P w K mg base N qual scope f cd A outer s H E).ex:=λb z=>absurd (show b∈([]:List Addr) from z) (by simp)
 refine⟨⟨e0.mod,S.kind,rfl,rfl,Nat.le_refl _,λy z c h1 h2=>?_,λy hy=>?_,λy c _ h=>?_,λ_=>hd,Around.frames_deeper e0.frames,.inr ⟨rfl,rfl⟩,λb z=>absurd z (noA b),e0.bs,e0.Gg,λb _ _=>noA b,λb z=>absurd z (noA b),e0.n_,e0.Gs⟩,
  rfl,e0.bare,Un.kept hk,⟨_,x.toInCall.ns,λi y v h1 h2 h3=>?_⟩,λy c h=>⟨_,x.cell y c h⟩,e0.bW.fresh (Nat.le_refl _),λy c h=>?_,λp hp=>absurd (show p∈([]:List (Addr × Obj)) from hp) (by simp),e0.bW.kept hk,?_⟩
 ·exact name_of_addr x.apart (PySem.mem_of_lookup h1) (PySem.mem_of_lookup h2)
 ·have hy:scope.names.lookup y=some .cell\/scope.names.lookup y=some .free:=hy
  rcases hy with hy|hy
  ·exact vE hy
  ·exact absurd rfl (S.Il _ (PySem.mem_of_lookup hy))
 ·exact Nat.le_of_lt (x.above y c (PySem.mem_of_lookup h))
 ·have hi:i<vs.length:=by
   unfold start at h2
   by_cases hi:i<vs.length
   ·exact hi
   ·rw[List.getElem?_append_right (by simpa using hi)] at h2
    rw[List.getElem?_replicate] at h2
    split at h2<;>cases h2
  have ha:vs[i]?=some v:=by
   unfold start at h2
   rw[List.getElem?_append_left (by simpa using hi),List.getElem?_map] at h2
   cases e:vs[i]? with
   |none=>rw[e] at h2;cases h2
   |some a=>rw[e] at h2;cases h2;rfl
  obtain⟨u,hu,rv⟩:=r.get ha
  have hp:ps[i]?=some y:=by
   rw[<- S.pre,List.getElem?_take_of_lt (by omega)];exact h1
  have ndP:ps.Nodup:=by rw[<- S.pre];exact S.nd.sublist (List.take_sublist _ _)
  refine⟨u,rv,?_⟩
  rcases S.par y (List.mem_of_getElem? hp) with k|k
  ·exact .inl ⟨k,rS ndP hp hu k⟩
  ·obtain⟨c,e⟩:=vE (n:=s.heap.objs.size+1) k
   refine .inr ⟨.inl k,c,e,?_⟩
   have q:=x.cell y c e
   rw[rQ ndP hp hu (by show scope.names.lookup y≠_;rw[k];decide)] at q
   exact q
 ·exact e0.bW.fresh (Nat.le_of_lt (x.above y c (PySem.mem_of_lookup h)))
 ·unfold start
  show _=N.length
  rw[List.length_append,List.length_map,List.length_replicate]
  omega
theorem Gr {CX:yg}{P:Program}{w:World}{K:PySem.W.Frag}{mg:Str->Option Value}{base:Heap}{k:Nat}{f:Addr}{name qual:Str}{params:Arguments}{body:List Stmt}{scope:Scope}{dV kV doc pm cdv ct oc:Value}{an od:Option Addr}
  {osl:Array (Option Value)}{N ps:List Str}{sp:Sp}(lk:K.lookup f=some ⟨oc,od,.func (fnOf name qual params body scope dV kV doc pm an cdv ct),osl⟩)(hcd:codeIn K cdv qual=true)(S:aE N ps scope)
  (len:∀vs H Q E,sp vs H Q E->vs.length=ps.length)
  (hbody:∀(A:Around) (outer:List Env) (s:Shared) (H:Hp) (vs:List V) (Q:VK) (E:XK),cH k (A.deeper (envOfC qual scope s.heap.objs.size f cdv))->sp vs H Q E ->
   ∃t,ly (vH CX P w K mg base N qual scope f cdv A outer s H E) body t/\t { nx:=λ_ H'=>Q .ak H',rt:=Q } (start N vs) H) :
  cP P w K mg base CX (k+1) f (fnOf name qual params body scope dV kV doc pm an cdv ct) ps sp:=by
 refine⟨len,λA outer s H args us vs Q E hr e0 hb r hsp=>?_⟩
 have hl:=len _ _ _ _ hsp
 have KX:K.In s.heap:=e0.mod.L0.keeps λb o e=>(e0.bs b o e).1
 have lim:s.heap.NoLimit:=e0.mod.nolimit.keeps λb o e=>(e0.bs b o e).1
 have hkind:∀y∈ps.zip us,scope.names.lookup y.1=some .local\/(scope.names.lookup y.1=some .cell/\((cellsFrom (s.heap.objs.size+1) scope.names []).lookup y.1).isSome=true):=fun⟨n,v⟩ hy=>by
  rcases S.par n (List.of_mem_zip hy).1 with q|q
  ·exact .inl q
  ·exact .inr ⟨q,PySem.W.cellsFrom_some _ _ _ (.inl q)⟩
 refine codeAny_call_function hr.depth (KX _ _ lk) rfl S.co S.gen rfl (PySem.W.codeRec_of KX hcd) (hb _ _ _ _ ?_)
 refine wpAny_newFunctionEnv_cells S.kind hkind λenv he s1 x=>?_
 subst he
 refine⟨lim.keeps x.toInCall.keep,codeAny_func ?_⟩
 obtain⟨t,ht,hq⟩:=hbody A outer s H vs Q E (hr.deeper _) hsp
 have I:Inv (vH CX P w K mg base N qual scope f cdv A outer s H E) [] (start N vs) H s1:=Ac S hr.hd e0 hl r x
 refine wpAny_mono (ht [] s1 (start N vs) H _ I hq) (λfl s' hs=>?_) λe s' hs=>hs
 have fin:∀{σ':St} {H':Hp} {v:V} {u:Value},Inv (vH CX P w K mg base N qual scope f cdv A outer s H E) [] σ' H' s'->RelV v u->Q v H'->CE outer P w H s Q u s' :=
  fun{σ' H' v u} J rv q=>⟨v,H',J.os,J.bare,J.base,J.bW,rv,q⟩
 cases fl with
 |ret u =>
  obtain⟨v,σ',H',J,rv,q⟩:=hs
  exact fin J rv q
 |next =>
  obtain⟨σ',H',J,q⟩:=hs
  exact fin (v:=V.ak) (u:=Value.none) J rfl q
 |brk =>
  obtain⟨_,_,_,q⟩:=hs
  exact False.elim q
 |cont =>
  obtain⟨_,_,_,q⟩:=hs
  exact False.elim q
section
variable {X:Cx}{x:Str}{p pos:Pos}{e:Expr}{es:List Expr}{t:TA}{id T:String}{r:List V->Hp->VK->Prop}
def MC (r:List V->Hp->VK->Prop)(t:TA):TE:=λσ H Q=>t σ H λvs H1=>r vs H1 Q
theorem fE (hc:eW X (.builtin id) r)(hg:Gl X x)(hm:X.mg x=none)(hv:bootBuiltins x=some (.builtin id))(ha:PA X (e::es) t)(hn:x≠"__name__":=by decide)(hdb:(x == ("__debug__":Str))=false:=by decide)
  (he:starEach (e::es) X.env=(false,eval e X.env)::starEach es X.env:=by rfl)(hpl:(backTo pos (starEach es X.env)).any (·.1)=false:=by rfl):PE X (.Call (.Name x p) (e::es) [] pos) (MC r t):=by
 intro pins s σ H Q I h
 refine wpAny_Call_Name_kw (oK I hg hm hv ?_ hn hdb)
 exact PyProof.Rows.callWith_builtin1 (b6 (ha pos pins s σ H _ I h) λus s1 ⟨vs,H1,I1,r1,q1⟩=>hc pins s1 σ H1 vs us Q I1 r1 q1) he hpl
theorem hX (hc:eW X (.type T) r)(hg:Gl X x)(hm:X.mg x=none)(hv:bootBuiltins x=some (.type T))(ha:PA X (e::es) t)(hn:x≠"__name__":=by decide)(hdb:(x == ("__debug__":Str))=false:=by decide)
  (he:starEach (e::es) X.env=(false,eval e X.env)::starEach es X.env:=by rfl)(hpl:(backTo pos (starEach es X.env)).any (·.1)=false:=by rfl):PE X (.Call (.Name x p) (e::es) [] pos) (MC r t):=by
 intro pins s σ H Q I h
 refine wpAny_Call_Name_kw (oK I hg hm hv ?_ hn hdb)
 exact PyProof.Rows.callWith_type1 (b6 (ha pos pins s σ H _ I h) λus s1 ⟨vs,H1,I1,r1,q1⟩=>hc pins s1 σ H1 vs us Q I1 r1 q1) he hpl
end
end L2
namespace HT
open PySem PyProof.Rows
section
open PySem.SeqAt
open PySem.AutoSeq1 (wpAny_loadPart')
open PySem.MeetsSeq PySem.MeetsSeq2 PySem.MeetsSeq3
end
section
variable {prog:Program}{w:World}{A:Around}{E:Value->Shared->Prop}{s:Shared}
theorem EZ {t b:Addr}{vs ws:List Value}{Q:Value->Shared->Prop}(ht:IsTup s.heap t vs.toArray)(hb:IsTup s.heap b ws.toArray)(hv:vs≠[])
  (h1:ws=[]->Q (.ref t) s)(h2:ws≠[]->Q (.ref s.heap.objs.size) { s with heap:=s.heap.push { cls:=.type "tuple",data:=.seq (vs++ws).toArray }})
  (hsz:vs.length+ws.length<=sizeLine):wpAny (model prog w) A (binaryOp .Add (.ref t) (.ref b)) Q E s:=by
 obtain⟨⟨cls,dd,data,sl⟩,ho,hc,n,hd⟩:=id ht
 obtain⟨⟨cls2,dd2,data2,sl2⟩,ho2,hc2,n2,hd2⟩:=id hb
 simp only at hc hd hc2 hd2
 subst hc hd hc2 hd2
 have e:vs.toArray++ws.toArray=(vs++ws).toArray:=by simp
 by_cases hw:ws=[]
 ·exact concat_meets ⟨_,ho,rfl⟩ ⟨_,ho2,rfl⟩ noFill_tuple_add seq_tuple_add PySem.F.slot_tuple_add PySem.F.entry_tuple_add (PySem.F.args_tuple_add_2 _ _)
   (tuple_addW1 t b vs.toArray ws.toArray n n2 dd dd2 sl sl2 (by simpa using hv) (by simp[hw])) ⟨ho,ho2,h1 hw⟩
 ·refine concat_meets ⟨_,ho,rfl⟩ ⟨_,ho2,rfl⟩ noFill_tuple_add seq_tuple_add PySem.F.slot_tuple_add PySem.F.entry_tuple_add (PySem.F.args_tuple_add_2 _ _)
   (tuple_addW2 t b vs.toArray ws.toArray n n2 dd dd2 sl sl2 (by simpa using hv) (by simpa using hw) (by rw[List.size_toArray,List.size_toArray];exact hsz)) ⟨ho,ho2,?_⟩
  rw[e]
  exact h2 hw
def di (n d:Nat):Option Int->Nat
 |none=>d
 |some v=>if v<0 then(v+(n:Int)).toNat else min v.toNat n
theorem wW (n d:Nat):di n d none=d:=rfl
theorem pj (n d k:Nat):di n d (some (k:Int))=min k n:=by
 show(if(k:Int)<0 then((k:Int)+(n:Int)).toNat else min (k:Int).toNat n)=min k n
 rw[if_neg (by omega),Int.toNat_natCast]
theorem JZ (n d:Nat)(hd:d<=n)(o:Option Int):di n d o<=n:=by
 cases o with
 |none=>exact hd
 |some v =>
  show(if v<0 then(v+(n:Int)).toNat else min v.toNat n)<=n
  by_cases hv:v<0
  ·rw[if_pos hv];omega
  ·rw[if_neg hv];exact Nat.min_le_right _ _
theorem yo (v:Int)(n d:Nat):(if v<0 then max (v+(n:Int)) 0 else min v (n:Int))=((di n d (some v):Nat):Int):=by
 show(if v<0 then max (v+(n:Int)) 0 else min v (n:Int))=(((if v<0 then(v+(n:Int)).toNat else min v.toNat n):Nat):Int)
 by_cases hv:v<0
 ·simp only[if_pos hv];omega
 ·simp only[if_neg hv];omega
theorem xD (lo hi:Option Int)(n:Nat):Builtin.Slice.sliceAdjust lo hi 1 (n:Int)=(((di n 0 lo:Nat):Int),((di n n hi:Nat):Int)):=by
 have h1:¬ ((1:Int)<0):=by omega
 unfold Builtin.Slice.sliceAdjust
 simp only[h1,if_false]
 refine Prod.ext ?_ ?_
 ·cases lo with
  |none=>rfl
  |some v=>exact yo v n 0
 ·cases hi with
  |none=>rfl
  |some v=>exact yo v n n
theorem yG (i j:Nat):Builtin.Slice.slicePlaces (i:Int) (j:Int) 1=j - i:=by
 unfold Builtin.Slice.slicePlaces
 have h1:(1:Int) > 0:=by omega
 simp only[h1,if_true,Int.ediv_one]
 split<;>omega
theorem qr {v:Value}{o:Option Int}{Q:Option Int->Shared->Prop}(p:IsPart v o)(h:Q o s):wpAny (model prog w) A (Builtin.Slice.slicePartIndex v) Q E s:=by
 cases p with
 |none=>exact slicePart_none h
 |int i t=>exact slicePart_int h
theorem oj {sl:Addr}{vl vu:Value}{lo hi:Option Int}{n:Nat}{Q:Int × Int × Nat->Shared->Prop}(hs:s.heap.IsSliceOf sl vl vu .none)(pl:IsPart vl lo)(pu:IsPart vu hi)
  (h:Q (((di n 0 lo:Nat):Int),1,di n n hi - di n 0 lo) s):wpAny (model prog w) A (Builtin.Slice.sliceApplied (.ref sl) (pure (n:Int))) Q E s:=by
 obtain⟨os,hos,hcs,hds⟩:=id hs
 unfold Builtin.Slice.sliceApplied Builtin.Slice.sliceFields
 refine wpAny_bind (wpAny_bind (wpAny_field hos hds (x:=vl) rfl (wpAny_bind (wpAny_field hos hds (x:=vu) rfl (wpAny_bind (wpAny_field hos hds (x:=.none) rfl (wpAny_pure ?_)))))))
 refine wpAny_bind (slicePart_none ?_)
 show wpAny _ _ (if((1:Int) == 0)=true then _ else _) _ _ s
 rw[if_neg (by decide)]
 refine wpAny_bind (qr pl (wpAny_bind (qr pu (wpAny_bind (wpAny_pure ?_)))))
 show wpAny _ _ (match Builtin.Slice.sliceAdjust lo hi 1 (n:Int) with|(lo,hi)=>pure (lo,(1:Int),Builtin.Slice.slicePlaces lo hi 1)) _ _ s
 rw[xD lo hi n]
 show wpAny _ _ (pure (((di n 0 lo:Nat):Int),(1:Int),Builtin.Slice.slicePlaces ((di n 0 lo:Nat):Int) ((di n n hi:Nat):Int) 1)) _ _ s
 rw[yG]
 exact wpAny_pure h
theorem DF (xs:Array Value)(i k:Nat):((List.range k).filterMap fun(m:Nat)=>xs[((i:Int)+(m:Int)*1).toNat]?).toArray=((xs.toList.drop i).take k).toArray:=by
 have e:(fun(m:Nat)=>xs[((i:Int)+(m:Int)*1).toNat]?)=λm=>xs[i+m]?:=by
  funext m
  have:((i:Int)+(m:Int)*1).toNat=i+m:=by omega
  rw[this]
 rw[e]
 have:=pick_run xs i k
 rw[List.filterMap_map] at this
 have e2:((λx=>xs[x]?)∘λx=>i+x)=λm=>xs[i+m]?:=rfl
 rw[e2] at this
 rw[this]
theorem mn {t sl:Addr}{items:Array Value}{vl vu:Value}{lo hi:Option Int}{Q:Value->Shared->Prop}(ht:IsTup s.heap t items)(hs:s.heap.IsSliceOf sl vl vu .none)(pl:IsPart vl lo)(pu:IsPart vu hi)
  (hw:¬ (di items.size 0 lo=0/\di items.size items.size hi=items.size))
  (h:Q (.ref s.heap.objs.size) { s with heap:=s.heap.push { cls:=.type "tuple",data:=.seq ((items.toList.drop (di items.size 0 lo)).take (di items.size items.size hi - di items.size 0 lo)).toArray }})
  (hsz:items.size<=sizeLine):wpAny (model prog w) A (getItem (.ref t) (.ref sl)) Q E s:=by
 have htake:sizeOk (.seq ((items.toList.drop (di items.size 0 lo)).take (di items.size items.size hi - di items.size 0 lo)).toArray):=by
  show((items.toList.drop (di items.size 0 lo)).take (di items.size items.size hi - di items.size 0 lo)).toArray.size<=sizeLine
  rw[List.size_toArray,List.length_take,List.length_drop,Array.length_toList]
  omega
 have hj:di items.size items.size hi<=items.size:=JZ _ _ (Nat.le_refl _) hi
 obtain⟨os,hos,hcs,hds⟩:=id hs
 have hTs:s.TypeIs (.ref sl) "slice":=⟨os,hos,hcs⟩
 unfold getItem
 try with_reducible refine wpAny_holding ?_
 first|refine wpAny_bind (wpAny_pure ?_)|skip
 refine wpAny_bind (wpAny_sequenceKey ht.typeIs (by decide) ?_)
 refine wpAny_bind (wpAny_callSpecial?_slot (name:=Str.ofString "__getitem__") ht.typeIs PyProof.Rows.slot_tuple_getitem
  (wpAny_call_entry PyProof.Rows.slot_tuple_getitem ht.typeIs entry_tuple_getitem ?_ (args_tuple_getitem _ _)))
 show wpAny _ _ (Builtin.Tuple.tupleItemsOf (.ref t) >>= _) _ _ s
 refine wpAny_bind (tupleItemsOf_ ht ?_)
 refine wpAny_bind (wpAny_typeOf hTs ?_)
 rw[if_pos (by decide)]
 refine wpAny_bind (oj hs pl pu ?_)
 have hno:¬ ((((di items.size 0 lo:Nat):Int) == 0&&(1:Int) == 1&&(di items.size items.size hi - di items.size 0 lo) == items.size)=true):=by
  intro q
  rw[Bool.and_eq_true,Bool.and_eq_true] at q
  have q1:((di items.size 0 lo:Nat):Int)=0:=eq_of_beq q.1.1
  have q2:di items.size items.size hi - di items.size 0 lo=items.size:=eq_of_beq q.2
  exact hw ⟨by omega,by omega⟩
 show wpAny _ _ (if(((di items.size 0 lo:Nat):Int) == 0&&(1:Int) == 1&&(di items.size items.size hi - di items.size 0 lo) == items.size)=true then _ else _) _ _ s
 rw[if_neg hno,DF]
 first
  |exact wpAny_bind (m:=Builtin.Tuple.tupleExact _) (wpAny_newObj_type (wpAny_pure ⟨_,rfl,wpAny_pure h⟩) htake)
  |exact wpAny_bind (m:=Builtin.Tuple.tupleExact _) (wpAny_newObj_type (wpAny_bind (wpAny_pure (wpAny_pure ⟨_,rfl,wpAny_pure h⟩))) htake)
  |exact wpAny_bind (wpAny_bind (m:=Builtin.Tuple.tupleExact _) (wpAny_newObj_type (wpAny_pure (wpAny_pure ⟨_,rfl,wpAny_pure h⟩)) htake))
  |exact wpAny_bind (wpAny_bind (m:=Builtin.Tuple.tupleExact _) (wpAny_newObj_type (wpAny_pure ⟨_,rfl,wpAny_pure h⟩) htake))
end
end HT
namespace L2
open PySem PySem.Spec PyProof.Rows
abbrev TO:=St->Hp->(Option Int->Hp->Prop)->Prop
def PO (X:Cx)(e:Option Expr)(t:TO):Prop :=
 ∀(pins:List (Addr × Obj)) (s:Shared) (σ:St) (H:Hp) (Q:Option Int->Hp->Prop),Inv X pins σ H s->t σ H Q ->
  wpAny (model X.prog X.w) X.A (evalPart e X.env) (λu s'=>∃o H',Inv X pins σ H' s'/\IsPart u o/\Q o H') X.xe s
def GG:TO:=λ_ H Q=>Q none H
def Lk (t:TE):TO:=λσ H Q=>t σ H λx H1=>∃i,x=.int i/\Q (some i) H1
section
variable {X:Cx}{e:Expr}{te:TE}{lo hi:Option Expr}{tl th:TO}{pos p2:Pos}
theorem Fq:PO X none GG:=by
 intro pins s σ H Q I h
 rw[evalPart_none]
 exact wpAny_pure ⟨none,H,I,.none,h⟩
theorem Fs (h:PE X e te):PO X (some e) (Lk te):=by
 intro pins s σ H Q I hw
 rw[evalPart_some]
 refine b6 (h pins s σ H _ I hw) λu s1 ⟨x,H1,I1,r1,q1⟩=>?_
 obtain⟨i,rfl,q⟩:=q1
 obtain⟨t,rfl⟩:=r1
 exact⟨some i,H1,I1,.int i t,q⟩
def EG (X:Cx)(r:V->Option Int->Option Int->Hp->VK->Prop):Prop :=
 ∀(pins:List (Addr × Obj)) (s:Shared) (σ:St) (H:Hp) (x:V) (v vl vu:Value) (lo hi:Option Int) (sl:Addr) (Q:VK),Inv X pins σ H s->RelV x v->s.heap.IsSliceOf sl vl vu .none->IsPart vl lo->IsPart vu hi->r x lo hi H Q ->
  ∃T id,typeLookup (.type T) "__getitem__"=pure (some (.builtin id))/\s.TypeIs v T/\wpAny (model X.prog X.w) X.A (getItem v (.ref sl)) (EP X pins σ Q) X.xe s
theorem EG.or {r r':V->Option Int->Option Int->Hp->VK->Prop}(h:EG X r)(h':EG X r'):EG X (λx lo hi H Q=>r x lo hi H Q\/r' x lo hi H Q):=by
 intro pins s σ H x v vl vu lo hi sl Q I rx hs pl pu q
 rcases q with q|q
 ·exact h pins s σ H x v vl vu lo hi sl Q I rx hs pl pu q
 ·exact h' pins s σ H x v vl vu lo hi sl Q I rx hs pl pu q
def OI (r:V->Option Int->Option Int->Hp->VK->Prop)(te:TE)(tl th:TO):TE:=λσ H Q=>te σ H λx H1=>tl σ H1 λl H2=>th σ H2 λu H3=>r x l u H3 Q
theorem C_ {r:V->Option Int->Option Int->Hp->VK->Prop}(hr:EG X r)(he:PE X e te)(hl:PO X lo tl)(hu:PO X hi th):PE X (.Subscript e (.Slice lo hi none p2) pos) (OI r te tl th):=by
 intro pins s σ H Q I h
 refine Subscript_ (b6 (he pins s σ H _ I h) λv s1 ⟨x,H1,I1,r1,q1⟩=>?_)
 refine wpAny_Slice (b6 (hl pins s1 σ H1 _ I1 q1) λvl s2 ⟨l,H2,I2,pl,q2⟩=>b6 (hu pins s2 σ H2 _ I2 q2) λvu s3 ⟨u,H3,I3,pu,q3⟩=>?_)
 rw[evalPart_none]
 refine wpAny_pure ?_
 have I4:Inv X pins σ H3 { s3 with heap:=s3.heap.push { cls:=.type "slice",data:=.fields #[vl,vu,.none] }}:=I3.kept (t':=s3.toks) λb ob q=>Heap.get?_push_of_some _ q
 obtain⟨T,id,hT,ht,hg⟩:=hr pins { s3 with heap:=s3.heap.push { cls:=.type "slice",data:=.fields #[vl,vu,.none] }} σ H3 x v vl vu l u s3.heap.objs.size Q I4 r1 (Heap.IsSliceOf.new ..) pl pu q3
 show wpAny (model X.prog X.w) X.A (subscriptTail e (.Slice lo hi none p2) v (.ref s3.heap.objs.size)) (EP X pins σ Q) X.xe { s3 with heap:=s3.heap.push { cls:=.type "slice",data:=.fields #[vl,vu,.none] }}
 exact tail_any (ops:=[.ref s3.heap.objs.size,v]) ht hT hg (by with_unfolding_all rfl)
def vF (xs:List V)(lo hi:Option Int):List V:=(xs.drop (HT.di xs.length 0 lo)).take (HT.di xs.length xs.length hi - HT.di xs.length 0 lo)
theorem o4 (xs:List V)(lo hi:Option Int):(vF xs lo hi).length<=xs.length:=by
 unfold vF
 rw[List.length_take,List.length_drop]
 omega
def LL (K:PySem.W.Frag):V->Option Int->Option Int->Hp->VK->Prop:=λx lo hi H Q=>∃a xs,x=.ref a/\iM K H a xs /\
 ¬ (HT.di xs.length 0 lo=0/\HT.di xs.length xs.length hi=xs.length)/\∀p,H p=none->Q (.ref p) (upd H p (.tup (vF xs lo hi)))
theorem Jg:EG X (LL X.K):=by
 intro pins s σ H x v vl vu lo hi sl Q I rx hs pl pu h
 obtain⟨a,xs,rfl,hx,hw,q⟩:=h
 cases rx
 obtain⟨its,r,ht,hz⟩:=I.tuple hx
 have hlen:its.toArray.size=xs.length:=by rw[List.size_toArray];exact r.length.symm
 refine⟨"tuple",_,PyProof.Rows.slot_tuple_getitem.lookup,ht.typeIs,?_⟩
 refine HT.mn ht hs pl pu (by rw[hlen];exact hw) ?_ (by rw[hlen];exact hz)
 rw[hlen]
 refine⟨.ref s.heap.objs.size,_,I.laid (t':=s.toks) (o:=.tup (vF xs lo hi)) (λb ob q=>Heap.get?_push_of_some _ q) (Nat.le_refl _) ?_,rfl,q _ (I.bW.fresh (Nat.le_refl _))⟩
 exact⟨Nat.le_trans (o4 xs lo hi) hz,_,(r.drop (HT.di xs.length 0 lo)).take (HT.di xs.length xs.length hi - HT.di xs.length 0 lo),IsTup.new _ _⟩
def G_ (K:PySem.W.Frag):R2:=λx y H Q=>∃a b xs ys,x=.ref a/\y=.ref b/\iM K H a xs/\iM K H b ys/\xs≠[]/\xs.length+ys.length<=sizeLine /\
 (ys=[]->Q (.ref a) H)/\(ys≠[]->∀p,H p=none->Q (.ref p) (upd H p (.tup (xs++ys))))
theorem Vals.uK {xs:List V}{us:List Value}(r:Vals xs us):us=[] ↔ xs=[]:=by
 cases r with
 |nil=>simp
 |cons _ _=>simp
theorem FY:gq X (binaryOp .Add) (G_ X.K):=by
 intro pins s σ H x y v u Q I rx ry h
 obtain⟨a,b,xs,ys,rfl,rfl,ha,hb,hx,hz,q1,q2⟩:=h
 cases rx
 cases ry
 obtain⟨its,r1,p1,_⟩:=I.tuple ha
 obtain⟨its2,r2,p2,_⟩:=I.tuple hb
 refine HT.EZ p1 p2 (λz=>hx (r1.uK.mp z)) (λz=>⟨.ref a,H,I,rfl,q1 (r2.uK.mp z)⟩) (λz=>?_) (by rw[<- r1.length,<- r2.length];exact hz)
 refine⟨.ref s.heap.objs.size,_,I.laid (t':=s.toks) (o:=.tup (xs++ys)) (λb ob q=>Heap.get?_push_of_some _ q) (Nat.le_refl _) ?_,rfl,q2 (λw=>z (r2.uK.mpr w)) _ (I.bW.fresh (Nat.le_refl _))⟩
 exact⟨by rw[List.length_append];exact hz,_,r1.append r2,IsTup.new _ _⟩
end
def zG (n:Nat)(i:Int):Option Nat:=if 0<=i then(if i<n then some i.toNat else none) else if -(n:Int)<=i then some (i+n).toNat else none
def rF {α:Type}(xs:List α)(i:Int):Option α:=(zG xs.length i).bind λj=>xs[j]?
theorem zH {n:Nat}{i:Int}{j:Nat}(h:zG n i=some j):seqIndex? i n=some j/\j<n/\-(n:Int)<=i/\i<n:=by
 unfold zG at h
 by_cases h0:0<=i
 ·rw[if_pos h0] at h
  by_cases h1:i<n
  ·rw[if_pos h1] at h
   have e:i.toNat=j:=Option.some.inj h
   exact⟨by rw[seqIndex_of h0 h1,e],by omega,by omega,h1⟩
  ·rw[if_neg h1] at h;cases h
 ·rw[if_neg h0] at h
  by_cases h1:-(n:Int)<=i
  ·rw[if_pos h1] at h
   have e:(i+n).toNat=j:=Option.some.inj h
   exact⟨by rw[seqIndex_neg (by omega) h1,e],by omega,h1,by omega⟩
  ·rw[if_neg h1] at h;cases h
theorem tJ {α:Type}{xs:List α}{i:Int}{v:α}(h:rF xs i=some v):∃j,seqIndex? i xs.length=some j/\xs[j]?=some v/\j<xs.length/\-(xs.length:Int)<=i/\i<xs.length:=by
 unfold rF at h
 cases e:zG xs.length i with
 |none=>rw[e] at h;cases h
 |some j =>
  rw[e] at h
  obtain⟨h1,h2,h3,h4⟩:=zH e
  exact⟨j,h1,h,h2,h3,h4⟩
def tH (b:Expr):Prop:=∀o i,subscripted b false o i=operate [o,i] (getItem o i)
def D6 (X:Cx)(r:R2):Prop :=
 ∀(value slice:Expr) (pins:List (Addr × Obj)) (s:Shared) (σ:St) (H:Hp) (x y:V) (v u:Value) (Q:VK),Inv X pins σ H s->RelV x v->RelV y u->r x y H Q ->
  subscripted slice false v u=operate [v,u] (getItem v u)->wpAny (model X.prog X.w) X.A (subscriptTail value slice v u) (EP X pins σ Q) X.xe s
def ML (X:Cx)(id:String)(r:V->List V->Hp->VK->Prop):Prop :=
 ∀(pins:List (Addr × Obj)) (s:Shared) (σ:St) (H:Hp) (x:V) (xs:List V) (v:Value) (us:List Value) (Q:VK),Inv X pins σ H s->RelV x v->Vals xs us->r x xs H Q ->
  wpAny (model X.prog X.w) X.A (call (.builtin id) (v::us)) (EP X pins σ Q) X.xe s
section
variable {X:Cx}{a b:Expr}{ta tb:TE}{pos:Pos}
theorem D6.or {r r':R2}(h:D6 X r)(h':D6 X r'):D6 X (λx y H Q=>r x y H Q\/r' x y H Q):=by
 intro value slice pins s σ H x y v u Q I rx ry q hs
 rcases q with q|q
 ·exact h value slice pins s σ H x y v u Q I rx ry q hs
 ·exact h' value slice pins s σ H x y v u Q I rx ry q hs
theorem G7 {r:R2}(hr:D6 X r)(ha:PE X a ta)(hb:PE X b tb)(hs:tH b):PE X (.Subscript a b pos) (Jj r ta tb):=by
 intro pins s σ H Q I h
 exact Subscript_ (HZ ha hb I h λv u s2 x y H2 I2 rx ry q=>hr a b pins s2 σ H2 x y v u Q I2 rx ry q (hs _ _))
def LF (K:PySem.W.Frag):R2:=λx y H Q=>∃p xs i v,x=.ref p/\y=.int i/\cu K H p xs/\rF xs i=some v/\Q v H
def LH (K:PySem.W.Frag):R2:=λx y H Q=>∃p xs i v,x=.ref p/\y=.int i/\iM K H p xs/\rF xs i=some v/\Q v H
def LG:R2:=λx y H Q=>∃z i c,x=.str z/\y=.int i/\z.length<=sizeLine/\rF z.cps.toList i=some c/\Q (.str ⟨#[c]⟩) H
theorem Ex:D6 X (LF X.K):=by
 intro value slice pins s σ H x y v u Q I rx ry h hs
 obtain⟨p,xs,i,z,rfl,rfl,hq,he,q⟩:=h
 cases rx
 obtain⟨t,rfl⟩:=ry
 obtain⟨its,r,pl,hz⟩:=I.list hq
 obtain⟨j,h1,h2,h3,h4,h5⟩:=tJ he
 obtain⟨w,ew,rw'⟩:=r.get h2
 have hl:=r.length
 have hn:=oN
 have fin:EP X pins σ Q w s:=⟨z,H,I,rw',q⟩
 by_cases h0:0<=i
 ·have hj:i.toNat=j:=by
   rw[seqIndex_of h0 h5] at h1
   exact Option.some.inj h1
  exact item_listR pl.isList h0 (by omega) (by rw[hj];simpa using ew) fin hs
 ·have hj:(i+(its.toArray.size:Int)).toNat=j:=by
   rw[seqIndex_neg (by omega) h4] at h1
   rw[List.size_toArray,<- hl]
   exact Option.some.inj h1
  exact subscriptTail_builtinR (x:=w) pl.isList.typeIs slot_list_getitem.lookup
   (wpAny_getItem_list_neg (Q:=λr s'=>r=w/\EP X pins σ Q r s') pl.isList (by omega) (by rw[List.size_toArray]<;>omega) (by omega) (by rw[hj];simpa using ew) ⟨rfl,fin⟩) hs
theorem IH:D6 X (LH X.K):=by
 intro value slice pins s σ H x y v u Q I rx ry h hs
 obtain⟨p,xs,i,z,rfl,rfl,hq,he,q⟩:=h
 cases rx
 obtain⟨t,rfl⟩:=ry
 obtain⟨its,r,pl,hz⟩:=I.tuple hq
 obtain⟨j,h1,h2,h3,h4,h5⟩:=tJ he
 obtain⟨w,ew,rw'⟩:=r.get h2
 have hl:=r.length
 have hn:=oN
 have fin:EP X pins σ Q w s:=⟨z,H,I,rw',q⟩
 exact subscriptTail_builtinR (x:=w) pl.typeIs slot_tuple_getitem.lookup
  (getItem_tuple (j:=j) (Q:=λr s'=>r=w/\EP X pins σ Q r s') pl (by omega) (by omega) (by rw[List.size_toArray,<- hl];exact h1) (by simpa using ew) ⟨rfl,fin⟩) hs
theorem IG:D6 X LG:=by
 intro value slice pins s σ H x y v u Q I rx ry h hs
 obtain⟨z,i,c,rfl,rfl,hz,he,q⟩:=h
 obtain⟨t,rfl⟩:=rx
 obtain⟨t',rfl⟩:=ry
 obtain⟨j,h1,h2,h3,h4,h5⟩:=tJ he
 have hl:z.cps.toList.length=z.length:=by simp[Str.length]
 rw[hl] at h1 h4 h5
 have hn:=oN
 exact tail_any (typeIs_str s z t) slot_str_getitem.lookup (getItem_str (c:=c) (by
  have e1:decide (i < -(2 ^ 63:Int))=false:=decide_eq_false (by omega)
  have e2:decide (i ≥ 2 ^ 63)=false:=decide_eq_false (by omega)
  rw[e1,e2,Bool.or_false]) (by rw[h1];simpa using h2) ⟨.str ⟨#[c]⟩,H,I.tok _,⟨_,rfl⟩,q⟩) hs
def Nq (K:PySem.W.Frag):R2:=λx y H Q=>LF K x y H Q\/LH K x y H Q\/LG x y H Q
theorem IF:D6 X (Nq X.K):=Ex.or (IH.or IG)
theorem xl (its:List Value)(n j:Nat)(u:Value):Obj.mapSeq (·.setIfInBounds j u) { cls:=.type "list",data:=.seq its.toArray n }={ cls:=.type "list",data:=.seq (its.set j u).toArray n }:=by
 simp[Obj.mapSeq]
theorem Inv.lst {pins:List (Addr × Obj)}{σ:St}{H:Hp}{s:Shared}{p:Addr}{xs:List V}(I:Inv X pins σ H s)(h:H p=some (.lst xs)) :
  ∃(its:List Value) (n:Nat),Vals xs its/\s.heap.get? p=some { cls:=.type "list",data:=.seq its.toArray n }/\xs.length<=sizeLine:=by
 obtain⟨z,its,n,r,e⟩:=I.bW p _ h
 exact⟨its,n,r,e,z⟩
theorem Inv.IQ {pins:List (Addr × Obj)}{σ:St}{H:Hp}{s:Shared}{p:Addr}{xs ys:List V}{its its':List Value}{n n':Nat}{f:Obj->Obj}(I:Inv X pins σ H s)(h:H p=some (.lst xs))
  (ho:s.heap.get? p=some { cls:=.type "list",data:=.seq its.toArray n })(hf:f { cls:=.type "list",data:=.seq its.toArray n }={ cls:=.type "list",data:=.seq its'.toArray n' })(r:Vals ys its')(hz:ys.length<=sizeLine)(t:Nat) :
  Inv X pins σ (upd H p (.lst ys)) { s with heap:=s.heap.update p f,toks:=t }:=by
 have e:(s.heap.update p f).get? p=some { cls:=.type "list",data:=.seq its'.toArray n' }:=by
  rw[Heap.get?_update_self f ho (by rw[hf]<;>rfl),hf]
 refine I.write (x:=p) (e:=p) (by rw[h];trivial) (.inl rfl) (λb u hb q=>(Heap.get?_update_other _ _ (Ne.symm hb)).trans q) ⟨_,e⟩ ?_
 exact⟨hz,its',n',r,e⟩
def LJ:V->V->V->Hp->(Hp->Prop)->Prop:=λo i v H Q=>∃p xs k j,o=.ref p/\i=.int k/\H p=some (.lst xs)/\zG xs.length k=some j/\Q (upd H p (.lst (xs.set j v)))
theorem set_list:J5 X LJ:=by
 intro pins s σ H o i v ov iv u Q I ro ri rv h
 obtain⟨p,xs,k,j,rfl,rfl,hp,hj,q⟩:=h
 cases ro
 obtain⟨t,rfl⟩:=ri
 obtain⟨its,n,r,ho,hz⟩:=I.lst hp
 obtain⟨h1,h2,h3,h4⟩:=zH hj
 have hl:=r.length
 have hn:=oN
 have I':Inv X pins σ (upd H p (.lst (xs.set j v))) { s with heap:=s.heap.update p (Obj.mapSeq (·.setIfInBounds j u))} :=
  I.IQ hp ho (xl its n j u) (r.set rv j) (by rw[List.length_set];exact hz) s.toks
 by_cases h0:0<=k
 ·have hk:k.toNat=j:=by
   rw[seqIndex_of h0 h4] at h1
   exact Option.some.inj h1
  exact PySem.W.ki_setAt ho h0 (by omega) (by rw[List.size_toArray,<- hl];exact h4) (by rw[hk];exact⟨_,I',q⟩)
 ·have hk:(k+(its.toArray.size:Int)).toNat=j:=by
   rw[seqIndex_neg (by omega) h3] at h1
   rw[List.size_toArray,<- hl]
   exact Option.some.inj h1
  exact PySem.W.ki_setBack ho (by omega) (by rw[List.size_toArray,<- hl];exact h3) (by omega) (by rw[hk];exact⟨_,I',q⟩)
theorem ud (lo hi:Option Int)(n:Nat):(sliceBounds lo hi none n).1=((HT.di n 0 lo:Nat):Int)/\(sliceBounds lo hi none n).2.1=((HT.di n n hi:Nat):Int)/\(sliceBounds lo hi none n).2.2=1:=by
 refine⟨?_,?_,rfl⟩
 ·cases lo with
  |none=>simp[sliceBounds,HT.di]
  |some i =>
   simp only[sliceBounds,HT.di,Option.getD_none,show(1:Int) > 0 by decide,if_true]
   by_cases h:i<0
   ·simp only[h,if_true]<;>omega
   ·simp only[h,if_false]<;>omega
 ·cases hi with
  |none=>simp[sliceBounds,HT.di]
  |some i =>
   simp only[sliceBounds,HT.di,Option.getD_none,show(1:Int) > 0 by decide,if_true]
   by_cases h:i<0
   ·simp only[h,if_true]<;>omega
   ·simp only[h,if_false]<;>omega
theorem rN (its:List Value)(lo hi:Option Int):slicePick its.toArray lo hi none=((its.drop (HT.di its.length 0 lo)).take (HT.di its.length its.length hi - HT.di its.length 0 lo)).toArray:=by
 obtain⟨h1,h2,h3⟩:=ud lo hi its.toArray.size
 unfold slicePick
 rw[h1,h2,h3]
 simp only[sliceRange_one,pick_run,List.size_toArray]<;>rfl
def LK (K:PySem.W.Frag):V->Option Int->Option Int->Hp->VK->Prop:=λx lo hi H Q=>∃a xs,x=.ref a/\cu K H a xs/\∀p,H p=none->Q (.ref p) (upd H p (.lst (vF xs lo hi)))
theorem F_:EG X (LK X.K):=by
 intro pins s σ H x v vl vu lo hi sl Q I rx hs pl pu h
 obtain⟨a,xs,rfl,hx,q⟩:=h
 cases rx
 obtain⟨its,r,ht,hz⟩:=I.list hx
 have hlen:=r.length
 refine⟨"list",_,slot_list_getitem.lookup,ht.isList.typeIs,?_⟩
 refine wpAny_getItem_list_slice ht.isList hs pl pu .none (by simp) ?_ (by rw[List.size_toArray]<;>omega)
 rw[rN,<- hlen]
 refine⟨.ref s.heap.objs.size,_,I.laid (t':=s.toks) (o:=.lst (vF xs lo hi)) (λb ob q=>Heap.get?_push_of_some _ q) (Nat.le_refl _) ?_,rfl,q _ (I.bW.fresh (Nat.le_refl _))⟩
 exact⟨Nat.le_trans (o4 xs lo hi) hz,_,0,(r.drop (HT.di xs.length 0 lo)).take (HT.di xs.length xs.length hi - HT.di xs.length 0 lo),Heap.get?_push_size _ rfl⟩
def lK:V->Bool
 |.ak=>true
 |.bl _=>true
 |.int _=>true
 |.str _=>true
 |_=>false
def Ek:V->V->Bool
 |.ak,.ak=>true
 |.bl a,.bl b=>a == b
 |.bl a,.int b=>(if a then 1 else 0) == b
 |.int a,.bl b=>a == (if b then 1 else 0)
 |.int a,.int b=>a == b
 |.str a,.str b=>a == b
 |_,_=>false
theorem Hv {A:Around}{s:Shared}{y x:V}{u v:Value}(ry:RelV y u)(rx:RelV x v)(fy:lK y=true)(fx:lK x=true):SeqAt.EqAt A s u v (Ek y x):=by
 cases y with
 |ak =>
  cases ry
  cases x with
  |ak=>cases rx;exact SeqAt.EqAt.same _
  |bl b=>cases rx;exact SeqAt.EqAt.none_bool b
  |int b=>obtain⟨t,rfl⟩:=rx;exact SeqAt.EqAt.none_int b t
  |str b=>obtain⟨t,rfl⟩:=rx;exact SeqAt.EqAt.none_str b t
  |_=>exact absurd (show false=true from fx) Bool.false_ne_true
 |bl a =>
  cases ry
  cases x with
  |ak=>cases rx;exact SeqAt.EqAt.bool_none a
  |bl b=>cases rx;exact SeqAt.EqAt.bool_bool a b
  |int b=>obtain⟨t,rfl⟩:=rx;exact SeqAt.EqAt.bool_int a b t
  |str b=>obtain⟨t,rfl⟩:=rx;exact SeqAt.EqAt.bool_str a b t
  |_=>exact absurd (show false=true from fx) Bool.false_ne_true
 |int a =>
  obtain⟨t',rfl⟩:=ry
  cases x with
  |ak=>cases rx;exact SeqAt.EqAt.int_none a t'
  |bl b=>cases rx;exact SeqAt.EqAt.int_bool a t' b
  |int b=>obtain⟨t,rfl⟩:=rx;exact SeqAt.EqAt.int_int a t' b t
  |str b=>obtain⟨t,rfl⟩:=rx;exact SeqAt.EqAt.int_str a t' b t
  |_=>exact absurd (show false=true from fx) Bool.false_ne_true
 |str a =>
  obtain⟨t',rfl⟩:=ry
  cases x with
  |ak=>cases rx;exact SeqAt.EqAt.str_none a t'
  |bl b=>cases rx;exact SeqAt.EqAt.str_bool a t' b
  |int b=>obtain⟨t,rfl⟩:=rx;exact SeqAt.EqAt.str_int a t' b t
  |str b=>obtain⟨t,rfl⟩:=rx;exact SeqAt.EqAt.str_str a t' b t
  |_=>exact absurd (show false=true from fx) Bool.false_ne_true
 |_=>exact absurd (show false=true from fy) Bool.false_ne_true
def xP (x:V)(u:Value):Bool:=match u with
 |.none=>Ek .ak x
 |.bool b=>Ek (.bl b) x
 |.int i _=>Ek (.int i) x
 |.str z _=>Ek (.str z) x
 |_=>false
theorem B6 {x y:V}{u:Value}(r:RelV y u)(f:lK y=true):xP x u=Ek y x:=by
 cases y with
 |ak=>cases r;rfl
 |bl b=>cases r;rfl
 |int i=>obtain⟨t,rfl⟩:=r;rfl
 |str z=>obtain⟨t,rfl⟩:=r;rfl
 |_=>exact absurd (show false=true from f) Bool.false_ne_true
theorem mV {x:V}:∀{xs:List V} {us:List Value},Vals xs us->xs.all lK=true->us.any (xP x)=xs.any λy=>Ek y x
 |_,_,.nil,_=>rfl
 |y::xs,u::us,.cons r t,f=>by
  rw[List.all_cons,Bool.and_eq_true] at f
  rw[List.any_cons,List.any_cons,B6 r f.1,mV t f.2]
theorem jT {A:Around}{s:Shared}{x:V}{v:Value}(rx:RelV x v)(fx:lK x=true):∀{xs:List V} {us:List Value},Vals xs us->xs.all lK=true->∀u∈us,SeqAt.EqAt A s u v (xP x u)
 |_,_,.nil,_=>λu hu=>by cases hu
 |y::xs,u::us,.cons r t,f=>λu' hu=>by
  rw[List.all_cons,Bool.and_eq_true] at f
  rcases List.mem_cons.mp hu with rfl|hu
  ·rw[B6 r f.1];exact Hv r rx f.1 fx
  ·exact jT rx fx t f.2 u' hu
def D8 (x:V)(xs:List V):Bool:=xs.any λy=>Ek y x
def L9 (K:PySem.W.Frag)(neg:Bool):R2:=λx y H Q=>∃p xs,y=.ref p/\(cu K H p xs\/iM K H p xs)/\lK x=true/\xs.all lK=true/\Q (.bl (if neg then !D8 x xs else D8 x xs)) H
theorem sG:gq X (compareOp .In) (L9 X.K false):=by
 intro pins s σ H x y v u Q I rx ry h
 obtain⟨p,xs,rfl,hq,fx,fs,q⟩:=h
 cases ry
 rcases hq with hq|hq
 ·obtain⟨its,r,pl,hz⟩:=I.list hq
  refine SeqAt.in_listAt (xP x) pl.isList (λw hw=>jT rx fx r fs w (by simpa using hw)) ⟨.bl _,H,I,rfl,?_⟩
  rw[show its.toArray.any (xP x)=its.any (xP x) by simp,mV r fs]
  exact q
 ·obtain⟨its,r,pl,hz⟩:=I.tuple hq
  refine SeqAt.in_tupleAt (xP x) pl (λw hw=>jT rx fx r fs w (by simpa using hw)) ⟨.bl _,H,I,rfl,?_⟩
  rw[show its.toArray.any (xP x)=its.any (xP x) by simp,mV r fs]
  exact q
theorem nC:gq X (compareOp .NotIn) (L9 X.K true):=by
 intro pins s σ H x y v u Q I rx ry h
 obtain⟨p,xs,rfl,hq,fx,fs,q⟩:=h
 cases ry
 rcases hq with hq|hq
 ·obtain⟨its,r,pl,hz⟩:=I.list hq
  refine SeqAt.notIn_listAt (xP x) pl.isList (λw hw=>jT rx fx r fs w (by simpa using hw)) ⟨.bl _,H,I,rfl,?_⟩
  rw[show its.toArray.any (xP x)=its.any (xP x) by simp,mV r fs]
  exact q
 ·obtain⟨its,r,pl,hz⟩:=I.tuple hq
  refine SeqAt.notIn_tupleAt (xP x) pl (λw hw=>jT rx fx r fs w (by simpa using hw)) ⟨.bl _,H,I,rfl,?_⟩
  rw[show its.toArray.any (xP x)=its.any (xP x) by simp,mV r fs]
  exact q
theorem eW.or {f:Value}{r r':List V->Hp->VK->Prop}(h:eW X f r)(h':eW X f r'):eW X f (λxs H Q=>r xs H Q\/r' xs H Q):=by
 intro pins s σ H xs us Q I rs q
 rcases q with q|q
 ·exact h pins s σ H xs us Q I rs q
 ·exact h' pins s σ H xs us Q I rs q
theorem mY:eW X (.type "list") (λxs H Q=>∃p ys,xs=[.ref p]/\(cu X.K H p ys\/iM X.K H p ys)/\∀l,H l=none->Q (.ref l) (upd H l (.lst ys))):=by
 intro pins s σ H xs us Q I r h
 obtain⟨p,ys,rfl,hq,q⟩:=h
 obtain⟨u,rfl,rx⟩:=vals1 r
 cases rx
 have fin:∀(its:List Value),Vals ys its->ys.length<=sizeLine->∀(h':Heap) (c':Nat),(∀b o',s.heap.get? b=some o'->h'.get? b=some o') ->
   h'.get? s.heap.objs.size=some { cls:=.type "list",dict:=none,data:=.seq its.toArray c',slots:=#[] }->EP X pins σ Q (.ref s.heap.objs.size) { s with heap:=h' }:=λits r' hz h' c' kp e =>
  ⟨.ref s.heap.objs.size,_,I.laid (t':=s.toks) kp (Nat.le_refl _) (show bJ X.prog X.w _ h' _ (.lst ys) from⟨hz,its,c',r',e⟩),rfl,q _ (I.bW.fresh (Nat.le_refl _))⟩
 rcases hq with hq|hq
 ·obtain⟨its,r',pl,hz⟩:=I.list hq
  have hlen:=r'.length
  obtain⟨o,ho,hc,n,hd⟩:=pl.isList
  exact call_list_seq p (.inl rfl) ho hc hd (λh' c' kp e=>fin its r' hz h' c' kp e) (by simp only[List.size_toArray]<;>omega)
 ·obtain⟨its,r',pl,hz⟩:=I.tuple hq
  have hlen:=r'.length
  obtain⟨o,ho,hc,n,hd⟩:=pl
  exact call_list_seq p (.inr rfl) ho hc hd (λh' c' kp e=>fin its r' hz h' c' kp e) (by simp only[List.size_toArray]<;>omega)
theorem rK:eW X (.type "tuple") (λxs H Q=>∃p ys,xs=[.ref p]/\((cu X.K H p ys/\∀l,H l=none->Q (.ref l) (upd H l (.tup ys)))\/(iM X.K H p ys/\Q (.ref p) H))):=by
 intro pins s σ H xs us Q I r h
 obtain⟨p,ys,rfl,h⟩:=h
 obtain⟨u,rfl,rx⟩:=vals1 r
 cases rx
 rcases h with⟨hq,q⟩|⟨hq,q⟩
 ·obtain⟨its,r',pl,hz⟩:=I.list hq
  have hlen:=r'.length
  refine call_tuple_list pl.isList (λh' kp=>?_) (by simp only[List.size_toArray]<;>omega)
  have I1:Inv X pins σ H { s with heap:=h' }:=I.kept (t':=s.toks) kp
  have I2:Inv X pins σ (upd H h'.objs.size (.tup ys)) { s with heap:=h'.push { cls:=.type "tuple",data:=.seq its.toArray }} :=
   I1.laid (t':=s.toks) (λb o e=>Heap.get?_push_of_some _ e) (Nat.le_refl _) (show bJ X.prog X.w _ _ _ (.tup ys) from⟨hz,its,r',IsTup.new _ _⟩)
  exact⟨.ref h'.objs.size,_,I2,rfl,q _ (I1.bW.fresh (Nat.le_refl _))⟩
 ·obtain⟨its,r',pl,hz⟩:=I.tuple hq
  exact call_tuple_same pl ⟨.ref p,H,I,rfl,q⟩
def NL (K:PySem.W.Frag)(T:String)(x:V)(H:Hp):Prop:=match x with
 |.str _=>T="str"
 |.int _=>T="int"
 |.ref p=>(T="list"/\∃xs,cu K H p xs)\/(T="tuple"/\∃o,K.lookup p=some o/\o.cls=.type "tuple"/\o.dict=none) \/
   (T="dict"/\((∃kvs,H p=some (.dK kvs))\/∃kvs,H p=some (.dT kvs)))\/(T="set"/\∃S n,H p=some (.set S n))
 |_=>False
theorem D1 {pins:List (Addr × Obj)}{σ:St}{H:Hp}{s:Shared}{T:String}{x:V}{v:Value}(I:Inv X pins σ H s)(r:RelV x v)(ty:NL X.K T x H) :
  s.TypeIs v T/\∀a,v=.ref a->∃ob,s.heap.get? a=some ob/\ob.dict=none:=by
 cases x with
 |str z =>
  obtain⟨t,rfl⟩:=r
  cases(show T="str" from ty)
  exact⟨typeIs_str s z t,λ_ e=>nomatch e⟩
 |int i =>
  obtain⟨t,rfl⟩:=r
  cases(show T="int" from ty)
  exact⟨typeIs_int s i t,λ_ e=>nomatch e⟩
 |ref p =>
  cases r
  rcases ty with⟨rfl,xs,hq⟩|⟨rfl,o,hk,hc,hd⟩|⟨rfl,hk⟩|⟨rfl,S,n,hk⟩
  ·obtain⟨its,_,pl,_⟩:=I.list hq
   refine⟨pl.isList.typeIs,λa e=>?_⟩
   cases e
   obtain⟨o,n,e,c,hd,_⟩:=pl
   exact⟨o,e,hd⟩
  ·refine⟨⟨o,I.uu p o hk,hc⟩,λa e=>?_⟩
   cases e
   exact⟨o,I.uu _ o hk,hd⟩
  ·have z:∃o,s.heap.get? p=some o/\o.ExactDict:=by
    rcases hk with⟨kvs,hk⟩|⟨kvs,hk⟩
    ·obtain⟨_,_,_,_,o,_,_,e,ex,_⟩:=I.bW p _ hk
     exact⟨o,e,ex⟩
    ·obtain⟨_,_,_,_,o,_,_,e,ex,_⟩:=I.bW p _ hk
     exact⟨o,e,ex⟩
   obtain⟨o,e,ex⟩:=z
   refine⟨⟨o,e,ex.1⟩,λa e2=>?_⟩
   cases e2
   exact⟨o,e,ex.2.1⟩
  ·obtain⟨o,_,_,_,e,ex,_⟩:=I.bW p _ hk
   refine⟨⟨o,e,ex.1⟩,λa e2=>?_⟩
   cases e2
   exact⟨o,e,ex.2.1⟩
 |_=>exact False.elim ty
def NA (K:PySem.W.Frag)(T:String)(r:V->List V->Hp->VK->Prop)(to:TE):TE:=λσ H Q=>to σ H λx H1=>NL K T x H1/\r x [] H1 Q
def OF (K:PySem.W.Frag)(T:String)(r:V->List V->Hp->VK->Prop)(to:TE)(t:TA):TE:=λσ H Q=>to σ H λx H1=>NL K T x H1/\t σ H1 λxs H2=>r x xs H2 Q
variable {o e:Expr}{es:List Expr}{to:TE}{t:TA}{name:Str}{apos cpos:Pos}{T id:String}{r:V->List V->Hp->VK->Prop}
theorem JG (pa:PlainAttrs T)(slot:Slot T name id)(hty:typeOf (.builtin id)=pure (.type "method_descriptor"))(hm:ML X id r)(ho:PE X o to)
  (hbase:attributeBase o name X.env (eval o X.env)=eval o X.env:=by rfl)(hline:(apos.endLine == cpos.line)=true:=by rfl):PE X (.Call (.Attribute o name apos) [] [] cpos) (NA X.K T r to):=by
 intro pins s σ H Q I h
 refine wpAny_Call_method0_late hbase hline (b6 (ho pins s σ H _ I h) λv s1 ⟨x,H1,I1,r1,ty,q1⟩=>?_)
 obtain⟨h1,h2⟩:=D1 I1 r1 ty
 exact⟨T,id,pa,slot,hty,h1,h2,Calls.callWith_builtin rfl (PySem.evalArgs_none (hm pins s1 σ H1 x [] v [] Q I1 r1 .nil q1))⟩
theorem sM (pa:PlainAttrs T)(slot:Slot T name id)(hty:typeOf (.builtin id)=pure (.type "method_descriptor"))(hm:ML X id r)(ho:PE X o to)(ha:PA X (e::es) t)
  (hbase:attributeBase o name X.env (eval o X.env)=eval o X.env:=by rfl)
  (hfew:((backTo cpos (starEach (e::es) X.env)).all (λx=>!x.1)&&(backToKw cpos (keywordEach [] X.env)).all (λx=>x.1.isSome)
   && decide ((e::es).length+([]:List Keyword).length+(if([]:List Keyword).isEmpty then 0 else 1)<30))=true:=by rfl)
  (hline:(apos.endLine == cpos.line)=true:=by rfl)(hs:starEach (e::es) X.env=(false,eval e X.env)::starEach es X.env:=by rfl)(hplain:(backTo cpos (starEach es X.env)).any (·.1)=false:=by rfl) :
  PE X (.Call (.Attribute o name apos) (e::es) [] cpos) (OF X.K T r to t):=by
 intro pins s σ H Q I h
 refine wpAny_Call_method_late hbase hfew hline rfl (b6 (ho pins s σ H _ I h) λv s1 ⟨x,H1,I1,r1,ty,q1⟩=>?_)
 obtain⟨h1,h2⟩:=D1 I1 r1 ty
 refine⟨T,id,pa,slot,hty,h1,h2,?_⟩
 have hA:=ha cpos pins s1 σ H1 _ I1 q1
 rw[hs] at hA ⊢
 refine Calls.callWith_builtin (by show(false||(backTo cpos (starEach es X.env)).any (·.1))=false;rw[hplain]<;>rfl) (Calls.evalArgs_plain ?_)
 exact b6 hA λus s2 ⟨vs,H2,I2,r2,q2⟩=>hm pins s2 σ H2 x vs v us Q I2 r1 r2 q2
end
def Js (X:Cx)(id:String)(r:V->List V->Hp->VK->Prop):Prop :=
 ∀(pins:List (Addr × Obj)) (s:Shared) (σ:St) (H:Hp) (x:V) (xs:List V) (v:Value) (us:List Value) (Q:VK),Inv X pins σ H s->RelV x v->Vals xs us->r x xs H Q ->
  wpAny (model X.prog X.w) X.A (call (.builtin id) (v::us)) (EP X pins σ Q) X.xe s
theorem Vals.one:∀{x:V} {us:List Value},Vals [x] us->∃u,us=[u]/\RelV x u
 |_,_,.cons r .nil=>⟨_,rfl,r⟩
theorem Vals.zero:∀{us:List Value},Vals [] us->us=[]
 |_,.nil=>rfl
theorem Vals.eraseIdx:∀{xs:List V} {us:List Value} (i:Nat),Vals xs us->Vals (xs.eraseIdx i) (us.eraseIdx i)
 |_,_,_,.nil=>.nil
 |_,_,0,.cons _ t=>t
 |_,_,i+1,.cons r t=>.cons r (Vals.eraseIdx i t)
theorem Vals.reverse {xs:List V}{us:List Value}(h:Vals xs us):Vals xs.reverse us.reverse:=by
 induction h with
 |nil=>exact .nil
 |cons r t ih=>rw[List.reverse_cons,List.reverse_cons];exact Vals.append ih (.cons r .nil)
theorem rl {α:Type}:∀(l:List α) (i:Nat),(l.eraseIdx i).length<=l.length
 |[],_=>Nat.le_refl _
 |_::_,0=>Nat.le_succ _
 |_::r,i+1=>Nat.succ_le_succ (rl r i)
section
variable {X:Cx}{pins:List (Addr × Obj)}{σ:St}{H:Hp}{s:Shared}{l b:Addr}{xs ys zs:List V}
theorem Inv.CS {its its':List Value}{n:Nat}{f:Array Value->Array Value}{t':Nat}(I:Inv X pins σ H s)(hH:H l=some (.lst xs))
  (e:s.heap.get? l=some { cls:=.type "list",data:=.seq its.toArray n })(hf:f its.toArray=its'.toArray)(hv:Vals ys its')(hz:ys.length<=sizeLine) :
  Inv X pins σ (upd H l (.lst ys)) { s with heap:=s.heap.update l (Obj.mapSeq f),toks:=t' }:=by
 have q:=PySem.IsL.update e f
 rw[hf] at q
 refine I.write (x:=l) (e:=l) (by rw[hH];exact trivial) (.inl rfl) (λb' u hb hu=>(Heap.get?_update_other s.heap (Obj.mapSeq f) (Ne.symm hb)).trans hu) ⟨_,q⟩ ?_
 exact⟨hz,its',_,hv,q⟩
theorem Inv.Mo {its:List Value}{t':Nat}(I:Inv X pins σ H s)(hv:Vals ys its)(hz:ys.length<=sizeLine) :
  Inv X pins σ (upd H s.heap.objs.size (.lst ys)) { s with heap:=s.heap.push { cls:=.type "list",data:=.seq its.toArray },toks:=t' } :=
 I.laid (λ_ _ q=>Heap.get?_push_of_some _ q) (Nat.le_refl _) ⟨hz,its,0,hv,Heap.get?_push_size _ rfl⟩
theorem Inv.fresh (I:Inv X pins σ H s):H s.heap.objs.size=none:=I.bW.fresh (Nat.le_refl _)
theorem Inv.Ak (I:Inv X pins σ H s)(hH:H l=some (.lst xs)):xs.length<=sizeLine/\∃(its:List Value) (n:Nat),Vals xs its/\xs.length=its.length/\s.heap.get? l=some { cls:=.type "list",data:=.seq its.toArray n }:=by
 obtain⟨z,its,n,r,e⟩:=I.bW l _ hH
 exact⟨z,its,n,r,r.length,e⟩
theorem Cz {n:Nat}(h:n<=sizeLine):Builtin.List.listTooLong n=false:=by
 unfold Builtin.List.listTooLong
 exact decide_eq_false (by omega)
end
section
variable {X:Cx}
def Fz:V->List V->Hp->VK->Prop:=λx vs H Q=>∃l xs y,x=.ref l/\vs=[y]/\H l=some (.lst xs)/\xs.length<sizeLine/\Q .ak (upd H l (.lst (xs++[y])))
theorem rq:Js X "list.append" Fz:=by
 intro pins s σ H x vs v us Q I rx rv h
 obtain⟨l,xs,y,rfl,rfl,hH,hz,q⟩:=h
 cases rx
 obtain⟨u,rfl,ru⟩:=rv.one
 obtain⟨z,its,n,r,hl,e⟩:=I.Ak hH
 refine call_meets F.slot_list_append ⟨_,e,rfl⟩ F.entry_list_append (F.args_list_append_2 _ _) (PySem.list_append l its.toArray n u (by rw[List.size_toArray];omega)) ⟨e,?_⟩
 refine⟨.ak,_,I.CS (its':=its++[u]) hH e (by simp) (r.append (.cons ru .nil)) ?_,rfl,q⟩
 rw[List.length_append,List.length_singleton]
 omega
def F1:V->List V->Hp->VK->Prop:=λx vs H Q=>∃l b xs zs,x=.ref l/\vs=[.ref b]/\H l=some (.lst xs)/\H b=some (.lst zs)/\xs.length+zs.length<=sizeLine/\Q .ak (upd H l (.lst (xs++zs)))
theorem Al:Js X "list.extend" F1:=by
 intro pins s σ H x vs v us Q I rx rv h
 obtain⟨l,b,xs,zs,rfl,rfl,hH,hB,hz,q⟩:=h
 cases rx
 obtain⟨u,rfl,ru⟩:=rv.one
 cases ru
 obtain⟨z,its,n,r,hl,e⟩:=I.Ak hH
 obtain⟨z2,its2,n2,r2,hl2,e2⟩:=I.Ak hB
 have hsz:its.toArray.size+its2.toArray.size<=sizeLine:=by rw[List.size_toArray,List.size_toArray];omega
 have hlong:¬ (!its.toArray.isEmpty&&Builtin.List.listTooLong (its.toArray.size+its2.toArray.size))=true:=by
  rw[Cz hsz,Bool.and_false]
  exact Bool.false_ne_true
 refine call_meets F.slot_list_extend ⟨_,e,rfl⟩ F.entry_list_extend (F.args_list_extend_2 _ _)
  (AutoSeq1.list_extend_list_list_0 l its.toArray n b its2.toArray n2 hlong (by rw[List.size_toArray];omega) (by omega)) ⟨e,e2,?_⟩
 refine⟨.ak,_,I.CS (its':=its++its2) hH e (by simp) (r.append r2) ?_,rfl,q⟩
 rw[List.length_append]
 omega
def JU:V->List V->Hp->VK->Prop:=λx vs H Q=>∃l xs i k y,x=.ref l/\vs=[.int i]/\H l=some (.lst xs)/\-(2 ^ 63)<=i/\i<2 ^ 63/\seqIndex? i xs.length=some k/\xs[k]?=some y/\Q y (upd H l (.lst (xs.eraseIdx k)))
theorem Cn:Js X "list.pop" JU:=by
 intro pins s σ H x vs v us Q I rx rv h
 obtain⟨l,xs,i,k,y,rfl,rfl,hH,h1,h2,hk,hy,q⟩:=h
 cases rx
 obtain⟨u,rfl,ru⟩:=rv.one
 obtain⟨t,rfl⟩:=ru
 obtain⟨z,its,n,r,hl,e⟩:=I.Ak hH
 obtain⟨w,hw,rw'⟩:=r.get hy
 refine call_meets F.slot_list_pop ⟨_,e,rfl⟩ F.entry_list_pop (F.args_list_pop_2 _ _)
  (MeetsSeq.list_pop_at l its.toArray n i t k w (fitsIndex_both h1 h2) (by rw[List.size_toArray,<- hl];exact hk) (by rw[<- Array.getElem?_toList];exact hw) (by rw[List.size_toArray];omega)) ⟨e,?_⟩
 refine⟨y,_,I.CS (its':=its.eraseIdx k) hH e ?_ (r.eraseIdx k) ?_,rw',q⟩
 ·show its.toArray.eraseIdxIfInBounds k=(its.eraseIdx k).toArray
  rw[List.eraseIdxIfInBounds_toArray]
 ·have:=rl xs k
  omega
def DM:V->List V->Hp->VK->Prop:=λx vs H Q=>∃l xs,x=.ref l/\vs=[]/\H l=some (.lst xs)/\Q .ak (upd H l (.lst xs.reverse))
theorem xn:Js X "list.reverse" DM:=by
 intro pins s σ H x vs v us Q I rx rv h
 obtain⟨l,xs,rfl,rfl,hH,q⟩:=h
 cases rx
 have hus:=rv.zero
 subst hus
 obtain⟨z,its,n,r,hl,e⟩:=I.Ak hH
 refine call_meets F.slot_list_reverse ⟨_,e,rfl⟩ F.entry_list_reverse (F.args_list_reverse_1 _) (AutoSeq1.list_reverse_list_0 l its.toArray n (by rw[List.size_toArray];omega)) ⟨e,?_⟩
 refine⟨.ak,_,I.CS (its':=its.reverse) hH e (by simp) r.reverse ?_,rfl,q⟩
 rw[List.length_reverse]
 omega
end
section
variable {prog:Program}{w:World}{A:Around}{E:Value->Shared->Prop}{s:Shared}
end
section
variable {X:Cx}
end
end L2
namespace NX
open PySem PySem.W PySem.Calls PyProof.Rows
theorem pT {P:Params}{h:Heap}:∀(ns:List Int) (vs:List Value),WellAll P h vs (ns.map WData.int)->IntsAre vs ns:=by
 intro ns
 induction ns with
 |nil =>
  intro vs w
  rw[List.map_nil] at w
  cases w
  exact .nil
 |cons n ns ih =>
  intro vs w
  rw[List.map_cons] at w
  cases w with
  |cons a b =>
   cases a
   exact .cons _ _ (ih _ b)
theorem A3 {l:OpenLaw}{n:Nat}(hn:l.most=some n){P:Params}{h:Heap}{args:List WData}{vals:List Value}
  (hpre:l.row.toRowW.claim.pre args=true)(hwl:WellAll P h vals args) :
  ∃a vs ns,vals=[Value.ref a]/\args=[WData.list (ns.map WData.int)]/\h.get? a=some { cls:=.type "list",data:=.seq vs.toArray }/\IntsAre vs ns/\ns.length<=n:=by
 have hsh:WShape.hasAll [] args [.list .int]=true:=(pre_splitW hpre).1
 have hc:l.pre.holds [] { args:=args }=true:=(pre_splitW hpre).2
 obtain⟨d,r,rfl,h1,h2⟩:=hasAllW_cons hsh
 obtain rfl:=hasAllW_nil h2
 obtain⟨xs,rfl,h3⟩:=hasW_list h1
 obtain⟨ns,rfl⟩:=items_int h3
 have hlen:ns.length<=n:=by
  unfold OpenLaw.pre at hc
  have h4:(WTm.not (.lt (.lit (.int (n:Int))) (.len (.arg 0)))).holds [] { args:=[.list (ns.map .int)] }=true:=by
   have h4:=(holds_andW hc).1
   rw[hn] at h4
   exact h4
  have h5:=condW_of h4 (w_not (w_lt w_lit (w_len_list (w_arg rfl))))
  rw[List.length_map] at h5
  refine Nat.le_of_not_lt λq=>?_
  have q':(n:Int)<((ns.length:Nat):Int):=by omega
  first
   | (rw[decide_eq_true q'] at h5;exact absurd h5 (by decide))
   | (simp at h5;omega)
 cases hwl with
 |cons w1 w2 =>
  cases w2
  cases w1 with
  |list ho hall=>exact⟨_,_,ns,rfl,rfl,ho,pT ns _ hall,hlen⟩
theorem A0 (l:OpenLaw)(args:List WData):l.row.toRowW.claim.post args (.bool true) args=true :=
 postW_of (r:=l.row.toRowW) (X:=(true == true))
  (show WShape.has [] (.bool true) .bool=true by first|rfl|decide|simp[WShape.has,WShape.arms,WShape.armsAll])
  (show(WTm.eq .res (.lit (.bool true))).value [] { args:=args,res:=some (.bool true),after:=args }=some (.bool (true == true)) from w_eq_bool (w_res rfl) w_lit) rfl
theorem u_ {l:OpenLaw}{n:Nat}{q:Program}{loose:List Str}{XP:(Str->Option Value)->Heap->Prop}{YP:World->Heap->Prop}{d:DefRec}
  (hn:l.most=some n)(hdf:d.params.defaults=[])
  (call:∀(w:World) (s₀ s₁:Shared) (mg mb:Str->Option Value) (fa:Addr) (o:Obj) (pm cd doc:Value) (a:Addr) (vs:List Value) (ns:List Int),
   Ground q loose [] XP w s₀ mg mb s₁.heap->YP w s₁.heap ->
   s₁.heap.get? fa=some o->o.data=.func (docDef d.name d.params d.body d.scope pm cd doc)->s₁.heap.CodeRec cd d.name->mg d.name=some (.ref fa) ->
   s₁.heap.get? a=some { cls:=.type "list",data:=.seq vs.toArray }->IntsAre vs ns->ns.length<=n->s₁.gens=#[] ->
   codeAny (model l.prog w) callerA (.call (.ref fa) ⟨[.ref a],[]⟩) (λr s'=>r=.ok (.ret (.bool true))/\OldK s₁.heap s'.heap/\s'.os=s₁.os/\AllBare s'.gens) s₁) :
  WalkO q loose XP YP l.row.toRowW d [] (λf vs=>PySem.call f vs):=by
 intro w s₀ s₁ mg mb G Y fa o pm cd doc dV kV ho hd hcd hD hmg hg args vals as hpre hlay hrd hwl hlo
 obtain rfl:dV=.none:=Dflts.none hD hdf
 obtain rfl:kV=.none:=Dflts.noKw hD
 obtain⟨a,vs,ns,rfl,rfl,hobj,hints,hlen⟩:=A3 hn hpre hwl
 refine enter_call (codeAny_mono (call w s₀ s₁ mg mb fa o pm cd doc a vs ns G Y ho (fd_plain hd) hcd hmg hobj hints hlen hg) λr s' hq=>?_)
 obtain⟨rfl,h2,h3,h4⟩:=hq
 exact⟨.inl ⟨.bool true,.bool true,[],rfl,λ_=>rfl,.bool true,A0 l _,λ_=>⟨List.Pairwise.nil,λ_ hm=>(nomatch hm)⟩⟩,h2,h3,h4⟩
section
variable {prog:Program}{w:World}{A:Around}{E:Value->Shared->Prop}{s:Shared}{K:Frag}
end
end NX
namespace L2
open PySem PySem.Spec PyProof.Rows
theorem sr:∀{vs:List Value} {ns:List Int},IntsAre vs ns->Vals (ns.map V.int) vs
 |_,_,.nil=>.nil
 |_,_,.cons n t h=>.cons ⟨t,rfl⟩ (sr h)
def HV (H:Hp):Prop:=∀b,H b=none\/∃o xs,H b=some (.fB o (.lst xs))
theorem CM {P:Program}{w:World}{K:PySem.W.Frag}{mg mb:Str->Option Value}{CX:yg}{k:Nat}{fa a:Addr}{fd:FuncData}{x:Str}{sp:Sp}{s₁:Shared}{vs:List Value}{ns:List Int}
  (KX:K.In s₁.heap)(hns:s₁.heap.Ns mainGlobals mg)(hb:s₁.heap.Ns builtinsNs mb)(hbb:∀x:Str,x≠"__name__"->mb x=bootBuiltins x)(hlim:s₁.heap.NoLimit)(hg:s₁.gens=#[])
  (ha:s₁.heap.get? a=some { cls:=.type "list",data:=.seq vs.toArray })(hi:IntsAre vs ns)(hl:ns.length<=sizeLine)(hr:cH k callerA)
  (F:∀base:Heap,K.In base->base.Ns mainGlobals mg->cP P w K mg base CX k fa fd [x] sp)(hbind:∀(s:Shared) (u:Value),BindsTo s fd ⟨[u],[]⟩ [(x,u)])
  (hsp:∀H:Hp,HV H->cu K H a (ns.map V.int)->sp [.ref a] H (λv _=>v=.bl true) λ_ _ _=>False)
  (hCX:∀H e s',CX [] H s₁ (λ_ _ _=>False) e s'->False) :
  codeAny (model P w) callerA (.call (.ref fa) ⟨[.ref a],[]⟩) (λr s'=>r=.ok (.ret (.bool true))/\OldK s₁.heap s'.heap/\s'.os=s₁.os/\AllBare s'.gens) s₁:=by
 have rv:=sr hi
 have lenV:=hi.length
 -- from an abstract heap in which nothing but the script may be tracked
 have core:∀H:Hp,HV H->cu K H a (ns.map V.int)->ki P w H s₁.heap->(∀b,H b≠none->b=a)->(H a≠none->K.lookup a=none) ->
   codeAny (model P w) callerA (.call (.ref fa) ⟨[.ref a],[]⟩) (λr s'=>r=.ok (.ret (.bool true))/\OldK s₁.heap s'.heap/\s'.os=s₁.os/\AllBare s'.gens) s₁:=by
  intro H hO hS bW hA hK
  have base_of:∀{b:Addr} {o:Obj},s₁.heap.get? b=some o->H b=none->(tY s₁.heap H).get? b=some o:=λe n=>CA e n
  have noA:∀{b:Addr} {o:Obj} {es:Array DictEntry} {ep:Nat},s₁.heap.get? b=some o->o.data=.dict es ep->H b=none:=fun{b o es ep} e d=>by
   cases q:H b with
   |none=>rfl
   |some u =>
    have e':b=a:=hA b (by rw[q];simp)
    subst e'
    rw[ha] at e;cases e
    have d':Data.seq vs.toArray _=Data.dict es ep:=d
    cases d'
  have nsK:∀{b:Addr} {m:Str->Option Value},s₁.heap.Ns b m->(tY s₁.heap H).Ns b m:=fun{b m} ⟨o,es,ep,e,d,r⟩=>⟨o,es,ep,base_of e (noA e d),d,r⟩
  have hKb:K.In (tY s₁.heap H):=λb o e=>base_of (KX b o e) (by
   cases q:H b with
   |none=>rfl
   |some u =>
    have e':b=a:=hA b (by rw[q];simp)
    subst e'
    rw[hK (by rw[q];simp)] at e;cases e)
  have hM:Mod K mg (tY s₁.heap H):=⟨hKb,nsK hns,⟨mb,nsK hb,hbb⟩,let ⟨mc,h1,h2⟩:=hlim;⟨mc,nsK h1,h2⟩⟩
  have e0:w_ P w K mg (tY s₁.heap H) callerA [] s₁ H:=⟨rfl,hM,λb o e=>FR e,Nat.le_of_eq (AW _ _),trivial,λb hb=>absurd (show b∈([]:List Addr) from hb) (by simp),bW,.of_eq hg⟩
  refine codeAny_mono ((F _ hKb (nsK hns)).run callerA [] s₁ H ⟨[.ref a],[]⟩ [.ref a] [.ref a] _ _ hr e0 (hbind s₁ (.ref a)) (.cons rfl .nil) (hsp H hO hS)) λr s' h=>?_
  cases r with
  |error e=>exact(hCX H e s' h).elim
  |ok fl =>
   cases fl with
   |next=>exact False.elim h
   |brk=>exact False.elim h
   |cont=>exact False.elim h
   |ret u =>
    obtain⟨v,H',os,bare,un,hok',r',q⟩:=h
    have q':v=.bl true:=q
    subst q'
    obtain rfl:u=Value.bool true:=r'
    refine⟨rfl,OldK.of_keep λb o e=>?_,os,bare⟩
    cases q:H b with
    |none=>exact un.keep b o e q (by intro z;exact absurd (show b∈([]:List Addr) from z) (by simp)) (by simp)
    |some u =>
     rcases hO b with z|⟨ob,xs,z⟩
     ·rw[q] at z;cases z
     ·have z2:=un.n8 b ob _ z
      obtain⟨e1,_⟩:=bW b _ z
      obtain⟨e2,_⟩:=hok' b _ z2
      rw[e] at e1;cases e1
      exact e2
 cases hk:K.lookup a with
 |some o =>
  -- the script is one of the module's own objects
  have e:=KX a o hk
  rw[ha] at e
  cases e
  refine core (λ_=>none) (λ_=>.inl rfl) (.inr ⟨_,vs.toArray,_,hk,rfl,rfl,rfl,by rw[List.size_toArray,lenV];exact hl,by simpa using rv⟩) (λb u z=>by have z':(none:Option HO)=some u:=z;cases z') (λb z=>absurd rfl z) λz=>absurd rfl z
 |none =>
  refine core (λb=>if b=a then some (.fB { cls:=.type "list",data:=.seq vs.toArray } (.lst (ns.map V.int))) else none) (λb=>?_) (.inl (.inr ⟨{ cls:=.type "list",data:=.seq vs.toArray },if_pos rfl⟩)) (λb u z=>?_) (λb z=>?_) λ_=>hk
  ·by_cases hb:b=a
   ·exact .inr ⟨_,_,if_pos hb⟩
   ·exact .inl (if_neg hb)
  ·by_cases hb:b=a
   ·have z':=(if_pos hb).symm.trans z
    cases z'
    subst hb
    exact⟨ha,by rw[List.length_map];exact hl,vs,_,rv,ha⟩
   ·have z':=(if_neg hb).symm.trans z
    cases z'
  ·by_cases hb:b=a
   ·exact hb
   ·exact absurd (if_neg hb) z
theorem GX {l:PySem.W.OpenLaw}{n k:Nat}{q:Program}{loose:List Str}{XP:(Str->Option Value)->Heap->Prop}{YP:World->Heap->Prop}{d:DefRec}{K:Params->PySem.W.Frag}{CX:World->yg}{sp:World->Sp}{x:Str}
  (hn:l.most=some n)(hn2:n<=sizeLine)(hdf:d.params.defaults=[])(hr:cH k callerA)
  (hY:∀(w:World) (h:Heap),YP w h->(K w.params).In h)
  (F:∀(w:World) (mg:Str->Option Value) (fa:Addr) (h:Heap),(K w.params).In h->h.Ns mainGlobals mg->mg d.name=some (.ref fa) ->
   ∃fd:FuncData,(∀(s:Shared) (u:Value),BindsTo s fd ⟨[u],[]⟩ [(x,u)]) /\
    ∀base:Heap,(K w.params).In base->base.Ns mainGlobals mg->cP l.prog w (K w.params) mg base (CX w) k fa fd [x] (sp w))
  (hsp:∀(w:World) (H:Hp) (a:Addr) (ns:List Int),ns.length<=n->HV H->cu (K w.params) H a (ns.map V.int)->sp w [.ref a] H (λv _=>v=.bl true) λ_ _ _=>False)
  (hCX:∀(w:World) (H:Hp) (s:Shared) (e:Value) (s':Shared),CX w [] H s (λ_ _ _=>False) e s'->False) :
  PySem.W.WalkO q loose XP YP l.row.toRowW d [] (λf vs=>PySem.call f vs):=by
 refine NX.u_ hn hdf λw s₀ s₁ mg mb fa o pm cd doc a vs ns G Y ho hd hcd hmg hobj hints hlen hg=>?_
 have KX:=hY w _ Y
 obtain⟨fd,hb,hF⟩:=F w mg fa _ KX G.T.g hmg
 exact CM KX G.T.g G.T.b G.T.builtins G.T.nolimit hg hobj hints (Nat.le_trans hlen hn2) hr hF hb (λH hO hS=>hsp w H a ns hlen hO hS) λH e s'=>hCX w H s₁ e s'
def cw (s:Stmt):Arguments:=match s with
 |.FunctionDef _ a _ _ _ _ _ _ _ _=>a
 |_=>{ posonlyargs:=[],args:=[],vararg:=none,kwonlyargs:=[],kw_defaults:=[],kwarg:=none,defaults:=[] }
def bE (s:Stmt):List Stmt:=match s with
 |.FunctionDef _ _ b _ _ _ _ _ _ _=>b
 |_=>[]
def aC (s:Stmt):Scope:=match s with
 |.FunctionDef _ _ _ _ _ _ sc _ _ _=>sc
 |_=>{ kind:=.function,names:=[],isGenerator:=false,isCoroutine:=false }
abbrev pQ:yg:=λ_ _ _ _ _ _=>False
abbrev E0:XK:=λ_ _ _=>False
theorem sI {X:Cx}:Passes pQ X E0:=λ_ _ _ _ _ _ _ h=>h.elim
structure xA (K:PySem.W.Frag) (x qual:Str) (st:Stmt) (f:Addr) (fd:FuncData):Prop where
 ex:∃(oc:Value) (od:Option Addr) (kV doc pm:Value) (an:Option Addr) (cdv ct:Value) (osl:Array (Option Value)),
  fd=fnOf x qual (cw st) (bE st) (aC st) .none kV doc pm an cdv ct/\K.lookup f=some ⟨oc,od,.func fd,osl⟩/\codeIn K cdv qual=true
 kp:keepIn K (.ref f)=true
section
variable {P:Program}{w:World}{K:PySem.W.Frag}{mg:Str->Option Value}{base:Heap}
theorem xA.ok {x qual:Str}{st:Stmt}{f:Addr}{fd:FuncData}{N ps:List Str}{k:Nat}{sp:Sp}(F:xA K x qual st f fd)(S:aE N ps (aC st))(len:∀vs H Q E,sp vs H Q E->vs.length=ps.length)
  (hbody:∀(cdv:Value) (A:Around) (outer:List Env) (s:Shared) (H:Hp) (vs:List V) (Q:VK) (E:XK),cH k (A.deeper (envOfC qual (aC st) s.heap.objs.size f cdv))->sp vs H Q E ->
   ∃t,ly (vH pQ P w K mg base N qual (aC st) f cdv A outer s H E).Im (bE st) t/\t { nx:=λ_ H'=>Q .ak H',rt:=Q } (start N vs) H):cP P w K mg base pQ (k+1) f fd ps sp:=by
 obtain⟨oc,od,kV,doc,pm,an,cdv,ct,osl,rfl,lk,hcd⟩:=F.ex
 refine Gr lk hcd S len λA outer s H vs Q E hr hsp=>?_
 obtain⟨t,h,q⟩:=hbody cdv A outer s H vs Q E hr hsp
 exact⟨t,h.Im,q⟩
theorem xA.binds {x qual:Str}{st:Stmt}{f:Addr}{fd:FuncData}{ps:List Str}(F:xA K x qual st f fd)
  (h:∀(kV doc pm:Value) (an:Option Addr) (cdv ct:Value) (us:List Value),us.length=ps.length->bindArgs (fnOf x qual (cw st) (bE st) (aC st) .none kV doc pm an cdv ct) ⟨us,[]⟩=pure (ps.zip us)):Binds K fd ps []:=by
 obtain⟨oc,od,kV,doc,pm,an,cdv,ct,osl,rfl,lk,hcd⟩:=F.ex
 exact .all (h kV doc pm an cdv ct)
theorem n9 {x qual:Str}{st:Stmt}{f:Addr}{oc:Value}{od an:Option Addr}{osl:Array (Option Value)}{kV doc pm cdv ct:Value}(l:K.lookup f=some ⟨oc,od,.func (fnOf x qual (cw st) (bE st) (aC st) .none kV doc pm an cdv ct),osl⟩)
  (c:codeIn K cdv qual=true)(k:keepIn K (.ref f)=true):xA K x qual st f (fnOf x qual (cw st) (bE st) (aC st) .none kV doc pm an cdv ct):=⟨⟨oc,od,kV,doc,pm,an,cdv,ct,osl,rfl,l,c⟩,k⟩
end
theorem A6 {n:Nat}(h:n<=1000):n<sizeLine:=Nat.lt_of_le_of_lt h (by decide)
section
variable {X:Cx}
theorem pv (i:Nat){x:Str}{pos:Pos}(hN:X.N[i]?=some x:=by rfl)(hv:uq X.env.scope x:=by first|exact Or.inl rfl|exact Or.inr (Or.inl rfl)|exact Or.inr (Or.inr rfl))(hd:(x == ("__debug__":Str))=false:=by decide)
  (hcd:(x == ("__classdict__":Str))=false:=by decide):PE X (.Name x pos) (wq i):=eB hN hv hd hcd
end
theorem aO {A B:Prop}(h:B):if false=true then A else B:=by
 rw[if_neg Bool.false_ne_true]
 exact h
theorem ae {A B:Prop}(h:A):if true=true then A else B:=by
 rw[if_pos rfl]
 exact h
def aK (H H':Hp):Prop:=∀b o,H b=some o->H' b=some o
theorem aK.refl (H:Hp):aK H H:=λ_ _ h=>h
theorem aK.trans {H H1 H2:Hp}(a:aK H H1)(b:aK H1 H2):aK H H2:=λc o h=>b c o (a c o h)
theorem aK.free {H H':Hp}(e:aK H H'){l:Addr}(h:H' l=Option.none):H l=Option.none:=by
 cases q:H l with
 |none=>rfl
 |some o =>
  rw[e l o q] at h
  cases h
theorem aK.seq {K:PySem.W.Frag}{H H':Hp}{a:Addr}{xs:List V}(e:aK H H')(h:cu K H a xs):cu K H' a xs:=by
 rcases h with(h|⟨o,h⟩)|h
 ·exact .inl (.inl (e _ _ h))
 ·exact .inl (.inr ⟨o,e _ _ h⟩)
 ·exact .inr h
section
variable {κ:Type} [DecidableEq κ]
def nh (kvs:List (κ × V))(k:κ):Option V:=(kvs.find? λkv=>decide (kv.1=k)).map (·.2)
def putK (kvs:List (κ × V))(k:κ)(v:V):List (κ × V) :=
 if(kvs.any λkv=>decide (kv.1=k))=true then kvs.map (λkv=>if kv.1=k then(kv.1,v) else kv) else kvs++[(k,v)]
theorem rB {p:κ × V}{r:List (κ × V)}{k:κ}(e:p.1=k):nh (p::r) k=some p.2:=by simp[nh,List.find?_cons,e]
theorem rA {p:κ × V}{r:List (κ × V)}{k:κ}(e:¬ p.1=k):nh (p::r) k=nh r k:=by simp[nh,List.find?_cons,e]
theorem wx (k:κ):∀kvs:List (κ × V),(kvs.any λkv=>decide (kv.1=k))=(nh kvs k).isSome
 |[]=>rfl
 |p::r=>by
  rw[List.any_cons]
  by_cases e:p.1=k
  ·simp only[rB e,decide_eq_true e,Bool.true_or,Option.isSome_some]
  ·rw[rA e,decide_eq_false e,Bool.false_or];exact wx k r
theorem pB (kvs:List (κ × V))(k:κ)(v:V):(putK kvs k v).length<=kvs.length+1:=by
 unfold putK
 split
 ·rw[List.length_map];omega
 ·rw[List.length_append,List.length_cons,List.length_nil];omega
theorem jD.hV {o:Option V}{u:Option Value}(r:jD o u):o.isSome=u.isSome:=by
 cases o with
 |none=>cases u with
  |none=>rfl
  |some _=>exact(show False from r).elim
 |some _=>cases u with
  |none=>exact(show False from r).elim
  |some _=>rfl
theorem KV.val {kvs:List (κ × V)}{vs:List (κ × Value)}(r:KV kvs vs)(k:κ):jD (nh kvs k) (valueAt vs k):=by
 unfold KV at r
 induction r with
 |nil=>exact True.intro
 | @cons p q ps qs h t ih =>
  obtain⟨h1,h2⟩:=h
  by_cases e:p.1=k
  ·have e':q.1=k:=h1.symm.trans e
   have b:valueAt (q::qs) k=some q.2:=by simp[valueAt,List.find?_cons,e']
   rw[rB e,b];exact h2
  ·have e':¬ q.1=k:=λz=>e (h1.trans z)
   have b:valueAt (q::qs) k=valueAt qs k:=by simp[valueAt,List.find?_cons,e']
   rw[rA e,b];exact ih
theorem KV.any {kvs:List (κ × V)}{vs:List (κ × Value)}(r:KV kvs vs)(k:κ):(kvs.any λkv=>decide (kv.1=k))=vs.any λkv=>decide (kv.1=k):=by
 unfold KV at r
 induction r with
 |nil=>rfl
 |cons h t ih=>rw[List.any_cons,List.any_cons,ih,h.1]
theorem KV.JY {kvs:List (κ × V)}{vs:List (κ × Value)}(r:KV kvs vs)(k:κ){y:V}{u:Value}(ry:RelV y u) :
  KV (kvs.map λkv=>if kv.1=k then(kv.1,y) else kv) (vs.map λkv=>if kv.1=k then(kv.1,u) else kv):=by
 unfold KV at r ⊢
 induction r with
 |nil=>exact .nil
 | @cons p q ps qs h t ih =>
  rw[List.map_cons,List.map_cons]
  refine .cons ?_ ih
  obtain⟨h1,h2⟩:=h
  by_cases e:p.1=k
  ·rw[if_pos e,if_pos (h1.symm.trans e)];exact⟨h1,ry⟩
  ·rw[if_neg e,if_neg (λz=>e (h1.trans z))];exact⟨h1,h2⟩
theorem KV.put {kvs:List (κ × V)}{vs:List (κ × Value)}(r:KV kvs vs)(k:κ){y:V}{u:Value}(ry:RelV y u):KV (putK kvs k y) (stored vs k u):=by
 unfold putK stored
 rw[r.any k]
 by_cases e:(vs.any λkv=>decide (kv.1=k))=true
 ·rw[if_pos e,if_pos e];exact r.JY k ry
 ·rw[if_neg e,if_neg e];exact Paired.snoc r ⟨rfl,ry⟩
theorem KV.keys {kvs:List (κ × V)}{vs:List (κ × Value)}(r:KV kvs vs):kvs.map (·.1)=vs.map (·.1):=by
 unfold KV at r
 induction r with
 |nil=>rfl
 |cons h t ih=>rw[List.map_cons,List.map_cons,ih,h.1]
theorem KV.length {kvs:List (κ × V)}{vs:List (κ × Value)}(r:KV kvs vs):kvs.length=vs.length:=Paired.length r
end
theorem vt {P:Program}{w:World}{k:Key}{u:Value}(r:RelV (kV k) u):(bq P w).is k u=true:=by
 cases k with
 |inl i=>obtain⟨t,e⟩:=(show ∃t,u=Value.int i t from r);subst e;exact v_ P w i t
 |inr x=>obtain⟨t,e⟩:=(show ∃t,u=Value.str x t from r);subst e;exact wA P w x t
theorem rf {P:Program}{w:World}:∀{ks:List Key} {us:List Value},Vals (ks.map kV) us->ItemsAre (bq P w) ks us
 |[],_,r=>by rw[List.map_nil] at r;cases r;exact .nil
 |k::ks,_,r=>by
  rw[List.map_cons] at r
  cases r with
  |cons h t=>exact .cons (vt h) (rf t)
abbrev KT (H:Hp):List (List Key × V)->List (List Key × Addr × Value)->Prop:=Paired λp q=>p.1=q.1/\H q.2.1=some (.tup (p.1.map kV))/\RelV p.2 q.2.2
theorem KT.val {H:Hp}{kvs:List (List Key × V)}{xs:List (List Key × Addr × Value)}(r:KT H kvs xs)(k:List Key):jD (nh kvs k) ((atKey xs k).map (·.2)):=by
 induction r with
 |nil=>exact True.intro
 | @cons p q ps qs h t ih =>
  obtain⟨h1,_,h2⟩:=h
  by_cases e:p.1=k
  ·have e':q.1=k:=h1.symm.trans e
   have b:atKey (q::qs) k=some q.2:=by simp[atKey,List.find?_cons,e']
   rw[rB e,b];exact h2
  ·have e':¬ q.1=k:=λz=>e (h1.trans z)
   have b:atKey (q::qs) k=atKey qs k:=by simp[atKey,List.find?_cons,e']
   rw[rA e,b];exact ih
theorem KT.JY {H:Hp}{kvs:List (List Key × V)}{xs:List (List Key × Addr × Value)}(r:KT H kvs xs)(k:List Key){y:V}{u:Value}(ry:RelV y u) :
  KT H (kvs.map λkv=>if kv.1=k then(kv.1,y) else kv) (xs.map (putAt k u)):=by
 induction r with
 |nil=>exact .nil
 | @cons p q ps qs h t ih =>
  rw[List.map_cons,List.map_cons]
  refine .cons ?_ ih
  obtain⟨h1,h2,h3⟩:=h
  unfold putAt
  by_cases e:p.1=k
  ·rw[if_pos e,if_pos (h1.symm.trans e)];exact⟨h1,h2,ry⟩
  ·rw[if_neg e,if_neg (λz=>e (h1.trans z))];exact⟨h1,h2,h3⟩
theorem KT.put {H:Hp}{kvs:List (List Key × V)}{xs:List (List Key × Addr × Value)}(r:KT H kvs xs)(k:List Key){b:Addr}{y:V}{u:Value}(hb:H b=some (.tup (k.map kV)))(ry:RelV y u) :
  KT H (putK kvs k y) (storedH xs k b u):=by
 have e:(kvs.any λkv=>decide (kv.1=k))=(atKey xs k).isSome:=by
  rw[wx,(r.val k).hV,Option.isSome_map]
 unfold putK storedH
 rw[e]
 by_cases q:(atKey xs k).isSome=true
 ·rw[if_pos q,if_pos q];exact r.JY k ry
 ·rw[if_neg q,if_neg q];exact Paired.snoc r ⟨rfl,hb,ry⟩
theorem KT.keeps {H H':Hp}{kvs:List (List Key × V)}{xs:List (List Key × Addr × Value)}(r:KT H kvs xs)(ht:∀b ys,H b=some (.tup ys)->H' b=some (.tup ys)):KT H' kvs xs :=
 Paired.Ih r λ_ _ z=>⟨z.1,ht _ _ z.2.1,z.2.2⟩
section
variable {P:Program}{w:World}{H:Hp}{h:Heap}{a:Addr}
theorem HA {u:HO}(ok:ki P w H h)(e:Rd H a u):bJ P w H h a u:=e.ok ok
theorem o6 {kvs:List (Key × V)}(ok:ki P w H h)(e:Rd H a (.dK kvs)):kvs.length<=sizeLine/\(a == sysModules)=false/\∃vs,KV kvs vs/\h.DictOf (bq P w) a vs :=
 show bJ P w H h a (.dK kvs) from HA ok e
theorem KL {kvs:List (Key × V)}(ok:ki P w H h)(e:H a=some (.dK kvs)):kvs.length<=sizeLine/\(a == sysModules)=false/\∃vs,KV kvs vs/\h.DictOf (bq P w) a vs:=o6 ok (.inl e)
theorem qR {ks:List Key}(ok:ki P w H h)(e:H a=some (.tup (ks.map kV))):(tupleKind (bq P w)).is h ks a:=by
 obtain⟨_,its,r,o,h1,h2,n,h3⟩:=(show bJ P w H h a (.tup (ks.map kV)) from ok a _ e)
 exact⟨o,its.toArray,n,h1,h2,h3,by simpa using rf r⟩
theorem vV {kvs:List (List Key × V)}(ok:ki P w H h)(e:Rd H a (.dT kvs)):kvs.length<=sizeLine/\(a == sysModules)=false /\
  ∃xs,KT H kvs xs/\h.DictOfH (tupleKind (bq P w)) a xs:=by
 obtain⟨z,y,xs,r,o,es,ep,h1,h2,h3,h4,h5⟩:=(show bJ P w H h a (.dT kvs) from HA ok e)
 refine⟨z,y,xs,r,o,es,ep,h1,h2,h3,h4,λx hx=>?_,h5⟩
 have all:∀{l:List (List Key × V)} {m:List (List Key × Addr × Value)},KT H l m->∀x∈m,(tupleKind (bq P w)).is h x.1 x.2.1:=by
  intro l m q
  induction q with
  |nil=>intro x hx;exact nomatch hx
  | @cons p q ps qs hq t ih =>
   intro x hx
   rcases List.mem_cons.mp hx with e|hx
   ·subst e
    exact qR ok (by rw[<- hq.1];exact hq.2.1)
   ·exact ih x hx
 exact all r x hx
theorem KN {kvs:List (List Key × V)}(ok:ki P w H h)(e:H a=some (.dT kvs)):kvs.length<=sizeLine/\(a == sysModules)=false /\
  ∃xs,KT H kvs xs/\h.DictOfH (tupleKind (bq P w)) a xs:=vV ok (.inl e)
end
def uw (H:Hp)(a:Addr)(y:V)(r:Option V):Prop :=
 (∃kvs k,Rd H a (.dK kvs)/\y=kV k/\r=nh kvs k)\/∃kvs k b,Rd H a (.dT kvs)/\y=.ref b/\H b=some (.tup (k.map kV))/\r=nh kvs k
def z7 (H:Hp)(a:Addr)(y v:V)(H':Hp):Prop :=
 (∃kvs k,H a=some (.dK kvs)/\y=kV k/\kvs.length<sizeLine/\H'=upd H a (.dK (putK kvs k v))) \/
 ∃kvs k b,H a=some (.dT kvs)/\y=.ref b/\H b=some (.tup (k.map kV))/\kvs.length<sizeLine/\H'=upd H a (.dT (putK kvs k v))
theorem z7.k {H:Hp}{a:Addr}{kvs:List (Key × V)}{k:Key}{v:V}(e:H a=some (.dK kvs))(hl:kvs.length<sizeLine):z7 H a (kV k) v (upd H a (.dK (putK kvs k v))):=.inl ⟨kvs,k,e,rfl,hl,rfl⟩
section
variable {X:Cx}{pins:List (Addr × Obj)}{σ:St}{H:Hp}{s:Shared}{a:Addr}{y v:V}{u r:Value}{o:Option V}{A:Around}{E:Value->Shared->Prop}
theorem Inv.big (I:Inv X pins σ H s):sysModules<s.heap.objs.size:=by
 have h:mainGlobals<s.heap.objs.size:=(I.mod.glob.keeps I.bk).lt
 exact Nat.lt_trans (by decide) h
theorem AJ {Q:Value->Shared->Prop}(hu:A.units+1<cLine)(I:Inv X pins σ H s)(g:uw H a y (some v))(ry:RelV y u)(h:∀w' s',Inv X pins σ H s'->RelV v w'->Q w' s') :
  wpAny (model X.prog X.w) A (getItem (.ref a) u) Q E s:=by
 rcases g with⟨kvs,k,e,ey,l⟩|⟨kvs,k,b,e,ey,eb,l⟩
 ·subst ey
  obtain⟨z,hd,vs,rel,dd⟩:=o6 I.bW e
  obtain⟨w',hw,rw'⟩:=jD.some_of (v:=v) (o:=valueAt vs k) (by rw[l];exact rel.val k)
  exact wpAny_getItem_of (vt ry) dd.mapOf hw (h w' _ (I.tok _) rw')
 ·subst ey
  cases(show u=Value.ref b from ry)
  obtain⟨z,hd,xs,rel,dd⟩:=vV I.bW e
  obtain⟨w',hw,rw'⟩:=jD.some_of (v:=v) (o:=(atKey xs k).map (·.2)) (by rw[l];exact rel.val k)
  obtain⟨p,hp,hp2⟩:=Option.map_eq_some_iff.mp hw
  refine wpAny_getItem_heap (tupleKind_room_in1 hu) (qR I.bW eb) dd hp ?_
  rw[hp2]
  exact h w' _ (I.tok _) rw'
theorem Bq {Q:Value->Shared->Prop}(hu:A.units+1<cLine)(I:Inv X pins σ H s)(g:uw H a y o)(ry:RelV y u)(h:∀s',Inv X pins σ H s'->Q (.bool o.isSome) s') :
  wpAny (model X.prog X.w) A (compareOp .In u (.ref a)) Q E s:=by
 rcases g with⟨kvs,k,e,ey,l⟩|⟨kvs,k,b,e,ey,eb,l⟩
 ·subst ey
  obtain⟨z,hd,vs,rel,dd⟩:=o6 I.bW e
  refine wpAny_in_of (vt ry) hd dd.mapOf ?_
  rw[<- (rel.val k).hV,<- l]
  exact h _ (I.tok _)
 ·subst ey
  cases(show u=Value.ref b from ry)
  obtain⟨z,hd,xs,rel,dd⟩:=vV I.bW e
  refine wpAny_in_heap (tupleKind_room_in1 hu) (qR I.bW eb) hd dd ?_
  have q:=(rel.val k).hV
  rw[Option.isSome_map] at q
  rw[<- q,<- l]
  exact h _ (I.tok _)
theorem Ed {Q:Value->Shared->Prop}(hu:A.units+1<cLine)(I:Inv X pins σ H s)(g:uw H a y o)(ry:RelV y u)(h:∀s',Inv X pins σ H s'->Q (.bool (!o.isSome)) s') :
  wpAny (model X.prog X.w) A (compareOp .NotIn u (.ref a)) Q E s:=by
 rcases g with⟨kvs,k,e,ey,l⟩|⟨kvs,k,b,e,ey,eb,l⟩
 ·subst ey
  obtain⟨z,hd,vs,rel,dd⟩:=o6 I.bW e
  refine wpAny_notIn_of (vt ry) hd dd.mapOf ?_
  rw[<- (rel.val k).hV,<- l]
  exact h _ (I.tok _)
 ·subst ey
  cases(show u=Value.ref b from ry)
  obtain⟨z,hd,xs,rel,dd⟩:=vV I.bW e
  refine wpAny_notIn_heap (tupleKind_room_in1 hu) (qR I.bW eb) hd dd ?_
  have q:=(rel.val k).hV
  rw[Option.isSome_map] at q
  rw[<- q,<- l]
  exact h _ (I.tok _)
theorem yp {h':Heap}{t':Nat}{ob:HO}(I:Inv X pins σ H s)(mu:J3 (H a))(hs:Heap.SameBut a s.heap h')(he:∃q,h'.get? a=some q)(new:bJ X.prog X.w (upd H a ob) h' a ob) :
  Inv X pins σ (upd H a ob) { s with heap:=h',toks:=t' } :=
 I.write (x:=a) (e:=a) mu (.inl rfl) (λb q hb z=>(hs.2 b hb).trans z) he new
theorem Ht {P:Program}{w:World}{H':Hp}{h':Heap}{kvs:List (Key × V)}{vs:List (Key × Value)}(z:kvs.length<=sizeLine)(hd:(a == sysModules)=false)(rel:KV kvs vs)(dd:h'.DictOf (bq P w) a vs) :
  bJ P w H' h' a (.dK kvs):=⟨z,hd,vs,rel,dd⟩
theorem AL {H':Hp}{Q:Unit->Shared->Prop}(hu:A.units+1<cLine)(I:Inv X pins σ H s)(g:z7 H a y v H')(ry:RelV y u)(rv:RelV v r)(h:∀s',Inv X pins σ H' s'->Q () s') :
  wpAny (model X.prog X.w) A (setItem (.ref a) u r) Q E s:=by
 rcases g with⟨kvs,k,e,ey,l,eH⟩|⟨kvs,k,b,e,ey,eb,l,eH⟩
 ·subst ey eH
  obtain⟨z,hd,vs,rel,dd⟩:=KL I.bW e
  have hz:vs.length<=sizeLine:=by rw[<- rel.length];exact z
  have hl:(putK kvs k v).length<=sizeLine:=by have:=pB kvs k v;omega
  refine wpAny_setItem_pairs (hsz:=hz) (vt ry) dd λh' dd' hs=>h _ ?_
  have he:∃q,h'.get? a=some q:=let ⟨q,_,_,hq,_⟩:=dd';⟨q,hq⟩
  exact yp I (by rw[e];exact True.intro) hs he (Ht hl hd (rel.put k rv) dd')
 ·subst ey eH
  cases(show u=Value.ref b from ry)
  obtain⟨z,hd,xs,rel,dd⟩:=KN I.bW e
  have hz:xs.length<=sizeLine:=by rw[<- Paired.length rel];exact z
  have hl:(putK kvs k v).length<=sizeLine:=by have:=pB kvs k v;omega
  refine wpAny_setItem_heap (hsz:=hz) (tupleKind_room_in1 hu) (qR I.bW eb) dd λh' dd' hs=>h _ ?_
  obtain⟨q,es,ep,hq,h2,h3,h4,_,h5⟩:=dd'
  refine yp I (by rw[e];exact True.intro) hs ⟨q,hq⟩ ⟨hl,hd,_,(rel.put k eb rv).keeps λc ys ec=>?_,q,es,ep,hq,h2,h3,h4,h5⟩
  rw[aI (Kz ec e (λz=>nomatch z))]
  exact ec
end
section
variable {X:Cx}{pins:List (Addr × Obj)}{σ:St}{H:Hp}{s:Shared}{a:Addr}{kvs:List (Key × V)}{k:Key}{u:Value}{A:Around}{E:Value->Shared->Prop}
theorem cO {Q:Value->Shared->Prop}(I:Inv X pins σ H s)(e:Rd H a (.dK kvs))(h:∀t s',Inv X pins σ H s'->Q (.int kvs.length t) s'):wpAny (model X.prog X.w) A (call (.builtin "len") [.ref a]) Q E s:=by
 obtain⟨z,hd,vs,rel,dd⟩:=o6 I.bW e
 refine call_len_dict hd dd (by rw[<- rel.length];rw[sizeLine_eq] at z;omega) ?_
 rw[<- rel.length]
 exact h _ _ (I.tok _)
end
def HU (i:Expr):Prop:=∀ov iv,subscripted i false ov iv=operate [ov,iv] (getItem ov iv)
theorem GB {prog:Program}{w:World}{A:Around}{E:Value->Shared->Prop}{s:Shared}{env:Env}{value slice:Expr}{pos:Pos}{T id:String}{Q:Value->Shared->Prop}
  (hl:typeLookup (.type T) "__getitem__"=pure (some (.builtin id)))(hs:HU slice)
  (h:wpAny (model prog w) A (eval value env) (λo s₁=>wpAny (model prog w) A (eval slice env) (λi s₂=>s₂.TypeIs o T/\wpAny (model prog w) A (getItem o i) Q E s₂) E s₁) E s) :
  wpAny (model prog w) A (eval (.Subscript value slice pos) env) Q E s:=by
 refine Subscript_ (wpAny_mono h (λo s₁ h₁=>wpAny_mono h₁ (λi s₂ h₂=>?_) λ_ _ x=>x) λ_ _ x=>x)
 obtain⟨hT,h₂⟩:=h₂
 unfold subscriptTail
 refine wpAny_bind ?_
 rw[getitemInPython_of_ne hT.not_modules]
 refine wpAny_bind (wpAny_specialOf hT hl ?_)
 have fin:wpAny (model prog w) A (subscripted slice false o i) (λr s₃=>wpAny (model prog w) A (letTemporaryGo value o r >>= λ_=>pure r) Q E s₃) E s₂:=by
  rw[hs o i]
  exact wpAny_operating (wpAny_mono h₂ (λr s₃ h₃=>wpAny_bind (wpAny_letTemporaryGo (wpAny_pure h₃))) λ_ _ x=>x)
 first
  |exact wpAny_pure (wpAny_bind fin)
  |exact wpAny_bind (wpAny_pure (wpAny_bind fin))
  |exact wpAny_bind fin
theorem vS {X:Cx}{pins:List (Addr × Obj)}{σ:St}{H:Hp}{s:Shared}{a:Addr}{y:V}{o:Option V}(I:Inv X pins σ H s)(g:uw H a y o):s.TypeIs (.ref a) "dict":=by
 rcases g with⟨kvs,k,e,_,_⟩|⟨kvs,k,b,e,_,_,_⟩
 ·obtain⟨_,_,vs,_,dd⟩:=o6 I.bW e
  exact dd.typeIs
 ·obtain⟨_,_,xs,_,dd⟩:=vV I.bW e
  exact dd.typeIs
def Lc (td ty:TE):TE:=λσ H Q=>td σ H λx H1=>ty σ H1 λy H2=>∃a v,x=.ref a/\uw H2 a y (some v)/\Q v H2
def Ld (ty td:TE):TE:=λσ H Q=>ty σ H λy H1=>td σ H1 λx H2=>∃a o,x=.ref a/\uw H2 a y o/\Q (.bl o.isSome) H2
def zx (ty td:TE):TE:=λσ H Q=>ty σ H λy H1=>td σ H1 λx H2=>∃a o,x=.ref a/\uw H2 a y o/\Q (.bl (!o.isSome)) H2
def LN (td ty tv:TE):TS:=λD σ H=>tv σ H λv H1=>td σ H1 λx H2=>ty σ H2 λy H3=>∃a H4,x=.ref a/\z7 H3 a y v H4/\D.nx σ H4
section
variable {X:Cx}{o i e value:Expr}{pos pos' tpos:Pos}{td ty tv:TE}
theorem Fj (hu:X.A.units+1<cLine)(ho:PE X o td)(hi:PE X i ty)(hs:HU i):PE X (.Subscript o i pos) (Lc td ty):=by
 intro pins s σ H Q I h
 refine GB PySem.F.slot_dict_getitem.lookup hs (b6 (ho pins s σ H _ I h) λu s1 ⟨x,H1,I1,rx,q1⟩=>b6 (hi pins s1 σ H1 _ I1 q1) λiv s2 ⟨y,H2,I2,ry,a,v,ex,g,q2⟩=>?_)
 subst ex
 obtain rfl:u=Value.ref a:=rx
 exact⟨vS I2 g,AJ hu I2 g ry λw' s3 I3 rw'=>⟨v,H2,I3,rw',q2⟩⟩
theorem JE (hu:X.A.units+1<cLine)(hi:PE X i ty)(ho:PE X o td):PC X .In i o (Ld ty td):=by
 intro pins s σ H Q I h
 refine b6 (hi pins s σ H _ I h) λiv s1 ⟨y,H1,I1,ry,q1⟩=>b6 (ho pins s1 σ H1 _ I1 q1) λu s2 ⟨x,H2,I2,rx,a,ov,ex,g,q2⟩=>?_
 subst ex
 obtain rfl:u=Value.ref a:=rx
 exact Bq hu I2 g ry λs3 I3=>⟨.bl ov.isSome,H2,I3,rfl,q2⟩
theorem sL (hu:X.A.units+1<cLine)(hi:PE X i ty)(ho:PE X o td):PC X .NotIn i o (zx ty td):=by
 intro pins s σ H Q I h
 refine b6 (hi pins s σ H _ I h) λiv s1 ⟨y,H1,I1,ry,q1⟩=>b6 (ho pins s1 σ H1 _ I1 q1) λu s2 ⟨x,H2,I2,rx,a,ov,ex,g,q2⟩=>?_
 subst ex
 obtain rfl:u=Value.ref a:=rx
 exact Ed hu I2 g ry λs3 I3=>⟨.bl (!ov.isSome),H2,I3,rfl,q2⟩
theorem zb (hu:X.A.units+1<cLine)(ho:PE X o td)(hi:PE X i ty)(hv:PE X value tv)(hs:swapsWith value (some (.Subscript o i pos')) pos.line X.env=pure false) :
  PS X (.Assign [.Subscript o i pos'] value pos) (LN td ty tv):=by
 intro pins s σ H D I h
 refine wpAny_Assign_Subscript (b6 (hv pins s σ H _ I h) λr s1 ⟨v,H1,I1,rv,q1⟩=>b6 (ho pins s1 σ H1 _ I1 q1) λu s2 ⟨x,H2,I2,rx,q2⟩=>b6 (hi pins s2 σ H2 _ I2 q2) λiv s3 ⟨y,H3,I3,ry,a,H4,ex,g,q3⟩=>?_) hs
 subst ex
 obtain rfl:u=Value.ref a:=rx
 exact AL hu I3 g ry rv λs4 I4=>⟨σ,H4,I4,q3⟩
end
theorem Bz {P:Program}{w:World}{H:Hp}(h:Heap)(hb:sysModules<h.objs.size):bJ P w H (h.push { cls:=.type "dict",data:=.dict #[] }) h.objs.size (.dK []) :=
 ⟨Nat.zero_le _,beq_eq_false_iff_ne.mpr (Ne.symm (Nat.ne_of_lt hb)),[],.nil,Heap.DictOf.new h⟩
def Jh:TE:=λ_ H Q=>∀p,H p=none->Q (.ref p) (upd H p (.dK []))
section
variable {X:Cx}{pos:Pos}
theorem C9:PE X (.Dict [] [] pos) Jh:=λpins s σ H Q I h =>
 wpAny_Dict_empty ⟨.ref s.heap.objs.size,_,I.laid (a:=s.heap.objs.size) (o:=.dK []) (t':=s.toks) (λ_ _ q=>Heap.get?_push_of_some _ q) (Nat.le_refl _) (Bz s.heap I.big),rfl,h _ (I.bW.fresh (Nat.le_refl _))⟩
end
section
variable {X:Cx}{pins:List (Addr × Obj)}{σ:St}{H:Hp}{s:Shared}{a:Addr}{y d:V}{u r:Value}{o:Option V}{A:Around}{E:Value->Shared->Prop}
end
section
variable {X:Cx}{o e f:Expr}{apos cpos:Pos}{td ty tx:TE}
end
section
variable {X:Cx}{pins:List (Addr × Obj)}{σ:St}{H:Hp}{s:Shared}{a:Addr}{kvs:List (Key × V)}{A:Around}{E:Value->Shared->Prop}
end
section
variable {X:Cx}{pins:List (Addr × Obj)}{σ:St}{H:Hp}{s:Shared}{a:Addr}{y:V}{u:Value}{A:Around}{E:Value->Shared->Prop}
end
section
variable {X:Cx}
end
section
variable {κ:Type} [DecidableEq κ]
end
def aw (X:Cx)(scope:Scope)(cl:List (Str × Addr))(C:Addr)(N:List Str)(fp:List Addr)(s₂:Shared)(H₂:Hp):Cx where
 prog:=X.prog
 w:=X.w
 K:=X.K
 mg:=X.mg
 base:=X.base
 A:=X.A
 N:=N
 s₀:=s₂
 H₀:=H₂
 env:=compEnvC scope cl C X.env
 outer:=X.stack
 stack:=X.stack
 ex:=fp
 fn:=λ_=>false
 calm:=X.calm
 pn:=[]
 xe:=λ_ _=>False
theorem uS {scope:Scope}{env:Env}{y:Str}(nc:∀z∈scope.names,z.2≠.cell)(h:(relabel scope env).names.lookup y=some .cell\/(relabel scope env).names.lookup y=some .free):scope.names.lookup y=some .free:=by
 have key:∀(l:List (Str × NameKind)),(∀z∈l,z.2≠.cell)->((l.map fun(n,k)=>if(k == NameKind.free&&env.scope.kind == .function&&env.kindOf n == some .cell) then(n,NameKind.cell) else(n,k)).lookup y=some .cell \/
   (l.map fun(n,k)=>if(k == NameKind.free&&env.scope.kind == .function&&env.kindOf n == some .cell) then(n,NameKind.cell) else(n,k)).lookup y=some .free)->l.lookup y=some .free:=by
  intro l
  induction l with
  |nil=>intro _ h;rcases h with h|h<;>simp at h
  |cons p r ih =>
   obtain⟨n,k⟩:=p
   intro hn h
   have hr:=ih (λz hz=>hn z (List.mem_cons_of_mem _ hz))
   have hk:k≠.cell:=hn (n,k) List.mem_cons_self
   by_cases hc:(k == NameKind.free&&env.scope.kind == .function&&env.kindOf n == some .cell)=true
   ·have kf:k=.free:=by
     rw[Bool.and_eq_true,Bool.and_eq_true] at hc
     exact eq_of_beq hc.1.1
    subst kf
    simp only[List.map_cons,if_pos hc] at h
    cases hx:y == n with
    |true=>simp only[List.lookup_cons,hx]
    |false =>
     simp only[List.lookup_cons,hx] at h ⊢
     exact hr h
   ·simp only[List.map_cons,if_neg hc] at h
    cases hx:y == n with
    |true =>
     simp only[List.lookup_cons,hx] at h ⊢
     rcases h with h|h
     ·cases h;exact absurd rfl hk
     ·exact h
    |false =>
     simp only[List.lookup_cons,hx] at h ⊢
     exact hr h
 exact key scope.names nc h
theorem tX {scope:Scope}{env:Env}{y:Str}(h:scope.names.lookup y=some .free):(relabel scope env).names.lookup y=some .cell\/(relabel scope env).names.lookup y=some .free:=by
 have key:∀(l:List (Str × NameKind)),l.lookup y=some .free->((l.map fun(n,k)=>if(k == NameKind.free&&env.scope.kind == .function&&env.kindOf n == some .cell) then(n,NameKind.cell) else(n,k)).lookup y=some .cell \/
   (l.map fun(n,k)=>if(k == NameKind.free&&env.scope.kind == .function&&env.kindOf n == some .cell) then(n,NameKind.cell) else(n,k)).lookup y=some .free):=by
  intro l
  induction l with
  |nil=>intro h;simp at h
  |cons p r ih =>
   obtain⟨n,k⟩:=p
   intro h
   by_cases hc:(k == NameKind.free&&env.scope.kind == .function&&env.kindOf n == some .cell)=true
   ·simp only[List.map_cons,if_pos hc]
    cases hx:y == n with
    |true=>simp only[List.lookup_cons,hx];exact .inl trivial
    |false =>
     simp only[List.lookup_cons,hx] at h ⊢
     exact ih h
   ·simp only[List.map_cons,if_neg hc]
    cases hx:y == n with
    |true=>simp only[List.lookup_cons,hx] at h ⊢;exact .inr h
    |false =>
     simp only[List.lookup_cons,hx] at h ⊢
     exact ih h
 exact key scope.names h
structure b9 (X:Cx) (scope:Scope) (cl:List (Str × Addr)) (T:List Str) (caps:List Nat) (cn:List Str):Prop where
 kind:scope.kind=.function
 KA:closureFor scope X.env=pure cl
 Gy:∀y∈scope.names,y.2≠.cell
 names:∀y∈scope.names,y.2=.local->scope.names.lookup y.1=some .local
 sub:∀y c,cl.lookup y=some c->X.env.cells.lookup y=some c
 has:∀y,scope.names.lookup y=some .free->∃c,cl.lookup y=some c
 Nc:Paired (fun(j:Nat) (y:Str)=>X.N[j]?=some y/\(X.env.kindOf y=some .cell\/X.env.kindOf y=some .free)/\scope.names.lookup y=some .free) caps cn
def A7 (n:Nat)(caps:List Nat)(σ:St):St:=List.replicate n none++caps.map λj=>(σ[j]?).getD none
def Le (σ σ':St):Prop:=σ.length=σ'.length/\∀(i:Nat) v,σ[i]?=some (some v)->σ'[i]?=some (some v)
theorem Le.one {r:St}{x:Option V}:Le (none::r) (x::r):=⟨rfl,λi v h=>by
 cases i with
 |zero=>simp at h
 |succ i=>simpa using h⟩
def yk (X:Cx)(ifs:List Expr)(t:TT):Prop :=
 ∀(pins:List (Addr × Obj)) (s:Shared) (σ:St) (H:Hp) (Q:Bool->Hp->Prop),Inv X pins σ H s->t σ H Q ->
  wpAny (model X.prog X.w) X.A (forIn ifs true λc r=>if r=true then do let ok <- isTrue c X.env (eval c X.env);pure (ForInStep.yield ok) else pure (ForInStep.yield r)) (TP X pins σ Q) X.xe s
def NJ:TT:=λ_ H Q=>Q true H
theorem Fw {X:Cx}:yk X [] NJ:=λpins s σ H Q I h=>wpAny_tests_nil ⟨H,I,h⟩
theorem Fx {X:Cx}{c:Expr}{t:TT}(h:PT X c t):yk X [c] t:=λpins s σ H Q I q=>wpAny_tests_one (h pins s σ H Q I q)
theorem tL {prog:Program}{w:World}{A:Around}{R:Result->Shared->Prop}{s:Shared}{elt target iter:Expr}{ifs:List Expr}{scope:Scope}{pos:Pos}{it acc:Value}{env:Env}(I:Nat->Shared->Prop)
  (turn:∀n s,I n s->wpAny (model prog w) A (pyNext it) (λr s₁=>match r with
   |none=>R (.ok .next) s₁
   |some v=>wpAny (model prog w) A (letOwnedTupleGo target it v) (λ_ s₀=>wpAny (model prog w) A (assign target env v) (λ_ s₂ =>
     wpAny (model prog w) A (forIn ifs true λc r=>if r=true then do let ok <- isTrue c env (eval c env);pure (ForInStep.yield ok) else pure (ForInStep.yield r)) (λok s₃ =>
      if ok=true then wpAny (model prog w) A (eval elt env) (λx s₄ =>
       wpAny (model prog w) A (call (.builtin "list.append") [acc,x]) (λ_ s₅=>∃m,m<n/\I m s₅) (λ_ _=>False) s₄) (λ_ _=>False) s₃
      else ∃m,m<n/\I m s₃) (λ_ _=>False) s₂) (λ_ _=>False) s₀) (λ_ _=>False) s₁) (λ_ _=>False) s)
  (n:Nat)(h:I n s) :
  codeAny (model prog w) A (.compLoop (.ListComp elt [⟨target,iter,ifs,0⟩] scope pos) 0 it acc env) R s:=by
 refine codeAny_loop rfl I (λn s hI=>?_) n h
 show wpAny _ A ((compTurn (.ListComp elt [⟨target,iter,ifs,0⟩] scope pos) 0 it acc env).onRaise (λx=>do noteFrame x env;theTreesLotGoes x)) _ _ s
 refine wpAny_noted ?_
 rw[compTurn_list]
 refine wpAny_bind (wpAny_standAt (wpAny_bind (wpAny_mono (turn n s hI) (λr s₁ h₁=>?_) λ_ _ h'=>h'.elim)))
 cases r with
 |none=>exact wpAny_pure h₁
 |some v =>
  refine wpAny_bind (wpAny_mono h₁ (λ_ s₀ h₀=>?_) λ_ _ h'=>h'.elim)
  refine wpAny_bind (wpAny_mono h₀ (λ_ s₂ h₂=>wpAny_bind (wpAny_mono h₂ (λok s₃ h₃=>?_) λ_ _ h'=>h'.elim)) λ_ _ h'=>h'.elim)
  cases ok with
  |false=>exact wpAny_pure ⟨rfl,h₃⟩
  |true =>
   exact wpAny_bind (wpAny_bind (wpAny_mono h₃ (λx s₄ h₄=>wpAny_bind (wpAny_mono h₄ (λ_ s₅ h₅=>wpAny_pure (wpAny_pure ⟨rfl,h₅⟩)) λ_ _ h'=>h'.elim)) λ_ _ h'=>h'.elim))
section
variable {X:Cx}{scope:Scope}{cl:List (Str × Addr)}{T cn:List Str}{caps:List Nat}{pins:List (Addr × Obj)}{σ:St}{H2:Hp}{s2:Shared}{C:Addr}{h₁:Heap}{tk:Nat}{fp:List Addr}{ix:Addr}
theorem xG (S:b9 X scope cl T caps cn)(I2:Inv X pins σ H2 s2)(f2:∀b∈fp,jG X pins H2 b)(fo:∀b∈fp,b<s2.heap.objs.size)
  (hC:C=s2.heap.objs.size+1)(old:∀b o,s2.heap.get? b=some o->h₁.get? b=some o)(hacc:∃n,h₁.get? s2.heap.objs.size=some { cls:=.type "list",data:=.seq #[] n })(hns:h₁.Ns C λ_=>none) :
  Inv (aw X scope cl C (T++cn) fp s2 H2) [] (A7 T.length caps σ) (upd H2 s2.heap.objs.size (.lst [])) { s2 with heap:=h₁,toks:=tk }:=by
 have hfr:H2 s2.heap.objs.size=none:=I2.fresh
 have lt_of:∀y c,cl.lookup y=some c->c<s2.heap.objs.size:=λy c e=>by
  obtain⟨v,o,ho,_⟩:=I2.cell y c (S.sub y c e)
  exact Heap.lt_size ho
 refine⟨⟨I2.ok.mod,S.kind,I2.ok.glob,I2.ok.blt,by show s2.heap.objs.size<=C;rw[hC];exact Nat.le_succ _,λy z c h1 h2=>I2.ok.inj y z c (S.sub y c h1) (S.sub z c h2),λy hy=>S.has y (uS S.Gy hy),λy c hf _=>(Bool.false_ne_true hf).elim,
  I2.ok.hd,I2.ok.frames,.inl rfl,λb hb=>⟨?_,λy c e=>?_⟩,I2.bs,Nat.le_trans I2.ok.Gg I2.sz,λb o e hb=>?_,λb hb hs=>?_,I2.stack,I2.zu⟩,rfl,I2.bare,Un.laid old (Nat.le_refl _) hfr,⟨_,hns,λi y v e1 e2 e3=>?_⟩,λy c e=>?_,?_,λy c e=>?_,λp hp=>?_,I2.bW.laid old (Nat.le_refl _) ?_,?_⟩
 ·show b≠C
  rw[hC]
  exact Nat.ne_of_lt (Nat.lt_succ_of_lt (fo b hb))
 ·exact(f2 b hb).2.2.2.2.1 y c (S.sub y c e)
 ·have h0:=I2.ok.bs b o e
  rcases(f2 b hb).2.2.2.1 with z|z
  ·exact I2.ok.Cw b o e z
  ·exact absurd (Nat.lt_of_lt_of_le (Heap.lt_size h0.1) z) (Nat.lt_irrefl _)
 ·rcases List.mem_cons.mp (I2.uf b hs) with z|z
  ·exact(f2 b hb).2.1 z
  ·exact(f2 b hb).2.2.1 z
 ·-- the slots
  have hT:T.length<=i:=by
   by_cases hi:i<T.length
   ·unfold A7 at e2
    rw[List.getElem?_append_left (by simpa using hi),List.getElem?_replicate] at e2
    split at e2<;>cases e2
   ·omega
  obtain⟨k,rfl⟩:∃k,i=T.length+k:=⟨i - T.length,by omega⟩
  have e1':cn[k]?=some y:=by
   have q:(T++cn)[T.length+k]?=some y:=e1
   rw[List.getElem?_append_right (by omega)] at q
   simpa using q
  have e2':(caps.map λj=>(σ[j]?).getD none)[k]?=some (some v):=by
   unfold A7 at e2
   rw[List.getElem?_append_right (by simp)] at e2
   simpa using e2
  have pr:∀{cs:List Nat} {ns:List Str} {k:Nat},Paired (fun(j:Nat) (y:Str)=>X.N[j]?=some y/\(X.env.kindOf y=some .cell\/X.env.kindOf y=some .free)/\scope.names.lookup y=some .free) cs ns ->
    ns[k]?=some y->(cs.map λj=>(σ[j]?).getD none)[k]?=some (some v)->∃(j:Nat),X.N[j]?=some y/\(X.env.kindOf y=some .cell\/X.env.kindOf y=some .free)/\scope.names.lookup y=some .free/\σ[j]?=some (some v):=by
   intro cs ns k p
   induction p generalizing k with
   |nil=>intro q;simp at q
   |cons a t ih =>
    rename_i j0 y0 l1 l2
    cases k with
    |zero =>
     intro q1 q2
     simp at q1 q2
     subst q1
     refine⟨j0,a.1,a.2.1,a.2.2,?_⟩
     cases e:σ[j0]? with
     |none=>rw[e] at q2;simp at q2
     |some z=>rw[e] at q2;simp at q2;rw[q2]
    |succ k=>intro q1 q2;exact ih (by simpa using q1) (by simpa using q2)
  obtain⟨j,n1,kd,fr,sv⟩:=pr S.Nc e1' e2'
  obtain⟨m,hn,hl⟩:=I2.loc
  obtain⟨u,r,lk⟩:=hl j y v n1 sv (by rcases kd with z|z;exact .inr (.inl z);exact .inr (.inr z))
  refine⟨u,r,.inr ⟨tX fr,?_⟩⟩
  obtain⟨c,hc⟩:=S.has y fr
  rcases lk with⟨z,_⟩|⟨_,c',hc',hcell⟩
  ·rcases kd with q|q<;>(rw[z] at q;cases q)
  ·have:c=c':=by
    have:=S.sub y c hc
    rw[hc'] at this
    exact(Option.some.inj this).symm
   subst this
   obtain⟨o,ho,hd⟩:=hcell
   exact⟨c,hc,o,old c o ho,hd⟩
 ·obtain⟨v,o,ho,hd⟩:=I2.cell y c (S.sub y c e)
  exact⟨v,o,old c o ho,hd⟩
 ·show upd H2 s2.heap.objs.size (.lst []) C=none
  rw[aI (by rw[hC];exact Nat.succ_ne_self _)]
  exact I2.bW.fresh (by rw[hC];exact Nat.le_succ _)
 ·rw[aI (Nat.ne_of_lt (lt_of y c e))]
  exact I2.fA y c (S.sub y c e)
 ·exact absurd (show p∈([]:List (Addr × Obj)) from hp) (by simp)
 ·obtain⟨n,e⟩:=hacc
  exact⟨Nat.zero_le _,[],n,.nil,e⟩
 ·have hp:∀{cs:List Nat} {ns:List Str} {F:Nat->Str->Prop},Paired F cs ns->cs.length=ns.length:=λp=>Paired.length p
  show(A7 T.length caps σ).length=(T++cn).length
  unfold A7
  rw[List.length_append,List.length_replicate,List.length_map,List.length_append,hp S.Nc]
theorem Bm (I2:Inv X pins σ H2 s2)(f2:∀b∈fp,jG X pins H2 b)(hC:s2.heap.objs.size<=C){N:List Str}{σ':St}{H':Hp}{s':Shared}(J:Inv (aw X scope cl C N fp s2 H2) [] σ' H' s') :
  ∃oC m,s'.heap.get? C=some oC/\s'.heap.Ns C m/\Inv X (pins++[(C,oC)]) σ H' s'/\jG X pins H' C:=by
 obtain⟨m,hn,_⟩:=J.loc
 obtain⟨oC,es,ep,ho,hd,hrest⟩:=id hn
 have I3:Inv X pins σ H' s':=I2.Bc (ch:=fp) J.os J.base J.bW J.bare λb hb=>⟨(f2 b hb).2.2.2.1,(f2 b hb).2.1,(f2 b hb).2.2.2.2.1,(f2 b hb).2.2.2.2.2⟩
 have fC:jG X pins H' C:=I2.B8 hC J.free
 refine⟨oC,m,ho,hn,I3.uN λp hp=>?_,fC⟩
 rcases List.mem_append.mp hp with z|z
 ·exact I3.pin p (List.mem_append_right _ z)
 ·have e:p=(C,oC):=by simpa using z
  subst e
  exact⟨ho,fC.1,fC.2.1,fC.2.2.1,λv q=>by rw[hd] at q;cases q⟩
end
def GY (J:It)(D:Addr)(H1:Hp)(σ0:St)(g:TG)(tt:TT)(te:TE)(Q:VK):Prop:=∃W:Nat->Nat->List V->Hp->Prop,(∃m,W 0 m [] (upd H1 D (.lst []))) /\
 ∀i m ys H,W i m ys H->H D=some (.lst ys)/\((J.stop i H/\Q (.ref D) H)\/(J.go i H/\∀x H',J.BR i H x H'->g x σ0 H' λσ2 H2=>Le σ0 σ2/\tt σ2 H2 λb H3 =>
  if b=true then te σ2 H3 λy H4=>H4 D=some (.lst ys)/\ys.length<sizeLine/\∃m',m'<m/\W (i+1) m' (ys++[y]) (upd H4 D (.lst (ys++[y]))) else ∃m',m'<m/\W (i+1) m' ys H3))
def nE (n:Nat)(caps:List Nat)(wi:TI)(g:TG)(tt:TT)(te:TE):TE:=λσ H Q=>wi σ H λJ H1=>∀D,H1 D=none->GY J D H1 (A7 n caps σ) g tt te Q
section
variable {X:Cx}{scope:Scope}{cl:List (Str × Addr)}{T cn:List Str}{caps:List Nat}{elt tg iter:Expr}{ifs:List Expr}{wi:TI}{g:TG}{tt:TT}{te:TE}{pos:Pos}
theorem qA (S:b9 X scope cl T caps cn)(hc:X.calm=true)(hg:∀C fp s₂ H₂,PG (aw X scope cl C (T++cn) fp s₂ H₂) tg g)(ht:∀C fp s₂ H₂,yk (aw X scope cl C (T++cn) fp s₂ H₂) ifs tt)
  (he:∀C fp s₂ H₂,PE (aw X scope cl C (T++cn) fp s₂ H₂) elt te){pins:List (Addr × Obj)}{σ:St}{H2:Hp}{s2:Shared}{it:Addr}{fp:List Addr}{tn:Nat->Heap->Prop}{J:It}{E:Value->Shared->Prop}{Q:VK}
  {RR:Value->Addr->Result->Shared->Prop}(I2:Inv X pins σ H2 s2)(Tn:Turn X.prog X.w X.K tg J fp it tn)(st2:tn 0 s2.heap)(f2:∀b∈fp,jG X pins H2 b)
  (q:∀D,H2 D=none->GY J D H2 (A7 T.length caps σ) g tt te Q)
  (fin:∀D C oC m H' s',Inv X (pins++[(C,oC)]) σ H' s'->s'.heap.get? C=some oC->s'.heap.Ns C m->jG X pins H' C->Q (.ref D) H'->RR (.ref D) C (.ok .next) s') :
  wpAny (model X.prog X.w) X.A (newList []) (λacc s₃=>wpAny (model X.prog X.w) X.A (newFunctionEnv scope X.env.globals cl [] X.env.qual none .none (some X.env)) (λcenv s₄ =>
   codeAny (model X.prog X.w) X.A (.compStart (.ListComp elt [⟨tg,iter,ifs,0⟩] scope pos) 0 (.ref it) acc { cenv with scope:=relabel scope X.env }) (RR acc cenv.locals) s₄) E s₃) E s2:=by
 refine wpAny_newObj_type (wpAny_newFunctionEnv S.Gy (by intro y hy;simp at hy) (λh₁ hns₁ hsb₁=>?_) S.kind)
 dsimp only at hns₁ hsb₁ ⊢
 generalize hH2:s2.heap.push { cls:=.type "list",dict:=none,data:=.seq ([]:List Value).toArray }=G2 at hns₁ hsb₁ ⊢
 have hC:G2.objs.size=s2.heap.objs.size+1:=by rw[<- hH2,Heap.size_push]
 have hDC:s2.heap.objs.size≠G2.objs.size:=by omega
 have old:∀b o,s2.heap.get? b=some o->h₁.get? b=some o:=λb o e=>hsb₁.extBut b o (by rw[hC];exact Nat.ne_of_lt (Nat.lt_succ_of_lt (Heap.lt_size e))) (Heap.get?_push_of_some _ (hH2 ▸ Heap.get?_push_of_some _ e))
 have hacc:∃n,h₁.get? s2.heap.objs.size=some { cls:=.type "list",data:=.seq #[] n }:=⟨_,hsb₁.extBut _ _ hDC (Heap.get?_push_of_some _ (hH2 ▸ Heap.get?_push_size _ rfl))⟩
 have fo:∀b∈fp,b<s2.heap.objs.size:=λb hb=>by
  obtain⟨o,e,_⟩:=Tn.obj 0 _ st2 b hb
  exact Heap.lt_size e
 obtain⟨W,⟨m0,w0⟩,turn⟩:=q s2.heap.objs.size I2.fresh
 have st1:tn 0 h₁:=Tn.keep 0 _ _ st2 λb hb o e=>old b o e
 have fr0:∀b∈fp,upd H2 s2.heap.objs.size (.lst []) b=none:=λb hb=>by rw[aI (Nat.ne_of_lt (fo b hb))];exact(f2 b hb).1
 have loop:∀s₃:Shared,s₃={ s2 with heap:=h₁,toks:=s2.toks+([]:List (Str × Value)).length } ->
   codeAny (model X.prog X.w) X.A (.compLoop (.ListComp elt [⟨tg,iter,ifs,0⟩] scope pos) 0 (.ref it) (.ref s2.heap.objs.size) (compEnvC scope cl G2.objs.size X.env)) (RR (.ref s2.heap.objs.size) G2.objs.size) s₃:=by
  intro s₃ hs3
  have I0:Inv (aw X scope cl G2.objs.size (T++cn) fp s2 H2) [] (A7 T.length caps σ) (upd H2 s2.heap.objs.size (.lst [])) s₃:=by
   rw[hs3]
   exact xG S I2 f2 fo hC old hacc (by simpa using hns₁)
  have st3:tn 0 s₃.heap:=by rw[hs3];exact st1
  have stat:∀{H':Hp},(∀b∈fp,H' b=none)->∀b∈fp,jG (aw X scope cl G2.objs.size (T++cn) fp s2 H2) [] H' b:=fun{H'} hn b hb=>by
   refine⟨hn b hb,?_,λhs=>?_,.inl hb,λy c e=>(f2 b hb).2.2.2.2.1 y c (S.sub y c e),λp hp=>absurd (show p∈([]:List (Addr × Obj)) from hp) (by simp)⟩
   ·show b≠G2.objs.size
    rw[hC]
    exact Nat.ne_of_lt (Nat.lt_succ_of_lt (fo b hb))
   ·rcases List.mem_cons.mp (I2.uf b hs) with z|z
    ·exact(f2 b hb).2.1 z
    ·exact(f2 b hb).2.2.1 z
  refine tL (λn s'=>∃i ys H',Inv (aw X scope cl G2.objs.size (T++cn) fp s2 H2) [] (A7 T.length caps σ) H' s'/\tn i s'.heap/\(∀b∈fp,H' b=none)/\W i n ys H') ?_ m0 ⟨0,[],_,I0,st3,fr0,w0⟩
  rintro n s4 ⟨i,ys,H4,I4,st4,fr4,w4⟩
  obtain⟨hD,tr⟩:=turn i n ys H4 w4
  rcases tr with⟨stop,qn⟩|⟨go,step⟩
  ·refine b6 (Tn.done (aw X scope cl G2.objs.size (T++cn) fp s2 H2) rfl rfl rfl hc i [] s4 (A7 T.length caps σ) H4 (λ_ _=>False) I4 (stat fr4) st4 stop) λr s5 ⟨hr,I5⟩=>?_
   subst hr
   obtain⟨oC,m,a1,a2,a3,a4⟩:=Bm I2 f2 (by omega) I5
   exact fin _ _ oC m H4 s5 a3 a1 a2 a4 qn
  ·refine b6 (Tn.item (aw X scope cl G2.objs.size (T++cn) fp s2 H2) rfl rfl rfl hc i [] s4 (A7 T.length caps σ) H4 (λ_ _=>False) I4 (stat fr4) st4 go) λr s5 ⟨u,hr,h5⟩=>?_
   subst hr
   refine b6 h5 λ_ s6 ⟨x,H6,I6,r6,y6,st6,fr6⟩=>?_
   have I6':=I6.pinned (stat fr6) (Tn.obj _ _ st6)
   refine b6 (hg _ fp s2 H2 _ s6 _ H6 x u _ I6' r6 (step x H6 y6)) λ_ s7 ⟨σ7,H7,I7,le7,q7⟩=>?_
   have again:∀{σ8:St} {H8:Hp} {s8:Shared} {zs:List V} {m':Nat},Le (A7 T.length caps σ) σ8->Inv (aw X scope cl G2.objs.size (T++cn) fp s2 H2) ([]++mJ fp s6.heap) σ8 H8 s8->m'<n->W (i+1) m' zs H8 ->
     ∃m,m<n/\∃i ys H',Inv (aw X scope cl G2.objs.size (T++cn) fp s2 H2) [] (A7 T.length caps σ) H' s8/\tn i s8.heap/\(∀b∈fp,H' b=none)/\W i m ys H':=fun{σ8 H8 s8 zs m'} le I8 hm w8=>by
    refine⟨m',hm,i+1,zs,H8,I8.iK.weak le.1 le.2,Tn.keep _ _ _ st6 λb hb o e=>(I8.pin (b,o) (List.mem_append_right _ (List.mem_append_right _ (f_ hb e)))).1,λb hb=>?_,w8⟩
    obtain⟨o,e,d⟩:=Tn.obj _ _ st6 b hb
    exact(I8.pin (b,o) (List.mem_append_right _ (List.mem_append_right _ (f_ hb e)))).2.1
   refine b6 (ht _ fp s2 H2 _ s7 σ7 H7 _ I7 q7) λok s8 ⟨H8,I8,q8⟩=>?_
   cases ok with
   |false =>
    rw[if_neg Bool.false_ne_true] at q8 ⊢
    obtain⟨m',hm,w8⟩:=q8
    exact again le7 I8 hm w8
   |true =>
    rw[if_pos rfl] at q8 ⊢
    refine b6 (he _ fp s2 H2 _ s8 σ7 H8 _ I8 q8) λv9 s9 ⟨y,H9,I9,r9,hD9,hz9,m',hm,w9⟩=>?_
    refine b6 (rq _ s9 σ7 H9 (.ref s2.heap.objs.size) [y] (.ref s2.heap.objs.size) [v9] (λ_ H=>H=upd H9 s2.heap.objs.size (.lst (ys++[y]))) I9 rfl (.cons r9 .nil) ⟨_,ys,y,rfl,rfl,hD9,hz9,rfl⟩) λ_ s10 ⟨_,H10,I10,_,e10⟩=>?_
    subst e10
    exact again le7 I10 hm w9
 exact codeAny_compStart_list (loop _ rfl) (Tn.self X.A 0 _ _ _ st1 (loop _ rfl))
theorem Fi (S:b9 X scope cl T caps cn)(hc:X.calm=true)(hi:PI X tg iter wi)(hg:∀C fp s₂ H₂,PG (aw X scope cl C (T++cn) fp s₂ H₂) tg g)(ht:∀C fp s₂ H₂,yk (aw X scope cl C (T++cn) fp s₂ H₂) ifs tt)
  (he:∀C fp s₂ H₂,PE (aw X scope cl C (T++cn) fp s₂ H₂) elt te)(hs:∀x,foldedSetIterable iter X.env x=pure x:=by intro _;rfl) :
  PE X (.ListComp elt [⟨tg,iter,ifs,0⟩] scope pos) (nE T.length caps wi g tt te):=by
 intro pins s σ H Q I h
 rw[eval_ListComp]
 refine wpAny_comprehension_free (use:=none) rfl hs S.KA S.kind S.names (b6 (hi pins s σ H _ I h) λv s1 h1=>b6 h1 λitv s2 h2=>?_)
 obtain⟨it,fp,tn,J,H2,e,I2,Tn,st2,f2,q⟩:=h2
 subst e
 refine qA (RR:=λacc C=>compPost (model X.prog X.w) X.A X.xe none (EP X pins σ Q) acc C) S hc hg ht he I2 Tn st2 f2 q λD C oC m H' s' I' ho hn fC qD=>?_
 refine⟨m,hn,λh' hs'=>⟨.ref D,H',?_,rfl,qD⟩⟩
 obtain⟨hp,g,d,t,os⟩:=s'
 exact I'.iK.turned (λb o hb e=>(hs'.2 b hb).trans e) fC.1 fC.2.1 fC.2.2.2.1 fC.2.2.2.2.1 fC.2.2.2.2.2
def DR (i:Nat)(t:TE):TS:=λD σ H=>t σ H λx H1=>D.nx (σ.set i (some x)) H1
theorem ph {i:Nat}{y:Str}{py spos:Pos}(hN:X.N.Nodup)(hi':X.N[i]?=some y)(hy:Loc X.env.scope y)(S:b9 X scope cl T caps cn)(hc:X.calm=true)(hi:PI X tg iter wi)
  (hg:∀C fp s₂ H₂,PG (aw X scope cl C (T++cn) fp s₂ H₂) tg g)(ht:∀C fp s₂ H₂,yk (aw X scope cl C (T++cn) fp s₂ H₂) ifs tt)
  (he:∀C fp s₂ H₂,PE (aw X scope cl C (T++cn) fp s₂ H₂) elt te)(hsw:swapsWith (.ListComp elt [⟨tg,iter,ifs,0⟩] scope pos) (some (.Name y py)) spos.line X.env=pure true:=by rfl)
  (hf:X.fn y=true\/X.env.scope.names.lookup y=some .local:=by first|exact .inl rfl|exact .inr rfl|assumption)
  (hs:∀x,foldedSetIterable iter X.env x=pure x:=by intro _;rfl) :
  PS X (.Assign [.Name y py] (.ListComp elt [⟨tg,iter,ifs,0⟩] scope pos) spos) (DR i (nE T.length caps wi g tt te)):=by
 intro pins s σ H D I h
 rw[exec_Assign_Name_used _ _ _ _ hsw]
 refine wpAny_bind (wpAny_standAt (wpAny_bind ?_))
 show wpAny _ X.A (do let _ <- comprehension (.ListComp elt [⟨tg,iter,ifs,0⟩] scope pos) scope X.env _ (newList []) false (eval iter X.env) (some (assign (.Name y py) X.env))) _ _ s
 refine wpAny_bind (wpAny_mono (wpAny_comprehension_free (use:=some (assign (.Name y py) X.env)) (Q:=λ_ s'=>SP X pins D .next s') rfl hs S.KA S.kind S.names
  (b6 (hi pins s σ H _ I h) λv s1 h1=>b6 h1 λitv s2 h2=>?_)) (λ_ s' hq=>wpAny_pure (wpAny_pure hq)) λ_ _ e=>e)
 obtain⟨it,fp,tn,J,H2,e,I2,Tn,st2,f2,q⟩:=h2
 subst e
 refine qA (Q:=λx H1=>D.nx (σ.set i (some x)) H1) (RR:=λacc C=>compPost (model X.prog X.w) X.A X.xe (some (assign (.Name y py) X.env)) (λ_ s'=>SP X pins D .next s') acc C) S hc hg ht he I2 Tn st2 f2 q λDd C oC m H' s' I' ho hn fC qD=>?_
 show wpAny _ X.A (assign (.Name y py) X.env (.ref Dd)) _ _ s'
 refine b6 (bF (i:=i) hN hi' hy hf (pins++[(C,oC)]) s' σ H' (.ref Dd) (.ref Dd) (λσ' H1=>σ'=σ.set i (some (.ref Dd))/\H1=H') I' rfl ⟨rfl,rfl⟩) λ_ s'' ⟨σ'',H'',I'',e1,e2⟩=>?_
 subst e1 e2
 have hoC:s''.heap.get? C=some oC:=(I''.pin (C,oC) (List.mem_append_right _ (List.mem_append_right _ (List.mem_singleton.mpr rfl)))).1
 obtain⟨oC',es,ep,ho',r⟩:=hn
 rw[ho] at ho'
 cases ho'
 refine⟨m,⟨oC,es,ep,hoC,r⟩,λh' hs'=>⟨σ.set i (some (.ref Dd)),H'',?_,qD⟩⟩
 obtain⟨hp,g,d,t,os⟩:=s''
 exact I''.iK.turned (λb o hb e=>(hs'.2 b hb).trans e) fC.1 fC.2.1 fC.2.2.2.1 fC.2.2.2.2.1 fC.2.2.2.2.2
end
section
variable {X:Cx}
theorem C3:gq X (compareOp .Is) (λx y H Q=>∃a b,x=.bl a/\y=.bl b/\Q (.bl (a == b)) H):=by
 intro pins s σ H x y v u Q I rx ry h
 obtain⟨a,b,rfl,rfl,q⟩:=h
 cases rx
 cases ry
 exact is_bool (bA I q rfl)
theorem wM:gq X (compareOp .IsNot) (λx y H Q=>∃a b,x=.bl a/\y=.bl b/\Q (.bl (a != b)) H):=by
 intro pins s σ H x y v u Q I rx ry h
 obtain⟨a,b,rfl,rfl,q⟩:=h
 cases rx
 cases ry
 exact isnot_bool (bA I q rfl)
theorem Fb:gq X (binaryOp .Mult) (rI IntMulOk λi j=>.int (i*j)):=M1 λ_ _ _ _ _ _ _ hc q=>mul_int q hc
end
mutual
inductive lx (K:PySem.W.Frag) (H:Hp):V->PyData->Prop
 |ak:lx K H .ak .none
 |bl (b:Bool):lx K H (.bl b) (.bool b)
 |int (i:Int):lx K H (.int i) (.int i)
 |str (x:Str):lx K H (.str x) (.str x)
 |lst {a:Addr} {xs:List V} {ds:List PyData}:cu K H a xs->jF K H xs ds->lx K H (.ref a) (.list ds)
 |tup {a:Addr} {xs:List V} {ds:List PyData}:iM K H a xs->jF K H xs ds->lx K H (.ref a) (.tuple ds)
inductive jF (K:PySem.W.Frag) (H:Hp):List V->List PyData->Prop
 |nil:jF K H [] []
 |cons {x:V} {d:PyData} {xs:List V} {ds:List PyData}:lx K H x d->jF K H xs ds->jF K H (x::xs) (d::ds)
end
theorem IsTup.of_get {h:Heap}{a:Addr}{its:Array Value}(p:IsTup h a its):∃o n,h.get? a=some o/\o.cls=.type "tuple"/\o.data=.seq its n:=by
 obtain⟨o,h1,h2,n,h3⟩:=p
 exact⟨o,n,h1,h2,h3⟩
mutual
theorem lx.reads {X:Cx}{pins:List (Addr × Obj)}{σ:St}{H:Hp}{s:Shared}(I:Inv X pins σ H s):∀{v:V} {d:PyData} {u:Value},lx X.K H v d->RelV v u->∃as,Reads s.heap u d as
 |_,_,u,.ak,r=>by cases(show u=Value.none from r);exact⟨_,.none⟩
 |_,_,u,.bl b,r=>by cases(show u=Value.bool b from r);exact⟨_,.bool b⟩
 |_,_,u,.int i,r=>by obtain⟨t,q⟩:=(show ∃t,u=Value.int i t from r);cases q;exact⟨_,.int i t⟩
 |_,_,u,.str x,r=>by obtain⟨t,q⟩:=(show ∃t,u=Value.str x t from r);cases q;exact⟨_,.str x t⟩
 |_,_,u,@lx.lst _ _ a xs ds h1 h2,r=>by
  cases(show u=Value.ref a from r)
  obtain⟨its,rv,pl,_⟩:=I.list h1
  obtain⟨as,q⟩:=jF.reads I h2 rv
  obtain⟨o,n,e1,e2,_,e3⟩:=pl
  exact⟨_,reads_list_at e1 e2 e3 (by simpa using q)⟩
 |_,_,u,@lx.tup _ _ a xs ds h1 h2,r=>by
  cases(show u=Value.ref a from r)
  obtain⟨its,rv,pl,_⟩:=I.tuple h1
  obtain⟨as,q⟩:=jF.reads I h2 rv
  obtain⟨o,n,e1,e2,e3⟩:=IsTup.of_get pl
  exact⟨_,reads_tuple_at e1 e2 e3 (by simpa using q)⟩
theorem jF.reads {X:Cx}{pins:List (Addr × Obj)}{σ:St}{H:Hp}{s:Shared}(I:Inv X pins σ H s):∀{vs:List V} {ds:List PyData} {us:List Value},jF X.K H vs ds->Vals vs us->∃as,ReadsAll s.heap us ds as
 |_,_,us,.nil,r=>by cases r;exact⟨_,.nil⟩
 |_,_,us,.cons h1 h2,r=>by
  cases r with
  |cons r1 r2 =>
   obtain⟨as,q⟩:=lx.reads I h1 r1
   obtain⟨bs,p⟩:=jF.reads I h2 r2
   exact⟨_,.cons q p⟩
end
def F0 (K:PySem.W.Frag)(neg:Bool):R2:=λx y H Q=>∃d e,lx K H x d/\lx K H y e/\SeqAt.shaped d=true/\SeqAt.shaped e=true/\Q (.bl (if neg then !PyData.eqv d e else PyData.eqv d e)) H
section
variable {X:Cx}
theorem C2 (hu:X.A.units+64<cLine):gq X (compareOp .Eq) (F0 X.K false):=by
 intro pins s σ H x y v u Q I rx ry h
 obtain⟨d,e,hx,hy,sx,sy,q⟩:=h
 obtain⟨as,p1⟩:=hx.reads I rx
 obtain⟨bs,p2⟩:=hy.reads I ry
 exact eq_dataH p1 p2 sx sy hu ⟨.bl _,H,I,rfl,q⟩
theorem JA (hu:X.A.units+64<cLine):gq X (compareOp .NotEq) (F0 X.K true):=by
 intro pins s σ H x y v u Q I rx ry h
 obtain⟨d,e,hx,hy,sx,sy,q⟩:=h
 obtain⟨as,p1⟩:=hx.reads I rx
 obtain⟨bs,p2⟩:=hy.reads I ry
 exact ne_dataH p1 p2 sx sy hu ⟨.bl _,H,I,rfl,q⟩
theorem AB {bs:List Bool}:∀{us:List Value},Vals (bs.map V.bl) us->∀(i:Nat) (v:Value),us[i]?=some v->∃b,bs[i]?=some b/\v=.bool b:=by
 intro us r i v e
 have hl:=r.length
 rw[List.length_map] at hl
 have hi:i<us.length:=(List.getElem?_eq_some_iff.mp e).1
 have hb:bs[i]?=some bs[i]:=List.getElem?_eq_getElem (by omega)
 obtain⟨u,h1,h2⟩:=r.get (i:=i) (x:=V.bl bs[i]) (by rw[List.getElem?_map,hb];rfl)
 rw[e] at h1
 cases h1
 exact⟨_,hb,h2⟩
theorem yL (bs:List Bool):((List.range bs.length).all λi=>(bs[i]?).getD true)=bs.all id:=PyProof.Rows.LSm.range_all bs
theorem Be:eW X (.builtin "all") (λxs H Q=>∃(p:Addr) (bs:List Bool),xs=[.ref p]/\X.A.handled=none/\cu X.K H p (bs.map V.bl)/\Q (.bl (bs.all id)) H):=by
 intro pins s σ H xs us Q I r h
 obtain⟨p,bs,rfl,hh,hS,q⟩:=h
 obtain⟨u,rfl,ru⟩:=vals1 r
 cases(show u=Value.ref p from ru)
 obtain⟨its,rv,pl,_⟩:=I.list hS
 have hl:=pl.isList
 have hlt:p<s.heap.objs.size:=pl.lt
 have hb:=AB rv
 have hlen:its.length=bs.length:=by have:=rv.length;rw[List.length_map] at this;exact this.symm
 refine call_all_walk (wpAny_pyIter_list hl ?_)
 refine⟨s.heap.objs.size,[s.heap.objs.size,p],[s.heap.objs.size],its.toArray.size,_,_,λi=>(bs[i]?).getD true,rfl,Walks.list (A:=X.A.in1) hh _ p (Nat.ne_of_lt hlt) its.toArray,
  ⟨⟨_,Heap.get?_push_size _ rfl,rfl,rfl⟩,hl.push _⟩,λi v s' Q' E' hP hQ=>?_,λh' tk hk=>?_⟩
 ·obtain⟨b,e,rfl⟩:=hb i v (by simpa using hP)
  simp only[e,Option.getD_some] at hQ
  exact wpAny_truthy_bool hQ
 ·have e:((List.range its.toArray.size).all λi=>(bs[i]?).getD true)=bs.all id:=by
   rw[List.size_toArray,hlen];exact yL bs
  rw[e]
  exact⟨.bl (bs.all id),H,I.kept (PyProof.Rows.LSm.kept_iter hk),rfl,q⟩
end
section
variable {X:Cx}{a b c:Expr}{ta tb:TE}{pos:Pos}{k:Int}{op op':CmpOp}{p p':Int->Int->Bool}
end
theorem aU {H:Hp}{p:Addr}{o:HO}(h:H p=none):aK H (upd H p o):=λb u e=>by
 rw[aI (a_ e h)]
 exact e
theorem PE.imp {X:Cx}{e:Expr}{t t':TE}(h:PE X e t)(f:∀ σ H Q,t' σ H Q->t σ H Q):PE X e t':=λpins s σ H Q I q=>h pins s σ H Q I (f σ H Q q)
def MK (x:Str):It:=⟨λi _=>i<x.cps.size,λi H v H'=>H'=H/\∃c,x.cps[i]?=some c/\v=.str ⟨#[c]⟩,λi _=>x.cps.size<=i⟩
theorem BH {P:Program}{w:World}{K:PySem.W.Frag}{tg:Expr}(x:Str)(t:Tok)(it:Addr):Turn P w K tg (MK x) [it] it (λi h=>h.IsStrIter it "str_ascii_iterator" x t i) where
 mem:=by simp
 obj:=λi h st b hb=>by
  have e:b=it:=by simpa using hb
  subst e
  obtain⟨o,e,c,d⟩:=st
  exact⟨o,e,λv z=>by rw[d] at z;cases z⟩
 keep:=λi h h' st k=>by
  obtain⟨o,e,r⟩:=st
  exact⟨o,k it (by simp) o e,r⟩
 item:=by
  intro X hP hw hK hc i pins s σ H E I hf st hg
  subst hP hw hK
  obtain⟨f0,f1,f2,f3,f4,f5⟩:=hf it (by simp)
  have hi:i<x.cps.size:=hg
  refine wpAny_pyNext_ascii_item st (c:=x.cps[i]) (by simp[hi]) λh' st' sb=>?_
  have I1:Inv X pins σ H { s with heap:=h',toks:=s.toks+1 }:=I.turned (λb o hb e=>(sb.2 b hb).trans e) f0 f1 f3 f4 f5
  obtain⟨o,e,c,d⟩:=id st'
  exact⟨_,rfl,rY (s:={ s with heap:=h',toks:=s.toks+1 }) e c d (by decide) ⟨.str ⟨#[x.cps[i]]⟩,H,I1,⟨_,rfl⟩,⟨rfl,_,by simp[hi],rfl⟩,st',λb hb=>(hf b hb).1⟩⟩
 done:=by
  intro X hP hw hK hc i pins s σ H E I hf st hg
  subst hP hw hK
  obtain⟨f0,f1,f2,f3,f4,f5⟩:=hf it (by simp)
  have hi:x.cps.size<=i:=hg
  exact wpAny_pyNext_ascii_end (I.ok.hd hc) st (by simp[hi]) λh' eb=>⟨rfl,I.turned (t':=s.toks) (λb o hb e=>eb b o hb e) f0 f1 f3 f4 f5⟩
 self:=λ_ _ _ _ _ st h=>wpAny_pyIter_striter_ascii st h
theorem BI {P:Program}{w:World}{K:PySem.W.Frag}{tg:Expr}(x:Str)(t:Tok)(it:Addr):Turn P w K tg (MK x) [it] it (λi h=>h.IsStrIter it "str_iterator" x t i) where
 mem:=by simp
 obj:=λi h st b hb=>by
  have e:b=it:=by simpa using hb
  subst e
  obtain⟨o,e,c,d⟩:=st
  exact⟨o,e,λv z=>by rw[d] at z;cases z⟩
 keep:=λi h h' st k=>by
  obtain⟨o,e,r⟩:=st
  exact⟨o,k it (by simp) o e,r⟩
 item:=by
  intro X hP hw hK hc i pins s σ H E I hf st hg
  subst hP hw hK
  obtain⟨f0,f1,f2,f3,f4,f5⟩:=hf it (by simp)
  have hi:i<x.cps.size:=hg
  refine wpAny_pyNext_wide_item st (c:=x.cps[i]) (by simp[hi]) λh' st' sb=>?_
  have I1:Inv X pins σ H { s with heap:=h',toks:=s.toks+1 }:=I.turned (λb o hb e=>(sb.2 b hb).trans e) f0 f1 f3 f4 f5
  obtain⟨o,e,c,d⟩:=id st'
  exact⟨_,rfl,rY (s:={ s with heap:=h',toks:=s.toks+1 }) e c d (by decide) ⟨.str ⟨#[x.cps[i]]⟩,H,I1,⟨_,rfl⟩,⟨rfl,_,by simp[hi],rfl⟩,st',λb hb=>(hf b hb).1⟩⟩
 done:=by
  intro X hP hw hK hc i pins s σ H E I hf st hg
  subst hP hw hK
  obtain⟨f0,f1,f2,f3,f4,f5⟩:=hf it (by simp)
  have hi:x.cps.size<=i:=hg
  exact wpAny_pyNext_wide_end (I.ok.hd hc) st (by simp[hi]) λh' eb=>⟨rfl,I.turned (t':=s.toks) (λb o hb e=>eb b o hb e) f0 f1 f3 f4 f5⟩
 self:=λ_ _ _ _ _ st h=>wpAny_pyIter_striter_wide st h
section
variable {X:Cx}{tg:Expr}
end
theorem s_:∀l:List (Str × Tok),Vals ((l.map (·.1)).map V.str) (strValues l)
 |[]=>.nil
 | (x,t)::r=>.cons ⟨t,rfl⟩ (s_ r)
theorem BK (tk:Nat)(ws:List Str):Vals (ws.map V.str) (strsFrom tk ws):=by
 have h:=s_ (numbered tk ws)
 rw[numbered_texts,<- strsFrom_eq] at h
 exact h
section
variable {X:Cx}
open Builtin Builtin.Str in
theorem Co:Js X "str.split" (λx vs H Q=>∃z y,x=.str z/\vs=[.str y]/\(y.length == 0)=false/\z.length+2<=sizeLine/\∀p,H p=none->Q (.ref p) (upd H p (.lst ((Txt.split z y).map V.str)))):=by
 intro pins s σ H x vs v us Q I rx rv h
 obtain⟨z,y,rfl,rfl,hy,hz,q⟩:=h
 obtain⟨t,rfl⟩:=rx
 obtain⟨w',rfl,u,rfl⟩:=rv.one
 have hle:(Txt.split z y).length<=sizeLine:=Nat.le_trans (split_le z y) hz
 have hz0:z.length<=sizeLine:=by omega
 have q:=q s.heap.objs.size I.fresh
 cases h1:(decide (z.length<y.length)||decide (strKind z<strKind y)) with
 |true =>
  have e:Txt.split z y=[z]:=if_pos h1
  rw[e] at q
  refine call_meets F.slot_str_split (typeIs_str _ _ _) F.entry_str_split (F.args_str_split_2 _ _) (meets_str_split_cannot_occur z y t u h1) ?_
  exact⟨.ref s.heap.objs.size,_,I.laid (t':=s.toks) (o:=.lst [.str z]) (λb ob q=>Heap.get?_push_of_some _ q) (Nat.le_refl _) ⟨by show 1<=sizeLine;decide,_,0,.cons ⟨t,rfl⟩ .nil,Heap.get?_push_size _ rfl⟩,rfl,q⟩
 |false =>
  cases hf:(occurrences z y 0 z.length (z.length+1)).isEmpty with
  |true =>
   have e:Txt.split z y=[z]:=(if_neg (ne_true_of_eq_false h1)).trans (if_pos hf)
   rw[e] at q
   refine call_meets F.slot_str_split (typeIs_str _ _ _) F.entry_str_split (F.args_str_split_2 _ _) (meets_str_split_not_found z y t u h1 hy hf) ?_
   exact⟨.ref s.heap.objs.size,_,I.laid (t':=s.toks) (o:=.lst [.str z]) (λb ob q=>Heap.get?_push_of_some _ q) (Nat.le_refl _) ⟨by show 1<=sizeLine;decide,_,0,.cons ⟨t,rfl⟩ .nil,Heap.get?_push_size _ rfl⟩,rfl,q⟩
  |false =>
   have e:Txt.split z y=partsBetween z (occurrences z y 0 z.length (z.length+1)) y.length:=(if_neg (ne_true_of_eq_false h1)).trans (if_neg (ne_true_of_eq_false hf))
   rw[e] at q hle
   refine call_meets F.slot_str_split (typeIs_str _ _ _) F.entry_str_split (F.args_str_split_2 _ _) (meets_str_split_sep z y t u h1 hy hf hz0 hle) ?_
   exact⟨.ref s.heap.objs.size,_,I.laid (o:=.lst ((partsBetween z (occurrences z y 0 z.length (z.length+1)) y.length).map V.str)) (λb ob q=>Heap.get?_push_of_some _ q) (Nat.le_refl _)
    ⟨by rw[List.length_map];exact hle,_,0,BK _ _,Heap.get?_push_size _ rfl⟩,rfl,q⟩
theorem qO {v:Value}{o:Option Int}(p:IsPart v o):∃l:Option (Int × Tok),v=partValue l/\o=l.map (·.1):=by
 cases p with
 |none=>exact⟨none,rfl,rfl⟩
 |int i t=>exact⟨some (i,t),rfl,rfl⟩
theorem Jf:EG X (λx lo hi H Q=>∃z,x=.str z/\z.length<=sizeLine/\Q (.str (Txt.slice z lo hi)) H):=by
 intro pins s σ H x v vl vu lo hi sl Q I rx hs pl pu h
 obtain⟨z,rfl,hz,q⟩:=h
 obtain⟨t,rfl⟩:=rx
 obtain⟨l,rfl,rfl⟩:=qO pl
 obtain⟨u,rfl,rfl⟩:=qO pu
 refine⟨"str",_,F.slot_str_getitem.lookup,typeIs_str _ _ _,wpAny_getItem_str_slice (l:=l) (u:=u) (st:=none) hs rfl ?_⟩
 exact post_val_or_str ⟨Nat.le_trans (Txt.slice_le z _ _) hz,λt' k=>⟨.str (Txt.slice z _ _),H,I.tok _,⟨t',rfl⟩,q⟩⟩
end
theorem mem_of_lookup {β:Type}{y:Str}{v:β}:∀{l:List (Str × β)},l.lookup y=some v->(y,v)∈l
 |[],h=>by simp at h
 | (x,u)::r,h=>by
  rw[List.lookup_cons] at h
  cases e:y == x with
  |true =>
   rw[e] at h
   have h1:=Option.some.inj h
   have h2:=eq_of_beq e
   subst h1 h2
   exact List.mem_cons_self
  |false =>
   rw[e] at h
   exact List.mem_cons_of_mem _ (mem_of_lookup h)
theorem lI {X:Cx}{scope:Scope}{T:List Str}(hk:scope.kind=.function)(hc:closureFor scope X.env=pure [])(h1:∀y∈scope.names,y.2≠.cell)(h2:∀y∈scope.names,y.2≠.free)
  (h3:∀y∈scope.names,y.2=.local->scope.names.lookup y.1=some .local):b9 X scope [] T [] [] :=
 ⟨hk,hc,h1,h3,λy c h=>by simp at h,λy h=>absurd rfl (h2 _ (mem_of_lookup h)),.nil⟩
theorem i5 {X:Cx}{scope:Scope}{T cn:List Str}{caps:List Nat}{cl:List (Str × Addr)}(hk:scope.kind=.function)(hc:closureFor scope X.env=pure cl)(h1:∀y∈scope.names,y.2≠.cell)
  (h2:∀y∈scope.names,y.2=.free->(cl.lookup y.1).isSome=true)(h3:∀y∈scope.names,y.2=.local->scope.names.lookup y.1=some .local)(hs:∀p∈cl,X.env.cells.lookup p.1=some p.2)
  (hp:Paired (fun(j:Nat) (y:Str)=>X.N[j]?=some y/\(X.env.kindOf y=some .cell\/X.env.kindOf y=some .free)/\scope.names.lookup y=some .free) caps cn):b9 X scope cl T caps cn :=
 ⟨hk,hc,h1,h3,λy c h=>hs (y,c) (mem_of_lookup h),λy h=>Option.isSome_iff_exists.mp (h2 _ (mem_of_lookup h) rfl),hp⟩
def del (H:Hp)(a:Addr):Hp:=λb=>if b=a then none else H b
theorem Bw {H:Hp}{a:Addr}:del H a a=none:=if_pos rfl
theorem l_ {H:Hp}{a b:Addr}(h:b≠a):del H a b=H b:=if_neg h
section
variable {X:Cx}{pins:List (Addr × Obj)}{σ:St}{H:Hp}{s:Shared}{a:Addr}{ys:List V}
end
section
variable {X:Cx}{e:Expr}{te:TE}{tt:TT}
def kY (te:TE):TE:=λσ H Q=>∃D ys,H D=some (.lst ys)/\te σ (del H D) λy H4=>H4 D=none->Q y (upd H4 D (.lst ys))
def kb (tt:TT):TT:=λσ H Q=>∃D ys,H D=some (.lst ys)/\tt σ (del H D) λb H4=>H4 D=none->Q b (upd H4 D (.lst ys))
end
theorem tO {H:Hp}{a:Addr}{o:HO}(h:H a=none):del (upd H a o) a=H:=by
 funext b
 unfold del upd
 by_cases hb:b=a
 ·rw[if_pos hb,hb,h]
 ·rw[if_neg hb,if_neg hb]
def dG (H:Hp)(a dx:Addr):Hp:=λb=>if b=a\/b=dx then none else H b
def shown (H:Hp)(a dx C:Addr)(fs:List (Str × V)):Hp:=upd (upd H dx (.own a)) a (.ins C dx fs)
section
variable {X:Cx}{pins:List (Addr × Obj)}{σ:St}{H:Hp}{s:Shared}{a dx C:Addr}{fs:List (Str × V)}
theorem Inv.C0 {o:HO}(I:Inv X pins σ H s)(e:H a=some o):a∉X.fs/\(∀b o,X.s₀.heap.get? b=some o->X.H₀ b=none->b∉X.ex->b≠a)/\(∀p∈X.pn++pins,p.1≠a)/\∀x c,X.env.cells.lookup x=some c->c≠a:=by
 refine⟨λhb=>?_,λb o q n hx z=>?_,λp hp z=>?_,λx c q z=>?_⟩
 ·have h1:=I.ok.Gs a hb
  obtain⟨_,o,ho,_⟩:=I.ok.n_.mem hb
  have hx:a∉X.ex:=λhx=>I.ok.B7 a hx hb
  have:=I.base.free a o ho h1 hx
  rw[e] at this
  cases this
 ·have:=I.base.free b o q n hx
  rw[z,e] at this
  cases this
 ·have:=(I.pin p hp).2.1
  rw[z,e] at this
  cases this
 ·have:=I.fA x c q
  rw[z,e] at this
  cases this
end
section
variable {X:Cx}{e:Expr}{te:TE}{st:Stmt}{ts:TS}
def GC (te:TE):TE:=λσ H Q=>∃a dx C fs,H a=some (.ins C dx fs)/\te σ (dG H a dx) λy H4=>H4 a=none->H4 dx=none->dx≠a->Q y (shown H4 a dx C fs)
def F3 (ts:TS):TS:=λD σ H=>∃a dx C fs,H a=some (.ins C dx fs) /\
 ts ⟨λσ' H4=>H4 a=none->H4 dx=none->dx≠a->D.nx σ' (shown H4 a dx C fs),λv H4=>H4 a=none->H4 dx=none->dx≠a->D.rt v (shown H4 a dx C fs),
  λσ' H4=>H4 a=none->H4 dx=none->dx≠a->D.bk σ' (shown H4 a dx C fs),λσ' H4=>H4 a=none->H4 dx=none->dx≠a->D.ct σ' (shown H4 a dx C fs)⟩ σ (dG H a dx)
theorem kn {H:Hp}{a dx C:Addr}{fs:List (Str × V)}(h1:H a=none)(h2:H dx=none):dG (shown H a dx C fs) a dx=H:=by
 funext b
 unfold dG shown upd
 by_cases hb:b=a
 ·rw[if_pos (.inl hb),hb,h1]
 ·by_cases hb2:b=dx
  ·rw[if_pos (.inr hb2),hb2,h2]
  ·rw[if_neg (λz=>z.elim hb hb2),if_neg hb,if_neg hb2]
theorem BJ {H:Hp}{a dx C:Addr}{fs fs':List (Str × V)}:upd (shown H a dx C fs) a (.ins C dx fs')=shown H a dx C fs':=p6
theorem nW {H:Hp}{a dx C:Addr}{fs:List (Str × V)}:shown H a dx C fs a=some (.ins C dx fs):=aJ
end
def aN (H:Hp)(L:List Addr):Hp:=λb=>if b∈L then none else H b
def aa (H' H:Hp)(L:List Addr):Hp:=λb=>if b∈L then H b else H' b
theorem cL {H:Hp}{L:List Addr}{b:Addr}(h:b∈L):aN H L b=none:=if_pos h
theorem ax {H:Hp}{L:List Addr}{b:Addr}(h:b∉L):aN H L b=H b:=if_neg h
theorem hJ {H:Hp}{L:List Addr}{b:Addr}(h:H b=none):aN H L b=none:=by unfold aN;split<;>first|rfl|exact h
theorem de {H:Hp}{L:List Addr}{b:Addr}{o:HO}(h:aN H L b=some o):b∉L/\H b=some o:=by
 unfold aN at h
 split at h
 ·cases h
 ·rename_i z;exact⟨z,h⟩
theorem bN {H:Hp}{L:List Addr}:aK (aN H L) H:=λb o h=>(de h).2
theorem cI {H:Hp}:aN H []=H:=by funext b;exact if_neg (λh=>nomatch h)
theorem af {H H':Hp}{L:List Addr}{b:Addr}(h:b∈L):aa H' H L b=H b:=if_pos h
theorem aV {H H':Hp}{L:List Addr}{b:Addr}(h:b∉L):aa H' H L b=H' b:=if_neg h
theorem bK {H H':Hp}{L:List Addr}(h:∀b∈L,H' b=none):aN (aa H' H L) L=H':=by
 funext b
 by_cases hb:b∈L
 ·rw[cL hb,h b hb]
 ·rw[ax hb,aV hb]
inductive dC (H:Hp) (L:List Addr) (a:Addr):Prop
 |lst (xs:List V) (h:H a=some (.lst xs))
 |dK (kvs:List (Key × V)) (h:H a=some (.dK kvs))
 |ins (C dx:Addr) (fs:List (Str × V)) (h:H a=some (.ins C dx fs)) (hd:dx∈L)
 |own (C b:Addr) (fs:List (Str × V)) (h:H a=some (.own b)) (hb:b∈L) (hi:H b=some (.ins C a fs))
section
variable {X:Cx}{pins:List (Addr × Obj)}{σ:St}{H:Hp}{s:Shared}{L:List Addr}
theorem dC.there {a:Addr}(h:dC H L a):∃o,H a=some o:=by cases h<;>exact⟨_,by assumption⟩
theorem dC.pE {a:Addr}(h:dC H L a):(∀xs,H a≠some (.tup xs))/\(∀o u,H a≠some (.fB o u))/\(∀ps,H a≠some (.GK ps))/\∀b,H a=some (.own b)->b∈L:=by
 cases h with
 |lst xs h=>rw[h];exact⟨λ_ q=>(nomatch q),λ_ _ q=>(nomatch q),λ_ q=>(nomatch q),λ_ q=>(nomatch q)⟩
 |dK xs h=>rw[h];exact⟨λ_ q=>(nomatch q),λ_ _ q=>(nomatch q),λ_ q=>(nomatch q),λ_ q=>(nomatch q)⟩
 |ins C dx fs h hd=>rw[h];exact⟨λ_ q=>(nomatch q),λ_ _ q=>(nomatch q),λ_ q=>(nomatch q),λ_ q=>(nomatch q)⟩
 |own C b fs h hb hi=>rw[h];exact⟨λ_ q=>(nomatch q),λ_ _ q=>(nomatch q),λ_ q=>(nomatch q),λc q=>by cases q;exact hb⟩
theorem dC.obj {a:Addr}(h:dC H L a)(I:Inv X pins σ H s):∃o,s.heap.get? a=some o/\∀v,o.data≠.cell v:=by
 cases h with
 |lst xs h =>
  obtain⟨_,its,n,_,ho⟩:=(show bJ X.prog X.w H s.heap a (.lst xs) from I.bW a _ h)
  exact⟨_,ho,λv q=>by cases q⟩
 |dK kvs h =>
  obtain⟨_,_,vs,_,ob,es,ep,e,c⟩:=(show bJ X.prog X.w H s.heap a (.dK kvs) from I.bW a _ h)
  exact⟨_,e,λv q=>by rw[c.2.1] at q;cases q⟩
 |ins C dx fs h hd =>
  obtain⟨_,_,_,e,_⟩:=(show bJ X.prog X.w H s.heap a (.ins C dx fs) from I.bW a _ h)
  exact⟨_,e,λv q=>by cases q⟩
 |own C b fs h hb hi =>
  obtain⟨_,_,_,_,mA,⟨od,es,ep,e2,c⟩,r⟩:=(show bJ X.prog X.w H s.heap b (.ins C a fs) from I.bW b _ hi)
  exact⟨_,e2,λv q=>by rw[c.1] at q;cases q⟩
theorem mE {G:Prop}(I:Inv X pins σ H s)(hL:∀a∈L,dC H L a)
  (h:∀pl:List (Addr × Obj),Inv X (pins++pl) σ (aN H L) s->(∀b∈L,∃o,(b,o)∈pl)->(∀(σ':St) (H':Hp) (s':Shared),Inv X (pins++pl) σ' H' s'->(∀b∈L,H' b=none)/\Inv X pins σ' (aa H' H L) s')->G):G:=by
 have memL:∀{b:Addr} {o:Obj},(b,o)∈mJ L s.heap ↔ b∈L/\s.heap.get? b=some o:=fun{b o}=>⟨λq=>oU q,λq=>f_ q.1 q.2⟩
 refine h (mJ L s.heap) ?_ (λb hb=>let ⟨o,e,_⟩:=(hL b hb).obj I;⟨o,memL.mpr ⟨hb,e⟩⟩) λσ' H' s' J=>?_
 ·refine⟨I.ok,I.os,I.bare,⟨I.base.keep,I.base.slot,λb o q n hx=>hJ (I.base.free b o q n hx),I.base.there,λb xs q=>?_,λb o u q=>?_,λb ps q=>?_⟩,I.loc,I.cell,hJ I.free,λx c q=>hJ (I.fA x c q),λp hp=>?_,λb o q=>?_,I.len⟩
  ·have z:=I.base.q9 b xs q
   rw[ax (λw=>(hL b w).pE.1 _ z)];exact z
  ·have z:=I.base.n8 b o u q
   rw[ax (λw=>(hL b w).pE.2.1 _ _ z)];exact z
  ·obtain⟨more,z⟩:=I.base.qy b ps q
   exact⟨more,by rw[ax (λw=>(hL b w).pE.2.2.1 _ z)];exact z⟩
  ·rw[<- List.append_assoc] at hp
   rcases List.mem_append.mp hp with z|z
   ·obtain⟨p1,p2,p3,p4,p5⟩:=I.pin p z
    exact⟨p1,hJ p2,p3,p4,p5⟩
   ·obtain⟨z1,z2⟩:=oU z
    obtain⟨o,e⟩:=(hL p.1 z1).there
    refine⟨z2,cL z1,λw=>?_,(I.C0 e).1,λv q=>?_⟩
    ·have f:=I.free
     rw[<- w,e] at f
     cases f
    ·obtain⟨ob,e2,nc⟩:=(hL p.1 z1).obj I
     rw[z2] at e2
     cases e2
     exact nc v q
  ·obtain⟨hb,q⟩:=de q
   refine(I.bW b o q).om (λ_ _ _ z=>z) (λc hc=>?_) (λc xs hc=>?_)
   ·rw[ax (λw=>hb ((hL c w).pE.2.2.2 _ hc))];exact hc
   ·rw[ax (λw=>(hL c w).pE.1 _ hc)];exact hc
 ·have pin:∀b∈L,H' b=none/\∀o,s.heap.get? b=some o->s'.heap.get? b=some o:=λb hb=>by
   obtain⟨o,e,_⟩:=(hL b hb).obj I
   obtain⟨g1,g2,_⟩:=J.pin (b,o) (List.mem_append_right _ (List.mem_append_right _ (memL.mpr ⟨hb,e⟩)))
   exact⟨g2,λo' e'=>by rw[e] at e';cases e';exact g1⟩
  refine⟨λb hb=>(pin b hb).1,⟨J.ok,J.os,J.bare,⟨J.base.keep,J.base.slot,λb o q n hx=>?_,J.base.there,λb xs q=>?_,λb o u q=>?_,λb ps q=>?_⟩,J.loc,J.cell,?_,λx c q=>?_,λp hp=>?_,λb o q=>?_,J.len⟩⟩
  ·rw[aV (λw=>let ⟨o',e⟩:=(hL b w).there;(I.C0 e).2.1 b o q n hx rfl)]
   exact J.base.free b o q n hx
  ·have z:=J.base.q9 b xs q
   rw[aV (λw=>by rw[(pin b w).1] at z;cases z)];exact z
  ·have z:=J.base.n8 b o u q
   rw[aV (λw=>by rw[(pin b w).1] at z;cases z)];exact z
  ·obtain⟨more,z⟩:=J.base.qy b ps q
   exact⟨more,by rw[aV (λw=>by rw[(pin b w).1] at z;cases z)];exact z⟩
  ·rw[aV (λw=>let ⟨o',e⟩:=(hL _ w).there;by rw[I.free] at e;cases e)]
   exact J.free
  ·rw[aV (λw=>let ⟨o',e⟩:=(hL _ w).there;by rw[I.fA x c q] at e;cases e)]
   exact J.fA x c q
  ·obtain⟨p1,p2,p3,p4,p5⟩:=J.pin p (by rw[<- List.append_assoc];exact List.mem_append_left _ hp)
   refine⟨p1,?_,p3,p4,p5⟩
   rw[aV (λw=>let ⟨o',e⟩:=(hL _ w).there;(I.C0 e).2.2.1 p hp rfl)]
   exact p2
  ·by_cases hb:b∈L
   ·rw[af hb] at q
    have k:=(pin b hb).2
    have w:=hL b hb
    cases w with
    |lst xs h =>
     rw[h] at q;cases q
     obtain⟨hz,its,n,hv,ho⟩:=(show bJ X.prog X.w H s.heap b (.lst xs) from I.bW b _ h)
     exact⟨hz,its,n,hv,k _ ho⟩
    |dK kvs h =>
     rw[h] at q;cases q
     obtain⟨z1,z2,vs,hv,ob,es,ep,e,c⟩:=(show bJ X.prog X.w H s.heap b (.dK kvs) from I.bW b _ h)
     exact⟨z1,z2,vs,hv,ob,es,ep,k _ e,c⟩
    |ins C dx fs h hd =>
     rw[h] at q;cases q
     obtain⟨d,z,ne,ea,mA,⟨od,es,ep,e2,c⟩,r⟩:=(show bJ X.prog X.w H s.heap b (.ins C dx fs) from I.bW b _ h)
     exact⟨by rw[af hd];exact d,z,ne,k _ ea,mA,⟨od,es,ep,(pin dx hd).2 _ e2,c⟩,r⟩
    |own C a fs h ha hi =>
     rw[h] at q;cases q
     obtain⟨o,e⟩:=(show bJ X.prog X.w H s.heap b (.own a) from I.bW b _ h)
     exact⟨o,k _ e⟩
   ·rw[aV hb] at q
    refine(J.bW b o q).om (λ_ _ _ z=>z) (λc hc=>?_) (λc xs hc=>?_)
    ·rw[aV (λw=>by rw[(pin c w).1] at hc;cases hc)];exact hc
    ·rw[aV (λw=>by rw[(pin c w).1] at hc;cases hc)];exact hc
end
section
variable {X:Cx}{e:Expr}{te:TE}{tt:TT}{st:Stmt}{ts:TS}{tg iter:Expr}{wi:TI}
def N7 (te:TE):TE:=λσ H Q=>∃L,(∀a∈L,dC H L a)/\te σ (aN H L) λy H4=>(∀b∈L,H4 b=none)->Q y (aa H4 H L)
theorem gx (he:PE X e te):PE X e (N7 te):=by
 intro pins s σ H Q I ⟨L,hL,q⟩
 refine mE I hL λpl I' _ back=>?_
 refine b6 (he (pins++pl) s σ _ _ I' q) λv s1 ⟨y,H4,I4,r,k⟩=>?_
 obtain⟨z,J⟩:=back _ _ _ I4
 exact⟨y,_,J,r,k z⟩
def N8 (tt:TT):TT:=λσ H Q=>∃L,(∀a∈L,dC H L a)/\tt σ (aN H L) λy H4=>(∀b∈L,H4 b=none)->Q y (aa H4 H L)
def tW (D:Ends)(H:Hp)(L:List Addr):Ends:=⟨λσ' H4=>(∀b∈L,H4 b=none)->D.nx σ' (aa H4 H L),λv H4=>(∀b∈L,H4 b=none)->D.rt v (aa H4 H L),
 λσ' H4=>(∀b∈L,H4 b=none)->D.bk σ' (aa H4 H L),λσ' H4=>(∀b∈L,H4 b=none)->D.ct σ' (aa H4 H L)⟩
def Mb (ts:TS):TS:=λD σ H=>∃L,(∀a∈L,dC H L a)/\ts (tW D H L) σ (aN H L)
theorem zt {pins pl:List (Addr × Obj)}{D:Ends}{H:Hp}{L:List Addr}{f:Flow}{s1:Shared}(back:∀(σ':St) (H':Hp) (s':Shared),Inv X (pins++pl) σ' H' s'->(∀b∈L,H' b=none)/\Inv X pins σ' (aa H' H L) s')
  (hq:SP X (pins++pl) (tW D H L) f s1):SP X pins D f s1:=by
 cases f with
 |next=>obtain⟨σ',H',J,k⟩:=hq;obtain⟨z,J'⟩:=back _ _ _ J;exact⟨σ',_,J',k z⟩
 |brk=>obtain⟨σ',H',J,k⟩:=hq;obtain⟨z,J'⟩:=back _ _ _ J;exact⟨σ',_,J',k z⟩
 |cont=>obtain⟨σ',H',J,k⟩:=hq;obtain⟨z,J'⟩:=back _ _ _ J;exact⟨σ',_,J',k z⟩
 |ret u=>obtain⟨v,σ',H',J,r,k⟩:=hq;obtain⟨z,J'⟩:=back _ _ _ J;exact⟨v,σ',_,J',r,k z⟩
theorem DH (he:PS X st ts):PS X st (Mb ts):=by
 intro pins s σ H D I ⟨L,hL,q⟩
 refine mE I hL λpl I' _ back=>?_
 exact b6 (he (pins++pl) s σ _ _ I' q) λf s1 hq=>zt back hq
theorem Ft {rest:List Stmt}(he:ly X rest ts):ly X rest (Mb ts):=by
 intro pins s σ H D I ⟨L,hL,q⟩
 refine mE I hL λpl I' _ back=>?_
 exact b6 (he (pins++pl) s σ _ _ I' q) λf s1 hq=>zt back hq
def Nh (wi:TI):TI:=λσ H R=>∃L,(∀a∈L,dC H L a)/\wi σ (aN H L) λJ H4=>(∀b∈L,H4 b=none)->R J (aa H4 H L)
theorem DE (he:PI X tg iter wi):PI X tg iter (Nh wi):=by
 intro pins s σ H R I ⟨L,hL,q⟩
 refine mE I hL λpl I' hpl back=>?_
 refine b6 (he (pins++pl) s σ _ _ I' q) λv s1 h1=>b6 h1 λitv s2 ⟨it,fp,tn,J,H',e1,I2,T,t0,hf,k⟩=>?_
 obtain⟨z,J2⟩:=back _ _ _ I2
 have hn:∀b∈fp,b∉L:=λb hb hl=>let ⟨o,ho⟩:=hpl b hl;(hf b hb).2.2.2.2.2 (b,o) (List.mem_append_right _ (List.mem_append_right _ ho)) rfl
 refine⟨it,fp,tn,J,_,e1,J2,T,t0,λb hb=>?_,k z⟩
 obtain⟨f1,f2,f3,f4,f5,f6⟩:=hf b hb
 exact⟨by rw[aV (hn b hb)];exact f1,f2,f3,f4,f5,λp hp=>f6 p (by rw[<- List.append_assoc];exact List.mem_append_left _ hp)⟩
end
theorem ve {H:Hp}{a:Addr}:aN H [a]=del H a:=by
 funext b
 by_cases h:b=a
 ·rw[h,cL List.mem_cons_self,Bw]
 ·rw[ax (λz=>h (List.mem_singleton.mp z)),l_ h]
theorem sV {H H':Hp}{a:Addr}{o:HO}(e:H a=some o):aa H' H [a]=upd H' a o:=by
 funext b
 by_cases h:b=a
 ·rw[h,af List.mem_cons_self,aJ,e]
 ·rw[aV (λz=>h (List.mem_singleton.mp z)),aI h]
theorem vg {H:Hp}{a dx:Addr}:aN H [a,dx]=dG H a dx:=by
 funext b
 unfold aN dG
 simp
theorem sW {H H':Hp}{a dx C:Addr}{fs:List (Str × V)}(ea:H a=some (.ins C dx fs))(ed:H dx=some (.own a)):aa H' H [a,dx]=shown H' a dx C fs:=by
 funext b
 unfold shown
 by_cases h:b=a
 ·rw[h,af List.mem_cons_self,aJ,ea]
 ·rw[aI h]
  by_cases h2:b=dx
  ·rw[h2,af (List.mem_cons_of_mem _ List.mem_cons_self),aJ,ed]
  ·rw[aV (λz=>by simp at z;exact z.elim h h2),aI h2]
section
variable {X:Cx}{e:Expr}{te:TE}{tt:TT}{st:Stmt}{ts:TS}
theorem hZ (he:PE X e te):PE X e (kY te):=λpins s σ H Q I ⟨D,ys,hD,q⟩ =>
 gx he pins s σ H Q I ⟨[D],λa ha=>by rw[List.mem_singleton.mp ha];exact .lst ys hD,by rw[ve];simpa only[sV hD,List.mem_singleton,forall_eq] using q⟩
theorem Fv {ifs:List Expr}(he:yk X ifs tt):yk X ifs (N8 tt):=by
 intro pins s σ H Q I ⟨L,hL,q⟩
 refine mE I hL λpl I' _ back=>?_
 refine b6 (he (pins++pl) s σ _ _ I' q) λv s1 ⟨H4,I4,k⟩=>?_
 obtain⟨z,J⟩:=back _ _ _ I4
 exact⟨_,J,k z⟩
theorem gC {ifs:List Expr}(he:yk X ifs tt):yk X ifs (kb tt):=λpins s σ H Q I ⟨D,ys,hD,q⟩ =>
 Fv he pins s σ H Q I ⟨[D],λa ha=>by rw[List.mem_singleton.mp ha];exact .lst ys hD,by rw[ve];simpa only[sV hD,List.mem_singleton,forall_eq] using q⟩
theorem D0 {pins:List (Addr × Obj)}{σ:St}{H:Hp}{s:Shared}{a dx C:Addr}{fs:List (Str × V)}(I:Inv X pins σ H s)(ha:H a=some (.ins C dx fs)):H dx=some (.own a)/\dx≠a/\∀b∈[a,dx],dC H [a,dx] b:=by
 obtain⟨d,_,ne,_⟩:=(show bJ X.prog X.w H s.heap a (.ins C dx fs) from I.bW a _ ha)
 refine⟨d,ne,λb hb=>?_⟩
 rcases List.mem_cons.mp hb with rfl|hb
 ·exact .ins C dx fs ha (by simp)
 ·rw[List.mem_singleton.mp hb];exact .own C a fs d (by simp) ha
theorem yE (he:PE X e te):PE X e (GC te):=λpins s σ H Q I ⟨a,dx,C,fs,ha,q⟩=>by
 obtain⟨d,ne,ok⟩:=D0 I ha
 refine gx he pins s σ H Q I ⟨[a,dx],ok,?_⟩
 rw[vg]
 simp only[sW ha d,List.mem_cons,List.not_mem_nil,or_false,forall_eq_or_imp,forall_eq]
 exact(show(λy H4=>H4 a=none->H4 dx=none->dx≠a->Q y (shown H4 a dx C fs))=λy H4=>H4 a=none/\H4 dx=none->Q y (shown H4 a dx C fs) by funext y H4;simp[ne]) ▸ q
theorem yI (he:PS X st ts):PS X st (F3 ts):=λpins s σ H D I ⟨a,dx,C,fs,ha,q⟩=>by
 obtain⟨d,ne,ok⟩:=D0 I ha
 refine DH he pins s σ H D I ⟨[a,dx],ok,?_⟩
 rw[vg]
 have e:tW D H [a,dx]=⟨λσ' H4=>H4 a=none->H4 dx=none->dx≠a->D.nx σ' (shown H4 a dx C fs),λv H4=>H4 a=none->H4 dx=none->dx≠a->D.rt v (shown H4 a dx C fs),
  λσ' H4=>H4 a=none->H4 dx=none->dx≠a->D.bk σ' (shown H4 a dx C fs),λσ' H4=>H4 a=none->H4 dx=none->dx≠a->D.ct σ' (shown H4 a dx C fs)⟩:=by
  unfold tW
  simp[sW ha d,ne]
 rw[e]
 exact q
end
end L2
namespace DC
open PySem PySem.Spec PyProof.Rows L2
inductive D where
 |ak|bl (b:Bool)|int (i:Int)|str (x:Str)
 |lst (xs:List D)|tup (xs:List D)
 |obj (C:Addr) (fs:List (Str × D))
 |dK (kvs:List (Key × D))|dT (kvs:List (List Key × D))
 |adr (a:Addr)
 |exc (a C:Addr) (fs:List (Str × D))
def HQ (a C:Addr)(dx:Option Addr):HO:=.ext λh=>∃oe vs,h.get? a=some oe/\oe.cls=.ref C/\oe.dict=dx/\oe.data=.fields vs/\vs[2]?=some .none
def MO (d:Addr)(fs:List (Str × V)):HO:=.ext λh=>∃mA,h.Ns1 d mA/\(∀f,jD (fs.lookup f) (mA f))/\PySem.Within mA (fs.map (·.1))
def oy (H:Hp)(dx:Option Addr)(fs:List (Str × V)):Prop:=match dx with
 |none=>fs=[]
 |some d=>Rd H d (MO d fs)
theorem kz {H H':Hp}{a:Addr}{u:HO}(s:aK H H')(r:Rd H a u):Rd H' a u:=by
 rcases r with r|⟨o,r⟩
 ·exact .inl (s _ _ r)
 ·exact .inr ⟨o,s _ _ r⟩
theorem oy.same {H H':Hp}{dx:Option Addr}{fs:List (Str × V)}(s:aK H H')(h:oy H dx fs):oy H' dx fs:=by
 cases dx with
 |none=>exact h
 |some d=>exact kz s h
mutual
inductive Dv (K:PySem.W.Frag) (H:Hp):V->D->Prop
 |ak:Dv K H .ak .ak
 |bl (b:Bool):Dv K H (.bl b) (.bl b)
 |int (i:Int):Dv K H (.int i) (.int i)
 |str (x:Str):Dv K H (.str x) (.str x)
 |lst {a:Addr} {xs:List V} {ds:List D}:cu K H a xs->bM K H xs ds->Dv K H (.ref a) (.lst ds)
 |tup {a:Addr} {xs:List V} {ds:List D}:iM K H a xs->bM K H xs ds->Dv K H (.ref a) (.tup ds)
 |obj {a C dx:Addr} {fs:List (Str × V)} {gs:List (Str × D)}:Rd H a (.ins C dx fs)->gp K H fs gs->Dv K H (.ref a) (.obj C gs)
 |dK {a:Addr} {kvs:List (Key × V)} {gs:List (Key × D)}:Rd H a (.dK kvs)->e7 K H kvs gs->Dv K H (.ref a) (.dK gs)
 |dT {a:Addr} {kvs:List (List Key × V)} {gs:List (List Key × D)}:Rd H a (.dT kvs)->yh K H kvs gs->Dv K H (.ref a) (.dT gs)
 |adr (a:Addr):Dv K H (.ref a) (.adr a)
 |exc {a C:Addr} {dx:Option Addr} {fs:List (Str × V)} {gs:List (Str × D)}:Rd H a (HQ a C dx)->oy H dx fs->gp K H fs gs->Dv K H (.ref a) (.exc a C gs)
inductive bM (K:PySem.W.Frag) (H:Hp):List V->List D->Prop
 |nil:bM K H [] []
 |cons {x:V} {d:D} {xs:List V} {ds:List D}:Dv K H x d->bM K H xs ds->bM K H (x::xs) (d::ds)
inductive gp (K:PySem.W.Frag) (H:Hp):List (Str × V)->List (Str × D)->Prop
 |nil:gp K H [] []
 |cons {k:Str} {x:V} {d:D} {xs:List (Str × V)} {ds:List (Str × D)}:Dv K H x d->gp K H xs ds->gp K H ((k,x)::xs) ((k,d)::ds)
inductive e7 (K:PySem.W.Frag) (H:Hp):List (Key × V)->List (Key × D)->Prop
 |nil:e7 K H [] []
 |cons {k:Key} {x:V} {d:D} {xs:List (Key × V)} {ds:List (Key × D)}:Dv K H x d->e7 K H xs ds->e7 K H ((k,x)::xs) ((k,d)::ds)
inductive yh (K:PySem.W.Frag) (H:Hp):List (List Key × V)->List (List Key × D)->Prop
 |nil:yh K H [] []
 |cons {k:List Key} {x:V} {d:D} {xs:List (List Key × V)} {ds:List (List Key × D)}:Dv K H x d->yh K H xs ds->yh K H ((k,x)::xs) ((k,d)::ds)
end
theorem wY {K:PySem.W.Frag}{H H':Hp}{a:Addr}{xs:List V}(e:aK H H')(h:iM K H a xs):iM K H' a xs:=by
 rcases h with(h|⟨o,h⟩)|h
 ·exact .inl (.inl (e _ _ h))
 ·exact .inl (.inr ⟨o,e _ _ h⟩)
 ·exact .inr h
section
variable {K:PySem.W.Frag}{H H':Hp}
mutual
theorem Dv.same (s:aK H H'):∀{v:V} {d:D},Dv K H v d->Dv K H' v d
 |_,_,.ak=>.ak
 |_,_,.bl b=>.bl b
 |_,_,.int i=>.int i
 |_,_,.str x=>.str x
 |_,_,.lst h1 h2=>.lst (s.seq h1) (bM.same s h2)
 |_,_,.tup h1 h2=>.tup (wY s h1) (bM.same s h2)
 |_,_,.obj h1 h2=>.obj (kz s h1) (gp.same s h2)
 |_,_,.dK h1 h2=>.dK (kz s h1) (e7.same s h2)
 |_,_,.dT h1 h2=>.dT (kz s h1) (yh.same s h2)
 |_,_,.adr a=>.adr a
 |_,_,.exc h1 h2 h3=>.exc (kz s h1) (h2.same s) (gp.same s h3)
theorem bM.same (s:aK H H'):∀{vs:List V} {ds:List D},bM K H vs ds->bM K H' vs ds
 |_,_,.nil=>.nil
 |_,_,.cons h1 h2=>.cons (Dv.same s h1) (bM.same s h2)
theorem gp.same (s:aK H H'):∀{vs:List (Str × V)} {ds:List (Str × D)},gp K H vs ds->gp K H' vs ds
 |_,_,.nil=>.nil
 |_,_,.cons h1 h2=>.cons (Dv.same s h1) (gp.same s h2)
theorem e7.same (s:aK H H'):∀{vs:List (Key × V)} {ds:List (Key × D)},e7 K H vs ds->e7 K H' vs ds
 |_,_,.nil=>.nil
 |_,_,.cons h1 h2=>.cons (Dv.same s h1) (e7.same s h2)
theorem yh.same (s:aK H H'):∀{vs:List (List Key × V)} {ds:List (List Key × D)},yh K H vs ds->yh K H' vs ds
 |_,_,.nil=>.nil
 |_,_,.cons h1 h2=>.cons (Dv.same s h1) (yh.same s h2)
end
theorem bM.length:∀{vs:List V} {ds:List D},bM K H vs ds->vs.length=ds.length
 |_,_,.nil=>rfl
 |_,_,.cons _ h=>congrArg (·+1) (bM.length h)
theorem bM.get:∀{vs:List V} {ds:List D} {i:Nat} {d:D},bM K H vs ds->ds[i]?=some d->∃v,vs[i]?=some v/\Dv K H v d
 |_,_,_,_,.nil,e=>by simp at e
 |_,_,0,_,.cons h _,e=>by simp at e;subst e;exact⟨_,rfl,h⟩
 |_,_,i+1,d,.cons _ h,e=>by
  obtain⟨v,h1,h2⟩:=bM.get (i:=i) (d:=d) h (by simpa using e)
  exact⟨v,by simpa using h1,h2⟩
theorem bM.En:∀{vs:List V} {ds:List D} {i:Nat} {v:V},bM K H vs ds->vs[i]?=some v->∃d,ds[i]?=some d/\Dv K H v d
 |_,_,_,_,.nil,e=>by simp at e
 |_,_,0,_,.cons h _,e=>by simp at e;subst e;exact⟨_,rfl,h⟩
 |_,_,i+1,v,.cons _ h,e=>by
  obtain⟨d,h1,h2⟩:=bM.En (i:=i) (v:=v) h (by simpa using e)
  exact⟨d,by simpa using h1,h2⟩
theorem bM.append:∀{vs ws:List V} {ds es:List D},bM K H vs ds->bM K H ws es->bM K H (vs++ws) (ds++es)
 |_,_,_,_,.nil,h=>h
 |_,_,_,_,.cons a r,h=>.cons a (bM.append r h)
theorem bM.take:∀{vs:List V} {ds:List D} (n:Nat),bM K H vs ds->bM K H (vs.take n) (ds.take n)
 |_,_,0,_=>.nil
 |_,_,_+1,.nil=>.nil
 |_,_,n+1,.cons r t=>.cons r (bM.take n t)
theorem bM.drop:∀{vs:List V} {ds:List D} (n:Nat),bM K H vs ds->bM K H (vs.drop n) (ds.drop n)
 |_,_,0,r=>r
 |_,_,_+1,.nil=>.nil
 |_,_,n+1,.cons _ t=>bM.drop n t
theorem gp.look:∀{fs:List (Str × V)} {gs:List (Str × D)} {f:Str} {d:D},gp K H fs gs->gs.lookup f=some d->∃v,fs.lookup f=some v/\Dv K H v d
 |_,_,_,_,.nil,e=>by simp at e
 |_,_,f,d,.cons (k:=k) h r,e=>by
  rw[List.lookup_cons] at e ⊢
  cases q:f == k with
  |true =>
   rw[q] at e
   cases e
   exact⟨_,rfl,h⟩
  |false =>
   rw[q] at e
   exact gp.look r e
theorem gp.none:∀{fs:List (Str × V)} {gs:List (Str × D)} {f:Str},gp K H fs gs->gs.lookup f=Option.none->fs.lookup f=Option.none
 |_,_,_,.nil,_=>rfl
 |_,_,f,.cons (k:=k) h r,e=>by
  rw[List.lookup_cons] at e ⊢
  cases q:f == k with
  |true=>rw[q] at e;cases e
  |false =>
   rw[q] at e
   exact gp.none r e
end
section
variable {X:Cx}{pins:List (Addr × Obj)}{σ:L2.St}{H:Hp}{s:Shared}{a C dx:Addr}{fs:List (Str × V)}{f:Str}{v:V}{A:Around}{E:Value->Shared->Prop}
theorem qL {P:Program}{w:World}{h:Heap}(bW:ki P w H h)(e:Rd H a (.ins C dx fs)):∃mA,uz h a dx C mA/\(∀f,jD (fs.lookup f) (mA f))/\PySem.Within mA (fs.map (·.1))/\fs.length<=1000/\H dx=some (.own a):=by
 obtain⟨d,z,ne,ob,mA,n,r,q⟩:=(show bJ P w H h a (.ins C dx fs) from e.ok bW)
 exact⟨mA,⟨ob,n,ne⟩,r,q,z,d⟩
theorem vd {b:Bool}{Q:Value->Shared->Prop}(I:Inv X pins σ H s)(e:Rd H a (.ins C dx fs))(c:rE X.K C)(n:dE X.K C f)(l:fs.lookup f=some v)
  (h:∀u s',Inv X pins σ H s'->RelV v u->Q u s'):wpAny (model X.prog X.w) A (getAttr (.ref a) f b) Q E s:=by
 obtain⟨mA,O,r,_,_,_⟩:=qL I.bW e
 obtain⟨u,hu,ru⟩:=jD.some_of (v:=v) (o:=mA f) (by rw[<- l];exact r f)
 exact get_map I.uu O (c.get f) c.hd n hu (AU ru) (h u _ (I.tok _) ru)
theorem o_ {m:Str}{g:Addr}{pl:Sem Bool}{Q:Value × List Value->Shared->Prop}(I:Inv X pins σ H s)(e:Rd H a (.ins C dx fs))(c:rE X.K C)(k:Meth X.K C m g)(l:fs.lookup m=none)
  (h:Q (.ref g,[.ref a]) s):wpAny (model X.prog X.w) A (getMethod (.ref a) m pl) Q E s:=by
 obtain⟨mA,O,r,_,_,_⟩:=qL I.bW e
 have hn:mA m=none:=jD.none_of (by rw[<- l];exact r m)
 exact B_ I.uu O (c.get m) k.at_ k.fn hn h
def Lg (K:PySem.W.Frag)(ta:TE)(f:Str):TE:=λσ H Q=>ta σ H λx H1=>∃a C dx fs v,x=.ref a/\Rd H1 a (.ins C dx fs)/\rE K C/\dE K C f/\fs.lookup f=some v/\Q v H1
theorem Fl {e:Expr}{ta:TE}{pos:Pos}(he:PE X e ta)(hb:attributeBase e f X.env (eval e X.env)=eval e X.env):PE X (.Attribute e f pos) (Lg X.K ta f):=by
 intro pins s σ H Q I h
 refine EM hb (b6 (he pins s σ H _ I h) λu s1 ⟨x,H1,I1,rx,a,C,dx,fs,v,ex,ea,c,n,l,q⟩=>?_)
 subst ex
 obtain rfl:u=Value.ref a:=rx
 exact vd I1 ea c n l λu' s2 I2 ru=>⟨v,H1,I2,ru,q⟩
end
abbrev SD:=List (Option D)
abbrev ED:=SD->(D->Prop)->Prop
abbrev TD:=SD->(Bool->Prop)->Prop
abbrev AD:=SD->(List D->Prop)->Prop
structure br (K:PySem.W.Frag) (H:Hp) (σ:L2.St) (δ:SD):Prop where
 len:σ.length=δ.length
 get:∀(i:Nat) (d:D),δ[i]?=some (some d)->∃v,σ[i]?=some (some v)/\Dv K H v d
theorem br.same {K:PySem.W.Frag}{H H':Hp}{σ:L2.St}{δ:SD}(r:br K H σ δ)(s:aK H H'):br K H' σ δ :=
 ⟨r.len,λi d h=>let ⟨v,h1,h2⟩:=r.get i d h;⟨v,h1,h2.same s⟩⟩
theorem br.set {K:PySem.W.Frag}{H:Hp}{σ:L2.St}{δ:SD}(r:br K H σ δ){v:V}{d:D}(i:Nat)(h:Dv K H v d):br K H (σ.set i (some v)) (δ.set i (some d)):=by
 refine⟨by rw[List.length_set,List.length_set];exact r.len,λj e hj=>?_⟩
 rw[List.getElem?_set] at hj ⊢
 split at hj
 ·rename_i q
  subst q
  have hl:=r.len
  split at hj
  ·rename_i q2
   cases hj
   exact⟨v,by rw[if_pos rfl,if_pos (by omega)],h⟩
  ·cases hj
 ·rename_i q
  rw[if_neg q]
  exact r.get j e hj
def kD (K:PySem.W.Frag)(H:Hp)(Q:VK):D->Prop:=λd=>∀v H',aK H H'->Dv K H' v d->Q v H'
def kB (H:Hp)(Q:Bool->Hp->Prop):Bool->Prop:=λb=>∀H',aK H H'->Q b H'
def kA (K:PySem.W.Frag)(H:Hp)(Q:List V->Hp->Prop):List D->Prop:=λds=>∀vs H',aK H H'->bM K H' vs ds->Q vs H'
theorem kD.on {K:PySem.W.Frag}{H H1:Hp}{Q:VK}{d:D}(s:aK H H1)(h:kD K H Q d):kD K H1 Q d:=λv H' s' dv=>h v H' (s.trans s') dv
theorem kB.on {H H1:Hp}{Q:Bool->Hp->Prop}{b:Bool}(s:aK H H1)(h:kB H Q b):kB H1 Q b:=λH' s'=>h H' (s.trans s')
def oE (K:PySem.W.Frag)(t:ED):TE:=λσ H Q=>∃ δ,br K H σ δ/\t δ (kD K H Q)
def oT (K:PySem.W.Frag)(t:TD):TT:=λσ H Q=>∃ δ,br K H σ δ/\t δ (kB H Q)
def oA (K:PySem.W.Frag)(t:AD):TA:=λσ H Q=>∃ δ,br K H σ δ/\t δ (kA K H Q)
abbrev bX (t:ED):Prop:=∀ δ (P P':D->Prop),(∀d,P d->P' d)->t δ P->t δ P'
structure PD (X:Cx) (e:Expr) (t:ED):Prop where
 pe:PE X e (oE X.K t)
 mono:bX t
structure lH (X:Cx) (e:Expr) (t:TD):Prop where
 pt:PT X e (oT X.K t)
 mono:∀ δ (P P':Bool->Prop),(∀d,P d->P' d)->t δ P->t δ P'
structure ow (X:Cx) (e:Expr) (t:TD):Prop where
 pw:PW X e (oT X.K t)
 mono:∀ δ (P P':Bool->Prop),(∀d,P d->P' d)->t δ P->t δ P'
structure ni (X:Cx) (es:List Expr) (t:AD):Prop where
 pa:PA X es (oA X.K t)
 mono:∀ δ (P P':List D->Prop),(∀d,P d->P' d)->t δ P->t δ P'
theorem PT.imp {X:Cx}{e:Expr}{t t':TT}(h:PT X e t)(f:∀ σ H Q,t' σ H Q->t σ H Q):PT X e t':=λpins s σ H Q I q=>h pins s σ H Q I (f σ H Q q)
theorem PW.imp {X:Cx}{e:Expr}{t t':TT}(h:PW X e t)(f:∀ σ H Q,t' σ H Q->t σ H Q):PW X e t':=λwh pins s σ H Q I q=>h wh pins s σ H Q I (f σ H Q q)
theorem PA.imp {X:Cx}{es:List Expr}{t t':TA}(h:PA X es t)(f:∀ σ H Q,t' σ H Q->t σ H Q):PA X es t':=λp pins s σ H Q I q=>h p pins s σ H Q I (f σ H Q q)
section
variable {X:Cx}{e a b c:Expr}{es rest:List Expr}{pos:Pos}{ta tb tc:ED}
def lE (i:Nat):ED:=λδ Q=>∃d,δ[i]?=some (some d)/\Q d
def vC (d:D):ED:=λ_ Q=>Q d
theorem MX {i:Nat}(h:PE X e (wq i)):PD X e (lE i) :=
 ⟨h.imp λσ H Q ⟨δ,r,d,hd,k⟩=>let ⟨v,hv,dv⟩:=r.get i d hd;⟨v,hv,k v H (aK.refl _) dv⟩,λδ P P' f ⟨d,hd,k⟩=>⟨d,hd,f d k⟩⟩
theorem dv (i:Nat){x:Str}{pos:Pos}(hN:X.N[i]?=some x:=by rfl)(hv:uq X.env.scope x:=by first|exact Or.inl rfl|exact Or.inr (Or.inl rfl)|exact Or.inr (Or.inr rfl))(hd:(x == ("__debug__":Str))=false:=by decide)
  (hcd:(x == ("__classdict__":Str))=false:=by decide):PD X (.Name x pos) (lE i):=MX (pv i hN hv hd hcd)
theorem KC {v:V}{d:D}(h:PE X e (tC v))(hv:∀H,Dv X.K H v d):PD X e (vC d) :=
 ⟨h.imp λσ H Q ⟨δ,r,k⟩=>k v H (aK.refl _) (hv H),λδ P P' f k=>f d k⟩
theorem aD {i j pos}:PD X (.Constant (.int i) j pos) (vC (.int i)):=KC JH λ_=>.int i
theorem tN {i j pos}:PD X (.Constant (.bool i) j pos) (vC (.bl i)):=KC K6 λ_=>.bl i
theorem ah {i j pos}:PD X (.Constant (.str i) j pos) (vC (.str i)):=KC JK λ_=>.str i
theorem lJ {j pos}:PD X (.Constant .none j pos) (vC .ak):=KC JI λ_=>.ak
theorem dq {x:Str}{v:V}{u:Value}{d:D}{pos:Pos}(hg:Gl X x)(hm:X.mg x=some u)(r:RelV v u)(hv:∀H,Dv X.K H v d)(hd:(x == ("__debug__":Str))=false:=by decide):PD X (.Name x pos) (vC d):=KC (zY hg hm r hd) hv
abbrev F2:=D->D->(D->Prop)->Prop
abbrev e8 (f:F2):Prop:=∀d e (P P':D->Prop),(∀r,P r->P' r)->f d e P->f d e P'
def q_ (f:F2)(ta tb:ED):ED:=λδ Q=>ta δ λd=>tb δ λe=>f d e Q
def g8 (K:PySem.W.Frag)(r:R2)(f:F2):Prop:=∀H x y d e Q,Dv K H x d->Dv K H y e->f d e (kD K H Q)->r x y H Q
theorem vJ {t:TE}{r:R2}{f:F2}(hp:PE X e (Jj r (oE X.K ta) (oE X.K tb)))(ma:bX ta)(mb:bX tb)(hd:g8 X.K r f)(hf:e8 f):PD X e (q_ f ta tb):=by
 refine⟨hp.imp λσ H Q ⟨δ,r,h⟩=>⟨δ,r,ma _ _ _ (λd hd' v H1 s1 dv=>⟨δ,r.same s1,mb _ _ _ (λe he w H2 s2 ew=>hd H2 v w d e Q (dv.same s2) ew (hf d e _ _ (λz hz=>hz.on (s1.trans s2)) he)) hd'⟩) h⟩,?_⟩
 exact λδ P P' g h=>ma _ _ _ (λd h'=>mb _ _ _ (λe h''=>hf d e _ _ g h'') h') h
theorem AK {op:Operator}{r:R2}{f:F2}(ho:gq X (binaryOp op) r)(hd:g8 X.K r f)(hf:e8 f)(ha:PD X a ta)(hb:PD X b tb):PD X (.BinOp a op b pos) (q_ f ta tb) :=
 vJ (t:=oE X.K ta) (K7 ho ha.pe hb.pe) ha.mono hb.mono hd hf
theorem rW {op:CmpOp}{r:R2}{f:F2}(ho:gq X (compareOp op) r)(hd:g8 X.K r f)(hf:e8 f)(ha:PD X a ta)(hb:PD X b tb)(hm:behindInMarks op b=false):PD X (.Compare a [op] [b] pos) (q_ f ta tb) :=
 vJ (t:=oE X.K ta) (Fh ho ha.pe hb.pe hm) ha.mono hb.mono hd hf
end
section
variable {X:Cx}
theorem FW:gq X (binaryOp .Add) (λx y H Q=>∃a b xs ys,x=.ref a/\y=.ref b/\cu X.K H a xs/\cu X.K H b ys/\xs.length+ys.length<=sizeLine/\∀p,H p=none->Q (.ref p) (upd H p (.lst (xs++ys)))):=by
 intro pins s σ H x y v u Q I rx ry h
 obtain⟨a,b,xs,ys,rfl,rfl,ha,hb,hz,q⟩:=h
 cases(show v=Value.ref a from rx)
 cases(show u=Value.ref b from ry)
 obtain⟨its,r1,p1,_⟩:=I.list ha
 obtain⟨its2,r2,p2,_⟩:=I.list hb
 have hl1:=r1.length
 have hl2:=r2.length
 obtain⟨⟨cls,dd,data,sl⟩,ho,hc,n,hd⟩:=id p1.isList
 obtain⟨⟨cls2,dd2,data2,sl2⟩,ho2,hc2,n2,hd2⟩:=id p2.isList
 simp only at hc hd hc2 hd2
 subst hc hd hc2 hd2
 have e:its.toArray++its2.toArray=(its++its2).toArray:=by simp
 refine concat_meets ⟨_,ho,rfl⟩ ⟨_,ho2,rfl⟩ noFill_list_add seq_list_add PySem.F.slot_list_add PySem.F.entry_list_add (PySem.F.args_list_add_2 _ _)
  (list_addW a b its.toArray its2.toArray n n2 dd dd2 sl sl2 (by rw[List.size_toArray,List.size_toArray];omega)) ⟨ho,ho2,?_⟩
 rw[e]
 exact⟨.ref _,_,I.Mo (t':=s.toks) (r1.append r2) (by rw[List.length_append];omega),rfl,q _ I.fresh⟩
theorem FX:gq X (binaryOp .Add) (λx y H Q=>∃a b ys,x=.ref a/\y=.ref b/\iM X.K H a []/\iM X.K H b ys/\Q (.ref b) H):=by
 intro pins s σ H x y v u Q I rx ry h
 obtain⟨a,b,ys,rfl,rfl,ha,hb,q⟩:=h
 cases(show v=Value.ref a from rx)
 cases(show u=Value.ref b from ry)
 obtain⟨its,r1,p1,_⟩:=I.tuple ha
 obtain⟨its2,r2,p2,_⟩:=I.tuple hb
 have e1:its=[]:=r1.zero
 subst e1
 obtain⟨⟨cls,dd,data,sl⟩,ho,hc,n,hd⟩:=id p1
 obtain⟨⟨cls2,dd2,data2,sl2⟩,ho2,hc2,n2,hd2⟩:=id p2
 simp only at hc hd hc2 hd2
 subst hc hd hc2 hd2
 exact concat_meets ⟨_,ho,rfl⟩ ⟨_,ho2,rfl⟩ noFill_tuple_add seq_tuple_add PySem.F.slot_tuple_add PySem.F.entry_tuple_add (PySem.F.args_tuple_add_2 _ _)
  (tuple_addW0 a b #[] its2.toArray n n2 dd dd2 sl sl2 rfl) ⟨ho,ho2,⟨.ref b,H,I,rfl,q⟩⟩
end
section
variable {K:PySem.W.Frag}
def El:F2:=λd e Q=>match d,e with
 |.int i,.int j=>Q (.int (i+j))
 |.str x,.str y=>x.length+y.length<=sizeLine/\Q (.str (x++y))
 |.lst xs,.lst ys=>xs.length+ys.length<=sizeLine/\Q (.lst (xs++ys))
 |.tup xs,.tup ys=>xs.length+ys.length<=sizeLine/\Q (.tup (xs++ys))
 |_,_=>False
theorem Kr:e8 El:=by
 intro d e P P' g h
 unfold El at h ⊢
 split at h
 ·exact g _ h
 ·exact⟨h.1,g _ h.2⟩
 ·exact⟨h.1,g _ h.2⟩
 ·exact⟨h.1,g _ h.2⟩
 ·exact h.elim
def G9 (K:PySem.W.Frag):R2:=λx y H Q=>(∃i j,x=.int i/\y=.int j/\Q (.int (i+j)) H)\/(∃i j,x=.str i/\y=.str j/\i.length+j.length<=sizeLine/\Q (.str (i++j)) H) \/
 (∃a b xs ys,x=.ref a/\y=.ref b/\cu K H a xs/\cu K H b ys/\xs.length+ys.length<=sizeLine/\∀p,H p=none->Q (.ref p) (upd H p (.lst (xs++ys)))) \/
 G_ K x y H Q\/(∃a b ys,x=.ref a/\y=.ref b/\iM K H a []/\iM K H b ys/\Q (.ref b) H)
theorem FV {X:Cx}:gq X (binaryOp .Add) (G9 X.K):=Iw.or (xx.or (FW.or (FY.or FX)))
theorem B0:g8 K (G9 K) El:=by
 intro H x y d e Q hx hy h
 cases hx with
 |int i=>cases hy with
  |int j=>exact .inl ⟨i,j,rfl,rfl,h _ H (aK.refl _) (.int _)⟩
  |_=>exact h.elim
 |str i=>cases hy with
  |str j=>exact .inr (.inl ⟨i,j,rfl,rfl,h.1,h.2 _ H (aK.refl _) (.str _)⟩)
  |_=>exact h.elim
 |lst h1 h2=>cases hy with
  |lst g1 g2 =>
   refine .inr (.inr (.inl ⟨_,_,_,_,rfl,rfl,h1,g1,?_,λp hp=>?_⟩))
   ·rw[h2.length,g2.length];exact h.1
   ·exact h.2 _ _ (aU hp) (.lst (cu.of aJ) ((h2.append g2).same (aU hp)))
  |_=>exact h.elim
 |tup h1 h2=>cases hy with
  |tup g1 g2 =>
   have z:=h.1
   rw[<- h2.length,<- g2.length] at z
   cases h2 with
   |nil=>exact .inr (.inr (.inr (.inr ⟨_,_,_,rfl,rfl,h1,g1,h.2 _ H (aK.refl _) (.tup g1 g2)⟩)))
   |cons a r =>
    refine .inr (.inr (.inr (.inl ⟨_,_,_,_,rfl,rfl,h1,g1,(λq=>nomatch q),z,λe=>?_,λe p hp=>?_⟩)))
    ·subst e
     cases g2
     have q:=h.2
     rw[List.append_nil] at q
     exact q _ H (aK.refl _) (.tup h1 (.cons a r))
    ·exact h.2 _ _ (aU hp) (.tup (iM.of aJ) (((bM.cons a r).append g2).same (aU hp)))
  |_=>exact h.elim
 |_=>exact h.elim
def fI (C:Int->Int->Prop)(g:Int->Int->D):F2:=λd e Q=>match d,e with
 |.int i,.int j=>C i j/\Q (g i j)
 |_,_=>False
theorem Mp {C:Int->Int->Prop}{g:Int->Int->D}:e8 (fI C g):=by
 intro d e P P' f h
 unfold fI at h ⊢
 split at h
 ·exact⟨h.1,f _ h.2⟩
 ·exact h.elim
theorem xK {C:Int->Int->Prop}{g:Int->Int->V}{g':Int->Int->D}(hg:∀H i j,Dv K H (g i j) (g' i j)):g8 K (rI C g) (fI C g'):=by
 intro H x y d e Q hx hy h
 cases hx with
 |int i=>cases hy with
  |int j=>exact⟨i,j,rfl,rfl,h.1,h.2 _ H (aK.refl _) (hg H i j)⟩
  |_=>exact h.elim
 |_=>exact h.elim
def Gk (g:Int->Int->D):F2:=λd e Q=>match d,e with
 |.int i,.int j=>Q (g i j)
 |_,_=>False
theorem xf {g:Int->Int->D}:e8 (Gk g):=by
 intro d e P P' f h
 unfold Gk at h ⊢
 split at h
 ·exact f _ h
 ·exact h.elim
theorem iU {g:Int->Int->V}{g':Int->Int->D}(hg:∀H i j,Dv K H (g i j) (g' i j)):g8 K (D9 g) (Gk g'):=by
 intro H x y d e Q hx hy h
 cases hx with
 |int i=>cases hy with
  |int j=>exact⟨i,j,rfl,rfl,h _ H (aK.refl _) (hg H i j)⟩
  |_=>exact h.elim
 |_=>exact h.elim
end
section
variable {X:Cx}{a b c:Expr}{es rest:List Expr}{pos:Pos}{ta tb tc:ED}
def Lo:ED->ED->ED:=q_ El
def NU:ED->ED->ED:=q_ (Gk λi j=>.int (i - j))
def NS:ED->ED->ED:=q_ (fI IntMulOk λi j=>.int (i*j))
def NR:ED->ED->ED:=q_ (fI (λ_ j=>0<j) λi j=>.int (i%j))
def NP:ED->ED->ED:=q_ (fI HP λi j=>.int (i / j))
theorem bp (ha:PD X a ta)(hb:PD X b tb):PD X (.BinOp a .Add b pos) (Lo ta tb):=AK FV B0 Kr ha hb
theorem e_ (ha:PD X a ta)(hb:PD X b tb):PD X (.BinOp a .Sub b pos) (NU ta tb):=AK JB (iU λ_ _ _=>.int _) xf ha hb
theorem vN (ha:PD X a ta)(hb:PD X b tb):PD X (.BinOp a .Mult b pos) (NS ta tb):=AK Fb (xK λ_ _ _=>.int _) Mp ha hb
theorem bQ (ha:PD X a ta)(hb:PD X b tb):PD X (.BinOp a .Mod b pos) (NR ta tb):=AK I_ (xK λ_ _ _=>.int _) Mp ha hb
theorem Bo (ha:PD X a ta)(hb:PD X b tb):PD X (.BinOp a .FloorDiv b pos) (NP ta tb):=AK FZ (xK λ_ _ _=>.int _) Mp ha hb
def NT (ta:ED):ED:=λδ Q=>ta δ λd=>∃i,d=.int i/\Q (.int (-i))
theorem Gh (ha:PD X a ta):PD X (.UnaryOp .USub a pos) (NT ta) :=
 ⟨(K9 Jn ha.pe).imp λσ H Q ⟨δ,r,h⟩=>⟨δ,r,ha.mono _ _ _ (λd ⟨i,e,k⟩ v H1 s1 dv=>by subst e;cases dv;exact⟨i,rfl,k _ H1 s1 (.int _)⟩) h⟩,
  λδ P P' g h=>ha.mono _ _ _ (λd ⟨i,e,k⟩=>⟨i,e,g _ k⟩) h⟩
def OP:ED->ED->ED:=q_ (Gk λi j=>.bl (decide (i<j)))
def OO:ED->ED->ED:=q_ (Gk λi j=>.bl (decide (i<=j)))
def Nv:ED->ED->ED:=q_ (Gk λi j=>.bl (decide (j<i)))
theorem Ho (ha:PD X a ta)(hb:PD X b tb):PD X (.Compare a [.LtE] [b] pos) (OO ta tb):=rW C4 (iU λ_ _ _=>.bl _) xf ha hb (iZ _)
theorem MV (ha:PD X a ta)(hb:PD X b tb):PD X (.Compare a [.Gt] [b] pos) (Nv ta tb):=rW G6 (iU λ_ _ _=>.bl _) xf ha hb (iZ _)
end
mutual
def iJ:D->PyData
 |.ak=>.none
 |.bl b=>.bool b
 |.int i=>.int i
 |.str x=>.str x
 |.lst xs=>.list (gS xs)
 |.tup xs=>.tuple (gS xs)
 |.obj _ _=>.none
 |.dK _=>.none
 |.dT _=>.none
 |.adr _=>.none
 |.exc _ _ _=>.none
def gS:List D->List PyData
 |[]=>[]
 |d::ds=>iJ d::gS ds
end
mutual
def plain:D->Bool
 |.lst xs=>mK xs
 |.tup xs=>mK xs
 |.obj _ _=>false
 |.dK _=>false
 |.dT _=>false
 |.adr _=>false
 |.exc _ _ _=>false
 |_=>true
def mK:List D->Bool
 |[]=>true
 |d::ds=>plain d&&mK ds
end
section
variable {K:PySem.W.Frag}{H:Hp}
mutual
theorem Dv.dat:∀{v:V} {d:D},plain d=true->Dv K H v d->lx K H v (iJ d)
 |_,_,_,.ak=>by rw[iJ];exact .ak
 |_,_,_,.bl b=>by rw[iJ];exact .bl b
 |_,_,_,.int i=>by rw[iJ];exact .int i
 |_,_,_,.str x=>by rw[iJ];exact .str x
 |_,_,p,.lst h1 h2=>by rw[iJ];rw[plain] at p;exact .lst h1 (bM.dat p h2)
 |_,_,p,.tup h1 h2=>by rw[iJ];rw[plain] at p;exact .tup h1 (bM.dat p h2)
 |_,_,p,.obj _ _=>by rw[plain] at p;cases p
 |_,_,p,.dK _ _=>by rw[plain] at p;cases p
 |_,_,p,.dT _ _=>by rw[plain] at p;cases p
 |_,_,p,.adr _=>by rw[plain] at p;cases p
 |_,_,p,.exc _ _ _=>by rw[plain] at p;cases p
theorem bM.dat:∀{vs:List V} {ds:List D},mK ds=true->bM K H vs ds->jF K H vs (gS ds)
 |_,_,_,.nil=>by rw[gS];exact .nil
 |_,_,p,.cons h1 h2=>by
  rw[gS]
  rw[mK,Bool.and_eq_true] at p
  exact .cons (Dv.dat p.1 h1) (bM.dat p.2 h2)
end
end
def tV:D->D->Option Bool
 |.ak,.ak=>some true
 |.bl a,.bl b=>some (decide (a=b))
 |.int i,.int j=>some (decide (i=j))
 |.str x,.str y=>some (decide (x=y))
 |.ak,.bl _=>some false
 |.ak,.int _=>some false
 |.ak,.str _=>some false
 |.bl _,.ak=>some false
 |.bl _,.str _=>some false
 |.int _,.ak=>some false
 |.int _,.str _=>some false
 |.str _,.ak=>some false
 |.str _,.bl _=>some false
 |.str _,.int _=>some false
 |_,_=>none
def yz (neg:Bool):F2:=λd e Q=>match tV d e with
 |some b=>Q (.bl (if neg then !b else b))
 |none=>plain d=true/\plain e=true/\SeqAt.shaped (iJ d)=true/\SeqAt.shaped (iJ e)=true/\Q (.bl (if neg then !PyData.eqv (iJ d) (iJ e) else PyData.eqv (iJ d) (iJ e)))
theorem Ia {neg:Bool}:e8 (yz neg):=by
 intro d e P P' f h
 unfold yz at h ⊢
 split at h
 ·exact f _ h
 ·exact⟨h.1,h.2.1,h.2.2.1,h.2.2.2.1,f _ h.2.2.2.2⟩
theorem yu {K:PySem.W.Frag}:g8 K (λx y H Q=>Np x y H Q\/F0 K false x y H Q) (yz false):=by
 intro H x y d e Q hx hy h
 unfold yz at h
 split at h
 ·rename_i b hb
  left
  have q:=h _ H (aK.refl _) (.bl _)
  cases hx<;>cases hy<;>simp only[tV,Option.some.injEq,reduceCtorEq] at hb<;>subst hb<;>refine⟨rfl,?_⟩<;>simpa using q
 ·obtain⟨p1,p2,s1,s2,q⟩:=h
  exact .inr ⟨_,_,hx.dat p1,hy.dat p2,s1,s2,q _ H (aK.refl _) (.bl _)⟩
theorem Ei {K:PySem.W.Frag}:g8 K (λx y H Q=>Nr x y H Q\/F0 K true x y H Q) (yz true):=by
 intro H x y d e Q hx hy h
 unfold yz at h
 split at h
 ·rename_i b hb
  left
  have q:=h _ H (aK.refl _) (.bl _)
  cases hx<;>cases hy<;>simp only[tV,Option.some.injEq,reduceCtorEq] at hb<;>subst hb<;>refine⟨rfl,?_⟩<;>simpa using q
 ·obtain⟨p1,p2,s1,s2,q⟩:=h
  exact .inr ⟨_,_,hx.dat p1,hy.dat p2,s1,s2,q _ H (aK.refl _) (.bl _)⟩
def Jy (neg:Bool):F2:=λd e Q=>match e with
 |.ak=>Q (.bl (match d with|.ak=>!neg|_=>neg))
 |.bl b=>∃a,d=.bl a/\Q (.bl (if neg then a != b else a == b))
 |_=>False
theorem Ku {neg:Bool}:e8 (Jy neg):=by
 intro d e P P' f h
 unfold Jy at h ⊢
 split at h
 ·exact f _ h
 ·obtain⟨a,ha,q⟩:=h;exact⟨a,ha,f _ q⟩
 ·exact h.elim
theorem Eg {K:PySem.W.Frag}:g8 K (λx y H Q=>(y=.ak/\Q (.bl (decide (x=.ak))) H)\/∃a b,x=.bl a/\y=.bl b/\Q (.bl (a == b)) H) (Jy false):=by
 intro H x y d e Q hx hy h
 cases hy with
 |ak =>
  refine .inl ⟨rfl,?_⟩
  have q:=h _ H (aK.refl _) (.bl _)
  cases hx<;>exact q
 |bl b =>
  obtain⟨a,rfl,q⟩:=h
  cases hx
  exact .inr ⟨a,b,rfl,rfl,q _ H (aK.refl _) (.bl _)⟩
 |_=>exact h.elim
theorem xM {K:PySem.W.Frag}:g8 K (λx y H Q=>(y=.ak/\Q (.bl (!decide (x=.ak))) H)\/∃a b,x=.bl a/\y=.bl b/\Q (.bl (a != b)) H) (Jy true):=by
 intro H x y d e Q hx hy h
 cases hy with
 |ak =>
  refine .inl ⟨rfl,?_⟩
  have q:=h _ H (aK.refl _) (.bl _)
  cases hx<;>exact q
 |bl b =>
  obtain⟨a,rfl,q⟩:=h
  cases hx
  exact .inr ⟨a,b,rfl,rfl,q _ H (aK.refl _) (.bl _)⟩
 |_=>exact h.elim
def dz:D->Bool
 |.ak=>true
 |.bl _=>true
 |.int _=>true
 |.str _=>true
 |_=>false
def tU:D->D->Bool
 |.ak,.ak=>true
 |.bl a,.bl b=>a == b
 |.bl a,.int j=>(if a then 1 else 0) == j
 |.int i,.bl b=>i == (if b then 1 else 0)
 |.int i,.int j=>i == j
 |.str x,.str y=>x == y
 |_,_=>false
def inD (x:D)(xs:List D):Bool:=xs.any λy=>tU y x
def yW (x y:Str):Bool:=!(Builtin.Str.occurrences y x 0 y.length 1).isEmpty
def Jx (neg:Bool):F2:=λd e Q=>match e with
 |.lst xs=>dz d=true/\xs.all dz=true/\Q (.bl (if neg then !inD d xs else inD d xs))
 |.tup xs=>dz d=true/\xs.all dz=true/\Q (.bl (if neg then !inD d xs else inD d xs))
 |.str y=>∃x,d=.str x/\Q (.bl (if neg then !yW x y else yW x y))
 |_=>False
theorem FF {neg:Bool}:e8 (Jx neg):=by
 intro d e P P' f h
 unfold Jx at h ⊢
 split at h
 ·exact⟨h.1,h.2.1,f _ h.2.2⟩
 ·exact⟨h.1,h.2.1,f _ h.2.2⟩
 ·obtain⟨a,ha,q⟩:=h;exact⟨a,ha,f _ q⟩
 ·exact h.elim
section
variable {K:PySem.W.Frag}{H:Hp}
theorem Dv.flat {v:V}{d:D}(h:Dv K H v d)(f:dz d=true):lK v=true:=by
 cases h<;>first|rfl|cases f
theorem Dv.tU {v w:V}{d e:D}(h:Dv K H v d)(g:Dv K H w e)(f:dz d=true)(f':dz e=true):Ek v w=DC.tU d e:=by
 cases h<;>cases g<;>first|rfl|cases f|cases f'
theorem bM.flat:∀{vs:List V} {ds:List D},bM K H vs ds->ds.all dz=true->vs.all lK=true
 |_,_,.nil,_=>rfl
 |_,_,.cons h r,f=>by
  rw[List.all_cons,Bool.and_eq_true] at f ⊢
  exact⟨h.flat f.1,bM.flat r f.2⟩
theorem bM.D8 {w:V}{e:D}(g:Dv K H w e)(f':dz e=true):∀{vs:List V} {ds:List D},bM K H vs ds->ds.all dz=true->L2.D8 w vs=inD e ds
 |_,_,.nil,_=>rfl
 |_,_,.cons h r,f=>by
  rw[List.all_cons,Bool.and_eq_true] at f
  have q:=bM.D8 g f' r f.2
  unfold L2.D8 inD at q ⊢
  rw[List.any_cons,List.any_cons,q,h.tU g f.1 f']
end
theorem yv {K:PySem.W.Frag}:g8 K (λx y H Q=>L9 K false x y H Q\/∃i j,x=.str i/\y=.str j/\Q (.bl (!(Builtin.Str.occurrences j i 0 j.length 1).isEmpty)) H) (Jx false):=by
 intro H x y d e Q hx hy h
 cases hy with
 |lst g1 g2=>exact .inl ⟨_,_,rfl,.inl g1,hx.flat h.1,g2.flat h.2.1,by rw[bM.D8 hx h.1 g2 h.2.1];exact h.2.2 _ H (aK.refl _) (.bl _)⟩
 |tup g1 g2=>exact .inl ⟨_,_,rfl,.inr g1,hx.flat h.1,g2.flat h.2.1,by rw[bM.D8 hx h.1 g2 h.2.1];exact h.2.2 _ H (aK.refl _) (.bl _)⟩
 |str j =>
  obtain⟨i,rfl,q⟩:=h
  cases hx
  exact .inr ⟨i,j,rfl,rfl,q _ H (aK.refl _) (.bl _)⟩
 |_=>exact h.elim
theorem qF {K:PySem.W.Frag}:g8 K (λx y H Q=>L9 K true x y H Q\/∃i j,x=.str i/\y=.str j/\Q (.bl (!(!(Builtin.Str.occurrences j i 0 j.length 1).isEmpty))) H) (Jx true):=by
 intro H x y d e Q hx hy h
 cases hy with
 |lst g1 g2=>exact .inl ⟨_,_,rfl,.inl g1,hx.flat h.1,g2.flat h.2.1,by rw[bM.D8 hx h.1 g2 h.2.1];exact h.2.2 _ H (aK.refl _) (.bl _)⟩
 |tup g1 g2=>exact .inl ⟨_,_,rfl,.inr g1,hx.flat h.1,g2.flat h.2.1,by rw[bM.D8 hx h.1 g2 h.2.1];exact h.2.2 _ H (aK.refl _) (.bl _)⟩
 |str j =>
  obtain⟨i,rfl,q⟩:=h
  cases hx
  exact .inr ⟨i,j,rfl,rfl,q _ H (aK.refl _) (.bl _)⟩
 |_=>exact h.elim
section
variable {X:Cx}{a b c:Expr}{es rest:List Expr}{pos:Pos}{ta tb tc:ED}
def vEq:ED->ED->ED:=q_ (yz false)
def OQ:ED->ED->ED:=q_ (yz true)
def ON:ED->ED->ED:=q_ (Jy false)
def Jq:ED->ED->ED:=q_ (Jy true)
def Nw:ED->ED->ED:=q_ (Jx false)
def yf:ED->ED->ED:=q_ (Jx true)
theorem xH (hu:X.A.units+64<cLine)(ha:PD X a ta)(hb:PD X b tb):PD X (.Compare a [.Eq] [b] pos) (vEq ta tb):=rW (G5.or (C2 hu)) yu Ia ha hb (iZ _)
theorem Bq (ha:PD X a ta)(hb:PD X b tb)(hm:behindInMarks .In b=false):PD X (.Compare a [.In] [b] pos) (Nw ta tb):=rW (sG.or sH) yv FF ha hb hm
theorem Ee (ha:PD X a ta)(hb:PD X b tb)(hm:behindInMarks .NotIn b=false):PD X (.Compare a [.NotIn] [b] pos) (yf ta tb):=rW (nC.or nD) qF FF ha hb hm
end
abbrev gU (t:TD):Prop:=∀ δ (P P':Bool->Prop),(∀d,P d->P' d)->t δ P->t δ P'
abbrev lG (t:AD):Prop:=∀ δ (P P':List D->Prop),(∀d,P d->P' d)->t δ P->t δ P'
def ff (t:ED):TD:=λδ Q=>t δ λd=>∃b,d=.bl b/\Q b
theorem Cc {t:ED}(m:bX t):gU (ff t):=λδ P P' g h=>m _ _ _ (λd ⟨b,e,q⟩=>⟨b,e,g b q⟩) h
theorem GL {K:PySem.W.Frag}{t:ED}(m:bX t){δ:SD}{H:Hp}{Q:Bool->Hp->Prop}(h:ff t δ (kB H Q)):t δ (kD K H λx H'=>∃k,x=.bl k/\Q k H') :=
 m _ _ _ (λd ⟨b,e,q⟩ v H' s dv=>by subst e;cases dv;exact⟨b,rfl,q H' s⟩) h
section
variable {X:Cx}{a b c e:Expr}{es rest:List Expr}{pos:Pos}{ta tb tc:ED}{ua ub:TD}
theorem lH.of {t:TE}{v:ED}(h:PT X e (HJ t))(p:∀ σ H Q,oE X.K v σ H Q->t σ H Q)(m:bX v):lH X e (ff v) :=
 ⟨PT.imp h λσ H Q ⟨δ,r,q⟩=>p σ H _ ⟨δ,r,GL m q⟩,Cc m⟩
theorem Ha {r:R2}{f:F2}(ma:bX ta)(mb:bX tb)(hd:g8 X.K r f)(hf:e8 f):(∀ σ H Q,oE X.K (q_ f ta tb) σ H Q->Jj r (oE X.K ta) (oE X.K tb) σ H Q)/\bX (q_ f ta tb):=by
 refine⟨λσ H Q ⟨δ,r,h⟩=>⟨δ,r,ma _ _ _ (λd hd' v H1 s1 dv=>⟨δ,r.same s1,mb _ _ _ (λe he w H2 s2 ew=>hd H2 v w d e Q (dv.same s2) ew (hf d e _ _ (λz hz=>hz.on (s1.trans s2)) he)) hd'⟩) h⟩,?_⟩
 exact λδ P P' g h=>ma _ _ _ (λd h'=>mb _ _ _ (λe h''=>hf d e _ _ g h'') h') h
theorem nY {op:CmpOp}{r:R2}{f:F2}(ho:gq X (compareOp op) r)(hd:g8 X.K r f)(hf:e8 f)(ha:PD X a ta)(hb:PD X b tb)(hm:behindInMarks op b=false):lH X (.Compare a [op] [b] pos) (ff (q_ f ta tb)) :=
 let q:=Ha ha.mono hb.mono hd hf
 lH.of (Fu ho ha.pe hb.pe hm) q.1 q.2
theorem A_ (ha:PD X a ta)(hb:PD X b tb):lH X (.Compare a [.Lt] [b] pos) (ff (OP ta tb)):=nY K4 (iU λ_ _ _=>.bl _) xf ha hb (iZ _)
theorem Dp (ha:PD X a ta)(hb:PD X b tb):lH X (.Compare a [.Gt] [b] pos) (ff (Nv ta tb)):=nY G6 (iU λ_ _ _=>.bl _) xf ha hb (iZ _)
theorem cD (hu:X.A.units+64<cLine)(ha:PD X a ta)(hb:PD X b tb):lH X (.Compare a [.Eq] [b] pos) (ff (vEq ta tb)):=nY (G5.or (C2 hu)) yu Ia ha hb (iZ _)
theorem Dq (hu:X.A.units+64<cLine)(ha:PD X a ta)(hb:PD X b tb):lH X (.Compare a [.NotEq] [b] pos) (ff (OQ ta tb)):=nY (K5.or (JA hu)) Ei Ia ha hb (iZ _)
theorem NK (ha:PD X a ta)(hb:PD X b tb):lH X (.Compare a [.Is] [b] pos) (ff (ON ta tb)):=nY (Iz.or C3) Eg Ku ha hb (iZ _)
theorem nZ (ha:PD X a ta)(hb:PD X b tb):lH X (.Compare a [.IsNot] [b] pos) (ff (Jq ta tb)):=nY (Fd.or wM) xM Ku ha hb (iZ _)
theorem yX (ha:PD X a ta)(hb:PD X b tb)(hm:behindInMarks .In b=false):lH X (.Compare a [.In] [b] pos) (ff (Nw ta tb)):=nY (sG.or sH) yv FF ha hb hm
theorem gn (ha:PD X a ta)(hb:PD X b tb)(hm:behindInMarks .NotIn b=false):lH X (.Compare a [.NotIn] [b] pos) (ff (yf ta tb)):=nY (nC.or nD) qF FF ha hb hm
def GP:D->Option Bool
 |.ak=>some false
 |.bl b=>some b
 |.int i=>some (i != 0)
 |.str y=>if y.length<=sizeLine then some ((y.length:Int) != 0) else none
 |.lst xs=>some (!xs.isEmpty)
 |.tup xs=>some (!xs.isEmpty)
 |_=>none
def NV (t:ED):TD:=λδ Q=>t δ λd=>∃b,GP d=some b/\Q b
theorem bM.isEmpty {K:PySem.W.Frag}{H:Hp}{vs:List V}{ds:List D}(h:bM K H vs ds):vs.isEmpty=ds.isEmpty:=by cases h<;>rfl
theorem Dv.OK {K:PySem.W.Frag}{H:Hp}{v:V}{d:D}{b:Bool}(h:Dv K H v d)(e:GP d=some b):HX K v H b:=by
 cases h with
 |ak=>cases e;rfl
 |bl x=>cases e;rfl
 |int i=>cases e;rfl
 |str x =>
  have e':(if x.length<=sizeLine then some ((x.length:Int) != 0) else none)=some b:=e
  by_cases hz:x.length<=sizeLine
  ·rw[if_pos hz] at e'
   exact⟨hz,(Option.some.inj e').symm⟩
  ·rw[if_neg hz] at e'
   cases e'
 |lst h1 h2=>cases e;exact .inl ⟨_,h1,by rw[h2.isEmpty]⟩
 |tup h1 h2=>cases e;exact .inr (.inl ⟨_,h1,by rw[h2.isEmpty]⟩)
 |dK _ _=>cases e
 |exc _ _ _=>cases e
 |obj _ _=>cases e
 |dT _ _=>cases e
 |adr _=>cases e
theorem kZ (ha:PD X a ta)(he:∀whole,isTrue a X.env whole=(do let v <- whole;standAt a.pos;holding [v] (truthy v)):=by intro _;rfl):lH X a (NV ta) :=
 ⟨PT.imp (DK ha.pe he) λσ H Q ⟨δ,r,h⟩=>⟨δ,r,ha.mono _ _ _ (λd ⟨b,e,q⟩ v H1 s1 dv=>⟨b,dv.OK e,q H1 s1⟩) h⟩,λδ P P' g h=>ha.mono _ _ _ (λd ⟨b,e,q⟩=>⟨b,e,g b q⟩) h⟩
def NM (t:TD):TD:=λδ Q=>t δ λb=>Q (!b)
def GS (t u:TD):TD:=λδ Q=>t δ λb=>if b=true then u δ Q else Q false
def MG (t u:TD):TD:=λδ Q=>t δ λb=>if b=true then Q true else u δ Q
theorem ng (ha:lH X a ua):lH X (.UnaryOp .Not a pos) (NM ua) :=
 ⟨PT.imp (JQ ha.pt) λσ H Q ⟨δ,r,h⟩=>⟨δ,r,ha.mono _ _ _ (λb q H' s=>q H' s) h⟩,λδ P P' g h=>ha.mono _ _ _ (λb q=>g _ q) h⟩
theorem Kt (ma:gU ua)(mb:gU ub):gU (GS ua ub):=λδ P P' g h=>ma _ _ _ (λb q=>by
 cases b with
 |true=>rw[if_pos rfl] at q ⊢;exact mb _ _ _ g q
 |false=>rw[if_neg Bool.false_ne_true] at q ⊢;exact g _ q) h
theorem Mt (ma:gU ua)(mb:gU ub):gU (MG ua ub):=λδ P P' g h=>ma _ _ _ (λb q=>by
 cases b with
 |true=>rw[if_pos rfl] at q ⊢;exact g _ q
 |false=>rw[if_neg Bool.false_ne_true] at q ⊢;exact mb _ _ _ g q) h
theorem ow.td (h:ow X e ua):lH X e ua:=⟨h.pw.pt,h.mono⟩
theorem kh (ha:lH X a ua):ow X (.BoolOp .And [a] pos) ua:=⟨Fy ha.pt,ha.mono⟩
theorem lu (ha:lH X a ua):ow X (.BoolOp .Or [a] pos) ua:=⟨JS ha.pt,ha.mono⟩
theorem w_and (ha:lH X a ua)(hb:ow X (.BoolOp .And (b::rest) pos) ub):ow X (.BoolOp .And (a::b::rest) pos) (GS ua ub):=by
 refine⟨PW.imp (JR ha.pt hb.pw) λσ H Q ⟨δ,r,h⟩=>⟨δ,r,ha.mono _ _ _ (λb q H' s=>?_) h⟩,Kt ha.mono hb.mono⟩
 cases b with
 |true=>rw[if_pos rfl] at q ⊢;exact⟨δ,r.same s,hb.mono _ _ _ (λb k=>k.on s) q⟩
 |false=>rw[if_neg Bool.false_ne_true] at q ⊢;exact q H' s
theorem w_or (ha:lH X a ua)(hb:ow X (.BoolOp .Or (b::rest) pos) ub):ow X (.BoolOp .Or (a::b::rest) pos) (MG ua ub):=by
 refine⟨PW.imp (LB ha.pt hb.pw) λσ H Q ⟨δ,r,h⟩=>⟨δ,r,ha.mono _ _ _ (λb q H' s=>?_) h⟩,Mt ha.mono hb.mono⟩
 cases b with
 |true=>rw[if_pos rfl] at q ⊢;exact q H' s
 |false=>rw[if_neg Bool.false_ne_true] at q ⊢;exact⟨δ,r.same s,hb.mono _ _ _ (λb k=>k.on s) q⟩
def NN (ta tb:ED):ED:=λδ Q=>ta δ λd=>∃b,d=.bl b/\if b=true then tb δ Q else Q (.bl false)
def OR (ta tb:ED):ED:=λδ Q=>ta δ λd=>∃b,d=.bl b/\if b=true then Q (.bl true) else tb δ Q
theorem qC {op}(h:PD X a ta):PD X (.BoolOp op [a] pos) ta:=⟨JJ h.pe,h.mono⟩
theorem vI (ha:PD X a ta)(hb:PD X (.BoolOp .And (b::rest) pos) tb):PD X (.BoolOp .And (a::b::rest) pos) (NN ta tb):=by
 refine⟨(JF ha.pe hb.pe).imp λσ H Q ⟨δ,r,h⟩=>⟨δ,r,ha.mono _ _ _ (λd ⟨b,e,q⟩ v H1 s1 dv=>?_) h⟩,λδ P P' g h=>ha.mono _ _ _ (λd ⟨b,e,q⟩=>⟨b,e,?_⟩) h⟩
 ·subst e
  cases dv
  refine⟨b,rfl,?_⟩
  cases b with
  |true=>rw[if_pos rfl] at q ⊢;exact⟨δ,r.same s1,hb.mono _ _ _ (λb k=>k.on s1) q⟩
  |false=>rw[if_neg Bool.false_ne_true] at q ⊢;exact q _ H1 s1 (.bl _)
 ·cases b with
  |true=>rw[if_pos rfl] at q ⊢;exact hb.mono _ _ _ g q
  |false=>rw[if_neg Bool.false_ne_true] at q ⊢;exact g _ q
theorem KI (ha:PD X a ta)(hb:PD X (.BoolOp .Or (b::rest) pos) tb):PD X (.BoolOp .Or (a::b::rest) pos) (OR ta tb):=by
 refine⟨(K8 ha.pe hb.pe).imp λσ H Q ⟨δ,r,h⟩=>⟨δ,r,ha.mono _ _ _ (λd ⟨b,e,q⟩ v H1 s1 dv=>?_) h⟩,λδ P P' g h=>ha.mono _ _ _ (λd ⟨b,e,q⟩=>⟨b,e,?_⟩) h⟩
 ·subst e
  cases dv
  refine⟨b,rfl,?_⟩
  cases b with
  |true=>rw[if_pos rfl] at q ⊢;exact q _ H1 s1 (.bl _)
  |false=>rw[if_neg Bool.false_ne_true] at q ⊢;exact⟨δ,r.same s1,hb.mono _ _ _ (λb k=>k.on s1) q⟩
 ·cases b with
  |true=>rw[if_pos rfl] at q ⊢;exact g _ q
  |false=>rw[if_neg Bool.false_ne_true] at q ⊢;exact hb.mono _ _ _ g q
def OM (u:TD)(ta tb:ED):ED:=λδ Q=>u δ λb=>if b=true then ta δ Q else tb δ Q
theorem MW (hc:lH X c ua)(ha:PD X a ta)(hb:PD X b tb):PD X (.IfExp c a b pos) (OM ua ta tb):=by
 refine⟨(wR hc.pt ha.pe hb.pe).imp λσ H Q ⟨δ,r,h⟩=>⟨δ,r,hc.mono _ _ _ (λk q H1 s1=>?_) h⟩,λδ P P' g h=>hc.mono _ _ _ (λk q=>?_) h⟩
 ·cases k with
  |true=>rw[if_pos rfl] at q ⊢;exact⟨δ,r.same s1,ha.mono _ _ _ (λb k=>k.on s1) q⟩
  |false=>rw[if_neg Bool.false_ne_true] at q ⊢;exact⟨δ,r.same s1,hb.mono _ _ _ (λb k=>k.on s1) q⟩
 ·cases k with
  |true=>rw[if_pos rfl] at q ⊢;exact ha.mono _ _ _ g q
  |false=>rw[if_neg Bool.false_ne_true] at q ⊢;exact hb.mono _ _ _ g q
def yd (f f':F2)(ta tb tc:ED):ED:=λδ Q=>ta δ λx=>tb δ λy=>f x y λz=>∃k,z=.bl k/\if k=true then tc δ λw=>f' y w Q else Q (.bl false)
theorem Bl {r r':R2}{f f':F2}(ma:bX ta)(mb:bX tb)(mc:bX tc)(hd:g8 X.K r f)(hf:e8 f)(hd':g8 X.K r' f')(hf':e8 f') :
  (∀ σ H Q,oE X.K (yd f f' ta tb tc) σ H Q->Dl r r' (oE X.K ta) (oE X.K tb) (oE X.K tc) σ H Q)/\bX (yd f f' ta tb tc):=by
 refine⟨λσ H Q ⟨δ,r,h⟩=>⟨δ,r,ma _ _ _ (λd h1 v H1 s1 dv=>⟨δ,r.same s1,mb _ _ _ (λe h2 w H2 s2 ew=>hd H2 v w d e _ (dv.same s2) ew (hf d e _ _ (λz hz u H3 s3 du=>?_) h2)) h1⟩) h⟩,?_⟩
 ·obtain⟨k,rfl,q⟩:=hz
  cases du
  refine⟨k,rfl,?_⟩
  have s:=s1.trans (s2.trans s3)
  cases k with
  |true =>
   rw[if_pos rfl] at q ⊢
   exact⟨δ,r.same s,mc _ _ _ (λd h3 u H4 s4 du=>hd' H4 w u e d Q (ew.same (s3.trans s4)) du (hf' _ _ _ _ (λz hz=>hz.on (s.trans s4)) h3)) q⟩
  |false =>
   rw[if_neg Bool.false_ne_true] at q ⊢
   exact q _ H3 s (.bl _)
 ·intro δ P P' g h
  refine ma _ _ _ (λd h1=>mb _ _ _ (λe h2=>hf _ _ _ _ (λz ⟨k,ez,q⟩=>⟨k,ez,?_⟩) h2) h1) h
  cases k with
  |true=>rw[if_pos rfl] at q ⊢;exact mc _ _ _ (λd h3=>hf' _ _ _ _ g h3) q
  |false=>rw[if_neg Bool.false_ne_true] at q ⊢;exact g _ q
def Lx:F2:=Gk λi j=>.bl (decide (i<=j))
theorem xI (ha:PD X a ta)(hb:PD X b tb)(hc:PD X c tc)(hm:lastMarks [.LtE,.LtE] [b,c]=false:=by with_unfolding_all rfl):PD X (.Compare a [.LtE,.LtE] [b,c] pos) (yd Lx Lx ta tb tc) :=
 let q:=Bl (X:=X) ha.mono hb.mono hc.mono (r:=D9 λi j=>.bl (decide (i<=j))) (r':=D9 λi j=>.bl (decide (i<=j))) (f:=Lx) (f':=Lx) (iU λ_ _ _=>.bl _) xf (iU λ_ _ _=>.bl _) xf
 ⟨(C7 C4 C4 ha.pe hb.pe hc.pe hm).imp q.1,q.2⟩
end
section
variable {X:Cx}{a b c e:Expr}{es rest:List Expr}{pos:Pos}{ta tb tc:ED}{ua ub:TD}{t:AD}
def tI:AD:=λ_ Q=>Q []
def BZ (ta:ED)(t:AD):AD:=λδ Q=>ta δ λd=>t δ λds=>Q (d::ds)
theorem aB:ni X [] tI:=⟨PA.imp ic λσ H Q ⟨δ,r,h⟩=>h [] H (aK.refl _) .nil,λδ P P' g h=>g _ h⟩
theorem aA (ha:PD X e ta)(hr:ni X es t)(hs:starEach (e::es) X.env=(false,eval e X.env)::starEach es X.env:=by rfl):ni X (e::es) (BZ ta t) :=
 ⟨PA.imp (eA ha.pe hr.pa hs) λσ H Q ⟨δ,r,h⟩=>⟨δ,r,ha.mono _ _ _ (λd h1 v H1 s1 dv=>⟨δ,r.same s1,hr.mono _ _ _ (λds h2 vs H2 s2 dvs=>h2 (v::vs) H2 (s1.trans s2) (.cons (dv.same s2) dvs)) h1⟩) h⟩,
  λδ P P' g h=>ha.mono _ _ _ (λd h1=>hr.mono _ _ _ (λds h2=>g _ h2) h1) h⟩
def NW (t:AD):ED:=λδ Q=>t δ λds=>ds.length<=sizeLine/\Q (.tup ds)
def NQ (t:AD):ED:=λδ Q=>t δ λds=>ds.length<=sizeLine/\Q (.lst ds)
theorem cB {x1}(h:ni X es t):PD X (.Tuple es x1 pos) (NW t) :=
 ⟨(JL h.pa).imp λσ H Q ⟨δ,r,q⟩=>⟨δ,r,h.mono _ _ _ (λds ⟨hl,k⟩ vs H1 s1 dvs=>⟨by rw[dvs.length];exact hl,λp hp=>k _ _ (s1.trans (aU hp)) (.tup (iM.of aJ) (dvs.same (aU hp)))⟩) q⟩,
  λδ P P' g q=>h.mono _ _ _ (λds ⟨hl,k⟩=>⟨hl,g _ k⟩) q⟩
theorem bb (h:ni X es t):PD X (.List es pos) (NQ t) :=
 ⟨(yF h.pa).imp λσ H Q ⟨δ,r,q⟩=>⟨δ,r,h.mono _ _ _ (λds ⟨hl,k⟩ vs H1 s1 dvs=>⟨by rw[dvs.length];exact hl,λp hp=>k _ _ (s1.trans (aU hp)) (.lst (cu.of aJ) (dvs.same (aU hp)))⟩) q⟩,
  λδ P P' g q=>h.mono _ _ _ (λds ⟨hl,k⟩=>⟨hl,g _ k⟩) q⟩
def tM:Expr->Option D
 |.Constant (.str x) _ _=>some (.str x)
 |.Constant (.int i) _ _=>some (.int i)
 |.Constant (.bool b) _ _=>some (.bl b)
 |.Constant .none _ _=>some .ak
 |.UnaryOp .USub (.Constant (.int i) _ _) _=>some (.int (-i))
 |_=>none
def kj:List Expr->List D
 |[]=>[]
 |e::es=>(tM e).getD .ak::kj es
def Gf (ds:List D):AD:=λ_ Q=>Q ds
theorem jI:∀{es:List Expr} (_:es.all (λe=>(tM e).isSome)=true),ni X es (Gf (kj es))
 |[],_=>⟨aB.pa,λδ P P' g h=>g _ h⟩
 |e::es,h=>by
  rw[List.all_cons,Bool.and_eq_true] at h
  have ih:=jI h.2
  obtain⟨v,hv⟩:=Option.isSome_iff_exists.mp h.1
  have e1:kj (e::es)=v::kj es:=by
   show(tM e).getD .ak::kj es=_
   rw[hv]
   rfl
  rw[e1]
  refine⟨?_,λδ P P' g h=>g _ h⟩
  have one:ni X (e::es) (BZ (vC v) (Gf (kj es))):=by
   unfold tM at hv
   split at hv
   ·cases hv;exact aA ah ih rfl
   ·cases hv;exact aA aD ih rfl
   ·cases hv;exact aA tN ih rfl
   ·cases hv;exact aA lJ ih rfl
   ·cases hv
    refine aA ⟨(Gh aD).pe.imp ?_,λδ P P' g h=>g _ h⟩ ih rfl
    exact λσ H Q ⟨δ,r,q⟩=>⟨δ,r,_,rfl,q⟩
   ·cases hv
  exact one.pa
def Lw:F2:=λd e Q=>match d,e with
 |.lst xs,.int i=>∃r,rF xs i=some r/\Q r
 |.tup xs,.int i=>∃r,rF xs i=some r/\Q r
 |.str z,.int i=>z.length<=sizeLine/\∃c,rF z.cps.toList i=some c/\Q (.str ⟨#[c]⟩)
 |_,_=>False
theorem Ms:e8 Lw:=by
 intro d e P P' f h
 unfold Lw at h ⊢
 split at h
 ·obtain⟨r,hr,q⟩:=h;exact⟨r,hr,f _ q⟩
 ·obtain⟨r,hr,q⟩:=h;exact⟨r,hr,f _ q⟩
 ·obtain⟨hz,r,hr,q⟩:=h;exact⟨hz,r,hr,f _ q⟩
 ·exact h.elim
theorem bM.rF {K:PySem.W.Frag}{H:Hp}{vs:List V}{ds:List D}{i:Int}{d:D}(h:bM K H vs ds)(e:L2.rF ds i=some d):∃v,L2.rF vs i=some v/\Dv K H v d:=by
 unfold L2.rF at e ⊢
 rw[h.length]
 cases q:zG ds.length i with
 |none=>rw[q] at e;cases e
 |some j =>
  rw[q] at e
  exact h.get e
theorem Eh {K:PySem.W.Frag}:g8 K (Nq K) Lw:=by
 intro H x y d e Q hx hy h
 cases hy with
 |int i=>cases hx with
  |lst h1 h2 =>
   obtain⟨r,hr,q⟩:=h
   obtain⟨v,hv,dv⟩:=h2.rF hr
   exact .inl ⟨_,_,i,v,rfl,rfl,h1,hv,q _ H (aK.refl _) dv⟩
  |tup h1 h2 =>
   obtain⟨r,hr,q⟩:=h
   obtain⟨v,hv,dv⟩:=h2.rF hr
   exact .inr (.inl ⟨_,_,i,v,rfl,rfl,h1,hv,q _ H (aK.refl _) dv⟩)
  |str z =>
   obtain⟨hz,c,hc,q⟩:=h
   exact .inr (.inr ⟨z,i,c,rfl,rfl,hz,hc,q _ H (aK.refl _) (.str _)⟩)
  |_=>exact h.elim
 |_=>cases hx<;>exact h.elim
def Nx:ED->ED->ED:=q_ Lw
theorem bT (ha:PD X a ta)(hb:PD X b tb)(hs:tH b):PD X (.Subscript a b pos) (Nx ta tb):=vJ (t:=oE X.K ta) (G7 IF ha.pe hb.pe hs) ha.mono hb.mono Eh Ms
def cutD (xs:List D)(lo hi:Option Int):List D:=(xs.drop (HT.di xs.length 0 lo)).take (HT.di xs.length xs.length hi - HT.di xs.length 0 lo)
theorem bM.cut {K:PySem.W.Frag}{H:Hp}{vs:List V}{ds:List D}(h:bM K H vs ds)(lo hi:Option Int):bM K H (vF vs lo hi) (cutD ds lo hi):=by
 unfold vF cutD
 rw[h.length]
 exact(h.drop _).take _
def Jz (d:D)(lo hi:Option Int)(Q:D->Prop):Prop:=match d with
 |.lst xs=>Q (.lst (cutD xs lo hi))
 |.tup xs=>¬ (HT.di xs.length 0 lo=0/\HT.di xs.length xs.length hi=xs.length)/\Q (.tup (cutD xs lo hi))
 |.str z=>z.length<=sizeLine/\Q (.str (Txt.slice z lo hi))
 |_=>False
theorem Mv {d:D}{lo hi:Option Int}{P P':D->Prop}(f:∀r,P r->P' r)(h:Jz d lo hi P):Jz d lo hi P':=by
 unfold Jz at h ⊢
 split at h
 ·exact f _ h
 ·exact⟨h.1,f _ h.2⟩
 ·exact⟨h.1,f _ h.2⟩
 ·exact h.elim
theorem M8:EG X (λx lo hi H Q=>LK X.K x lo hi H Q\/LL X.K x lo hi H Q\/∃z,x=.str z/\z.length<=sizeLine/\Q (.str (Txt.slice z lo hi)) H):=F_.or (Jg.or Jf)
abbrev OD:=SD->(Option Int->Prop)->Prop
structure Lv (X:Cx) (e:Option Expr) (t:OD):Prop where
 po:PO X e (λσ H Q=>∃ δ,br X.K H σ δ/\t δ λo=>∀H',aK H H'->Q o H')
 mono:∀ δ (P P':Option Int->Prop),(∀d,P d->P' d)->t δ P->t δ P'
def G0:OD:=λ_ Q=>Q none
def G1 (t:ED):OD:=λδ Q=>t δ λd=>∃i,d=.int i/\Q (some i)
theorem PO.imp {e:Option Expr}{t t':TO}(h:PO X e t)(f:∀ σ H Q,t' σ H Q->t σ H Q):PO X e t':=λpins s σ H Q I q=>h pins s σ H Q I (f σ H Q q)
theorem fP:Lv X none G0:=⟨PO.imp Fq λσ H Q ⟨δ,r,h⟩=>h H (aK.refl _),λδ P P' g h=>g _ h⟩
theorem d9 (h:PD X e ta):Lv X (some e) (G1 ta) :=
 ⟨PO.imp (Fs h.pe) λσ H Q ⟨δ,r,q⟩=>⟨δ,r,h.mono _ _ _ (λd ⟨i,ed,k⟩ v H1 s1 dv=>by subst ed;cases dv;exact⟨i,rfl,k H1 s1⟩) q⟩,λδ P P' g q=>h.mono _ _ _ (λd ⟨i,ed,k⟩=>⟨i,ed,g _ k⟩) q⟩
def Ny (ta:ED)(tl th:OD):ED:=λδ Q=>ta δ λd=>tl δ λlo=>th δ λhi=>Jz d lo hi Q
theorem cv {lo hi:Option Expr}{tl th:OD}{p2:Pos}(he:PD X e ta)(hl:Lv X lo tl)(hh:Lv X hi th):PD X (.Subscript e (.Slice lo hi none p2) pos) (Ny ta tl th):=by
 refine⟨(C_ M8 he.pe hl.po hh.po).imp λσ H Q ⟨δ,r,h⟩=>⟨δ,r,he.mono _ _ _ (λd h1 v H1 s1 dv=>⟨δ,r.same s1,hl.mono _ _ _ (λlo h2 H2 s2=>⟨δ,r.same (s1.trans s2),hh.mono _ _ _ (λhi h3 H3 s3=>?_) h2⟩) h1⟩) h⟩,
  λδ P P' g h=>he.mono _ _ _ (λd h1=>hl.mono _ _ _ (λlo h2=>hh.mono _ _ _ (λhi h3=>Mv g h3) h2) h1) h⟩
 have s:=s1.trans (s2.trans s3)
 have dv3:=dv.same (s2.trans s3)
 clear h1 h2 dv
 cases dv3 with
 |lst h1 h2=>exact .inl ⟨_,_,rfl,h1,λp hp=>h3 _ _ (s.trans (aU hp)) (.lst (cu.of aJ) ((h2.cut lo hi).same (aU hp)))⟩
 |tup h1 h2=>exact .inr (.inl ⟨_,_,rfl,h1,by rw[h2.length];exact h3.1,λp hp=>h3.2 _ _ (s.trans (aU hp)) (.tup (iM.of aJ) ((h2.cut lo hi).same (aU hp)))⟩)
 |str z=>exact .inr (.inr ⟨z,rfl,h3.1,h3.2 _ H3 s (.str _)⟩)
 |_=>exact h3.elim
def Jo (K:PySem.W.Frag)(ta:ED)(f:Str):ED:=λδ Q=>ta δ λd=>∃C gs r,d=.obj C gs/\rE K C/\dE K C f/\gs.lookup f=some r/\Q r
theorem KD {f:Str}(he:PD X e ta)(hb:attributeBase e f X.env (eval e X.env)=eval e X.env):PD X (.Attribute e f pos) (Jo X.K ta f) :=
 ⟨(Fl he.pe hb).imp λσ H Q ⟨δ,r,h⟩=>⟨δ,r,he.mono _ _ _ (λd ⟨C,gs,r,ed,hc,hn,hl,k⟩ v H1 s1 dv=>by
   subst ed
   cases dv with
   |obj h1 h2 =>
    obtain⟨w,hw,dw⟩:=h2.look hl
    exact⟨_,_,_,_,w,rfl,h1,hc,hn,hw,k _ H1 s1 dw⟩) h⟩,
  λδ P P' g h=>he.mono _ _ _ (λd ⟨C,gs,r,ed,hc,hn,hl,k⟩=>⟨C,gs,r,ed,hc,hn,hl,g _ k⟩) h⟩
abbrev cF:=List D->(D->Prop)->Prop
abbrev cK (sd:cF):Prop:=∀ds (P P':D->Prop),(∀d,P d->P' d)->sd ds P->sd ds P'
def qu (K:PySem.W.Frag)(sd:cF):Sp:=λvs H Q _=>∃ds,bM K H vs ds/\sd ds (kD K H Q)
def D2 (sd:cF)(t:AD):ED:=λδ Q=>t δ λds=>sd ds Q
theorem Hk {k:Nat}{f:Addr}{fd:FuncData}{ps:List Str}{x:Str}{p:Pos}{sd:cF}(F:cP X.prog X.w X.K X.mg X.base pQ k f fd ps (qu X.K sd))(ms:cK sd)(hr:cH k X.A)(hg:Gl X x)(hm:X.mg x=some (.ref f))
  (hk:keepIn X.K (.ref f)=true)(hb:Binds X.K fd ps [])(ha:ni X (e::es) t)(hdb:(x == ("__debug__":Str))=false:=by decide)
  (hp:PE X (.Call (.Name x p) (e::es) [] pos) (HI (qu X.K sd) [] E0 (oA X.K t)):=by exact uM F hr hg hm hk hb .nil sI ha.pa):PD X (.Call (.Name x p) (e::es) [] pos) (D2 sd t) :=
 ⟨hp.imp λσ H Q ⟨δ,r,h⟩=>⟨δ,r,ha.mono _ _ _ (λds h1 vs H1 s1 dvs=>⟨ds,by rw[List.append_nil];exact dvs,ms _ _ _ (λd k=>k.on s1) h1⟩) h⟩,λδ P P' g h=>ha.mono _ _ _ (λds h1=>ms _ _ _ g h1) h⟩
def vB (sd:cF)(t:AD):ED:=λδ Q=>t δ λds=>sd ds Q
def mT (K:PySem.W.Frag)(r:List V->Hp->VK->Prop)(sd:cF):Prop:=∀H vs ds Q,bM K H vs ds->sd ds (kD K H Q)->r vs H Q
theorem vK {r:List V->Hp->VK->Prop}{sd:cF}(hp:PE X e (MC r (oA X.K t)))(ha:lG t)(hd:mT X.K r sd)(ms:cK sd):PD X e (vB sd t) :=
 ⟨hp.imp λσ H Q ⟨δ,r,h⟩=>⟨δ,r,ha _ _ _ (λds h1 vs H1 s1 dvs=>hd H1 vs ds Q dvs (ms _ _ _ (λd k=>k.on s1) h1)) h⟩,λδ P P' g h=>ha _ _ _ (λds h1=>ms _ _ _ g h1) h⟩
end
structure lF where
 nx:SD->Prop
 rt:D->Prop
 bk:SD->Prop:=λ_=>False
 ct:SD->Prop:=λ_=>False
abbrev jE:=lF->SD->Prop
structure lF.Le (E E':lF):Prop where
 nx:∀ δ,E.nx δ->E'.nx δ
 rt:∀d,E.rt d->E'.rt d
 bk:∀ δ,E.bk δ->E'.bk δ
 ct:∀ δ,E.ct δ->E'.ct δ
abbrev yi (t:jE):Prop:=∀E E' δ,lF.Le E E'->t E δ->t E' δ
def kS (K:PySem.W.Frag)(H:Hp)(Q:L2.St->Hp->Prop):SD->Prop:=λδ=>∀ σ H',aK H H'->br K H' σ δ->Q σ H'
def mC (K:PySem.W.Frag)(H:Hp)(D:Ends):lF:=⟨kS K H D.nx,kD K H D.rt,kS K H D.bk,kS K H D.ct⟩
theorem kS.on {K:PySem.W.Frag}{H H1:Hp}{Q:L2.St->Hp->Prop}{δ:SD}(s:aK H H1)(h:kS K H Q δ):kS K H1 Q δ:=λσ H' s' r=>h σ H' (s.trans s') r
theorem tT {K:PySem.W.Frag}{H H1:Hp}{D:Ends}(s:aK H H1):lF.Le (mC K H D) (mC K H1 D):=⟨λ_ h=>h.on s,λ_ h=>h.on s,λ_ h=>h.on s,λ_ h=>h.on s⟩
def oS (K:PySem.W.Frag)(t:jE):TS:=λD σ H=>∃ δ,br K H σ δ/\t (mC K H D) δ
structure yj (X:Cx) (st:Stmt) (t:jE):Prop where
 ps:PS X st (oS X.K t)
 mono:yi t
structure nr (X:Cx) (st:List Stmt) (t:jE):Prop where
 ps:ly X st (oS X.K t)
 mono:yi t
section
variable {X:Cx}{st:Stmt}{rest body els:List Stmt}{t u:jE}{e c:Expr}{te:ED}{uc:TD}{pos:Pos}
theorem PS.imp {t t':TS}(h:PS X st t)(f:∀D σ H,t' D σ H->t D σ H):PS X st t':=λpins s σ H D I q=>h pins s σ H D I (f D σ H q)
theorem ly.imp {t t':TS}(h:ly X rest t)(f:∀D σ H,t' D σ H->t D σ H):ly X rest t':=λpins s σ H D I q=>h pins s σ H D I (f D σ H q)
def zd:jE:=λE δ=>E.nx δ
def A1 (t u:jE):jE:=λE δ=>t { E with nx:=u E } δ
theorem aY:nr X [] zd:=⟨ly.imp uQ λD σ H ⟨δ,r,h⟩=>h σ H (aK.refl _) r,λE E' δ l h=>l.nx _ h⟩
theorem aG (h1:yj X st t)(h2:nr X rest u):nr X (st::rest) (A1 t u) :=
 ⟨ly.imp (qe h1.ps h2.ps) λD σ H ⟨δ,r,h⟩=>⟨δ,r,h1.mono { mC X.K H D with nx:=u (mC X.K H D)} _ _ ⟨λδ' q σ' H' s' r'=>⟨δ',r',h2.mono _ _ _ (tT s') q⟩,λ_ q=>q,λ_ q=>q,λ_ q=>q⟩ h⟩,
  λE E' δ l h=>h1.mono { E with nx:=u E } _ _ ⟨λδ' q=>h2.mono _ _ _ l q,l.rt,l.bk,l.ct⟩ h⟩
theorem aF (h1:yj X st t):nr X [st] t:=⟨zc h1.ps,h1.mono⟩
def LD (te:ED):jE:=λE δ=>te δ E.rt
theorem aQ (he:PD X e te):yj X (.Return (some e) pos) (LD te):=⟨PS.imp (yJ he.pe) λD σ H ⟨δ,r,h⟩=>⟨δ,r,h⟩,λE E' δ l h=>he.mono _ _ _ l.rt h⟩
def LC (te:ED):jE:=λE δ=>te δ λ_=>E.nx δ
theorem bP (he:PD X e te)(hs:swapsWith e none pos.line X.env=pure false:=by rfl):yj X (.Expr e pos) (LC te) :=
 ⟨PS.imp (ie he.pe hs) λD σ H ⟨δ,r,h⟩=>⟨δ,r,he.mono _ _ _ (λd q v H1 s1 dv=>q σ H1 s1 (r.same s1)) h⟩,λE E' δ l h=>he.mono _ _ _ (λd q=>l.nx _ q) h⟩
def yK (i:Nat)(te:ED):jE:=λE δ=>te δ λd=>E.nx (δ.set i (some d))
theorem ar {i:Nat}{x:Str}{pos':Pos}(hN:X.N.Nodup)(hi:X.N[i]?=some x)(hx:Loc X.env.scope x)(he:PD X e te)(hs:swapsWith e (some (.Name x pos')) pos.line X.env=pure false:=by rfl)
  (hf:X.fn x=true\/X.env.scope.names.lookup x=some .local:=by first|exact .inl rfl|exact .inr rfl|assumption):yj X (.Assign [.Name x pos'] e pos) (yK i te) :=
 ⟨PS.imp (uO hN hi hx he.pe hs hf) λD σ H ⟨δ,r,h⟩=>⟨δ,r,he.mono _ _ _ (λd q v H1 s1 dv=>q _ H1 s1 ((r.same s1).set i dv)) h⟩,λE E' δ l h=>he.mono _ _ _ (λd q=>l.nx _ q) h⟩
def L8 (uc:TD)(t u:jE):jE:=λE δ=>uc δ λb=>if b=true then t E δ else u E δ
theorem bx (hc:lH X c uc)(ha:nr X body t)(hb:nr X els u):yj X (.If c body els pos) (L8 uc t u):=by
 refine⟨PS.imp (G8 hc.pt ha.ps hb.ps) λD σ H ⟨δ,r,h⟩=>⟨δ,r,hc.mono _ _ _ (λk q H1 s1=>?_) h⟩,λE E' δ l h=>hc.mono _ _ _ (λk q=>?_) h⟩
 ·cases k with
  |true=>rw[if_pos rfl] at q ⊢;exact⟨δ,r.same s1,ha.mono _ _ _ (tT s1) q⟩
  |false=>rw[if_neg Bool.false_ne_true] at q ⊢;exact⟨δ,r.same s1,hb.mono _ _ _ (tT s1) q⟩
 ·cases k with
  |true=>rw[if_pos rfl] at q ⊢;exact ha.mono _ _ _ l q
  |false=>rw[if_neg Bool.false_ne_true] at q ⊢;exact hb.mono _ _ _ l q
def JT:jE:=λ_ _=>False
theorem i4:yj X st JT:=⟨PS.imp DI λD σ H ⟨δ,r,h⟩=>h,λE E' δ l h=>h⟩
end
def cZ (N:List Str)(ds:List D):SD:=ds.map some++List.replicate (N.length - ds.length) none
theorem lB {K:PySem.W.Frag}{H:Hp}{N:List Str}{vs:List V}{ds:List D}(h:bM K H vs ds):br K H (L2.start N vs) (cZ N ds):=by
 unfold L2.start cZ
 have hl:=h.length
 refine⟨by rw[List.length_append,List.length_append,List.length_map,List.length_map,List.length_replicate,List.length_replicate,hl],λi d e=>?_⟩
 by_cases hi:i<ds.length
 ·rw[List.getElem?_append_left (by rw[List.length_map];exact hi),List.getElem?_map] at e
  cases q:ds[i]? with
  |none=>rw[q] at e;cases e
  |some d' =>
   rw[q] at e
   cases e
   obtain⟨v,hv,dv⟩:=h.get q
   exact⟨v,by rw[List.getElem?_append_left (by rw[List.length_map];omega),List.getElem?_map,hv];rfl,dv⟩
 ·rw[List.getElem?_append_right (by rw[List.length_map];omega),List.getElem?_replicate] at e
  split at e<;>cases e
section
variable {P:Program}{w:World}{K:PySem.W.Frag}{mg:Str->Option Value}{base:Heap}
abbrev Bx (P:Program)(w:World)(K:PySem.W.Frag)(mg:Str->Option Value)(base:Heap)(N:List Str)(qual:Str)(st:Stmt)(f:Addr)(cdv:Value)(A:Around)(outer:List Env)(s:Shared)(H:Hp)(E:XK):Cx:=(vH pQ P w K mg base N qual (aC st) f cdv A outer s H E).Im
theorem M0 {x qual:Str}{st:Stmt}{f:Addr}{fd:FuncData}{N ps:List Str}{k:Nat}{sd:cF}{t:jE}(F:xA K x qual st f fd)(S:aE N ps (aC st))(len:∀ds Q,sd ds Q->ds.length=ps.length)
  (hb:∀(cdv:Value) (A:Around) (outer:List Env) (s:Shared) (H:Hp) (E:XK),cH k (A.deeper (envOfC qual (aC st) s.heap.objs.size f cdv))->nr (Bx P w K mg base N qual st f cdv A outer s H E) (bE st) t)
  (hr:∀ds Q,sd ds Q->t { nx:=λ_=>Q .ak,rt:=Q } (cZ N ds)):cP P w K mg base pQ (k+1) f fd ps (qu K sd):=by
 refine F.ok S (λvs H Q E ⟨ds,dvs,h⟩=>by rw[dvs.length];exact len ds _ h) (λcdv A outer s H vs Q E hroom ⟨ds,dvs,h⟩=>?_)
 have B:=hb cdv A outer s H E hroom
 refine⟨_,B.ps,cZ N ds,lB dvs,?_⟩
 refine B.mono { nx:=λ_=>kD K H Q .ak,rt:=kD K H Q } _ _ ⟨λδ q σ H' s' r=>q _ H' s' .ak,λd q=>q,λ_ q=>q.elim,λ_ q=>q.elim⟩ (hr ds _ h)
end
structure HS (K:PySem.W.Frag) (J:It) (H1:Hp) (ds:List D):Prop where
 go:∀i H',aK H1 H'->i<ds.length->J.go i H'
 stop:∀H',aK H1 H'->J.stop ds.length H'
 BR:∀i H' x H'',aK H1 H'->i<ds.length->J.BR i H' x H''->aK H' H''/\∃d,ds[i]?=some d/\∃Hx,aK H1 Hx/\Dv K Hx x d/\(∀a o,Hx a=some o->H1 a=some o\/H' a=none)/\aK Hx H''
structure PId (X:Cx) (tg iter:Expr) (ti:AD):Prop where
 pi:PI X tg iter (λσ H R=>∃ δ,br X.K H σ δ/\ti δ λds=>∀J H1,aK H H1->HS X.K J H1 ds->R J H1)
 mono:lG ti
def CL:D->Option (List D)
 |.lst xs=>some xs
 |.tup xs=>some xs
 |.str y=>some (y.cps.toList.map λc=>.str ⟨#[c]⟩)
 |_=>none
def Ba (te:ED):AD:=λδ Q=>te δ λd=>∃ds,CL d=some ds/\Q ds
section
variable {X:Cx}{tg:Expr}{l:Expr}{te:ED}
theorem PI.imp {wi wi':TI}(h:PI X tg l wi)(f:∀ σ H R,wi' σ H R->wi σ H R):PI X tg l wi':=λpins s σ H R I q=>h pins s σ H R I (f σ H R q)
theorem JM {tl:TE}(hl:PE X l tl):PI X tg l (λσ H R=>tl σ H λx H1=>(∃a,x=.ref a/\(∃xs,cu X.K H1 a xs)/\R (NY X.K a) H1)\/(∃a,x=.ref a/\(∃xs,iM X.K H1 a xs)/\R (NZ X.K a) H1)\/∃y,x=.str y/\R (MK y) H1):=by
 intro pins s σ H R I h
 refine b6 (hl pins s σ H _ I h) λv s1 ⟨x,H1,I1,r1,q1⟩=>?_
 have hf:∀b∈[s1.heap.objs.size],jG X pins H1 b:=λb hb=>by
  have e:b=s1.heap.objs.size:=by simpa using hb
  subst e
  exact I1.B8 (Nat.le_refl _) (I1.bW.fresh (Nat.le_refl _))
 rcases q1 with⟨a,e,⟨xs,hq⟩,q⟩|⟨a,e,⟨xs,hq⟩,q⟩|⟨y,e,q⟩
 ·subst e
  cases(show v=Value.ref a from r1)
  obtain⟨its,rv,p,hz⟩:=I1.list hq
  exact wpAny_pyIter_list p.isList ⟨s1.heap.objs.size,[s1.heap.objs.size],_,_,H1,rfl,I1.kept (t':=s1.toks) λb o e=>Heap.get?_push_of_some _ e,BG a _,⟨_,Heap.get?_push_size _ rfl,rfl,rfl⟩,hf,q⟩
 ·subst e
  cases(show v=Value.ref a from r1)
  obtain⟨its,rv,p,hz⟩:=I1.tuple hq
  exact wpAny_pyIter_tuple (show s1.heap.IsTuple a its.toArray from p) ⟨s1.heap.objs.size,[s1.heap.objs.size],_,_,H1,rfl,I1.kept (t':=s1.toks) λb o e=>Heap.get?_push_of_some _ e,yZ a _,⟨_,Heap.get?_push_size _ rfl,rfl,rfl⟩,hf,q⟩
 ·subst e
  obtain⟨t,rfl⟩:=r1
  cases ha:y.cps.all (·<128)
  ·exact wpAny_pyIter_wide ha ⟨s1.heap.objs.size,[s1.heap.objs.size],_,_,H1,rfl,I1.kept (t':=s1.toks) λb o e=>Heap.get?_push_of_some _ e,BI y t _,⟨_,Heap.get?_push_size _ rfl,rfl,rfl⟩,hf,q⟩
  ·exact wpAny_pyIter_ascii ha ⟨s1.heap.objs.size,[s1.heap.objs.size],_,_,H1,rfl,I1.kept (t':=s1.toks) λb o e=>Heap.get?_push_of_some _ e,BH y t _,⟨_,Heap.get?_push_size _ rfl,rfl,rfl⟩,hf,q⟩
theorem bw (he:PD X l te):PId X tg l (Ba te):=by
 refine⟨PI.imp (JM he.pe) λσ H R ⟨δ,r,h⟩=>⟨δ,r,he.mono _ _ _ (λd ⟨ds,e,q⟩ v H1 s1 dv=>?_) h⟩,λδ P P' g h=>he.mono _ _ _ (λd ⟨ds,e,q⟩=>⟨ds,e,g _ q⟩) h⟩
 cases dv with
 |lst h1 h2 =>
  cases e
  refine .inl ⟨_,rfl,⟨_,h1⟩,q _ H1 s1 ⟨λi H' s' hi=>?_,λH' s'=>⟨_,s'.seq h1,by rw[h2.length];exact Nat.le_refl _⟩,λi H' x H'' s' hi y=>?_⟩⟩
  ·obtain⟨v,hv,_⟩:=h2.get (List.getElem?_eq_getElem hi)
   exact⟨_,v,s'.seq h1,hv⟩
  ·obtain⟨rfl,y2⟩:=y
   obtain⟨d,hd,dv⟩:=h2.En (y2 _ (s'.seq h1))
   exact⟨aK.refl _,d,hd,H1,aK.refl _,dv,λ_ _ z=>.inl z,s'⟩
 |tup h1 h2 =>
  cases e
  refine .inr (.inl ⟨_,rfl,⟨_,h1⟩,q _ H1 s1 ⟨λi H' s' hi=>?_,λH' s'=>⟨_,wY s' h1,by rw[h2.length];exact Nat.le_refl _⟩,λi H' x H'' s' hi y=>?_⟩⟩)
  ·obtain⟨v,hv,_⟩:=h2.get (List.getElem?_eq_getElem hi)
   exact⟨_,v,wY s' h1,hv⟩
  ·obtain⟨rfl,y2⟩:=y
   obtain⟨d,hd,dv⟩:=h2.En (y2 _ (wY s' h1))
   exact⟨aK.refl _,d,hd,H1,aK.refl _,dv,λ_ _ z=>.inl z,s'⟩
 |str y =>
  cases e
  refine .inr (.inr ⟨_,rfl,q _ H1 s1 ⟨λi H' s' hi=>?_,λH' s'=>?_,λi H' x H'' s' hi y=>?_⟩⟩)
  ·have hi':i<y.cps.size:=by simpa using hi
   exact hi'
  ·show y.cps.size<=_
   simp
  ·obtain⟨rfl,c,hc,rfl⟩:=y
   refine⟨aK.refl _,.str ⟨#[c]⟩,?_,H1,aK.refl _,.str _,λ_ _ z=>.inl z,s'⟩
   rw[List.getElem?_map,Array.getElem?_toList,hc]
   rfl
 |_=>cases e
def EH (t:AD):AD:=λδ Q=>t δ λds=>∃n:Int,ds=[.int n]/\-(2 ^ 62)<=n/\n<2 ^ 62/\Q ((List.range n.toNat).map λi:Nat=>.int (0+(i:Int)))
theorem CK {K:PySem.W.Frag}{H:Hp}(lo:Int)(n:Nat):HS K (Ls lo n) H ((List.range n).map λi:Nat=>.int (lo+(i:Int))):=by
 refine⟨λi H' s' hi=>?_,λH' s'=>?_,λi H' x H'' s' hi y=>?_⟩
 ·have hi':i<n:=by simpa using hi
  exact hi'
 ·show n<=_
  simp
 ·obtain⟨rfl,rfl⟩:=y
  have hi':i<n:=by simpa using hi
  exact⟨aK.refl _,.int (lo+i),by rw[List.getElem?_map,List.getElem?_range hi'];rfl,H,aK.refl _,.int _,λ_ _ z=>.inl z,s'⟩
theorem jO {a:Expr}{ta:AD}{p pos:Pos}(hg:Gl X "range")(hm:X.mg "range"=none)(ha:ni X [a] ta)(hs:starEach [a] X.env=[(false,eval a X.env)]:=by rfl):PId X tg (.Call (.Name "range" p) [a] [] pos) (EH ta):=by
 refine⟨PI.imp (Az hg hm ha.pa hs) λσ H R ⟨δ,r,h⟩=>⟨δ,r,ha.mono _ _ _ (λds ⟨n,e,h1,h2,q⟩ vs H1 s1 dvs=>?_) h⟩,λδ P P' g h=>ha.mono _ _ _ (λds ⟨n,e,h1,h2,q⟩=>⟨n,e,h1,h2,g _ q⟩) h⟩
 subst e
 cases dvs with
 |cons a b =>
  cases a
  cases b
  exact⟨n,rfl,h1,h2,q _ H1 s1 (CK 0 n.toNat)⟩
end
abbrev BY:=D->SD->(SD->Prop)->Prop
structure Ju (X:Cx) (tg:Expr) (g:BY):Prop where
 pg:PG X tg (λv σ H Q=>∃d δ,Dv X.K H v d/\br X.K H σ δ/\g d δ (kS X.K H Q))
 mono:∀d δ (P P':SD->Prop),(∀ δ,P δ->P' δ)->g d δ P->g d δ P'
def hName (i:Nat):BY:=λd δ Q=>Q (δ.set i (some d))
section
variable {X:Cx}{tg iter:Expr}{body:List Stmt}{ti:AD}{g:BY}{tb:jE}{pos:Pos}
theorem PG.imp {t t':TG}(h:PG X tg t)(f:∀v σ H Q,t' v σ H Q->t v σ H Q):PG X tg t':=λpins s σ H v u Q I r q=>h pins s σ H v u Q I r (f v σ H Q q)
theorem bO {i:Nat}{x:Str}(hN:X.N.Nodup)(hi:X.N[i]?=some x)(hx:Loc X.env.scope x)(hf:X.fn x=true\/X.env.scope.names.lookup x=some .local:=by first|exact .inl rfl|exact .inr rfl|assumption):Ju X (.Name x pos) (hName i) :=
 ⟨PG.imp (bF hN hi hx hf) λv σ H Q ⟨d,δ,dv,r,q⟩=>q _ H (aK.refl _) (r.set i dv),λd δ P P' f q=>f _ q⟩
def M3 (ti:AD)(g:BY)(tb:jE):jE:=λE δ=>ti δ λds=>∃inv:Nat->SD->Prop,inv 0 δ /\
 (∀i d δ',ds[i]?=some d->inv i δ'->g d δ' λδ2=>tb { E with nx:=inv (i+1),ct:=inv (i+1),bk:=E.nx } δ2)/\∀ δ',inv ds.length δ'->E.nx δ'
theorem wX (hp:PassesOwn (model X.prog X.w) X.A X.env X.xe)(hc:X.calm=true)(hi:PId X tg iter ti)(hg:Ju X tg g)(hb:nr X body tb)(hs:∀x,foldedSetIterable iter X.env x=pure x:=by intro _;rfl) :
  yj X (.For tg iter body [] pos) (M3 ti g tb):=by
 refine⟨PS.imp (yH hp hc hi.pi hg.pg hb.ps hs) λD σ H ⟨δ,r,h⟩=>⟨δ,r,hi.mono _ _ _ (λds ⟨inv,i0,step,fin⟩ J H1 s1 it=>?_) h⟩,λE E' δ l h=>hi.mono _ _ _ (λds ⟨inv,i0,step,fin⟩=>⟨inv,i0,λi d δ' hd hin=>hg.mono _ _ _ _ (λδ2 q=>hb.mono { E with nx:=inv (i+1),ct:=inv (i+1),bk:=E.nx } _ _ ⟨λ_ q=>q,l.rt,l.nx,λ_ q=>q⟩ q) (step i d δ' hd hin),λδ' q=>l.nx _ (fin δ' q)⟩) h⟩
 refine⟨λi m σ' H'=>m=ds.length - i/\i<=ds.length/\aK H1 H'/\∃ δ',br X.K H' σ' δ'/\inv i δ',⟨ds.length,rfl,Nat.zero_le _,aK.refl _,δ,r.same s1,i0⟩,?_⟩
 rintro i m σ' H' ⟨rfl,hle,s',δ',r',hin⟩
 by_cases hlt:i<ds.length
 ·refine .inr ⟨it.go i H' s' hlt,λσ2 H2=>aK H1 H2/\∃ δ2,br X.K H2 σ2 δ2/\inv (i+1) δ2,λσ2 H2 ⟨s2,δ2,r2,h2⟩=>⟨ds.length - (i+1),by omega,rfl,hlt,s2,δ2,r2,h2⟩,λx H'' y=>?_⟩
  obtain⟨s2,d,hd,Hx,_,dvx,_,sx⟩:=it.BR i H' x H'' s' hlt y
  have dv:=dvx.same sx
  have sA:=s'.trans s2
  refine⟨d,δ',dv,r'.same s2,hg.mono _ _ _ _ (λδ2 q σ3 H3 s3 r3=>⟨δ2,r3,hb.mono { mC X.K H D with nx:=inv (i+1),ct:=inv (i+1),bk:=(mC X.K H D).nx } _ _ ?_ q⟩) (step i d δ' hd hin)⟩
  have sB:=s1.trans (sA.trans s3)
  exact⟨λδ3 q3 σ4 H4 s4 r4=>⟨sA.trans (s3.trans s4),δ3,r4,q3⟩,λ_ q3=>q3.on sB,λ_ q3=>q3.on sB,λδ3 q3 σ4 H4 s4 r4=>⟨sA.trans (s3.trans s4),δ3,r4,q3⟩⟩
 ·have e:i=ds.length:=by omega
  subst e
  exact .inl ⟨it.stop H' s',fin δ' hin σ' H' (s1.trans s') r'⟩
end
structure tG (X:Cx) (ifs:List Expr) (t:TD):Prop where
 K_:yk X ifs (oT X.K t)
 mono:gU t
def Lm:TD:=λ_ Q=>Q true
section
variable {X:Cx}{c:Expr}{ut:TD}
theorem yk.imp {ifs:List Expr}{t t':TT}(h:yk X ifs t)(f:∀ σ H Q,t' σ H Q->t σ H Q):yk X ifs t':=λpins s σ H Q I q=>h pins s σ H Q I (f σ H Q q)
theorem eU:tG X [] Lm:=⟨yk.imp Fw λσ H Q ⟨δ,r,h⟩=>h H (aK.refl _),λδ P P' g h=>g _ h⟩
theorem ka (h:lH X c ut):tG X [c] ut:=⟨Fx h.pt,h.mono⟩
end
def n0 (caps:List Nat)(δ:SD):SD:=caps.map λj=>(δ[j]?).getD none
def iL (caps:List Nat)(ti:AD)(tt:TD)(te:ED):ED:=λδ Q=>ti δ λds=>∃outs:List (Option D),outs.length=ds.length /\
 (∀(i:Nat) (d:D) (o:Option D),ds[i]?=some d->outs[i]?=some o->tt (some d::n0 caps δ) λb=>b=o.isSome/\(b=true->te (some d::n0 caps δ) λy=>o=some y))/\ds.length<sizeLine/\Q (.lst (outs.filterMap id))
theorem tK {K:PySem.W.Frag}{H:Hp}{σ:L2.St}{δ:SD}(r:br K H σ δ){x:V}{d:D}(dv:Dv K H x d)(caps:List Nat):br K H (some x::caps.map λj=>(σ[j]?).getD none) (some d::n0 caps δ):=by
 refine⟨by unfold n0;simp,λi e h=>?_⟩
 cases i with
 |zero=>simp at h;subst h;exact⟨x,rfl,dv⟩
 |succ i =>
  unfold n0 at h
  simp only[List.getElem?_cons_succ,List.getElem?_map] at h ⊢
  cases q:caps[i]? with
  |none=>rw[q] at h;cases h
  |some j =>
   rw[q] at h
   have h':(δ[j]?).getD none=some e:=by simpa using h
   have h2:δ[j]?=some (some e):=by
    cases z:δ[j]? with
    |none=>rw[z] at h';cases h'
    |some o=>rw[z] at h';exact congrArg some h'
   obtain⟨v,hv,dv⟩:=r.get j e h2
   exact⟨v,by simp[hv],dv⟩
theorem qB {K:PySem.W.Frag}{caps:List Nat}{ti:AD}{tt:TD}{te:ED}(mi:lG ti)(mt:gU tt)(me:bX te){σ:L2.St}{H:Hp}{Q:VK}(h:oE K (iL caps ti tt te) σ H Q) :
  nE 1 caps (λσ H R=>∃ δ,br K H σ δ/\ti δ λds=>∀J H1,aK H H1->HS K J H1 ds->R J H1) (dD 0) (kb (oT K tt)) (kY (oE K te)) σ H Q:=by
 obtain⟨δ,r,h⟩:=h
 refine⟨δ,r,mi _ _ _ (λds ⟨outs,hol,each,hlen,q⟩ J H1 s1 it D hD=>?_) h⟩
 refine⟨λi m ys H'=>m=ds.length - i/\i<=ds.length/\∃H0,H0 D=none/\aK H1 H0/\bM K H0 ys ((outs.take i).filterMap id)/\H'=upd H0 D (.lst ys),⟨ds.length,rfl,Nat.zero_le _,H1,hD,aK.refl _,.nil,rfl⟩,?_⟩
 rintro i m ys H' ⟨rfl,hle,H0,h0,s0,dys,rfl⟩
 refine⟨aJ,?_⟩
 have sU:aK H1 (upd H0 D (.lst ys)):=s0.trans (aU h0)
 by_cases hlt:i<ds.length
 ·refine .inr ⟨it.go i _ sU hlt,λx H'' y=>?_⟩
  obtain⟨s2,d,hd,Hx,sx1,dvx,only,sx⟩:=it.BR i _ x H'' sU hlt y
  have hD2:H'' D=some (.lst ys):=s2 _ _ aJ
  have ne1:∀a o,H1 a=some o->a≠D:=λa o z=>a_ z hD
  have nex:∀a o,Hx a=some o->a≠D:=λa o z w=>by
   rcases only a o z with z1|z1
   ·exact ne1 a o z1 w
   ·rw[w,aJ] at z1;cases z1
  have sd1:aK H0 (del H'' D):=λa o z=>by
   rw[l_ (a_ z h0)]
   exact s2 a o (aU h0 a o z)
  have sdx:aK Hx (del H'' D):=λa o z=>by
   rw[l_ (nex a o z)]
   exact sx a o z
  obtain⟨o,ho⟩:∃o,outs[i]?=some o:=⟨_,List.getElem?_eq_getElem (show i<outs.length by omega)⟩
  have rel:br K (del H'' D) (some x::caps.map λj=>(σ[j]?).getD none) (some d::n0 caps δ):=tK (r.same (s1.trans (s0.trans sd1))) (dvx.same sdx) caps
  refine⟨Le.one,D,ys,hD2,_,rel,mt _ _ _ (λb ⟨eb,hb⟩ H3 s3 h3=>?_) (each i d o hd ho)⟩
  have ht:outs.take (i+1)=outs.take i++[o]:=by rw[List.take_succ,ho];rfl
  have s03:aK H0 H3:=sd1.trans s3
  cases b with
  |false =>
   refine aO ?_
   refine⟨ds.length - (i+1),by omega,rfl,hlt,H3,h3,s0.trans s03,?_,rfl⟩
   have on:o=none:=by cases o with|none=>rfl|some z=>cases eb
   rw[ht,on,List.filterMap_append]
   simpa using dys.same s03
  |true =>
   refine ae ?_
   refine⟨D,ys,aJ,?_⟩
   rw[tO h3]
   refine⟨_,rel.same s3,me _ _ _ (λy ey v H4 s4 dv h4=>⟨aJ,?_,ds.length - (i+1),by omega,rfl,hlt,H4,h4,s0.trans (s03.trans s4),?_,p6⟩) (hb rfl)⟩
   ·rw[dys.length]
    exact Nat.lt_of_le_of_lt (Nat.le_trans (List.length_filterMap_le _ _) (List.length_take_le' _ _)) (by rw[hol];exact hlen)
   ·rw[ht,ey,List.filterMap_append]
    exact(dys.same (s03.trans s4)).append (.cons dv .nil)
 ·have e:i=ds.length:=by omega
  subst e
  refine .inl ⟨it.stop _ sU,?_⟩
  rw[<- hol,List.take_length] at dys
  exact q _ _ (s1.trans sU) (.lst (cu.of aJ) (dys.same (aU h0)))
section
variable {X:Cx}{scope:Scope}{cl:List (Str × Addr)}{x:Str}{cn:List Str}{caps:List Nat}{elt tg iter:Expr}{ifs:List Expr}{ti:AD}{tt:TD}{te:ED}{pos:Pos}
theorem mG (mi:lG ti):bX (iL caps ti tt te):=λδ P P' g h=>mi _ _ _ (λds ⟨outs,hol,each,hlen,q⟩=>⟨outs,hol,each,hlen,g _ q⟩) h
theorem Hl (S:b9 X scope cl [x] caps cn)(hc:X.calm=true)(hi:PId X tg iter ti)(hg:∀C fp s₂ H₂,PG (aw X scope cl C ([x]++cn) fp s₂ H₂) tg (dD 0))(ht:∀C fp s₂ H₂,tG (aw X scope cl C ([x]++cn) fp s₂ H₂) ifs tt)
  (he:∀C fp s₂ H₂,PD (aw X scope cl C ([x]++cn) fp s₂ H₂) elt te)(mt:gU tt)(me:bX te)(hs:∀x,foldedSetIterable iter X.env x=pure x:=by intro _;rfl):PD X (.ListComp elt [⟨tg,iter,ifs,0⟩] scope pos) (iL caps ti tt te) :=
 ⟨(Fi S hc hi.pi hg (λC fp s₂ H₂=>gC (ht C fp s₂ H₂).K_) (λC fp s₂ H₂=>hZ (he C fp s₂ H₂).pe) hs).imp λσ H Q h=>qB hi.mono mt me h,mG hi.mono⟩
theorem Ja {i:Nat}{y:Str}{py spos:Pos}(hN:X.N.Nodup)(hi':X.N[i]?=some y)(hy:Loc X.env.scope y)(S:b9 X scope cl [x] caps cn)(hc:X.calm=true)(hi:PId X tg iter ti)
  (hg:∀C fp s₂ H₂,PG (aw X scope cl C ([x]++cn) fp s₂ H₂) tg (dD 0))(ht:∀C fp s₂ H₂,tG (aw X scope cl C ([x]++cn) fp s₂ H₂) ifs tt)(he:∀C fp s₂ H₂,PD (aw X scope cl C ([x]++cn) fp s₂ H₂) elt te)(mt:gU tt)(me:bX te)
  (hsw:swapsWith (.ListComp elt [⟨tg,iter,ifs,0⟩] scope pos) (some (.Name y py)) spos.line X.env=pure true:=by rfl)(hf:X.fn y=true\/X.env.scope.names.lookup y=some .local:=by first|exact .inl rfl|exact .inr rfl|assumption)
  (hs:∀x,foldedSetIterable iter X.env x=pure x:=by intro _;rfl):yj X (.Assign [.Name y py] (.ListComp elt [⟨tg,iter,ifs,0⟩] scope pos) spos) (yK i (iL caps ti tt te)) :=
 ⟨PS.imp (ph hN hi' hy S hc hi.pi hg (λC fp s₂ H₂=>gC (ht C fp s₂ H₂).K_) (λC fp s₂ H₂=>hZ (he C fp s₂ H₂).pe) hsw hf hs) λD σ H ⟨δ,r,h⟩ =>
   qB hi.mono mt me ⟨δ,r,mG hi.mono _ _ _ (λd q v H1 s1 dv=>q _ H1 s1 ((r.same s1).set i dv)) h⟩,
  λE E' δ l h=>mG hi.mono _ _ _ (λd q=>l.nx _ q) h⟩
end
def zI:D->Option String
 |.ak=>some "NoneType"
 |.bl _=>some "bool"
 |.int _=>some "int"
 |.str _=>some "str"
 |.lst _=>some "list"
 |.tup _=>some "tuple"
 |.dK _=>some "dict"
 |.dT _=>some "dict"
 |.obj _ _=>none
 |.adr _=>none
 |.exc _ _ _=>none
structure fv (K:PySem.W.Frag) (C:Addr):Prop where
 cl:rE K C
 ha:findIn K (.ref C) "__class__"=some (some (.builtin "object.__class__"))
 hn:PySem.W.specialIn K (.builtin "object.__class__") "__get__"=some (some (.builtin "getset_descriptor.__get__"))
 N9:PySem.W.takesIn K (.builtin "object.__class__")=some true
 hm:PySem.W.mroIn K C (.type "object")=some true
inductive Jw (K:PySem.W.Frag):D->Value->Prop
 |k {d:D} {T:String} (h:zI d=some T):Jw K d (.type T)
 |o {C:Addr} {gs:List (Str × D)} (h:fv K C):Jw K (.obj C gs) (.ref C)
section
variable {X:Cx}{pins:List (Addr × Obj)}{σ:L2.St}{H:Hp}{s:Shared}
theorem Et {x:V}{u t:Value}{d:D}(I:Inv X pins σ H s)(rx:RelV x u)(dv:Dv X.K H x d)(ty:Jw X.K d t):∃Hh,PySem.W.KitX X.K u t Hh/\Hh s.heap/\u≠.builtin "__main__.__loader__#opaque":=by
 cases ty with
 |k h =>
  cases dv with
  |ak=>cases h;cases(show u=Value.none from rx);exact⟨_,PySem.W.kitx_none,True.intro,λz=>nomatch z⟩
  |bl y=>cases h;cases(show u=Value.bool y from rx);exact⟨_,PySem.W.kitx_bool,True.intro,λz=>nomatch z⟩
  |int i=>cases h;obtain⟨t,q⟩:=(show ∃t,u=Value.int i t from rx);cases q;exact⟨_,PySem.W.kitx_int,True.intro,λz=>nomatch z⟩
  |str y=>cases h;obtain⟨t,q⟩:=(show ∃t,u=Value.str y t from rx);cases q;exact⟨_,PySem.W.kitx_str,True.intro,λz=>nomatch z⟩
  | @lst a xs ds h1 h2 =>
   cases h
   cases(show u=Value.ref a from rx)
   obtain⟨its,_,pl,_⟩:=I.list h1
   obtain⟨o,n,e1,e2,_⟩:=pl
   exact⟨_,PySem.W.kitx_list,⟨o,e1,e2⟩,λz=>nomatch z⟩
  | @tup a xs ds h1 h2 =>
   cases h
   cases(show u=Value.ref a from rx)
   obtain⟨its,_,pl,_⟩:=I.tuple h1
   obtain⟨o,n,e1,e2,_⟩:=IsTup.of_get pl
   exact⟨_,PySem.W.kitx_tuple,⟨o,e1,e2⟩,λz=>nomatch z⟩
  | @dK a kvs gs h1 h2 =>
   cases h
   cases(show u=Value.ref a from rx)
   obtain⟨_,_,vs,_,p⟩:=(show bJ X.prog X.w H s.heap a (.dK kvs) from h1.ok I.bW)
   obtain⟨o,es,ep,g1,g2,_⟩:=p
   exact⟨_,PySem.W.kitx_dict,⟨o,g1,g2.1⟩,λz=>nomatch z⟩
  | @dT a kvs gs h1 h2 =>
   cases h
   cases(show u=Value.ref a from rx)
   obtain⟨_,_,xs,_,o,es,ep,g1,g2,_⟩:=(show bJ X.prog X.w H s.heap a (.dT kvs) from h1.ok I.bW)
   exact⟨_,PySem.W.kitx_dict,⟨o,g1,g2.1⟩,λz=>nomatch z⟩
  |obj h1 h2=>cases h
  |adr _=>cases h
  |exc _ _ _=>cases h
 |o h =>
  cases dv with
  | @obj a C dx fs gs h1 h2 =>
   cases(show u=Value.ref a from rx)
   obtain⟨mA,O,_⟩:=qL I.bW h1
   obtain⟨od,J,_⟩:=O.look
   exact⟨_,PySem.W.kitx_own (h.cl.get _) h.cl.hd h.ha h.hn h.N9 h.hm,J,λz=>nomatch z⟩
end
section
variable {X:Cx}{e:Expr}{te:ED}{pos p p2:Pos}
theorem rV {c:Value}{vc:V}(rc:∀u,RelV vc u->u=c):eW X (.builtin "isinstance") (λxs H Q=>∃x d t b,xs=[x,vc]/\Dv X.K H x d/\Jw X.K d t/\kitOne X.K t c=some b/\Q (.bl b) H):=by
 intro pins s σ H xs us Q I r h
 obtain⟨x,d,t,b,rfl,dv,ty,e,q⟩:=h
 obtain⟨u,w',rfl,r1,r2⟩:=vals2 r
 obtain rfl:=rc w' r2
 obtain⟨Hh,Z,hh,hx⟩:=Et I r1 dv ty
 exact PySem.W.kia_one Z I.uu hh e hx λtk=>⟨.bl b,H,I.tok _,rfl,q⟩
def D4 (K:PySem.W.Frag)(c:Value)(te:ED):ED:=λδ Q=>te δ λd=>∃t b,Jw K d t/\kitOne K t c=some b/\Q (.bl b)
theorem vM {c:Value}{vc:V}(he:PD X e te){ec:Expr}(hp:PE X (.Call (.Name "isinstance" p) [e,ec] [] pos) (MC (λxs H Q=>∃x d t b,xs=[x,vc]/\Dv X.K H x d/\Jw X.K d t/\kitOne X.K t c=some b/\Q (.bl b) H) (zw (oE X.K te) (zw (tC vc) GF)))) :
  PD X (.Call (.Name "isinstance" p) [e,ec] [] pos) (D4 X.K c te) :=
 ⟨hp.imp λσ H Q ⟨δ,r,h⟩=>⟨δ,r,he.mono _ _ _ (λd ⟨t,b,ty,ek,k⟩ v H1 s1 dv=>⟨v,d,t,b,rfl,dv,ty,ek,k _ H1 s1 (.bl _)⟩) h⟩,λδ P P' g h=>he.mono _ _ _ (λd ⟨t,b,ty,ek,k⟩=>⟨t,b,ty,ek,g _ k⟩) h⟩
theorem Br {T:String}{x:Str}(he:PD X e te)(hg:Gl X "isinstance")(hm:X.mg "isinstance"=none)(hg2:Gl X x)(hm2:X.mg x=none)(hv2:bootBuiltins x=some (.type T))(hn:x≠"__name__":=by decide)(hd:(x == ("__debug__":Str))=false:=by decide)
  (hs:starEach [e,.Name x p2] X.env=(false,eval e X.env)::starEach [.Name x p2] X.env:=by rfl):PD X (.Call (.Name "isinstance" p) [e,.Name x p2] [] pos) (D4 X.K (.type T) te) :=
 vM (vc:=.ty T) he (fE (rV λu z=>z) hg hm boot_isinstance (eA he.pe (eA (Fg (v:=.ty T) hg2 hm2 hv2 rfl hn hd) ic) hs) (he:=hs))
theorem Hm {C:Addr}{x:Str}(he:PD X e te)(hg:Gl X "isinstance")(hm:X.mg "isinstance"=none)(hg2:Gl X x)(hm2:X.mg x=some (.ref C))(hd:(x == ("__debug__":Str))=false:=by decide)
  (hs:starEach [e,.Name x p2] X.env=(false,eval e X.env)::starEach [.Name x p2] X.env:=by rfl):PD X (.Call (.Name "isinstance" p) [e,.Name x p2] [] pos) (D4 X.K (.ref C) te) :=
 vM (vc:=.ref C) he (fE (rV λu z=>z) hg hm boot_isinstance (eA he.pe (eA (zY (v:=.ref C) hg2 hm2 rfl hd) ic) hs) (he:=hs))
end
def CJ (T:String)(d:D):Option Bool:=(zI d).map λk=>k == T||(k == "bool"&&T == "int")
theorem E1 {K:PySem.W.Frag}{d:D}{k T:String}(hk:zI d=some k)(hT:T∈["bool","int","str","list","tuple","dict"]):kitOne K (.type k) (.type T)=some (k == T||(k == "bool"&&T == "int")):=by
 have hk':k∈["NoneType","bool","int","str","list","tuple","dict"]:=by cases d<;>cases hk<;>simp
 simp only[List.mem_cons,List.not_mem_nil,or_false] at hk' hT
 rcases hk' with rfl|rfl|rfl|rfl|rfl|rfl|rfl<;>rcases hT with rfl|rfl|rfl|rfl|rfl|rfl<;>kernel_rfl
def D5 (T:String)(te:ED):ED:=λδ Q=>te δ λd=>∃b,CJ T d=some b/\Q (.bl b)
theorem PD.CJ {X:Cx}{e:Expr}{te:ED}{T:String}(h:PD X e (D4 X.K (.type T) te))(m:bX te)(hT:T∈["bool","int","str","list","tuple","dict"]):PD X e (D5 T te) :=
 ⟨h.pe.imp λσ H Q ⟨δ,r,q⟩=>⟨δ,r,m _ _ _ (λd ⟨b,eb,k⟩=>by
   unfold DC.CJ at eb
   cases hk:zI d with
   |none=>rw[hk] at eb;cases eb
   |some kk =>
    rw[hk] at eb
    have e1:(kk == T||(kk == "bool"&&T == "int"))=b:=by simpa using eb
    exact⟨_,b,.k hk,by rw[E1 hk hT,e1],k⟩) q⟩,λδ P P' g q=>m _ _ _ (λd ⟨b,eb,k⟩=>⟨b,eb,g _ k⟩) q⟩
def Mn:D->Option Int
 |.str x=>if x.length<=sizeLine then some x.length else none
 |.lst xs=>some xs.length
 |.tup xs=>some xs.length
 |_=>none
def DW:cF:=λds Q=>∃d n,ds=[d]/\Mn d=some n/\Q (.int n)
theorem Kv:cK DW:=λds P P' g ⟨d,n,e,h,q⟩=>⟨d,n,e,h,g _ q⟩
theorem B3 {K:PySem.W.Frag}:mT K (λxs H Q=>∃x n,xs=[x]/\J1 K x H n/\Q (.int n) H) DW:=by
 intro H vs ds Q dvs ⟨d,n,e,h,q⟩
 subst e
 cases dvs with
 |cons dv r =>
  cases r
  cases dv with
  |str x =>
   have h':(if x.length<=sizeLine then some (x.length:Int) else none)=some n:=h
   by_cases hz:x.length<=sizeLine
   ·rw[if_pos hz] at h'
    cases h'
    exact⟨_,x.length,rfl,⟨hz,rfl⟩,q _ H (aK.refl _) (.int _)⟩
   ·rw[if_neg hz] at h'
    cases h'
  |lst h1 h2=>cases h;exact⟨_,_,rfl,.inl ⟨_,h1,rfl⟩,by rw[h2.length];exact q _ H (aK.refl _) (.int _)⟩
  |tup h1 h2=>cases h;exact⟨_,_,rfl,.inr ⟨_,h1,rfl⟩,by rw[h2.length];exact q _ H (aK.refl _) (.int _)⟩
  |_=>cases h
section
variable {X:Cx}{e:Expr}{es:List Expr}{t:AD}{pos p:Pos}
theorem cO (hg:Gl X "len")(hm:X.mg "len"=none)(ha:ni X (e::es) t)(h1:starEach (e::es) X.env=(false,eval e X.env)::starEach es X.env:=by rfl)(h2:(backTo pos (starEach es X.env)).any (·.1)=false:=by rfl) :
  PD X (.Call (.Name "len" p) (e::es) [] pos) (vB DW t):=vK (fE Bf hg hm PySem.boot_len ha.pa (he:=h1) (hpl:=h2)) ha.mono B3 Kv
theorem AF:bootBuiltins "int"=some (.type "int"):=by decide +kernel
theorem xE:bootBuiltins "bool"=some (.type "bool"):=by decide +kernel
theorem boot_tuple:bootBuiltins "tuple"=some (.type "tuple"):=by decide +kernel
theorem boot_list:bootBuiltins "list"=some (.type "list"):=by decide +kernel
theorem AE:bootBuiltins "all"=some (.builtin "all"):=by decide +kernel
def DT:cF:=λds Q=>∃(bs:List Bool),ds=[.lst (bs.map D.bl)]/\Q (.bl (bs.all id))
theorem Ks:cK DT:=λds P P' g ⟨bs,e,q⟩=>⟨bs,e,g _ q⟩
theorem z0 {K:PySem.W.Frag}{H:Hp}:∀{vs:List V} {bs:List Bool},bM K H vs (bs.map D.bl)->vs=bs.map V.bl
 |[],[],_=>rfl
 |_,_::_,.cons (.bl _) r=>by rw[z0 r];rfl
theorem B1 {K:PySem.W.Frag}{A:Around}(hh:A.handled=none):mT K (λxs H Q=>∃(p:Addr) (bs:List Bool),xs=[.ref p]/\A.handled=none/\cu K H p (bs.map V.bl)/\Q (.bl (bs.all id)) H) DT:=by
 intro H vs ds Q dvs ⟨bs,e,q⟩
 subst e
 cases dvs with
 |cons dv r =>
  cases r
  cases dv with
  |lst h1 h2 =>
   rw[z0 h2] at h1
   exact⟨_,bs,rfl,hh,h1,q _ H (aK.refl _) (.bl _)⟩
theorem Bn (hh:X.A.handled=none)(hg:Gl X "all")(hm:X.mg "all"=none)(ha:ni X (e::es) t)(h1:starEach (e::es) X.env=(false,eval e X.env)::starEach es X.env:=by rfl)(h2:(backTo pos (starEach es X.env)).any (·.1)=false:=by rfl):PD X (.Call (.Name "all" p) (e::es) [] pos) (vB DT t):=vK (fE Be hg hm AE ha.pa (he:=h1) (hpl:=h2)) ha.mono (B1 hh) Ks
end
structure Nz (X:Cx) (C:Addr) (m:Str) (sd:cF) (dd:List D) (k:Nat) (f:Addr) (fd:FuncData) (ps:List Str) (dvs:List V) (ds:List Value):Prop where
 cls:rE X.K C
 Kx:Meth X.K C m f
 fn:cP X.prog X.w X.K X.mg X.base pQ k f fd ps (qu X.K sd)
 mono:cK sd
 room:cH k X.A
 binds:Binds X.K fd ps ds
 vals:Vals dvs ds
 dflt:∀H,bM X.K H dvs dd
structure MH (X:Cx) (C:Addr) (m:Str) (sd:cF) (dd:List D):Prop where
 ex:∃k f fd ps dvs ds,Nz X C m sd dd k f fd ps dvs ds
def pP (ok:Addr->Prop)(m:Str)(sd:Addr->cF)(dd:List D)(ta:ED)(t:AD):ED:=λδ Q=>ta δ λd=>∃C gs,d=.obj C gs/\gs.lookup m=none/\ok C/\t δ λds=>sd C (d::(ds++dd)) Q
section
variable {X:Cx}{ok:Addr->Prop}{o e:Expr}{es:List Expr}{m:Str}{sd:Addr->cF}{dd:List D}{ta:ED}{t:AD}{pos apos:Pos}
def Dn (X:Cx)(m:Str)(sd:Addr->cF)(dd:List D)(ta:TE)(t:TA):TE:=λσ H Q=>ta σ H λx H1=>∃a C dx fs,x=.ref a/\Rd H1 a (.ins C dx fs)/\fs.lookup m=none/\MH X C m (sd C) dd /\
 ∀dvs,(∀H,bM X.K H dvs dd)->t σ H1 λvs H2=>qu X.K (sd C) (x::(vs++dvs)) H2 Q E0
theorem Ay {ta:TE}{pl:Sem Bool}(he:PE X o ta)
  (ht:eval (.Call (.Attribute o m apos) [] [] pos) X.env=(do
   let ov <- eval o X.env
   standAt apos.atName
   let (f,first) <- holding [ov] (getMethod ov m pl)
   callWith pos f first (backTo pos (starEach [] X.env)) (backToKw pos (keywordEach [] X.env))):=by rfl) :
  PE X (.Call (.Attribute o m apos) [] [] pos) (Dn X m sd dd ta GF):=by
 intro pins s σ H Q I h
 refine PySem.W.methodCall_KW (pl:=pl) (b6 (he pins s σ H _ I h) λu s1 ⟨x,H1,I1,rx,a,C,dx,fs,ex,ea,l,⟨k,f,fd,ps,dvs,ds,M⟩,q⟩=>?_) ht
 subst ex
 obtain rfl:u=Value.ref a:=rx
 refine o_ I1 ea M.cls M.Kx l ?_
 exact PySem.W.callWith_K0 (first:=[.ref a]) I1.uu M.Kx.kp (yN (us:=[.ref a]) (vs:=[.ref a]) M.fn M.room M.binds M.vals sI I1 (.cons rfl .nil) (q dvs M.dflt))
theorem Ig (hM:∀C,ok C->MH X C m (sd C) dd)(ma:bX ta)(mt:lG t):bX (pP ok m sd dd ta t):=λδ P P' g h=>ma _ _ _ (λd ⟨C,gs,e,l,M,q⟩=>⟨C,gs,e,l,M,mt _ _ _ (λds k=>by
 obtain⟨_,_,_,_,_,_,M'⟩:=hM C M
 exact M'.mono _ _ _ g k) q⟩) h
theorem FK (hM:∀C,ok C->MH X C m (sd C) dd)(ma:bX ta)(mt:lG t){σ:L2.St}{H:Hp}{Q:VK}(h:oE X.K (pP ok m sd dd ta t) σ H Q):Dn X m sd dd (oE X.K ta) (oA X.K t) σ H Q:=by
 obtain⟨δ,r,h⟩:=h
 refine⟨δ,r,ma _ _ _ (λd ⟨C,gs,ed,l,M,q⟩ v H1 s1 dv=>?_) h⟩
 subst ed
 cases dv with
 | @obj a C dx fs gs h1 h2 =>
  refine⟨_,C,dx,fs,rfl,h1,h2.none l,hM C M,λdvs hd=>⟨δ,r.same s1,mt _ _ _ (λds k vs H2 s2 dvs'=>?_) q⟩⟩
  obtain⟨_,_,_,_,_,_,M'⟩:=hM C M
  exact⟨_,.cons (Dv.same s2 (.obj h1 h2)) (dvs'.append (hd H2)),M'.mono _ _ _ (λd k=>k.on (s1.trans s2)) k⟩
theorem Ec {pl:Sem Bool}(hM:∀C,ok C->MH X C m (sd C) dd)(he:PD X o ta)
  (ht:eval (.Call (.Attribute o m apos) [] [] pos) X.env=(do
   let ov <- eval o X.env
   standAt apos.atName
   let (f,first) <- holding [ov] (getMethod ov m pl)
   callWith pos f first (backTo pos (starEach [] X.env)) (backToKw pos (keywordEach [] X.env))):=by rfl) :
  PD X (.Call (.Attribute o m apos) [] [] pos) (pP ok m sd dd ta tI) :=
 ⟨(Ay he.pe ht).imp λσ H Q h=>by
   have q:=FK (t:=tI) hM he.mono (λδ P P' g h=>g _ h) h
   obtain⟨δ,r,h'⟩:=q
   refine⟨δ,r,he.mono _ _ _ (λd k v H1 s1 dv=>?_) h'⟩
   obtain⟨a,C,dx,fs,e1,e2,l,M,z⟩:=k v H1 s1 dv
   refine⟨a,C,dx,fs,e1,e2,l,M,λdvs hd=>?_⟩
   obtain⟨δ',r',z'⟩:=z dvs hd
   exact z' [] H1 (aK.refl _) .nil,Ig hM he.mono λδ P P' g h=>g _ h⟩
end
abbrev FD:=List (Str × D)
structure rP where
 nx:SD->FD->Prop
 rt:FD->Prop
 fin:FD->Prop
abbrev z8:=rP->SD->FD->Prop
structure rP.Le (E E':rP):Prop where
 nx:∀ δ gs,E.nx δ gs->E'.nx δ gs
 rt:∀gs,E.rt gs->E'.rt gs
 fin:∀gs,E.fin gs->E'.fin gs
abbrev Ga (t:z8):Prop:=∀E E' δ gs,rP.Le E E'->t E δ gs->t E' δ gs
def putD (f:Str)(d:D):FD->FD
 |[]=>[(f,d)]
 | (g,e)::r=>if g=f then(g,d)::r else(g,e)::putD f d r
structure BL (K:PySem.W.Frag) (C a dx:Addr) (H:Hp) (gs:FD):Prop where
 ex:∃fs,H a=some (.ins C dx fs)/\gp K (dG H a dx) fs gs
 ne:dx≠a
def tS (K:PySem.W.Frag)(C a dx:Addr)(H:Hp)(D:Ends):rP :=
 ⟨λδ gs=>∀ σ H',aK (dG H a dx) (dG H' a dx)->br K (dG H' a dx) σ δ->BL K C a dx H' gs->D.nx σ H',λgs=>∀H',aK (dG H a dx) (dG H' a dx)->BL K C a dx H' gs->D.rt .ak H',λgs=>∀ σ H',aK (dG H a dx) (dG H' a dx)->BL K C a dx H' gs->D.nx σ H'⟩
def oI (K:PySem.W.Frag)(C:Addr)(t:Addr->z8):TS:=λD σ H=>∃a dx δ gs,br K (dG H a dx) σ δ/\BL K C a dx H gs/\t a (tS K C a dx H D) δ gs
structure Jv (X:Cx) (C:Addr) (st:List Stmt) (t:Addr->z8):Prop where
 ps:ly X st (oI X.K C t)
 mono:∀a,Ga (t a)
structure Lu (X:Cx) (C:Addr) (st:Stmt) (t:Addr->z8):Prop where
 ps:PS X st (oI X.K C t)
 mono:∀a,Ga (t a)
section
variable {X:Cx}{C:Addr}{st:Stmt}{rest:List Stmt}{t u:Addr->z8}{e:Expr}{te:ED}{pos pos' p:Pos}{f:Str}
theorem Ej {K:PySem.W.Frag}{a dx:Addr}{H H1:Hp}{D:Ends}(s:aK (dG H a dx) (dG H1 a dx)):rP.Le (tS K C a dx H D) (tS K C a dx H1 D) :=
 ⟨λ_ _ h σ H' s' r g=>h σ H' (s.trans s') r g,λ_ h H' s' g=>h H' (s.trans s') g,λ_ h σ H' s' g=>h σ H' (s.trans s') g⟩
def Mi (t u:Addr->z8):Addr->z8:=λa E δ gs=>t a { nx:=u a E,rt:=E.rt,fin:=λ_=>False } δ gs
theorem ao (h1:Lu X C st t)(h2:Jv X C rest u):Jv X C (st::rest) (Mi t u) :=
 ⟨ly.imp (qe h1.ps h2.ps) λD σ H ⟨a,dx,δ,gs,r,g,h⟩=>⟨a,dx,δ,gs,r,g,h1.mono a { nx:=u a (tS X.K C a dx H D),rt:=(tS X.K C a dx H D).rt,fin:=λ_=>False } _ _ _
   ⟨λδ' gs' q σ' H' s' r' g'=>⟨a,dx,δ',gs',r',g',h2.mono a _ _ _ _ (Ej s') q⟩,λgs' q=>q,λgs' q=>q.elim⟩ h⟩,
  λa E E' δ gs l h=>h1.mono a { nx:=u a E,rt:=E.rt,fin:=λ_=>False } _ _ _ ⟨λδ' gs' q=>h2.mono a _ _ _ _ l q,l.rt,λ_ q=>q.elim⟩ h⟩
def Kb (C:Addr)(t:jE):Addr->z8:=λa E δ gs=>t { nx:=λ_=>E.fin gs,rt:=λd=>d=.ak/\E.rt gs } (δ.set 0 (some (.obj C gs)))
def Mh:Addr->z8:=λa E δ gs=>E.fin gs
theorem zC:Jv X C [] Mh:=⟨ly.imp uQ λD σ H ⟨a,dx,δ,gs,r,g,h⟩=>h σ H (aK.refl _) g,λa E E' δ gs l h=>l.fin _ h⟩
def Ka (t:jE):Addr->z8:=λa E δ gs=>t { nx:=λδ'=>E.nx δ' gs,rt:=λd=>d=.ak/\E.rt gs } δ
theorem d5 {t:jE}(h:yj X st t):Lu X C st (Ka t):=by
 refine⟨PS.imp (yI h.ps) λD σ H ⟨a,dx,δ,gs,r,⟨⟨fs,ha,hf⟩,ne⟩,q⟩=>⟨a,dx,C,fs,ha,δ,r,?_⟩,λa E E' δ gs l q=>h.mono { nx:=λδ'=>E.nx δ' gs,rt:=λd=>d=.ak/\E.rt gs } _ _ ⟨λδ' k=>l.nx _ _ k,λd k=>⟨k.1,l.rt _ k.2⟩,λ_ k=>k,λ_ k=>k⟩ q⟩
 refine h.mono { nx:=λδ'=>(tS X.K C a dx H D).nx δ' gs,rt:=λd=>d=.ak/\(tS X.K C a dx H D).rt gs } _ _ ⟨λδ' k σ' H' s' r' z1 z2 _=>?_,λd k v H' s' dv z1 z2 _=>?_,λ_ k=>k.elim,λ_ k=>k.elim⟩ q
 ·have hs:dG (shown H' a dx C fs) a dx=H':=kn z1 z2
  exact k σ' _ (by rw[hs];exact s') (by rw[hs];exact r') ⟨⟨fs,nW,by rw[hs];exact gp.same s' hf⟩,ne⟩
 ·have hs:dG (shown H' a dx C fs) a dx=H':=kn z1 z2
  obtain⟨e,k⟩:=k
  subst e
  cases dv
  exact k _ (by rw[hs];exact s') ⟨⟨fs,nW,by rw[hs];exact gp.same s' hf⟩,ne⟩
theorem gp.put {K:PySem.W.Frag}{H:Hp}{v:V}{d:D}(dv:Dv K H v d):∀{fs:List (Str × V)} {gs:FD},gp K H fs gs->gp K H (ig f v fs) (putD f d gs)
 |_,_,.nil=>.cons dv .nil
 |_,_,.cons (k:=k) h r=>by
  unfold ig putD
  by_cases q:k=f
  ·rw[if_pos q,if_pos q];exact .cons dv r
  ·rw[if_neg q,if_neg q];exact .cons h (gp.put dv r)
theorem gp.length {K:PySem.W.Frag}{H:Hp}:∀{fs:List (Str × V)} {gs:FD},gp K H fs gs->fs.length=gs.length
 |_,_,.nil=>rfl
 |_,_,.cons _ r=>congrArg (·+1) (gp.length r)
def Kd (K:PySem.W.Frag)(C:Addr)(f:Str)(te:ED):Addr->z8:=λa E δ gs=>te δ λd=>δ[0]?=some (some (.adr a))/\rE K C/\dE K C f/\gs.length<1000/\E.nx δ (putD f d gs)
theorem Ke {x:Str}(hN:X.N[0]?=some x)(hv:uq X.env.scope x)(he:PD X e te)(hs:swapsWith e (some (.Attribute (.Name x p) f pos')) pos.line X.env=pure false:=by rfl)(hd:(x == ("__debug__":Str))=false:=by decide)
  (hcd:(x == ("__classdict__":Str))=false:=by decide):Lu X C (.Assign [.Attribute (.Name x p) f pos'] e pos) (Kd X.K C f te):=by
 refine⟨PS.imp (JO (eB hN hv hd hcd) (yE he.pe) hs) λD σ H ⟨a,dx,δ,gs,r,⟨⟨fs,ha,hf⟩,ne⟩,q⟩=>⟨a,dx,C,fs,ha,δ,r,?_⟩,λa E E' δ gs l q=>he.mono _ _ _ (λd ⟨k0,k1,k2,k3,k⟩=>⟨k0,k1,k2,k3,l.nx _ _ k⟩) q⟩
 refine he.mono _ _ _ (λd ⟨k0,k1,k2,k3,k⟩ v H' s' dv z1 z2 _=>?_) q
 obtain⟨w,hw,dw⟩:=r.get 0 _ k0
 cases dw
 refine⟨_,hw,a,C,dx,fs,rfl,nW,k1,k2,by rw[hf.length];exact k3,?_⟩
 rw[BJ]
 have hs:dG (shown H' a dx C (ig f v fs)) a dx=H':=kn z1 z2
 exact k σ _ (by rw[hs];exact s') (by rw[hs];exact r.same s') ⟨⟨_,nW,by rw[hs];exact(gp.same s' hf).put dv⟩,ne⟩
theorem qK {H:Hp}{a dx:Addr}:aK (dG H a dx) H:=λb o h=>by
 unfold dG at h
 split at h
 ·cases h
 ·exact h
theorem BL.dv {K:PySem.W.Frag}{a dx:Addr}{H:Hp}{gs:FD}(g:BL K C a dx H gs):Dv K H (.ref a) (.obj C gs):=by
 obtain⟨⟨fs,h,hf⟩,_⟩:=g
 exact .obj (.of h) (gp.same qK hf)
theorem BL.on {K:PySem.W.Frag}{a dx:Addr}{H H':Hp}{gs:FD}(g:BL K C a dx H gs)(s:aK H H'):BL K C a dx H' gs:=by
 obtain⟨⟨fs,h,hf⟩,ne⟩:=g
 refine⟨⟨fs,s _ _ h,gp.same (λb o q=>?_) hf⟩,ne⟩
 unfold dG at q ⊢
 split at q
 ·cases q
 ·rename_i z;rw[if_neg z];exact s _ _ q
theorem wZ {H H':Hp}{a dx:Addr}(s:aK H H'):aK (dG H a dx) (dG H' a dx):=λb o q=>by
 unfold dG at q ⊢
 split at q
 ·cases q
 ·rename_i z;rw[if_neg z];exact s _ _ q
theorem jP {t:jE}(h:nr X rest t):Jv X C rest (λa E δ gs=>δ[0]?=some (some (.adr a))/\Kb C t a E δ gs):=by
 refine⟨ly.imp h.ps λD σ H ⟨a,dx,δ,gs,r,g,k0,q⟩=>⟨δ.set 0 (some (.obj C gs)),?_,?_⟩,λa E E' δ gs l ⟨k0,q⟩=>⟨k0,h.mono { nx:=λ_=>E.fin gs,rt:=λd=>d=.ak/\E.rt gs } _ _ ⟨λδ' k=>l.fin _ k,λd k=>⟨k.1,l.rt _ k.2⟩,λ_ k=>k,λ_ k=>k⟩ q⟩⟩
 ·obtain⟨w,hw,dw⟩:=r.get 0 _ k0
  cases dw
  have z:=(r.same qK).set 0 g.dv
  rw[show σ.set 0 (some (.ref a))=σ from by
   refine List.ext_getElem? λi=>?_
   rw[List.getElem?_set]
   split
   ·rename_i q2
    subst q2
    split
    ·exact hw.symm
    ·rename_i q3
     rw[List.getElem?_eq_none (by omega)] at hw
     cases hw
   ·rfl] at z
  exact z
 ·refine h.mono { nx:=λ_=>(tS X.K C a dx H D).fin gs,rt:=λd=>d=.ak/\(tS X.K C a dx H D).rt gs } _ _ ⟨λδ' k σ' H' s' r'=>k σ' H' (wZ s') (g.on s'),λd k v H' s' dv=>?_,λ_ k=>k.elim,λ_ k=>k.elim⟩ q
  obtain⟨e,k⟩:=k
  subst e
  cases dv
  exact k H' (wZ s') (g.on s')
end
abbrev Gb:=List D->(FD->Prop)->Prop
abbrev xB (sd:Gb):Prop:=∀ds (P P':FD->Prop),(∀d,P d->P' d)->sd ds P->sd ds P'
def M9 (K:PySem.W.Frag)(C:Addr)(sd:Gb):Sp:=λvs H Q _=>∃a dx vs' ds,vs=.ref a::vs'/\BL K C a dx H []/\bM K (dG H a dx) vs' ds/\sd ds λgs=>∀H',aK (dG H a dx) (dG H' a dx)->BL K C a dx H' gs->Q .ak H'
section
variable {P:Program}{w:World}{K:PySem.W.Frag}{mg:Str->Option Value}{base:Heap}
structure EB (K:PySem.W.Frag) (x qual:Str) (st:Stmt) (f:Addr) (fd:FuncData):Prop where
 ex:∃(oc:Value) (od:Option Addr) (dV kV doc pm:Value) (an:Option Addr) (cdv ct:Value) (osl:Array (Option Value)),
  fd=fnOf x qual (cw st) (bE st) (aC st) dV kV doc pm an cdv ct/\K.lookup f=some ⟨oc,od,.func fd,osl⟩/\codeIn K cdv qual=true
 kp:keepIn K (.ref f)=true
theorem EB.ok {P:Program}{w:World}{K:PySem.W.Frag}{mg:Str->Option Value}{base:Heap}{x qual:Str}{st:Stmt}{f:Addr}{fd:FuncData}{N ps:List Str}{k:Nat}{sp:Sp}(F:EB K x qual st f fd)(S:aE N ps (aC st))(len:∀vs H Q E,sp vs H Q E->vs.length=ps.length)
  (hbody:∀(cdv:Value) (A:Around) (outer:List Env) (s:Shared) (H:Hp) (vs:List V) (Q:VK) (E:XK),cH k (A.deeper (envOfC qual (aC st) s.heap.objs.size f cdv))->sp vs H Q E ->
   ∃t,ly (vH pQ P w K mg base N qual (aC st) f cdv A outer s H E).Im (bE st) t/\t { nx:=λ_ H'=>Q .ak H',rt:=Q } (L2.start N vs) H):cP P w K mg base pQ (k+1) f fd ps sp:=by
 obtain⟨oc,od,dV,kV,doc,pm,an,cdv,ct,osl,rfl,lk,hcd⟩:=F.ex
 refine Gr lk hcd S len λA outer s H vs Q E hr hsp=>?_
 obtain⟨t,h,q⟩:=hbody cdv A outer s H vs Q E hr hsp
 exact⟨t,h.Im,q⟩
theorem OC {x qual:Str}{st:Stmt}{f C:Addr}{fd:FuncData}{N ps:List Str}{k:Nat}{sd:Gb}{t:Addr->z8}(F:EB K x qual st f fd)(S:aE N ps (aC st))(len:∀ds Q,sd ds Q->ds.length+1=ps.length)
  (hb:∀(cdv:Value) (A:Around) (outer:List Env) (s:Shared) (H:Hp) (E:XK),cH k (A.deeper (envOfC qual (aC st) s.heap.objs.size f cdv))->Jv (Bx P w K mg base N qual st f cdv A outer s H E) C (bE st) t)
  (hr:∀a ds Q,sd ds Q->t a { nx:=λ_=>Q,rt:=Q,fin:=Q } (cZ N (.adr a::ds)) []):cP P w K mg base pQ (k+1) f fd ps (M9 K C sd):=by
 refine F.ok S (λvs H Q E ⟨a,dx,vs',ds,e,g,dvs,h⟩=>by rw[e,List.length_cons,dvs.length];exact len ds _ h) (λcdv A outer s H vs Q E hroom ⟨a,dx,vs',ds,e,g,dvs,h⟩=>?_)
 have B:=hb cdv A outer s H E hroom
 subst e
 refine⟨_,B.ps,a,dx,cZ N (.adr a::ds),[],lB (.cons (.adr a) dvs),g,?_⟩
 let Q':FD->Prop:=λgs=>∀H',aK (dG H a dx) (dG H' a dx)->BL K C a dx H' gs->Q .ak H'
 exact B.mono a { nx:=λ_=>Q',rt:=Q',fin:=Q' } _ _ _ ⟨λδ gs q σ H' s' r' g'=>q H' s' g',λgs q H' s' g'=>q H' s' g',λgs q σ H' s' g'=>q H' s' g'⟩ (hr a ds _ h)
end
section
variable {X:Cx}{C f:Addr}{fd:FuncData}{ps:List Str}{sd:Gb}{dd:List D}{dvs:List V}{dls:List Value}{k:Nat}{x:Str}{e:Expr}{es:List Expr}{t:AD}{p pos:Pos}
def HM (C:Addr)(sd:Gb)(dd:List D)(t:AD):ED:=λδ Q=>t δ λds=>sd (ds++dd) λgs=>Q (.obj C gs)
theorem Hq (M:Mk X.K C f)(F:cP X.prog X.w X.K X.mg X.base pQ k f fd ps (M9 X.K C sd))(ms:xB sd)(hr:cH (k+1) X.A)(hg:Gl X x)(hm:X.mg x=some (.ref C))(hb:Binds X.K fd ps dls)(hv:Vals dvs dls)(hd:∀H,bM X.K H dvs dd)
  (ha:ni X (e::es) t)(hdb:(x == ("__debug__":Str))=false:=by decide)(he:starEach (e::es) X.env=(false,eval e X.env)::starEach es X.env:=by rfl)(hpl:(backTo pos (starEach es X.env)).any (·.1)=false:=by rfl) :
  PD X (.Call (.Name x p) (e::es) [] pos) (HM C sd dd t):=by
 refine⟨(Fm M F hr hg hm hb hv sI ha.pa hdb he hpl).imp λσ H Q ⟨δ,r,h⟩=>⟨δ,r,ha.mono _ _ _ (λds q vs H1 s1 dvs' y dx hy hdx ne=>?_) h⟩,λδ P P' g h=>ha.mono _ _ _ (λds q=>ms _ _ _ (λgs z=>g _ z) q) h⟩
 have hs:dG (shown H1 y dx C []) y dx=H1:=kn hy hdx
 refine⟨y,dx,_,_,rfl,⟨⟨[],nW,.nil⟩,ne⟩,?_,ms _ _ _ (λgs z H' s' g'=>⟨rfl,z _ H' ?_ g'.dv⟩) q⟩
 ·show bM X.K (dG (shown H1 y dx C []) y dx) _ _
  rw[hs]
  exact dvs'.append (hd H1)
 ·have s2:aK (dG (shown H1 y dx C []) y dx) (dG H' y dx):=s'
  rw[hs] at s2
  exact s1.trans (s2.trans qK)
end
end DC
namespace L2
open PySem PySem.Spec PyProof.Rows
section
variable {X:Cx}
theorem vo {ns:List Int}:∀{us:List Value},Vals (ns.map V.int) us->IntsAre us ns:=by
 induction ns with
 |nil=>intro us r;cases r;exact .nil
 |cons n ns ih =>
  intro us r
  cases r with
  |cons a r =>
   obtain⟨t,e⟩:=a
   subst e
   exact .cons _ _ (ih r)
theorem Bh:eW X (.builtin "sum") (λxs H Q=>∃(p:Addr) (ns:List Int),xs=[.ref p]/\X.A.handled=none/\cu X.K H p (ns.map V.int)/\Q (.int ns.sum) H):=by
 intro pins s σ H xs us Q I r h
 obtain⟨p,ns,rfl,hh,hS,q⟩:=h
 obtain⟨u,rfl,ru⟩:=vals1 r
 cases(show u=Value.ref p from ru)
 obtain⟨its,rv,pl,_⟩:=I.list hS
 have hl:=pl.isList
 have hi:=vo rv
 obtain⟨xs,hx⟩:=hi.allInts.items
 have hl':s.heap.IsList p (intItems xs):=hx ▸ hl
 refine sum_intListG hh hl' λh' tk t' hk=>?_
 have e1:ns=xs.toList.map (·.1):=by
  rw[<- nums_intItems,<- hx]
  exact(show numsOf its.toArray.toList=ns from hi.numsOf).symm
 have e2:preSum (numAt xs) xs.size=ns.sum:=by
  rw[preSum_eq,List.take_of_length_le (by simp),e1]
 rw[e2]
 exact⟨.int ns.sum,H,I.kept hk,⟨_,rfl⟩,q⟩
end
section
variable {prog:Program}{w:World}{A:Around}{R:Result->Shared->Prop}{I:Addr}{fp wr:List Addr}{n:Nat}{P:Nat->Value->Prop}{St:Nat->Heap->Prop}{E:Value->Shared->Prop}{s:Shared}{Q:Value->Shared->Prop}
abbrev bestAt (S:Addr)(items:Array Value)(h:Heap):Prop:=∃c,h.get? S=some { cls:=.type "list",dict:=none,data:=.seq items c,slots:=#[] }
theorem Cf {kw:List (Str × Value)}(W:Walks prog w A.in1 I fp wr n P St)(bt:Nat->Nat->Bool)(hcmp:CmpOf prog w A.in1 .Gt P bt)(S:Addr)(hSf:S∉fp) :
  ∀(k j:Nat) (s:Shared) (vb:Value),j+1+k=n->St (j+1) s.heap->P (argBest bt j) vb->bestAt S #[vb,vb] s.heap ->
  (∀v h' tk,P (argBest bt (n - 1)) v->(∀b o,b∉wr->b≠S->s.heap.get? b=some o->h'.get? b=some o)->R (.ok (.ret v)) { s with heap:=h',toks:=tk }) ->
  codeAny (model prog w) A (.builtin "max.loop" ⟨[.ref I,.none,.ref S],kw⟩) R s:=by
 have hSw:S∉wr:=λh=>hSf (W.sub _ h)
 have hname:(toString "max"++toString ".loop":String)="max.loop":=by decide
 intro k
 induction k with
 |zero =>
  intro j s vb hj hst hP ⟨c,hS⟩ hR
  refine codeAny_builtin F.entry_max_loop ?_
  rw[Around.under_plainId F.plain_max_loop _]
  show wpAny _ A.in1 (seqItems? (.ref S) >>= _) _ _ s
  refine wpAny_bind (wpAny_seqItems hS rfl ?_)
  show wpAny _ A.in1 (tryCatch (pyNext (.ref I)) _ >>= _) _ _ s
  refine wpAny_bind (wpAny_tryCatch (W.done s _ _ ((show j+1=n by omega) ▸ hst) λh' tk hk=>?_))
  show wpAny _ A.in1 (updateSeq S (λ_=>#[]) >>= _) _ _ _
  refine wpAny_bind (wpAny_updateSeq (hk S _ hSw hS) rfl (wpAny_bind (wpAny_letGo (wpAny_pure ?_))))
  exact hR vb _ tk (by rw[show n - 1=j by omega];exact hP) λb o h1 h2 e=>(Heap.get?_update_other _ _ (Ne.symm h2)).trans (hk b o h1 e)
 |succ k ih =>
  intro j s vb hj hst hP ⟨c,hS⟩ hR
  refine codeAny_builtin F.entry_max_loop ?_
  rw[Around.under_plainId F.plain_max_loop _]
  show wpAny _ A.in1 (seqItems? (.ref S) >>= _) _ _ s
  refine wpAny_bind (wpAny_seqItems hS rfl ?_)
  show wpAny _ A.in1 (tryCatch (pyNext (.ref I)) _ >>= _) _ _ s
  refine wpAny_bind (wpAny_tryCatch (W.item (j+1) s _ _ (by omega) hst λv h' tk hv hst' hk=>?_))
  have hS':=hk S _ hSw hS
  show wpAny _ A.in1 (tryCatch (holding [v,v] (richCompare .Gt v vb >>= _)) _ >>= _) _ _ _
  refine wpAny_bind (wpAny_tryCatch (wpAny_holding (wpAny_bind (hcmp (j+1) (argBest bt j) v vb _ _ _ hv hP ?_))))
  refine wpAny_bind (wpAny_holding (wpAny_truthy_bool (wpAny_bind (wpAny_letGo (wpAny_pure ?_)))))
  cases hb:bt (j+1) (argBest bt j) with
  |true =>
   simp only[if_true]
   refine wpAny_bind (wpAny_updateSeq hS' rfl (wpAny_bind (wpAny_letGo ?_)))
   rw[hname]
   refine wpAny_pure ⟨plainId_quiet F.plain_max_loop _,ih (j+1) _ v (by omega) (W.frame _ _ _ hst' λb hbf o e=>?_) (by simp only[argBest,hb,if_true];exact hv) ⟨_,Heap.get?_update_self _ hS' rfl⟩ λv' h2 tk2 hp2 hk2=>?_⟩
   ·exact(Heap.get?_update_other _ _ (λh:S=b=>hSf (by rw[h];exact hbf))).trans e
   ·exact hR v' h2 tk2 hp2 λb o h1 h3 e=>hk2 b o h1 h3 ((Heap.get?_update_other _ _ (Ne.symm h3)).trans (hk b o h1 e))
  |false =>
   simp only[Bool.false_eq_true,if_false]
   refine wpAny_bind (wpAny_letGo ?_)
   rw[hname]
   refine wpAny_pure ⟨plainId_quiet F.plain_max_loop _,ih (j+1) _ vb (by omega) hst' (by simp only[argBest,hb,Bool.false_eq_true,if_false];exact hP) ⟨c,hS'⟩ λv' h2 tk2 hp2 hk2=>?_⟩
   exact hR v' h2 tk2 hp2 λb o h1 h3 e=>hk2 b o h1 h3 (hk b o h1 e)
theorem Ce {d:Value}(W:Walks prog w A.in1 I fp wr n P St)(bt:Nat->Nat->Bool)(hcmp:CmpOf prog w A.in1 .Gt P bt)(S:Addr)(hSf:S∉fp){s:Shared}(hst:St 0 s.heap)(hS:bestAt S #[] s.heap)
  (hR:∀v h' tk,(if n=0 then v=d else P (argBest bt (n - 1)) v)->(∀b o,b∉wr->b≠S->s.heap.get? b=some o->h'.get? b=some o)->R (.ok (.ret v)) { s with heap:=h',toks:=tk }) :
  codeAny (model prog w) A (.builtin "max.loop" ⟨[.ref I,.none,.ref S],[("default",d)]⟩) R s:=by
 have hSw:S∉wr:=λh=>hSf (W.sub _ h)
 have hname:(toString "max"++toString ".loop":String)="max.loop":=by decide
 obtain⟨c,hS⟩:=hS
 refine codeAny_builtin F.entry_max_loop ?_
 rw[Around.under_plainId F.plain_max_loop _]
 show wpAny _ A.in1 (seqItems? (.ref S) >>= _) _ _ s
 refine wpAny_bind (wpAny_seqItems hS rfl ?_)
 show wpAny _ A.in1 (tryCatch (pyNext (.ref I)) _ >>= _) _ _ s
 by_cases hn:n=0
 ·refine wpAny_bind (wpAny_tryCatch (W.done s _ _ (hn ▸ hst) λh' tk hk=>?_))
  refine wpAny_bind (wpAny_rule (wpAny_pure ?_))
  exact hR d h' tk (by rw[if_pos hn]) λb o h1 _ e=>hk b o h1 e
 ·refine wpAny_bind (wpAny_tryCatch (W.item 0 s _ _ (by omega) hst λv h' tk hv hst' hk=>?_))
  have hS':=hk S _ hSw hS
  show wpAny _ A.in1 (updateSeq S (λ_=>#[v,v]) >>= _) _ _ _
  refine wpAny_bind (wpAny_updateSeq hS' rfl ?_)
  rw[hname]
  refine wpAny_pure ⟨plainId_quiet F.plain_max_loop _,Cf W bt hcmp S hSf (n - 1) 0 _ v (by omega) (W.frame _ _ _ hst' λb hbf o e=>?_) hv ⟨_,Heap.get?_update_self _ hS' rfl⟩ λv' h2 tk2 hp2 hk2=>?_⟩
  ·exact(Heap.get?_update_other _ _ (λh:S=b=>hSf (by rw[h];exact hbf))).trans e
  ·exact hR v' h2 tk2 (by rw[if_neg hn];exact hp2) λb o h1 h3 e=>hk2 b o h1 h3 ((Heap.get?_update_other _ _ (Ne.symm h3)).trans (hk b o h1 e))
end
def rM (d:Int):List Int->Int
 |[]=>d
 |x::xs=>xs.foldl max x
theorem ml:∀(xs:List Int) (a:Int),a<=xs.foldl max a/\∀x∈xs,x<=xs.foldl max a
 |[],a=>⟨Int.le_refl _,λx h=>nomatch h⟩
 |y::ys,a=>by
  obtain⟨h1,h2⟩:=ml ys (max a y)
  refine⟨Int.le_trans (Int.le_max_left _ _) h1,λx h=>?_⟩
  rcases List.mem_cons.mp h with rfl|h
  ·exact Int.le_trans (Int.le_max_right _ _) h1
  ·exact h2 x h
theorem lL:∀(xs:List Int) (a:Int),xs.foldl max a=a\/xs.foldl max a∈xs
 |[],a=>.inl rfl
 |y::ys,a=>by
  rcases lL ys (max a y) with h|h
  ·rw[List.foldl_cons,h]
   rcases Int.le_total a y with q|q
   ·rw[Int.max_eq_right q];exact .inr (List.mem_cons_self)
   ·rw[Int.max_eq_left q];exact .inl rfl
  ·exact .inr (List.mem_cons_of_mem _ h)
theorem FI {d m:Int}{ns:List Int}(h:m∈ns)(g:∀x∈ns,x<=m):rM d ns=m:=by
 cases ns with
 |nil=>cases h
 |cons x xs =>
  obtain⟨h1,h2⟩:=ml xs x
  have a1:m<=rM d (x::xs):=by
   rcases List.mem_cons.mp h with rfl|h
   ·exact h1
   ·exact h2 m h
  have a2:rM d (x::xs)<=m:=by
   rcases lL xs x with q|q
   ·show xs.foldl max x<=m
    rw[q];exact g x List.mem_cons_self
   ·exact g _ (List.mem_cons_of_mem _ q)
  exact Int.le_antisymm a2 a1
theorem o3 (val:Nat->Int):∀k,argBest (λi j=>decide (val i > val j)) k<=k/\∀i,i<=k->val i<=val (argBest (λi j=>decide (val i > val j)) k)
 | 0=>⟨Nat.le_refl _,λi h=>by cases Nat.le_zero.mp h;exact Int.le_refl _⟩
 |k+1=>by
  obtain⟨h1,h2⟩:=o3 val k
  rw[argBest]
  by_cases q:val (k+1) > val (argBest (λi j=>decide (val i > val j)) k)
  ·rw[if_pos (decide_eq_true q)]
   refine⟨Nat.le_refl _,λi h=>?_⟩
   rcases Nat.lt_or_ge i (k+1) with z|z
   ·exact Int.le_trans (h2 i (by omega)) (Int.le_of_lt q)
   ·rw[show i=k+1 by omega];exact Int.le_refl _
  ·rw[if_neg (by simpa using q)]
   refine⟨Nat.le_succ_of_le h1,λi h=>?_⟩
   rcases Nat.lt_or_ge i (k+1) with z|z
   ·exact h2 i (by omega)
   ·rw[show i=k+1 by omega];exact Int.not_lt.mp q
section
variable {X:Cx}
theorem AA (a d:Value):argsOk "max" ⟨[a],[("default",d)]⟩:=by unfold argsOk;kernel_rfl
theorem Ii {pins:List (Addr × Obj)}{s:Shared}{σ:St}{H:Hp}{Q:VK}{p:Addr}{ns:List Int}{d:Int}{t:Tok}(I:Inv X pins σ H s)(hh:X.A.handled=none)(hS:cu X.K H p (ns.map V.int))(q:Q (.int (rM d ns)) H) :
  wpAny (model X.prog X.w) X.A (call (.builtin "max") [.ref p] [("default",.int d t)]) (EP X pins σ Q) X.xe s:=by
 obtain⟨its,rv,pl,_⟩:=I.list hS
 have hl:=pl.isList
 have hi:=vo rv
 have hlt:p<s.heap.objs.size:=pl.lt
 have hlen:its.length=ns.length:=by have:=rv.length;rw[List.length_map] at this;exact this.symm
 have hname:(toString "max"++toString ".loop":String)="max.loop":=by decide
 have hval:∀(i:Nat) (v:Value),its.toArray[i]?=some v->∃t,v=.int (ns.getD i 0) t:=λi v e=>by
  have e':its[i]?=some v:=by simpa using e
  have hb:i<ns.length:=by have:=(List.getElem?_eq_some_iff.mp e').1;omega
  obtain⟨u,h1,h2⟩:=rv.get (i:=i) (x:=V.int ns[i]) (by rw[List.getElem?_map,List.getElem?_eq_getElem hb];rfl)
  rw[e'] at h1
  cases h1
  obtain⟨t,ht⟩:=(show ∃t,v=Value.int ns[i] t from h2)
  exact⟨t,by rw[ht,List.getD_eq_getElem?_getD,List.getElem?_eq_getElem hb];rfl⟩
 refine wpAny_call (codeAny_call_builtin F.plain_max F.entry_max ?_)
 simp only[checkBuiltinCall,F.kind_max]
 have ha:argsOk "max" ⟨[.ref p],[("default",.int d t)]⟩:=AA _ _
 have body:wpAny (model X.prog X.w) X.A.in1 (Builtin.«max» ⟨[.ref p],[("default",.int d t)]⟩) (λfin s'=>match fin with
   |.done f=>(match (Except.ok f:Result) with|.ok (.ret v)=>EP X pins σ Q v s'|.ok _=>False|.error e=>X.xe e s')
   |.again c'=>c'.quiet=true/\codeAny (model X.prog X.w) X.A c' (λr s'=>match r with|.ok (.ret v)=>EP X pins σ Q v s'|.ok _=>False|.error e=>X.xe e s') s') X.xe s:=by
  show wpAny _ X.A.in1 (Builtin.Builtins.bindParams "max" ["key","default"] 0 ⟨[],[("default",.int d t)]⟩ >>= _) _ _ s
  refine wpAny_bind (wpAny_of_eq (show Builtin.Builtins.bindParams "max" ["key","default"] 0 ⟨[],[("default",.int d t)]⟩=pure [none,some (.int d t)] from rfl) ?_)
  refine wpAny_bind (wpAny_pure ?_)
  refine wpAny_bind (wpAny_pyIter_list hl ?_)
  refine wpAny_bind (wpAny_newObj_type ?_)
  rw[hname]
  have W:=Walks.list (prog:=X.prog) (w:=X.w) (A:=X.A.in1) hh s.heap.objs.size p (Nat.ne_of_lt hlt) its.toArray
  refine wpAny_pure ⟨plainId_quiet F.plain_max_loop _,Ce W _ (CmpOf.ints_gt (λi=>ns.getD i 0) hval) ((s.heap.push _).objs.size) (λhm=>?_) (W.frame _ _ _ ⟨⟨_,Heap.get?_push_size _ rfl,rfl,rfl⟩,hl.push _⟩ λb _ o e=>Heap.get?_push_of_some _ e) ⟨_,Heap.get?_push_size _ rfl⟩ λv h' tk hv hk=>?_⟩
  ·have hsz:(s.heap.push { cls:=.type "list_iterator",data:=.fields #[.ref p,.int 0 0] }).objs.size=s.heap.objs.size+1:=Heap.size_push ..
   rcases List.mem_cons.mp hm with z|z
   ·exact absurd (hsz.symm.trans z) (Nat.succ_ne_self _)
   ·exact absurd (hsz.symm.trans (List.mem_singleton.mp z)) (Nat.ne_of_gt (Nat.lt_succ_of_lt hlt))
  ·have hkept:∀b o,s.heap.get? b=some o->h'.get? b=some o:=λb o e=>hk b o (λhm=>by
    exact absurd (List.mem_singleton.mp hm) (Nat.ne_of_lt (Heap.lt_size e))) (λhm=>by
    rw[Heap.size_push] at hm
    exact absurd hm (Nat.ne_of_lt (Nat.lt_succ_of_lt (Heap.lt_size e)))) (Heap.get?_push_of_some _ (Heap.get?_push_of_some _ e))
   have ev:∃t,v=.int (rM d ns) t:=by
    by_cases hn:its.toArray.size=0
    ·rw[if_pos hn] at hv
     have hz:ns=[]:=List.length_eq_zero_iff.mp (by rw[<- hlen];simpa using hn)
     rw[hz]
     exact⟨_,hv⟩
    ·rw[if_neg hn] at hv
     obtain⟨b1,b2⟩:=o3 (λi=>ns.getD i 0) (its.toArray.size - 1)
     have hsz:its.toArray.size=ns.length:=by rw[List.size_toArray,hlen]
     obtain⟨t',e⟩:=hval _ v hv
     refine⟨t',?_⟩
     rw[e,FI (m:=ns.getD (argBest (λi j=>decide (ns.getD i 0 > ns.getD j 0)) (its.toArray.size - 1)) 0) ?_ λx hx=>?_]
     ·rw[List.getD_eq_getElem?_getD,List.getElem?_eq_getElem (by omega)]
      exact List.getElem_mem _
     ·obtain⟨i,hi',rfl⟩:=List.getElem_of_mem hx
      have z:=b2 i (by omega)
      simp only[List.getD_eq_getElem?_getD,List.getElem?_eq_getElem hi',Option.getD_some] at z
      simpa only[List.getD_eq_getElem?_getD] using z
   obtain⟨t',rfl⟩:=ev
   exact⟨.int (rM d ns),H,I.kept hkept,⟨_,rfl⟩,q⟩
 cases hsig:Manifest.signature? "max" with
 |none=>exact wpAny_pure body
 |some sig =>
  simp only[argsOk,hsig] at ha
  have h2:Bind.checkArgs "max" sig ⟨[.ref p],[("default",.int d t)]⟩=pure ():=ha
  show wpAny _ X.A.in1 (Bind.checkArgs "max" sig ⟨[.ref p],[("default",.int d t)]⟩) _ _ s
  rw[h2];exact wpAny_pure body
end
section
variable {X:Cx}{e c:Expr}{te tc:TE}{p pos kp:Pos}
def DL (X:Cx)(x y:V)(H:Hp)(Q:VK):Prop:=∃(l:Addr) (ns:List Int) (d:Int),x=.ref l/\y=.int d/\X.A.handled=none/\cu X.K H l (ns.map V.int)/\Q (.int (rM d ns)) H
def one (F:V->Hp->Prop)(vs:List V)(H:Hp):Prop:=match vs with
 |[x]=>F x H
 |_=>False
theorem Fn (hg:Gl X "max")(hm:X.mg "max"=none)(he:PE X e te)(hc:PE X c tc)(h1:starEach [e] X.env=(false,eval e X.env)::starEach [] X.env:=by rfl)(hv:bootBuiltins "max"=some (.builtin "max"):=by decide +kernel) :
  PE X (.Call (.Name "max" p) [e] [⟨some "default",c,kp⟩] pos) (Jj (DL X) te tc):=by
 intro pins s σ H Q I h
 refine wpAny_Call_Name_kw (oK I hg hm hv ?_)
 refine callWith_kw (env:=X.env) ?_ (by rw[h1];rfl) (by rw[h1];rfl) rfl rfl
 refine b6 ((eA he ic h1) pos pins s σ H (one λx H1=>tc σ H1 λy H2=>DL X x y H2 Q) I h) λus s1 ⟨vs,H1,I1,r1,q⟩=>?_
 match vs,r1,q with
 |[x],r1,q =>
  obtain⟨u,rfl,ru⟩:=vals1 r1
  refine b6 ((Fp (nm:=some "default") (kpos:=kp) hc JN) pos pins s1 σ H1 (one λy H2=>DL X x y H2 Q) I1 q) λws s2 ⟨zs,H2,I2,r2,k⟩=>?_
  match zs,r2,k with
  |[y],r2,k =>
   obtain⟨l,ns,d,e1,e2,hh,hS,kk⟩:=k
   subst e1 e2
   obtain⟨w,rfl,rw'⟩:=vals1 r2
   obtain⟨t,rfl⟩:=(show ∃t,w=Value.int d t from rw')
   cases(show u=Value.ref l from ru)
   exact Ii I2 hh hS kk
end
end L2
namespace DC
open PySem PySem.Spec PyProof.Rows L2
section
variable {X:Cx}{e c:Expr}{te tc:ED}{p pos kp:Pos}{es:List Expr}{t:AD}
theorem boot_sum:bootBuiltins "sum"=some (.builtin "sum"):=by decide +kernel
def De:cF:=λds Q=>∃(ns:List Int),ds=[.lst (ns.map D.int)]/\Q (.int ns.sum)
theorem Kw:cK De:=λds P P' g ⟨bs,e,q⟩=>⟨bs,e,g _ q⟩
theorem rC {K:PySem.W.Frag}{H:Hp}:∀{vs:List V} {bs:List Int},bM K H vs (bs.map D.int)->vs=bs.map V.int
 |[],[],_=>rfl
 |_,_::_,.cons (.int _) r=>by rw[rC r];rfl
theorem B4 {K:PySem.W.Frag}{A:Around}(hh:A.handled=none):mT K (λxs H Q=>∃(p:Addr) (ns:List Int),xs=[.ref p]/\A.handled=none/\cu K H p (ns.map V.int)/\Q (.int ns.sum) H) De:=by
 intro H vs ds Q dvs ⟨bs,e,q⟩
 subst e
 cases dvs with
 |cons dv r =>
  cases r
  cases dv with
  |lst h1 h2 =>
   rw[rC h2] at h1
   exact⟨_,bs,rfl,hh,h1,q _ H (aK.refl _) (.int _)⟩
theorem KJ (hh:X.A.handled=none)(hg:Gl X "sum")(hm:X.mg "sum"=none)(ha:ni X (e::es) t)(h1:starEach (e::es) X.env=(false,eval e X.env)::starEach es X.env:=by rfl)(h2:(backTo pos (starEach es X.env)).any (·.1)=false:=by rfl):PD X (.Call (.Name "sum" p) (e::es) [] pos) (vB De t):=vK (fE Bh hg hm boot_sum ha.pa (he:=h1) (hpl:=h2)) ha.mono (B4 hh) Kw
def Gm:F2:=λd e Q=>∃(ns:List Int) (i:Int),d=.lst (ns.map D.int)/\e=.int i/\Q (.int (rM i ns))
theorem Ie:e8 Gm:=λd e P P' g ⟨ns,i,e1,e2,q⟩=>⟨ns,i,e1,e2,g _ q⟩
def Lq:ED->ED->ED:=q_ Gm
theorem Hr (hh:X.A.handled=none)(hg:Gl X "max")(hm:X.mg "max"=none)(he:PD X e te)(hc:PD X c tc)(h1:starEach [e] X.env=(false,eval e X.env)::starEach [] X.env:=by rfl):PD X (.Call (.Name "max" p) [e] [⟨some "default",c,kp⟩] pos) (Lq te tc):=by
 refine vJ (t:=oE X.K te) (Fn hg hm he.pe hc.pe h1) he.mono hc.mono ?_ Ie
 intro H x y d e Q hx hy ⟨ns,i,e1,e2,q⟩
 subst e1 e2
 cases hy
 cases hx with
 |lst g1 g2 =>
  rw[rC g2] at g1
  exact⟨_,ns,i,rfl,rfl,hh,g1,q _ H (aK.refl _) (.int _)⟩
end
inductive MD where
 |lst (ds:List D)|ins (C:Addr) (gs:FD)|dK (kvs:List (Key × D))
abbrev Mu:=List (Addr × MD)
def HN (K:PySem.W.Frag)(H:Hp)(L:List Addr)(a:Addr):MD->Prop
 |.lst ds=>∃vs,H a=some (.lst vs)/\bM K (aN H L) vs ds
 |.ins C gs=>∃dx fs,H a=some (.ins C dx fs)/\H dx=some (.own a)/\dx∈L/\gp K (aN H L) fs gs
 |.dK kvs=>∃ws,H a=some (.dK ws)/\e7 K (aN H L) ws kvs
structure dZ (K:PySem.W.Frag) (H:Hp) (μ:Mu) (L:List Addr):Prop where
 at_:∀p∈μ,p.1∈L/\HN K H L p.1 p.2
 FQ:(μ.map (·.1)).Nodup
 dG:∀b∈L,dC H L b
 Ea:∀b∈L,(∃m,(b,m)∈μ)\/∃a,H b=some (.own a)
section
variable {K:PySem.W.Frag}{H H1 H4:Hp}{μ:Mu}{L:List Addr}
theorem bV (s:aK H H1):aK (aN H L) (aN H1 L):=λb o h=>by
 obtain⟨h1,h2⟩:=de h
 rw[ax h1]
 exact s _ _ h2
theorem HN.on {a:Addr}(s:aK H H1):∀{m:MD},HN K H L a m->HN K H1 L a m
 |.lst _,⟨vs,h,d⟩=>⟨vs,s _ _ h,bM.same (bV s) d⟩
 |.ins _ _,⟨dx,fs,h,h2,h3,d⟩=>⟨dx,fs,s _ _ h,s _ _ h2,h3,gp.same (bV s) d⟩
 |.dK _,⟨ws,h,d⟩=>⟨ws,s _ _ h,e7.same (bV s) d⟩
theorem IC {a:Addr}(s:aK H H1)(h:dC H L a):dC H1 L a:=by
 cases h with
 |lst xs h=>exact .lst xs (s _ _ h)
 |dK xs h=>exact .dK xs (s _ _ h)
 |ins C dx fs h hd=>exact .ins C dx fs (s _ _ h) hd
 |own C b fs h hb hi=>exact .own C b fs (s _ _ h) hb (s _ _ hi)
theorem dZ.on (g:dZ K H μ L)(s:aK H H1):dZ K H1 μ L :=
 ⟨λp hp=>⟨(g.at_ p hp).1,(g.at_ p hp).2.on s⟩,g.FQ,λb hb=>IC s (g.dG b hb),λb hb=>(g.Ea b hb).imp id fun⟨a,q⟩=>⟨a,s _ _ q⟩⟩
theorem dZ.show (g:dZ K H μ L)(z:∀b∈L,H4 b=none)(s:aK (aN H L) H4):dZ K (aa H4 H L) μ L:=by
 have e:aN (aa H4 H L) L=H4:=bK z
 refine⟨λp hp=>⟨(g.at_ p hp).1,?_⟩,g.FQ,λb hb=>?_,λb hb=>(g.Ea b hb).imp id fun⟨a,q⟩=>⟨a,by rw[af hb];exact q⟩⟩
 ·obtain⟨hp1,ha⟩:=g.at_ p hp
  obtain⟨a,m⟩:=p
  cases m with
  |lst ds=>obtain⟨vs,h,d⟩:=ha;exact⟨vs,by rw[af hp1];exact h,by rw[e];exact bM.same s d⟩
  |ins C gs=>obtain⟨dx,fs,h,h2,h3,d⟩:=ha;exact⟨dx,fs,by rw[af hp1];exact h,by rw[af h3];exact h2,h3,by rw[e];exact gp.same s d⟩
  |dK kvs=>obtain⟨ws,h,d⟩:=ha;exact⟨ws,by rw[af hp1];exact h,by rw[e];exact e7.same s d⟩
 ·have w:=g.dG b hb
  cases w with
  |lst xs h=>exact .lst xs (by rw[af hb];exact h)
  |dK xs h=>exact .dK xs (by rw[af hb];exact h)
  |ins C dx fs h hd=>exact .ins C dx fs (by rw[af hb];exact h) hd
  |own C c fs h hc hi=>exact .own C c fs (by rw[af hb];exact h) hc (by rw[af hc];exact hi)
theorem dZ.nil:dZ K H [] []:=⟨λp hp=>(nomatch hp),List.nodup_nil,λb hb=>(nomatch hb),λb hb=>(nomatch hb)⟩
def MD.d:MD->D
 |.lst ds=>.lst ds
 |.ins C gs=>.obj C gs
 |.dK kvs=>.dK kvs
def ay (μ:Mu):D->D
 |.adr a=>((μ.lookup a).map MD.d).getD (.adr a)
 |d=>d
def bB (μ:Mu)(δ:SD):SD:=δ.map (Option.map (ay μ))
theorem mem_of_lookup {a:Addr}{m:MD}:∀{μ:Mu},μ.lookup a=some m->(a,m)∈μ
 |[],h=>by cases h
 | (b,n)::r,h=>by
  rw[List.lookup_cons] at h
  cases q:a == b with
  |true=>rw[q] at h;cases h;rw[beq_iff_eq.mp q];exact List.mem_cons_self
  |false=>rw[q] at h;exact List.mem_cons_of_mem _ (mem_of_lookup h)
theorem dZ.view (g:dZ K H μ L){v:V}{d:D}(h:Dv K (aN H L) v d):Dv K H v (ay μ d):=by
 cases h with
 |adr a =>
  show Dv K H (.ref a) (((μ.lookup a).map MD.d).getD (.adr a))
  cases q:μ.lookup a with
  |none=>exact .adr a
  |some m =>
   show Dv K H (.ref a) m.d
   obtain⟨_,ha⟩:=g.at_ _ (mem_of_lookup q)
   cases m with
   |lst ds=>obtain⟨vs,h,d⟩:=ha;exact .lst (cu.of h) (bM.same bN d)
   |ins C gs=>obtain⟨dx,fs,h,h2,h3,d⟩:=ha;exact .obj (.of h) (gp.same bN d)
   |dK kvs=>obtain⟨ws,h,d⟩:=ha;exact .dK (.of h) (e7.same bN d)
 |ak=>exact .ak
 |bl b=>exact .bl b
 |int i=>exact .int i
 |str x=>exact .str x
 |lst h1 h2=>exact Dv.same bN (.lst h1 h2)
 |tup h1 h2=>exact Dv.same bN (.tup h1 h2)
 |obj h1 h2=>exact Dv.same bN (.obj h1 h2)
 |dK h1 h2=>exact Dv.same bN (.dK h1 h2)
 |dT h1 h2=>exact Dv.same bN (.dT h1 h2)
 |exc h1 h2 h3=>exact Dv.same bN (.exc h1 h2 h3)
theorem dZ.bB (g:dZ K H μ L){σ:L2.St}{δ:SD}(r:br K (aN H L) σ δ):br K H σ (bB μ δ):=by
 refine⟨by unfold DC.bB;rw[List.length_map];exact r.len,λi d h=>?_⟩
 unfold DC.bB at h
 rw[List.getElem?_map] at h
 cases q:δ[i]? with
 |none=>rw[q] at h;cases h
 |some o =>
  rw[q] at h
  cases o with
  |none=>cases h
  |some d' =>
   cases h
   obtain⟨v,hv,dv⟩:=r.get i d' q
   exact⟨v,hv,g.view dv⟩
end
structure fb where
 nx:SD->Mu->Prop
 rt:D->Mu->Prop
 bk:SD->Mu->Prop:=λ_ _=>False
 ct:SD->Mu->Prop:=λ_ _=>False
abbrev fL:=fb->SD->Mu->Prop
structure fb.Le (E E':fb):Prop where
 nx:∀ δ μ,E.nx δ μ->E'.nx δ μ
 rt:∀d μ,E.rt d μ->E'.rt d μ
 bk:∀ δ μ,E.bk δ μ->E'.bk δ μ
 ct:∀ δ μ,E.ct δ μ->E'.ct δ μ
abbrev uy (t:fL):Prop:=∀E E' δ μ,fb.Le E E'->t E δ μ->t E' δ μ
def kM (K:PySem.W.Frag)(H:Hp)(L:List Addr)(Q:L2.St->Hp->Prop):SD->Mu->Prop:=λδ μ=>∀ σ H' L',aK (aN H L) (aN H' L')->br K (aN H' L') σ δ->dZ K H' μ L'->Q σ H'
def kR (K:PySem.W.Frag)(H:Hp)(L:List Addr)(Q:VK):D->Mu->Prop:=λd μ=>∀v H' L',aK (aN H L) (aN H' L')->dZ K H' μ L'->Dv K (aN H' L') v d->Q v H'
def mB (K:PySem.W.Frag)(H:Hp)(L:List Addr)(D:Ends):fb:=⟨kM K H L D.nx,kR K H L D.rt,kM K H L D.bk,kM K H L D.ct⟩
theorem km {K:PySem.W.Frag}{H H1:Hp}{L L1:List Addr}{D:Ends}(s:aK (aN H L) (aN H1 L1)):fb.Le (mB K H L D) (mB K H1 L1 D) :=
 ⟨λ_ _ h σ H' L' s' r g=>h σ H' L' (s.trans s') r g,λ_ _ h v H' L' s' g d=>h v H' L' (s.trans s') g d,λ_ _ h σ H' L' s' r g=>h σ H' L' (s.trans s') r g,λ_ _ h σ H' L' s' r g=>h σ H' L' (s.trans s') r g⟩
def oM (K:PySem.W.Frag)(t:fL):TS:=λD σ H=>∃ δ μ L,br K (aN H L) σ δ/\dZ K H μ L/\t (mB K H L D) δ μ
structure p7 (X:Cx) (st:Stmt) (t:fL):Prop where
 ps:PS X st (oM X.K t)
 mono:uy t
structure uo (X:Cx) (st:List Stmt) (t:fL):Prop where
 ps:ly X st (oM X.K t)
 mono:uy t
section
variable {X:Cx}{st:Stmt}{rest body els:List Stmt}{t u:fL}{e c:Expr}{te:ED}{uc:TD}{pos:Pos}
def v7:fL:=λE δ μ=>E.nx δ μ
def oR (t u:fL):fL:=λE δ μ=>t { E with nx:=u E } δ μ
theorem dH:uo X [] v7:=⟨ly.imp uQ λD σ H ⟨δ,μ,L,r,g,h⟩=>h σ H L (aK.refl _) r g,λE E' δ μ l h=>l.nx _ _ h⟩
theorem aM (h1:p7 X st t)(h2:uo X rest u):uo X (st::rest) (oR t u) :=
 ⟨ly.imp (qe h1.ps h2.ps) λD σ H ⟨δ,μ,L,r,g,h⟩=>⟨δ,μ,L,r,g,h1.mono { mB X.K H L D with nx:=u (mB X.K H L D)} _ _ _ ⟨λδ' μ' q σ' H' L' s' r' g'=>⟨δ',μ',L',r',g',h2.mono _ _ _ _ (km s') q⟩,λ_ _ q=>q,λ_ _ q=>q,λ_ _ q=>q⟩ h⟩,
  λE E' δ μ l h=>h1.mono { E with nx:=u E } _ _ _ ⟨λδ' μ' q=>h2.mono _ _ _ _ l q,l.rt,l.bk,l.ct⟩ h⟩
theorem aS (h1:p7 X st t):uo X [st] t:=⟨zc h1.ps,h1.mono⟩
def v5 (t:jE):fL:=λE δ μ=>t { nx:=λδ'=>E.nx δ' μ,rt:=λd=>E.rt d μ,bk:=λδ'=>E.bk δ' μ,ct:=λδ'=>E.ct δ' μ } δ
theorem zM {t:jE}(m:yi t){D:Ends}{σ:L2.St}{H:Hp}(h:oM X.K (v5 t) D σ H):Mb (oS X.K t) D σ H:=by
 obtain⟨δ,μ,L,r,g,h⟩:=h
 refine⟨L,g.dG,δ,r,?_⟩
 refine m { nx:=λδ'=>(mB X.K H L D).nx δ' μ,rt:=λd=>(mB X.K H L D).rt d μ,bk:=λδ'=>(mB X.K H L D).bk δ' μ,ct:=λδ'=>(mB X.K H L D).ct δ' μ } _ _ ⟨λδ' q σ' H' s' r' z=>?_,λd q v H' s' dv z=>?_,λδ' q σ' H' s' r' z=>?_,λδ' q σ' H' s' r' z=>?_⟩ h
 ·have e:aN (aa H' H L) L=H':=bK z
  exact q σ' _ L (by rw[e];exact s') (by rw[e];exact r') (g.show z s')
 ·have e:aN (aa H' H L) L=H':=bK z
  exact q v _ L (by rw[e];exact s') (g.show z s') (by rw[e];exact dv)
 ·have e:aN (aa H' H L) L=H':=bK z
  exact q σ' _ L (by rw[e];exact s') (by rw[e];exact r') (g.show z s')
 ·have e:aN (aa H' H L) L=H':=bK z
  exact q σ' _ L (by rw[e];exact s') (by rw[e];exact r') (g.show z s')
theorem Ca {t:jE}(m:yi t):uy (v5 t):=λE E' δ μ l h=>m { nx:=λδ'=>E.nx δ' μ,rt:=λd=>E.rt d μ,bk:=λδ'=>E.bk δ' μ,ct:=λδ'=>E.ct δ' μ } _ _ ⟨λ_ q=>l.nx _ _ q,λ_ q=>l.rt _ _ q,λ_ q=>l.bk _ _ q,λ_ q=>l.ct _ _ q⟩ h
theorem cb {t:jE}(h:yj X st t):p7 X st (v5 t):=⟨PS.imp (DH h.ps) λD σ H q=>zM h.mono q,Ca h.mono⟩
theorem qY {t:jE}(h:nr X rest t):uo X rest (v5 t):=⟨ly.imp (Ft h.ps) λD σ H q=>zM h.mono q,Ca h.mono⟩
def IU (uc:TD)(t u:fL):fL:=λE δ μ=>uc (bB μ δ) λb=>if b=true then t E δ μ else u E δ μ
theorem fc (hc:lH X c uc)(ha:uo X body t)(hb:uo X els u):p7 X (.If c body els pos) (IU uc t u):=by
 refine⟨PS.imp (G8 hc.pt ha.ps hb.ps) λD σ H ⟨δ,μ,L,r,g,h⟩=>⟨_,g.bB r,hc.mono _ _ _ (λk q H1 s1=>?_) h⟩,λE E' δ μ l h=>hc.mono _ _ _ (λk q=>?_) h⟩
 ·have s2:aK (aN H L) (aN H1 L):=bV s1
  cases k with
  |true =>
   show if true=true then _ else _
   rw[if_pos rfl] at q ⊢;exact⟨δ,μ,L,r.same s2,g.on s1,ha.mono _ _ _ _ (km s2) q⟩
  |false =>
   show if false=true then _ else _
   rw[if_neg Bool.false_ne_true] at q ⊢;exact⟨δ,μ,L,r.same s2,g.on s1,hb.mono _ _ _ _ (km s2) q⟩
 ·cases k with
  |true=>rw[if_pos rfl] at q ⊢;exact ha.mono _ _ _ _ l q
  |false=>rw[if_neg Bool.false_ne_true] at q ⊢;exact hb.mono _ _ _ _ l q
theorem Dv.zB {K:PySem.W.Frag}{H H':Hp}{v:V}{d:D}(h:Dv K H v d)(f:dz d=true):Dv K H' v d:=by
 cases h with
 |ak=>exact .ak
 |bl b=>exact .bl b
 |int i=>exact .int i
 |str x=>exact .str x
 |_=>cases f
def FA (te:ED):fL:=λE δ μ=>te (bB μ δ) λd=>E.rt d []
theorem fM (he:PD X e te):p7 X (.Return (some e) pos) (FA te) :=
 ⟨PS.imp (yJ he.pe) λD σ H ⟨δ,μ,L,r,g,h⟩=>⟨_,g.bB r,he.mono _ _ _ (λd q v H1 s1 dv=>q v H1 [] (by rw[cI];exact bN.trans s1) dZ.nil (by rw[cI];exact dv)) h⟩,
  λE E' δ μ l h=>he.mono _ _ _ (λd q=>l.rt _ _ q) h⟩
end
def fR (a:Addr)(m:MD)(μ:Mu):Mu:=μ.map λp=>if p.1=a then(a,m) else p
theorem sR (a:Addr)(m:MD)(μ:Mu):(fR a m μ).map (·.1)=μ.map (·.1):=by
 unfold fR
 rw[List.map_map]
 refine List.map_congr_left λp _=>?_
 show(if p.1=a then(a,m) else p).1=p.1
 split
 ·rename_i h;exact h.symm
 ·rfl
section
variable {K:PySem.W.Frag}{H:Hp}{μ:Mu}{L:List Addr}{a:Addr}{vs ys:List V}{ds:List D}
theorem cp {o:HO}(h:a∈L):aN (upd H a o) L=aN H L:=by
 funext b
 by_cases hb:b∈L
 ·rw[cL hb,cL hb]
 ·rw[ax hb,ax hb,aI (λz=>hb (by rw[z];exact h))]
theorem dZ.putL (g:dZ K H μ L)(ha:a∈L)(hv:H a=some (.lst vs))(d:bM K (aN H L) ys ds):dZ K (upd H a (.lst ys)) (fR a (.lst ds) μ) L:=by
 have e:aN (upd H a (.lst ys)) L=aN H L:=cp ha
 refine⟨λp hp=>?_,by rw[sR];exact g.FQ,λb hb=>?_,λb hb=>?_⟩
 ·obtain⟨q,hq,rfl⟩:=List.mem_map.mp hp
  by_cases hqa:q.1=a
  ·rw[if_pos hqa]
   exact⟨ha,ys,aJ,by rw[e];exact d⟩
  ·rw[if_neg hqa]
   obtain⟨h1,h2⟩:=g.at_ q hq
   refine⟨h1,?_⟩
   obtain⟨b,m⟩:=q
   cases m with
   |lst ds=>obtain⟨ws,h,d⟩:=h2;exact⟨ws,by rw[aI hqa];exact h,by rw[e];exact d⟩
   |ins C gs=>obtain⟨dx,fs,h,h2,h3,d⟩:=h2;exact⟨dx,fs,by rw[aI hqa];exact h,by rw[aI (λz=>by rw[z,hv] at h2;cases h2)];exact h2,h3,by rw[e];exact d⟩
   |dK kvs=>obtain⟨ws,h,d⟩:=h2;exact⟨ws,by rw[aI hqa];exact h,by rw[e];exact d⟩
 ·by_cases hba:b=a
  ·rw[hba];exact .lst ys aJ
  ·have w:=g.dG b hb
   cases w with
   |lst xs h=>exact .lst xs (by rw[aI hba];exact h)
   |dK xs h=>exact .dK xs (by rw[aI hba];exact h)
   |ins C dx fs h hd=>exact .ins C dx fs (by rw[aI hba];exact h) hd
   |own C c fs h hc hi=>exact .own C c fs (by rw[aI hba];exact h) hc (by rw[aI (λz=>by rw[z,hv] at hi;cases hi)];exact hi)
 ·rcases g.Ea b hb with⟨m,h⟩|⟨c,h⟩
  ·by_cases hba:b=a
   ·exact .inl ⟨.lst ds,List.mem_map.mpr ⟨_,h,by rw[if_pos hba,hba]⟩⟩
   ·exact .inl ⟨m,List.mem_map.mpr ⟨_,h,if_neg hba⟩⟩
  ·exact .inr ⟨c,by rw[aI (λz=>by rw[z,hv] at h;cases h)];exact h⟩
theorem dZ.Ij (g:dZ K H μ L)(hn:H a=none)(d:bM K (aN H L) ys ds):dZ K (upd H a (.lst ys)) ((a,.lst ds)::μ) (a::L)/\aN (upd H a (.lst ys)) (a::L)=aN H L:=by
 have haL:a∉L:=λh=>by obtain⟨o,q⟩:=(g.dG a h).there;rw[hn] at q;cases q
 have e:aN (upd H a (.lst ys)) (a::L)=aN H L:=by
  funext b
  by_cases hb:b=a
  ·rw[hb,cL List.mem_cons_self,hJ hn]
  ·by_cases hb2:b∈L
   ·rw[cL (List.mem_cons_of_mem _ hb2),cL hb2]
   ·rw[ax (λz=>(List.mem_cons.mp z).elim hb hb2),ax hb2,aI hb]
 have ne:∀{b:Addr} {o:HO},H b=some o->b≠a:=λh=>a_ h hn
 refine⟨⟨λp hp=>?_,?_,λb hb=>?_,λb hb=>?_⟩,e⟩
 ·rcases List.mem_cons.mp hp with rfl|hp
  ·exact⟨List.mem_cons_self,ys,aJ,by rw[e];exact d⟩
  ·obtain⟨h1,h2⟩:=g.at_ p hp
   refine⟨List.mem_cons_of_mem _ h1,?_⟩
   obtain⟨b,m⟩:=p
   cases m with
   |lst ds=>obtain⟨ws,h,d⟩:=h2;exact⟨ws,by rw[aI (ne h)];exact h,by rw[e];exact d⟩
   |ins C gs=>obtain⟨dx,fs,h,h2,h3,d⟩:=h2;exact⟨dx,fs,by rw[aI (ne h)];exact h,by rw[aI (ne h2)];exact h2,List.mem_cons_of_mem _ h3,by rw[e];exact d⟩
   |dK kvs=>obtain⟨ws,h,d⟩:=h2;exact⟨ws,by rw[aI (ne h)];exact h,by rw[e];exact d⟩
 ·rw[List.map_cons,List.nodup_cons]
  refine⟨λh=>?_,g.FQ⟩
  obtain⟨p,hp,hpa⟩:=List.mem_map.mp h
  have:p.1=a:=hpa
  exact haL (this ▸ (g.at_ p hp).1)
 ·rcases List.mem_cons.mp hb with rfl|hb
  ·exact .lst ys aJ
  ·have w:=g.dG b hb
   cases w with
   |lst xs h=>exact .lst xs (by rw[aI (ne h)];exact h)
   |dK xs h=>exact .dK xs (by rw[aI (ne h)];exact h)
   |ins C dx fs h hd=>exact .ins C dx fs (by rw[aI (ne h)];exact h) (List.mem_cons_of_mem _ hd)
   |own C c fs h hc hi=>exact .own C c fs (by rw[aI (ne h)];exact h) (List.mem_cons_of_mem _ hc) (by rw[aI (ne hi)];exact hi)
 ·rcases List.mem_cons.mp hb with rfl|hb
  ·exact .inl ⟨_,List.mem_cons_self⟩
  ·rcases g.Ea b hb with⟨m,h⟩|⟨c,h⟩
   ·exact .inl ⟨m,List.mem_cons_of_mem _ h⟩
   ·exact .inr ⟨c,by rw[aI (ne h)];exact h⟩
end
section
variable {X:Cx}{e:Expr}{te:ED}{es:List Expr}{t:AD}{i:Nat}{x:Str}{p pos pos' apos cpos:Pos}
def Kk (i:Nat)(t:AD):fL:=λE δ μ=>t δ λds=>ds.length<=sizeLine/\∀a,(∀m,(a,m)∉μ)->E.nx (δ.set i (some (.adr a))) ((a,.lst ds)::μ)
theorem iX (hN:X.N.Nodup)(hi:X.N[i]?=some x)(hx:Loc X.env.scope x)(h:ni X es t)(hs:swapsWith (.List es p) (some (.Name x pos')) pos.line X.env=pure false:=by rfl)
  (hf:X.fn x=true\/X.env.scope.names.lookup x=some .local:=by first|exact .inl rfl|exact .inr rfl|assumption):p7 X (.Assign [.Name x pos'] (.List es p) pos) (Kk i t):=by
 refine⟨PS.imp (uO hN hi hx (gx (yF h.pa)) hs hf) λD σ H ⟨δ,μ,L,r,g,q⟩=>⟨L,g.dG,δ,r,h.mono _ _ _ (λds ⟨hz,k⟩ vs H1 s1 dvs=>⟨by rw[dvs.length];exact hz,λa ha z=>?_⟩) q⟩,
  λE E' δ μ l q=>h.mono _ _ _ (λds ⟨hz,k⟩=>⟨hz,λa ha=>l.nx _ _ (k a ha)⟩) q⟩
 have haL:a∉L:=λhl=>by have:=z a hl;rw[aJ] at this;cases this
 have nb:∀{b:Addr},b∈L->b≠a:=λhb w=>haL (by rw[<- w];exact hb)
 have z1:∀b∈L,H1 b=none:=λb hb=>by have:=z b hb;rwa [aI (nb hb)] at this
 have eS:aa (upd H1 a (.lst vs)) H L=upd (aa H1 H L) a (.lst vs):=by
  funext b
  by_cases hb:b∈L
  ·rw[af hb,aI (nb hb),af hb]
  ·rw[aV hb]
   by_cases hba:b=a
   ·rw[hba,aJ,aJ]
   ·rw[aI hba,aI hba,aV hb]
 have e1:aN (aa H1 H L) L=H1:=bK z1
 have g1:dZ X.K (aa H1 H L) μ L:=g.show z1 s1
 have hn:aa H1 H L a=none:=by rw[aV haL];exact ha
 obtain⟨g2,e2⟩:=g1.Ij hn (ys:=vs) (ds:=ds) (by rw[e1];exact dvs)
 rw[eS]
 refine k a (λm hm=>haL (g.at_ _ hm).1) _ _ (a::L) (by rw[e2,e1];exact s1) ?_ g2
 rw[e2,e1]
 exact(r.same s1).set i (.adr a)
def E7 (i:Nat)(te:ED):fL:=λE δ μ=>∃a ds,δ[i]?=some (some (.adr a))/\μ.lookup a=some (.lst ds)/\ds.length<sizeLine/\te δ λd=>E.nx δ (fR a (.lst (ds++[d])) μ)
theorem hW (hi:X.N[i]?=some x)(hv:uq X.env.scope x)(he:PD X e te)(hd:(x == ("__debug__":Str))=false:=by decide)(hcd:(x == ("__classdict__":Str))=false:=by decide)
  (hst:starEach [e] X.env=(false,eval e X.env)::starEach [] X.env:=by rfl)(hline:(apos.endLine == cpos.line)=true:=by rfl)
  (hfew:((backTo cpos (starEach [e] X.env)).all (λx=>!x.1)&&(backToKw cpos (keywordEach [] X.env)).all (λx=>x.1.isSome)&&decide ([e].length+([]:List Keyword).length+(if([]:List Keyword).isEmpty then 0 else 1)<30))=true:=by rfl)
  (hs:swapsWith (.Call (.Attribute (.Name x p) "append" apos) [e] [] cpos) none pos.line X.env=pure false:=by rfl)
  (hb:attributeBase (.Name x p) "append" X.env (eval (.Name x p) X.env)=eval (.Name x p) X.env:=by rfl) :
  p7 X (.Expr (.Call (.Attribute (.Name x p) "append" apos) [e] [] cpos) pos) (E7 i te):=by
 refine⟨PS.imp (ie (sM PySem.F.plainAttrs_list PySem.F.slot_list_append PySem.F.type_list_append rq (eB hi hv hd hcd) (eA (gx he.pe) ic hst) hb hfew hline hst) hs) λD σ H ⟨δ,μ,L,r,g,q⟩=>?_,
  λE E' δ μ l ⟨a,ds,k1,k2,k3,q⟩=>⟨a,ds,k1,k2,k3,he.mono _ _ _ (λd k=>l.nx _ _ k) q⟩⟩
 obtain⟨a,ds,k1,k2,k3,q⟩:=q
 obtain⟨v,hv1,dv⟩:=r.get i _ k1
 cases dv
 have hm:=mem_of_lookup k2
 obtain⟨haL,vs,hH,dvs⟩:=g.at_ _ hm
 refine⟨_,hv1,.inl ⟨rfl,_,cu.of hH⟩,L,g.dG,δ,r,he.mono _ _ _ (λd k w H1 s1 dw z=>?_) q⟩
 have e1:aN (aa H1 H L) L=H1:=bK z
 have g1:dZ X.K (aa H1 H L) μ L:=g.show z s1
 have hH1:aa H1 H L a=some (.lst vs):=by rw[af haL];exact hH
 refine⟨a,vs,w,rfl,rfl,hH1,by rw[dvs.length];exact k3,?_⟩
 have g2:=g1.putL haL hH1 (ys:=vs++[w]) (ds:=ds++[d]) (by rw[e1];exact(bM.same s1 dvs).append (.cons dw .nil))
 have e2:aN (upd (aa H1 H L) a (.lst (vs++[w]))) L=H1:=by rw[cp haL,e1]
 exact k σ _ L (by rw[e2];exact s1) (by rw[e2];exact r.same s1) g2
end
end DC
namespace L2
open PySem PySem.Spec PyProof.Rows
section
variable {X:Cx}{tg:Expr}{g:TG}
def Ng (g:TG):TG:=λv σ H Q=>∃L,(∀a∈L,dC H L a)/\g v σ (aN H L) λσ' H4=>(∀b∈L,H4 b=none)->Q σ' (aa H4 H L)
theorem DA (h:PG X tg g):PG X tg (Ng g):=by
 intro pins s σ H v u Q I r ⟨L,hL,q⟩
 refine mE I hL λpl I' _ back=>?_
 refine b6 (h (pins++pl) s σ _ v u _ I' r q) λ_ s1 ⟨σ',H4,I4,k⟩=>?_
 obtain⟨z,J⟩:=back _ _ _ I4
 exact⟨σ',_,J,k z⟩
end
end L2
namespace DC
open PySem PySem.Spec PyProof.Rows L2
section
variable {X:Cx}{tg iter:Expr}{body:List Stmt}{ti:AD}{g:BY}{tb:fL}{pos:Pos}
abbrev xC:=List D->SD->(SD->Prop)->Prop
structure EE (X:Cx) (ts:List Expr) (g:xC):Prop where
 pg:D7 X ts (λvs σ H Q=>∃ds δ,bM X.K H vs ds/\br X.K H σ δ/\g ds δ (kS X.K H Q))
 mono:∀ds δ (P P':SD->Prop),(∀ δ,P δ->P' δ)->g ds δ P->g ds δ P'
def Mf:xC:=λds δ Q=>ds=[]/\Q δ
def KY (t:BY)(u:xC):xC:=λds δ Q=>∃d r,ds=d::r/\t d δ λδ'=>u r δ' Q
theorem D7.imp {ts:List Expr}{t t':Gd}(h:D7 X ts t)(f:∀v σ H Q,t' v σ H Q->t v σ H Q):D7 X ts t':=λpins s σ H v u Q I r q=>h pins s σ H v u Q I r (f v σ H Q q)
theorem qJ:EE X [] Mf:=⟨D7.imp za λvs σ H Q ⟨ds,δ,dv,r,e,q⟩=>by subst e;cases dv;exact⟨rfl,q σ H (aK.refl _) r⟩,λds δ P P' f ⟨e,q⟩=>⟨e,f _ q⟩⟩
theorem dU {e:Expr}{es:List Expr}{t:BY}{u:xC}(h1:Ju X e t)(h2:EE X es u)(hs:(assignEach (e::es) X.env).map (·.2)=assign e X.env::(assignEach es X.env).map (·.2):=by rfl):EE X (e::es) (KY t u):=by
 refine⟨D7.imp (jZ h1.pg h2.pg hs) λvs σ H Q ⟨ds,δ,dv,r,d,dr,e,q⟩=>?_,λds δ P P' f ⟨d,r,e,q⟩=>⟨d,r,e,h1.mono _ _ _ _ (λδ' k=>h2.mono _ _ _ _ f k) q⟩⟩
 subst e
 cases dv with
 |cons a b=>exact⟨_,_,rfl,d,δ,a,r,h1.mono _ _ _ _ (λδ' k σ' H' s' r'=>⟨dr,δ',bM.same s' b,r',h2.mono _ _ _ _ (λδ'' z=>z.on s') k⟩) q⟩
def Mg (n:Nat)(u:xC):BY:=λd δ Q=>∃ds,d=.tup ds/\ds.length=n/\u ds δ Q
theorem vZ {es:List Expr}{k:Nat}{u:xC}{n:Nat}(hc:X.calm=true)(h:EE X es u)(hn:(assignEach es X.env).length=n:=by rfl)(hst:(assignEach es X.env).findIdx? (·.1)=none:=by rfl):Ju X (.Tuple es k pos) (Mg n u):=by
 refine⟨PG.imp (DD hc h.pg hn hst) λv σ H Q ⟨d,δ,dv,r,ds,e,hl,q⟩=>?_,λd δ P P' f ⟨ds,e,hl,q⟩=>⟨ds,e,hl,h.mono _ _ _ _ f q⟩⟩
 subst e
 cases dv with
 |tup h1 h2=>exact⟨_,_,rfl,h1,by rw[h2.length];exact hl,ds,δ,h2,r,q⟩
def E9 (ti:AD)(g:BY)(tb:fL):fL:=λE δ μ=>ti δ λds=>∃inv:Nat->SD->Mu->Prop,inv 0 δ μ /\
 (∀i d δ' μ',ds[i]?=some d->inv i δ' μ'->g d δ' λδ2=>tb { E with nx:=inv (i+1),ct:=inv (i+1),bk:=E.nx } δ2 μ')/\∀ δ' μ',inv ds.length δ' μ'->E.nx δ' μ'
theorem cX (hp:PassesOwn (model X.prog X.w) X.A X.env X.xe)(hc:X.calm=true)(hi:PId X tg iter ti)(hg:Ju X tg g)(hb:uo X body tb)(hs:∀x,foldedSetIterable iter X.env x=pure x:=by intro _;rfl) :
  p7 X (.For tg iter body [] pos) (E9 ti g tb):=by
 refine⟨PS.imp (yH hp hc (DE hi.pi) (DA hg.pg) hb.ps hs) λD σ H ⟨δ,μ,L,r,st,h⟩=>⟨L,st.dG,δ,r,hi.mono _ _ _ (λds ⟨inv,i0,step,fin⟩ J H1 s1 it z=>?_) h⟩,λE E' δ μ l h=>hi.mono _ _ _ (λds ⟨inv,i0,step,fin⟩=>⟨inv,i0,λi d δ' μ' hd hin=>hg.mono _ _ _ _ (λδ2 q=>hb.mono { E with nx:=inv (i+1),ct:=inv (i+1),bk:=E.nx } _ _ _ ⟨λ_ _ q=>q,l.rt,l.nx,λ_ _ q=>q⟩ q) (step i d δ' μ' hd hin),λδ' μ' q=>l.nx _ _ (fin δ' μ' q)⟩) h⟩
 have e1:aN (aa H1 H L) L=H1:=bK z
 refine⟨λi m σ' H'=>m=ds.length - i/\i<=ds.length/\∃ δ' μ' L',aK H1 (aN H' L')/\br X.K (aN H' L') σ' δ'/\dZ X.K H' μ' L'/\inv i δ' μ',⟨ds.length,rfl,Nat.zero_le _,δ,μ,L,by rw[e1];exact aK.refl _,by rw[e1];exact r.same s1,st.show z s1,i0⟩,?_⟩
 rintro i m σ' H' ⟨rfl,hle,δ',μ',L',s',r',st',hin⟩
 have sf:aK H1 H':=s'.trans bN
 by_cases hlt:i<ds.length
 ·refine .inr ⟨it.go i H' sf hlt,λσ2 H2=>∃ δ2 μ2 L2,aK H1 (aN H2 L2)/\br X.K (aN H2 L2) σ2 δ2/\dZ X.K H2 μ2 L2/\inv (i+1) δ2 μ2,λσ2 H2 ⟨δ2,μ2,L2,q⟩=>⟨ds.length - (i+1),by omega,rfl,hlt,δ2,μ2,L2,q⟩,λx H'' y=>?_⟩
  obtain⟨s2,d,hd,Hx,_,dvx,hx,sx⟩:=it.BR i H' x H'' sf hlt y
  have sA:aK (aN H' L') (aN H'' L'):=bV s2
  have sX:aK Hx (aN H'' L'):=λb o hb=>by
   have nb:b∉L':=by
    intro hbL
    rcases hx b o hb with q|q
    ·have:=s' _ _ q
     rw[cL hbL] at this
     cases this
    ·obtain⟨o',q'⟩:=(st'.dG b hbL).there
     rw[q] at q'
     cases q'
   rw[ax nb]
   exact sx _ _ hb
  have st2:dZ X.K H'' μ' L':=st'.on s2
  refine⟨L',st2.dG,d,δ',dvx.same sX,r'.same sA,hg.mono _ _ _ _ (λδ2 q σ3 H3 s3 r3 z3=>?_) (step i d δ' μ' hd hin)⟩
  have e3:aN (aa H3 H'' L') L'=H3:=bK z3
  have st3:dZ X.K (aa H3 H'' L') μ' L':=st2.show z3 s3
  have sB:aK H1 H3:=s'.trans (sA.trans s3)
  refine⟨δ2,μ',L',by rw[e3];exact r3,st3,hb.mono { mB X.K H L D with nx:=inv (i+1),ct:=inv (i+1),bk:=(mB X.K H L D).nx } _ _ _ ?_ q⟩
  have sC:aK (aN H L) (aN (aa H3 H'' L') L'):=by rw[e3];exact s1.trans sB
  have l:=km (K:=X.K) (D:=D) sC
  refine⟨λδ4 μ4 q4 σ4 H4 L4 s4 r4 st4=>⟨δ4,μ4,L4,?_,r4,st4,q4⟩,λ_ _ q4=>l.rt _ _ q4,λ_ _ q4=>l.nx _ _ q4,λδ4 μ4 q4 σ4 H4 L4 s4 r4 st4=>⟨δ4,μ4,L4,?_,r4,st4,q4⟩⟩
  ·rw[e3] at s4;exact sB.trans s4
  ·rw[e3] at s4;exact sB.trans s4
 ·have e:i=ds.length:=by omega
  subst e
  exact .inl ⟨it.stop H' sf,fin δ' μ' hin σ' H' L' (s1.trans s') r' st'⟩
end
section
variable {P:Program}{w:World}{K:PySem.W.Frag}{mg:Str->Option Value}{base:Heap}
theorem Nm {x qual:Str}{st:Stmt}{f:Addr}{fd:FuncData}{N ps:List Str}{k:Nat}{sd:cF}{t:fL}(F:xA K x qual st f fd)(S:aE N ps (aC st))(len:∀ds Q,sd ds Q->ds.length=ps.length)
  (hb:∀(cdv:Value) (A:Around) (outer:List Env) (s:Shared) (H:Hp) (E:XK),cH k (A.deeper (envOfC qual (aC st) s.heap.objs.size f cdv))->uo (Bx P w K mg base N qual st f cdv A outer s H E) (bE st) t)
  (hr:∀ds Q,sd ds Q->t { nx:=λ_ _=>Q .ak,rt:=λd μ=>Q (ay μ d)} (cZ N ds) []):cP P w K mg base pQ (k+1) f fd ps (qu K sd):=by
 refine F.ok S (λvs H Q E ⟨ds,dvs,h⟩=>by rw[dvs.length];exact len ds _ h) (λcdv A outer s H vs Q E hroom ⟨ds,dvs,h⟩=>?_)
 have B:=hb cdv A outer s H E hroom
 refine⟨_,B.ps,cZ N ds,[],[],by rw[cI];exact lB dvs,dZ.nil,?_⟩
 refine B.mono { nx:=λ_ _=>kD K H Q .ak,rt:=λd μ=>kD K H Q (ay μ d)} _ _ _ ⟨λδ μ q σ H' L' s' r g=>?_,λd μ q v H' L' s' g dv=>?_,λ_ _ q=>q.elim,λ_ _ q=>q.elim⟩ (hr ds _ h)
 ·rw[cI] at s'
  exact q _ H' (s'.trans bN) .ak
 ·rw[cI] at s'
  exact q _ H' (s'.trans bN) (g.view dv)
end
structure av (P:Program) (w:World) (K:PySem.W.Frag) (mg:Str->Option Value) (base:Heap) (k:Nat) (x:Str) (ps:List Str) (sd:cF):Prop where
 ex:∃f fd,cP P w K mg base pQ k f fd ps (qu K sd)/\mg x=some (.ref f)/\keepIn K (.ref f)=true/\Binds K fd ps []
 ms:cK sd
section
variable {P:Program}{w:World}{K:PySem.W.Frag}{mg:Str->Option Value}{base:Heap}
theorem av.up {j k:Nat}{x:Str}{ps:List Str}{sd:cF}(c:av P w K mg base j x ps sd)(h:j<=k):av P w K mg base k x ps sd :=
 ⟨let ⟨f,fd,F,r⟩:=c.ex;⟨f,fd,F.mono h,r⟩,c.ms⟩
structure Df (K:PySem.W.Frag) (mg:Str->Option Value) (x:Str) (st:Stmt) (ps:List Str):Prop where
 ex:∃f fd,xA K x x st f fd/\mg x=some (.ref f)/\Binds K fd ps []
theorem Df.dN {k:Nat}{x:Str}{st:Stmt}{ps N:List Str}{sd:cF}{t:jE}(d:Df K mg x st ps)(S:aE N ps (aC st))(ms:cK sd)(len:∀ds Q,sd ds Q->ds.length=ps.length)
  (hb:∀(f:Addr) (cdv:Value) (A:Around) (outer:List Env) (s:Shared) (H:Hp) (E:XK),cH k (A.deeper (envOfC x (aC st) s.heap.objs.size f cdv))->nr (Bx P w K mg base N x st f cdv A outer s H E) (bE st) t)
  (hr:∀ds Q,sd ds Q->t { nx:=λ_=>Q .ak,rt:=Q } (cZ N ds)):av P w K mg base (k+1) x ps sd:=by
 obtain⟨f,fd,F,m,b⟩:=d.ex
 exact⟨⟨f,fd,M0 F S len (hb f) hr,m,F.kp,b⟩,ms⟩
theorem Df.l7 {k:Nat}{x:Str}{st:Stmt}{ps N:List Str}{sd:cF}{t:fL}(d:Df K mg x st ps)(S:aE N ps (aC st))(ms:cK sd)(len:∀ds Q,sd ds Q->ds.length=ps.length)
  (hb:∀(f:Addr) (cdv:Value) (A:Around) (outer:List Env) (s:Shared) (H:Hp) (E:XK),cH k (A.deeper (envOfC x (aC st) s.heap.objs.size f cdv))->uo (Bx P w K mg base N x st f cdv A outer s H E) (bE st) t)
  (hr:∀ds Q,sd ds Q->t { nx:=λ_ _=>Q .ak,rt:=λd μ=>Q (ay μ d)} (cZ N ds) []):av P w K mg base (k+1) x ps sd:=by
 obtain⟨f,fd,F,m,b⟩:=d.ex
 exact⟨⟨f,fd,Nm F S len (hb f) hr,m,F.kp,b⟩,ms⟩
end
section
variable {X:Cx}{e:Expr}{es:List Expr}{t:AD}{j k:Nat}{x:Str}{ps:List Str}{sd:cF}{p pos:Pos}
theorem aH (c:av X.prog X.w X.K X.mg X.base j x ps sd)(hr:cH k X.A)(hj:j<=k)(hg:Gl X x)(ha:ni X (e::es) t)(hdb:(x == ("__debug__":Str))=false:=by decide)
  (h1:starEach (e::es) X.env=(false,eval e X.env)::starEach es X.env:=by rfl)(h2:(backTo pos (starEach es X.env)).any (·.1)=false:=by rfl):PD X (.Call (.Name x p) (e::es) [] pos) (D2 sd t):=by
 obtain⟨f,fd,F,m,kp,b⟩:=c.ex
 exact Hk F c.ms (hr.mono hj) hg m kp b ha hdb (uM F (hr.mono hj) hg m kp b .nil sI ha.pa hdb h1 h2)
end
section
variable {X:Cx}{scope:Scope}{cl:List (Str × Addr)}{x:Str}{caps:List Nat}{cn:List Str}{tg iter elt:Expr}{ifs:List Expr}{ti:AD}{tt:TD}{te:ED}{pos:Pos}
theorem l9 (S:b9 X scope cl [x] caps cn)(hc:X.calm=true)(hi:PId X tg iter ti)(hg:∀C fp s₂ H₂,PG (aw X scope cl C ([x]++cn) fp s₂ H₂) tg (dD 0))(ht:∀C fp s₂ H₂,tG (aw X scope cl C ([x]++cn) fp s₂ H₂) ifs tt)
  (he:∀C fp s₂ H₂,PD (aw X scope cl C ([x]++cn) fp s₂ H₂) elt te)(hs:∀x,foldedSetIterable iter X.env x=pure x:=by intro _;rfl):PD X (.ListComp elt [⟨tg,iter,ifs,0⟩] scope pos) (iL caps ti tt te) :=
 Hl S hc hi hg ht he (ht 0 [] X.s₀ X.H₀).mono (he 0 [] X.s₀ X.H₀).mono hs
theorem Jb {i:Nat}{y:Str}{py spos:Pos}(hN:X.N.Nodup)(hi':X.N[i]?=some y)(hy:Loc X.env.scope y)(S:b9 X scope cl [x] caps cn)(hc:X.calm=true)(hi:PId X tg iter ti)
  (hg:∀C fp s₂ H₂,PG (aw X scope cl C ([x]++cn) fp s₂ H₂) tg (dD 0))(ht:∀C fp s₂ H₂,tG (aw X scope cl C ([x]++cn) fp s₂ H₂) ifs tt)(he:∀C fp s₂ H₂,PD (aw X scope cl C ([x]++cn) fp s₂ H₂) elt te)
  (hsw:swapsWith (.ListComp elt [⟨tg,iter,ifs,0⟩] scope pos) (some (.Name y py)) spos.line X.env=pure true:=by rfl)(hf:X.fn y=true\/X.env.scope.names.lookup y=some .local:=by first|exact .inl rfl|exact .inr rfl|assumption)
  (hs:∀x,foldedSetIterable iter X.env x=pure x:=by intro _;rfl):yj X (.Assign [.Name y py] (.ListComp elt [⟨tg,iter,ifs,0⟩] scope pos) spos) (yK i (iL caps ti tt te)) :=
 Ja hN hi' hy S hc hi hg ht he (ht 0 [] X.s₀ X.H₀).mono (he 0 [] X.s₀ X.H₀).mono hsw hf hs
theorem isSome_of {cl:List (Str × Addr)}{y:Str}:y∈cl.map (·.1)->(cl.lookup y).isSome=true:=by
 induction cl with
 |nil=>intro h;cases h
 |cons p r ih =>
  intro h
  rw[List.lookup_cons]
  cases q:y == p.1 with
  |true=>rfl
  |false =>
   rw[List.map_cons,List.mem_cons] at h
   rcases h with h|h
   ·rw[h] at q;simp at q
   ·exact ih h
theorem dS {cl:List (Str × Addr)}(ks:List Str)(hk:cl.map (·.1)=ks)(h:∀y∈scope.names,y.2=.free->y.1∈ks):∀y∈scope.names,y.2=.free->(cl.lookup y.1).isSome=true:=λy hy e=>isSome_of (by rw[hk];exact h y hy e)
theorem cG {f:Str × Addr->Prop}:∀p∈([]:List (Str × Addr)),f p:=λp h=>nomatch h
theorem bC {f:Str × Addr->Prop}{a:Str × Addr}{r:List (Str × Addr)}(h:f a)(hr:∀p∈r,f p):∀p∈a::r,f p:=List.forall_mem_cons.mpr ⟨h,hr⟩
end
section
variable {X:Cx}{e:Expr}{te:ED}{p p2 pos:Pos}
theorem qP (hg:Gl X "isinstance")(hm:X.mg "isinstance"=none)(hg2:Gl X "bool")(hm2:X.mg "bool"=none)(he:PD X e te)(hs:starEach [e,.Name "bool" p2] X.env=(false,eval e X.env)::starEach [.Name "bool" p2] X.env:=by rfl):PD X (.Call (.Name "isinstance" p) [e,.Name "bool" p2] [] pos) (D5 "bool" te):=(Br he hg hm hg2 hm2 xE (by decide) (by decide) hs).CJ he.mono (by decide)
theorem Es (hg:Gl X "isinstance")(hm:X.mg "isinstance"=none)(hg2:Gl X "int")(hm2:X.mg "int"=none)(he:PD X e te)(hs:starEach [e,.Name "int" p2] X.env=(false,eval e X.env)::starEach [.Name "int" p2] X.env:=by rfl):PD X (.Call (.Name "isinstance" p) [e,.Name "int" p2] [] pos) (D5 "int" te):=(Br he hg hm hg2 hm2 AF (by decide) (by decide) hs).CJ he.mono (by decide)
end
structure cA (P:Program) (w:World) (K:PySem.W.Frag) (mg:Str->Option Value) (base:Heap) (j:Nat) (C:Addr) (m:Str) (sd:cF) (dd:List D):Prop where
 ex:∃f fd ps dvs ds,rE K C/\Meth K C m f/\cP P w K mg base pQ j f fd ps (qu K sd)/\Binds K fd ps ds/\Vals dvs ds/\∀H,bM K H dvs dd
 ms:cK sd
theorem cA.mh {X:Cx}{j k:Nat}{C:Addr}{m:Str}{sd:cF}{dd:List D}(c:cA X.prog X.w X.K X.mg X.base j C m sd dd)(hr:cH k X.A)(hj:j<=k):MH X C m sd dd :=
 let ⟨f,fd,ps,dvs,ds,h1,h2,h3,h4,h5,h6⟩:=c.ex
 ⟨j,f,fd,ps,dvs,ds,h1,h2,h3,c.ms,hr.mono hj,h4,h5,h6⟩
theorem cA.up {P:Program}{w:World}{K:PySem.W.Frag}{mg:Str->Option Value}{base:Heap}{i j:Nat}{C:Addr}{m:Str}{sd:cF}{dd:List D}(c:cA P w K mg base i C m sd dd)(h:i<=j):cA P w K mg base j C m sd dd :=
 ⟨let ⟨f,fd,ps,dvs,ds,h1,h2,h3,r⟩:=c.ex;⟨f,fd,ps,dvs,ds,h1,h2,h3.mono h,r⟩,c.ms⟩
structure Dm (K:PySem.W.Frag) (C:Addr) (m qual:Str) (st:Stmt) (ps:List Str):Prop where
 ex:∃f fd,xA K m qual st f fd/\Meth K C m f/\rE K C/\Binds K fd ps []
section
variable {P:Program}{w:World}{K:PySem.W.Frag}{mg:Str->Option Value}{base:Heap}
theorem Dm.dN {k:Nat}{C:Addr}{m qual:Str}{st:Stmt}{ps N:List Str}{sd:cF}{t:jE}(d:Dm K C m qual st ps)(S:aE N ps (aC st))(ms:cK sd)(len:∀ds Q,sd ds Q->ds.length=ps.length)
  (hb:∀(f:Addr) (cdv:Value) (A:Around) (outer:List Env) (s:Shared) (H:Hp) (E:XK),cH k (A.deeper (envOfC qual (aC st) s.heap.objs.size f cdv))->nr (Bx P w K mg base N qual st f cdv A outer s H E) (bE st) t)
  (hr:∀ds Q,sd ds Q->t { nx:=λ_=>Q .ak,rt:=Q } (cZ N ds)):cA P w K mg base (k+1) C m sd []:=by
 obtain⟨f,fd,F,M,c,b⟩:=d.ex
 exact⟨⟨f,fd,ps,[],[],c,M,M0 F S len (hb f) hr,b,.nil,λ_=>.nil⟩,ms⟩
structure nq (P:Program) (w:World) (K:PySem.W.Frag) (mg:Str->Option Value) (base:Heap) (j:Nat) (x:Str) (C:Addr) (sd:Gb) (dd:List D):Prop where
 ex:∃f fd ps dvs ds,Mk K C f/\cP P w K mg base pQ j f fd ps (M9 K C sd)/\mg x=some (.ref C)/\Binds K fd ps ds/\Vals dvs ds/\∀H,bM K H dvs dd
 ms:xB sd
structure Di (K:PySem.W.Frag) (mg:Str->Option Value) (x:Str) (C:Addr) (qual:Str) (st:Stmt) (ps:List Str) (dd:List D):Prop where
 ex:∃f fd dvs ds,EB K "__init__" qual st f fd/\Mk K C f/\mg x=some (.ref C)/\Binds K fd ps ds/\Vals dvs ds/\∀H,bM K H dvs dd
theorem Di.BN {k:Nat}{x:Str}{C:Addr}{qual:Str}{st:Stmt}{ps N:List Str}{dd:List D}{sd:Gb}{t:Addr->z8}(d:Di K mg x C qual st ps dd)(S:aE N ps (aC st))(ms:xB sd)(len:∀ds Q,sd ds Q->ds.length+1=ps.length)
  (hb:∀(f:Addr) (cdv:Value) (A:Around) (outer:List Env) (s:Shared) (H:Hp) (E:XK),cH k (A.deeper (envOfC qual (aC st) s.heap.objs.size f cdv))->Jv (Bx P w K mg base N qual st f cdv A outer s H E) C (bE st) t)
  (hr:∀a ds Q,sd ds Q->t a { nx:=λ_=>Q,rt:=Q,fin:=Q } (cZ N (.adr a::ds)) []):nq P w K mg base (k+1) x C sd dd:=by
 obtain⟨f,fd,dvs,ds,F,M,m,b,v,h⟩:=d.ex
 exact⟨⟨f,fd,ps,dvs,ds,M,OC F S len (hb f) hr,m,b,v,h⟩,ms⟩
end
section
variable {X:Cx}{ok:Addr->Prop}{o e:Expr}{es:List Expr}{m x:Str}{sd:Addr->cF}{dd:List D}{ta:ED}{t:AD}{pos apos p:Pos}{j k:Nat}{C:Addr}{si:Gb}
theorem dh {pl:Sem Bool}(hM:∀C,ok C->cA X.prog X.w X.K X.mg X.base j C m (sd C) dd)(hr:cH k X.A)(hj:j<=k)(he:PD X o ta)
  (ht:eval (.Call (.Attribute o m apos) [] [] pos) X.env=(do
   let ov <- eval o X.env
   standAt apos.atName
   let (f,first) <- holding [ov] (getMethod ov m pl)
   callWith pos f first (backTo pos (starEach [] X.env)) (backToKw pos (keywordEach [] X.env))):=by rfl) :
  PD X (.Call (.Attribute o m apos) [] [] pos) (pP ok m sd dd ta tI):=Ec (λC h=>(hM C h).mh hr hj) he ht
theorem pS (c:nq X.prog X.w X.K X.mg X.base j x C si dd)(hr:cH k X.A)(hj:j+1<=k)(hg:Gl X x)(ha:ni X (e::es) t)(hdb:(x == ("__debug__":Str))=false:=by decide)
  (h1:starEach (e::es) X.env=(false,eval e X.env)::starEach es X.env:=by rfl)(h2:(backTo pos (starEach es X.env)).any (·.1)=false:=by rfl):PD X (.Call (.Name x p) (e::es) [] pos) (HM C si dd t):=by
 obtain⟨f,fd,ps,dvs,ds,M,F,m,b,v,h⟩:=c.ex
 exact Hq M F c.ms (hr.mono hj) hg m b v h ha hdb h1 h2
end
section
variable {X:Cx}{e:Expr}{te:ED}{p p2 pos pos':Pos}{f x:Str}{C:Addr}
theorem bD (K:PySem.W.Frag)(hK:X.K=K)(he:PD X e te)(hb:attributeBase e f X.env (eval e X.env)=eval e X.env):PD X (.Attribute e f pos) (Jo K te f):=by subst hK;exact KD he hb
theorem Hn (K:PySem.W.Frag)(hK:X.K=K)(he:PD X e te)(hg:Gl X "isinstance")(hm:X.mg "isinstance"=none)(hg2:Gl X x)(hm2:X.mg x=some (.ref C))(hd:(x == ("__debug__":Str))=false:=by decide)
  (hs:starEach [e,.Name x p2] X.env=(false,eval e X.env)::starEach [.Name x p2] X.env:=by rfl):PD X (.Call (.Name "isinstance" p) [e,.Name x p2] [] pos) (D4 K (.ref C) te):=by subst hK;exact Hm he hg hm hg2 hm2 hd hs
theorem bZ (K:PySem.W.Frag)(hK:X.K=K)(hN:X.N[0]?=some x)(hv:uq X.env.scope x)(he:PD X e te)(hs:swapsWith e (some (.Attribute (.Name x p) f pos')) pos.line X.env=pure false:=by rfl)(hd:(x == ("__debug__":Str))=false:=by decide)
  (hcd:(x == ("__classdict__":Str))=false:=by decide):Lu X C (.Assign [.Attribute (.Name x p) f pos'] e pos) (Kd K C f te):=by subst hK;exact Ke hN hv he hs hd hcd
end
section
variable {X:Cx}{o e:Expr}{es:List Expr}{to te:ED}{t:AD}{p p1 p2 tp pos apos cpos:Pos}
def F6 (z:D):cF:=λds Q=>∃x y,z=.str x/\ds=[.str y]/\(y.length == 0)=false/\x.length+2<=sizeLine/\Q (.lst ((Txt.split x y).map D.str))
theorem mf {K:PySem.W.Frag}{H:Hp}:∀(ws:List Str),bM K H (ws.map V.str) (ws.map D.str)
 |[]=>.nil
 |w::ws=>.cons (.str w) (mf ws)
theorem wy {K:PySem.W.Frag}{H:Hp}:∀{vs:List V} {ws:List Str},bM K H vs (ws.map D.str)->vs=ws.map V.str
 |[],[],_=>rfl
 |_,_::_,.cons (.str _) r=>by rw[wy r];rfl
def isStr:D->Prop:=λd=>∃x,d=.str x
def NO (sd:D->cF)(to:ED)(t:AD):ED:=λδ Q=>to δ λz=>isStr z/\t δ λds=>sd z ds Q
theorem Ef (ho:PD X o to)(ha:ni X (e::es) t)(hbase:attributeBase o "split" X.env (eval o X.env)=eval o X.env:=by rfl)
  (hfew:((backTo cpos (starEach (e::es) X.env)).all (λx=>!x.1)&&(backToKw cpos (keywordEach [] X.env)).all (λx=>x.1.isSome)&&decide ((e::es).length+([]:List Keyword).length+(if([]:List Keyword).isEmpty then 0 else 1)<30))=true:=by rfl)
  (hline:(apos.endLine == cpos.line)=true:=by rfl)(hs:starEach (e::es) X.env=(false,eval e X.env)::starEach es X.env:=by rfl)(hplain:(backTo cpos (starEach es X.env)).any (·.1)=false:=by rfl) :
  PD X (.Call (.Attribute o "split" apos) (e::es) [] cpos) (NO F6 to t):=by
 refine⟨(sM PySem.F.plainAttrs_str PySem.F.slot_str_split PySem.F.type_str_split Co ho.pe ha.pa hbase hfew hline hs hplain).imp λσ H Q ⟨δ,r,h⟩=>⟨δ,r,ho.mono _ _ _ (λz ⟨⟨x,ez⟩,q⟩ v H1 s1 dv=>?_) h⟩,
  λδ P P' g h=>ho.mono _ _ _ (λz ⟨i,q⟩=>⟨i,ha.mono _ _ _ (λds ⟨x,y,e1,e2,c1,c2,k⟩=>⟨x,y,e1,e2,c1,c2,g _ k⟩) q⟩) h⟩
 subst ez
 cases dv
 refine⟨rfl,δ,r.same s1,ha.mono _ _ _ (λds ⟨x',y,e1,e2,c1,c2,k⟩ vs H2 s2 dvs=>?_) q⟩
 cases e1
 subst e2
 cases dvs with
 |cons a b =>
  cases a
  cases b
  exact⟨_,y,rfl,rfl,c1,c2,λp hp=>k _ _ ((s1.trans s2).trans (aU hp)) (.lst (cu.of aJ) (mf _))⟩
end
end DC
namespace L2
open PySem PySem.Spec PyProof.Rows
section
variable {X:Cx}
end
end L2
namespace DC
open PySem PySem.Spec PyProof.Rows L2
section
variable {X:Cx}{e:Expr}{es:List Expr}{t:AD}{p pos:Pos}
end
end DC
namespace L2
open PySem PySem.Spec PyProof.Rows
section
variable {prog:Program}{w:World}{A:Around}{E:Value->Shared->Prop}{s:Shared}
end
section
variable {prog:Program}{w:World}{A:Around}
end
section
variable {prog:Program}{w:World}{A:Around}{E:Value->Shared->Prop}{s:Shared}{z TI TO i1 i2 l1 l2:Addr}{k1 k2:Nat}{xs ys:Array Value}{x y a b:Value}{S1 S2:Nat->Heap->Prop}
end
section
variable {prog:Program}{w:World}{A:Around}{E:Value->Shared->Prop}{s:Shared}{z TI TO i1 i2 l1 l2:Addr}{k1 k2:Nat}{xs ys:Array Value}{x y a b:Value}{S1 S2:Nat->Heap->Prop}
end
section
variable {X:Cx}{pins:List (Addr × Obj)}{σ:St}{H:Hp}{s:Shared}{a:Addr}{xs ys:List V}
theorem Inv.GR {h':Heap}{t':Nat}{ch:List Addr}{T:Addr}{u1 u2:Value}{x y:V}(I:Inv X pins σ H s)(hk:∀b o,b∉ch->s.heap.get? b=some o->h'.get? b=some o)(hf:∀b∈ch,jG X pins H b)
  (hT:s.heap.objs.size<=T)(hp:IsPair h' T u1 u2)(r1:RelV x u1)(r2:RelV y u2):Inv X pins σ (upd H T (.tup [x,y])) { s with heap:=h',toks:=t' }:=by
 have hn:H T=none:=I.bW.fresh hT
 have nT:∀{b:Addr} {o:Obj},s.heap.get? b=some o->b≠T:=λe=>Nat.ne_of_lt (Nat.lt_of_lt_of_le (Heap.lt_size e) hT)
 have nch:∀{b:Addr} {o:HO},H b=some o->b∉ch:=λe hb=>by rw[(hf _ hb).1] at e;cases e
 refine I.Bc (ch:=ch) rfl ⟨λb o e n hb hc=>hk b o hc e,λb o e n hb hc=>⟨o.slots,hk b o hc e⟩,λb o e n hc=>by rw[aI (nT e)];exact n,λb o e hc=>⟨o,hk b o hc e⟩,
  λb zs e=>by rw[aI (a_ e hn)];exact e,λb o u e=>by rw[aI (a_ e hn)];exact e,λb ps e=>⟨#[],by rw[aI (a_ e hn),e];simp⟩⟩ (λb o e=>?_) I.bare λb hb=>?_
 ·by_cases hb:b=T
  ·rw[hb,aJ] at e
   cases e
   rw[hb]
   exact⟨(show 2<=sizeLine by decide),[u1,u2],.cons r1 (.cons r2 .nil),_,hp,rfl,_,rfl⟩
  ·rw[aI hb] at e
   refine(I.bW b o e).om (λc u hc q=>hk c u ?_ q) (λc hc=>by rw[aI (a_ hc hn)];exact hc) (λc zs hc=>by rw[aI (a_ hc hn)];exact hc)
   rcases hc with rfl|hc
   ·exact nch e
   ·exact nch hc
 ·obtain⟨_,f2,f3,f4,f5,f6⟩:=hf b hb
  exact⟨f4,f2,f5,f6⟩
theorem Inv.GQ {h':Heap}{t':Nat}{ch:List Addr}(I:Inv X pins σ H s)(hk:∀b o,b∉ch->s.heap.get? b=some o->h'.get? b=some o)(hf:∀b∈ch,jG X pins H b):Inv X pins σ H { s with heap:=h',toks:=t' }:=by
 have nch:∀{b:Addr} {o:HO},H b=some o->b∉ch:=λe hb=>by rw[(hf _ hb).1] at e;cases e
 refine I.Bc (ch:=ch) rfl ⟨λb o e n hb hc=>hk b o hc e,λb o e n hb hc=>⟨o.slots,hk b o hc e⟩,λb o e n hc=>n,λb o e hc=>⟨o,hk b o hc e⟩,λb zs e=>e,λb o u e=>e,λb ps e=>⟨#[],by rw[e];simp⟩⟩ (λb o e=>?_) I.bare λb hb=>?_
 ·refine(I.bW b o e).om (λc u hc q=>hk c u ?_ q) (λc hc=>hc) (λc zs hc=>hc)
  rcases hc with rfl|hc
  ·exact nch e
  ·exact nch hc
 ·obtain⟨_,f2,f3,f4,f5,f6⟩:=hf b hb
  exact⟨f4,f2,f5,f6⟩
end
section
variable {X:Cx}{e1 e2:Expr}{ta:TA}{p pos tp:Pos}{elts:List Expr}{c:Nat}
end
end L2
namespace DC
open PySem PySem.Spec PyProof.Rows L2
section
variable {X:Cx}{e1 e2:Expr}{ta:AD}{p pos tp:Pos}{elts:List Expr}{c:Nat}
end
theorem nF {K:PySem.W.Frag}{H:Hp}{σ:L2.St}{δ:SD}(r:br K H σ δ){x:V}{d:D}(dv:Dv K H x d):br K H (some x::σ) (some d::δ):=by
 refine⟨by rw[List.length_cons,List.length_cons,r.len],λi e h=>?_⟩
 cases i with
 |zero=>simp at h;subst h;exact⟨x,rfl,dv⟩
 |succ i=>simpa using r.get i e (by simpa using h)
theorem Bi {K:PySem.W.Frag}{H:Hp}{σ:L2.St}{δ:SD}(r:br K H σ δ)(caps:List Nat):br K H (caps.map λj=>(σ[j]?).getD none) (n0 caps δ):=by
 have q:=tK r (Dv.ak) caps
 refine⟨by simpa using q.len,λi d h=>?_⟩
 simpa using q.get (i+1) d (by simpa using h)
section
variable {X:Cx}{scope:Scope}{cl:List (Str × Addr)}{x y:Str}{cn:List Str}{caps:List Nat}{elt tg iter:Expr}{ifs:List Expr}{ti:AD}{tt:TD}{te:ED}{pos px py tp:Pos}{c:Nat}
end
section
variable {K:PySem.W.Frag}{H H':Hp}{μ μ':Mu}{L L':List Addr}
theorem dZ.join (g:dZ K H μ L)(g':dZ K H' μ' L')(z:∀b∈L,H' b=none)(s:aK (aN H L) (aN H' L')):dZ K (aa H' H L) (μ'++μ) (L'++L)/\aN (aa H' H L) (L'++L)=aN H' L':=by
 have nL:∀{b:Addr} {o:HO},H' b=some o->b∉L:=λe hb=>by rw[z _ hb] at e;cases e
 have e:aN (aa H' H L) (L'++L)=aN H' L':=by
  funext b
  by_cases h1:b∈L'
  ·rw[cL (List.mem_append_left _ h1),cL h1]
  ·by_cases h2:b∈L
   ·rw[cL (List.mem_append_right _ h2),ax h1,z b h2]
   ·rw[ax (λq=>(List.mem_append.mp q).elim h1 h2),ax h1,aV h2]
 refine⟨⟨λp hp=>?_,?_,λb hb=>?_,λb hb=>?_⟩,e⟩
 ·rcases List.mem_append.mp hp with hp|hp
  ·obtain⟨h1,h2⟩:=g'.at_ p hp
   refine⟨List.mem_append_left _ h1,?_⟩
   obtain⟨b,m⟩:=p
   cases m with
   |lst ds=>obtain⟨ws,h,d⟩:=h2;exact⟨ws,by rw[aV (nL h)];exact h,by rw[e];exact d⟩
   |ins C gs=>obtain⟨dx,fs,h,h2,h3,d⟩:=h2;exact⟨dx,fs,by rw[aV (nL h)];exact h,by rw[aV (nL h2)];exact h2,List.mem_append_left _ h3,by rw[e];exact d⟩
   |dK kvs=>obtain⟨ws,h,d⟩:=h2;exact⟨ws,by rw[aV (nL h)];exact h,by rw[e];exact d⟩
  ·obtain⟨h1,h2⟩:=g.at_ p hp
   refine⟨List.mem_append_right _ h1,?_⟩
   obtain⟨b,m⟩:=p
   cases m with
   |lst ds=>obtain⟨ws,h,d⟩:=h2;exact⟨ws,by rw[af h1];exact h,by rw[e];exact bM.same s d⟩
   |ins C gs=>obtain⟨dx,fs,h,h2,h3,d⟩:=h2;exact⟨dx,fs,by rw[af h1];exact h,by rw[af h3];exact h2,List.mem_append_right _ h3,by rw[e];exact gp.same s d⟩
   |dK kvs=>obtain⟨ws,h,d⟩:=h2;exact⟨ws,by rw[af h1];exact h,by rw[e];exact e7.same s d⟩
 ·rw[List.map_append,List.nodup_append]
  refine⟨g'.FQ,g.FQ,λa ha b hb hab=>?_⟩
  obtain⟨p,hp,rfl⟩:=List.mem_map.mp ha
  obtain⟨q,hq,rfl⟩:=List.mem_map.mp hb
  obtain⟨o,ho⟩:=(g'.dG _ (g'.at_ p hp).1).there
  rw[show p.1=q.1 from hab,z _ (g.at_ q hq).1] at ho
  cases ho
 ·rcases List.mem_append.mp hb with hb|hb
  ·have w:=g'.dG b hb
   cases w with
   |lst xs h=>exact .lst xs (by rw[aV (nL h)];exact h)
   |dK xs h=>exact .dK xs (by rw[aV (nL h)];exact h)
   |ins C dx fs h hd=>exact .ins C dx fs (by rw[aV (nL h)];exact h) (List.mem_append_left _ hd)
   |own C c fs h hc hi=>exact .own C c fs (by rw[aV (nL h)];exact h) (List.mem_append_left _ hc) (by rw[aV (nL hi)];exact hi)
  ·have w:=g.dG b hb
   cases w with
   |lst xs h=>exact .lst xs (by rw[af hb];exact h)
   |dK xs h=>exact .dK xs (by rw[af hb];exact h)
   |ins C dx fs h hd=>exact .ins C dx fs (by rw[af hb];exact h) (List.mem_append_right _ hd)
   |own C c fs h hc hi=>exact .own C c fs (by rw[af hb];exact h) (List.mem_append_right _ hc) (by rw[af hc];exact hi)
 ·rcases List.mem_append.mp hb with hb|hb
  ·rcases g'.Ea b hb with⟨m,h⟩|⟨c,h⟩
   ·exact .inl ⟨m,List.mem_append_left _ h⟩
   ·exact .inr ⟨c,by rw[aV (nL h)];exact h⟩
  ·rcases g.Ea b hb with⟨m,h⟩|⟨c,h⟩
   ·exact .inl ⟨m,List.mem_append_right _ h⟩
   ·exact .inr ⟨c,by rw[af hb];exact h⟩
end
abbrev EF:=SD->(D->Mu->Prop)->Prop
def kF (K:PySem.W.Frag)(H:Hp)(Q:VK):D->Mu->Prop:=λd μ=>∀v H' L',aK H (aN H' L')->dZ K H' μ L'->Dv K (aN H' L') v d->Q v H'
theorem kF.on {K:PySem.W.Frag}{H H1:Hp}{Q:VK}{d:D}{μ:Mu}(s:aK H H1)(h:kF K H Q d μ):kF K H1 Q d μ:=λv H' L' s' g dv=>h v H' L' (s.trans s') g dv
structure PF (X:Cx) (e:Expr) (t:EF):Prop where
 pe:PE X e (λσ H Q=>∃ δ,br X.K H σ δ/\t δ (kF X.K H Q))
 mono:∀ δ (P P':D->Mu->Prop),(∀d μ,P d μ->P' d μ)->t δ P->t δ P'
abbrev rD:=List D->(D->Mu->Prop)->Prop
abbrev iO (sd:rD):Prop:=∀ds (P P':D->Mu->Prop),(∀d μ,P d μ->P' d μ)->sd ds P->sd ds P'
def MA (K:PySem.W.Frag)(sd:rD):Sp:=λvs H Q _=>∃ds,bM K H vs ds/\sd ds (kF K H Q)
section
variable {P:Program}{w:World}{K:PySem.W.Frag}{mg:Str->Option Value}{base:Heap}
theorem Nl {x qual:Str}{st:Stmt}{f:Addr}{fd:FuncData}{N ps:List Str}{k:Nat}{sd:rD}{t:fL}(F:xA K x qual st f fd)(S:aE N ps (aC st))(len:∀ds Q,sd ds Q->ds.length=ps.length)
  (hb:∀(cdv:Value) (A:Around) (outer:List Env) (s:Shared) (H:Hp) (E:XK),cH k (A.deeper (envOfC qual (aC st) s.heap.objs.size f cdv))->uo (Bx P w K mg base N qual st f cdv A outer s H E) (bE st) t)
  (hr:∀ds Q,sd ds Q->t { nx:=λ_ μ=>Q .ak μ,rt:=Q } (cZ N ds) []):cP P w K mg base pQ (k+1) f fd ps (MA K sd):=by
 refine F.ok S (λvs H Q E ⟨ds,dvs,h⟩=>by rw[dvs.length];exact len ds _ h) (λcdv A outer s H vs Q E hroom ⟨ds,dvs,h⟩=>?_)
 have B:=hb cdv A outer s H E hroom
 refine⟨_,B.ps,cZ N ds,[],[],by rw[cI];exact lB dvs,dZ.nil,?_⟩
 refine B.mono { nx:=λ_ μ=>kF K H Q .ak μ,rt:=kF K H Q } _ _ _ ⟨λδ μ q σ H' L' s' r g=>?_,λd μ q v H' L' s' g dv=>?_,λ_ _ q=>q.elim,λ_ _ q=>q.elim⟩ (hr ds _ h)
 ·rw[cI] at s'
  exact q _ H' L' s' g .ak
 ·rw[cI] at s'
  exact q v H' L' s' g dv
theorem yU {sd:rD}{se:cF}(ms:iO sd)(h:∀ds Q,se ds Q->sd ds λd μ=>Q (ay μ d)):∀vs H Q E,qu K se vs H Q E->MA K sd vs H Q E:=λvs H Q E ⟨ds,dvs,q⟩ =>
 ⟨ds,dvs,ms _ _ _ (λd μ k v H' L' s g dv=>k v H' (s.trans bN) (g.view dv)) (h ds _ q)⟩
end
structure iN (P:Program) (w:World) (K:PySem.W.Frag) (mg:Str->Option Value) (base:Heap) (k:Nat) (x:Str) (ps:List Str) (sd:rD):Prop where
 ex:∃f fd,cP P w K mg base pQ k f fd ps (MA K sd)/\mg x=some (.ref f)/\keepIn K (.ref f)=true/\Binds K fd ps []
 ms:iO sd
structure jH (P:Program) (w:World) (K:PySem.W.Frag) (mg:Str->Option Value) (base:Heap) (j:Nat) (C:Addr) (m:Str) (sd:rD):Prop where
 ex:∃f fd ps,rE K C/\Meth K C m f/\cP P w K mg base pQ j f fd ps (MA K sd)/\Binds K fd ps []
 ms:iO sd
section
variable {X:Cx}{o e:Expr}{es:List Expr}{ta:ED}{t:AD}{tf:EF}{j k:Nat}{x m:Str}{ps:List Str}{sd:rD}{sm:Addr->rD}{ok:Addr->Prop}{p pos pos' apos:Pos}{i:Nat}
def KP (sd:rD)(t:AD):EF:=λδ Q=>t δ λds=>sd ds Q
theorem y_ (c:iN X.prog X.w X.K X.mg X.base j x ps sd)(hr:cH k X.A)(hj:j<=k)(hg:Gl X x)(ha:ni X (e::es) t)(hdb:(x == ("__debug__":Str))=false:=by decide)
  (h1:starEach (e::es) X.env=(false,eval e X.env)::starEach es X.env:=by rfl)(h2:(backTo pos (starEach es X.env)).any (·.1)=false:=by rfl):PF X (.Call (.Name x p) (e::es) [] pos) (KP sd t):=by
 obtain⟨f,fd,F,m,kp,b⟩:=c.ex
 refine⟨(uM F (hr.mono hj) hg m kp b .nil sI ha.pa hdb h1 h2).imp λσ H Q ⟨δ,r,h⟩=>⟨δ,r,ha.mono _ _ _ (λds q vs H1 s1 dvs=>⟨ds,by rw[List.append_nil];exact dvs,c.ms _ _ _ (λd μ k=>k.on s1) q⟩) h⟩,λδ P P' g h=>ha.mono _ _ _ (λds q=>c.ms _ _ _ g q) h⟩
def Gn (ok:Addr->Prop)(m:Str)(sm:Addr->rD)(ta:ED):EF:=λδ Q=>ta δ λd=>∃C gs,d=.obj C gs/\gs.lookup m=none/\ok C/\sm C [d] Q
theorem Hz {pl:Sem Bool}(hM:∀C,ok C->jH X.prog X.w X.K X.mg X.base j C m (sm C))(hr:cH k X.A)(hj:j<=k)(he:PD X o ta)
  (ht:eval (.Call (.Attribute o m apos) [] [] pos) X.env=(do
   let ov <- eval o X.env
   standAt apos.atName
   let (f,first) <- holding [ov] (getMethod ov m pl)
   callWith pos f first (backTo pos (starEach [] X.env)) (backToKw pos (keywordEach [] X.env))):=by rfl) :
  PF X (.Call (.Attribute o m apos) [] [] pos) (Gn ok m sm ta):=by
 refine⟨λpins s σ H Q I ⟨δ,r,h⟩=>?_,λδ P P' g h=>he.mono _ _ _ (λd ⟨C,gs,e,l,M,q⟩=>⟨C,gs,e,l,M,(hM C M).ms _ _ _ g q⟩) h⟩
 refine PySem.W.methodCall_KW (pl:=pl) (b6 (he.pe pins s σ H _ I ⟨δ,r,he.mono _ _ _ (λd k v H1 s1 dv=>(show ∃C gs dx fs a,v=.ref a/\Rd H1 a (.ins C dx fs)/\gp X.K H1 fs gs/\gs.lookup m=none/\ok C/\sm C [.obj C gs] (kF X.K H1 Q) from ?_)) h⟩) λu s1 ⟨v,H1,I1,rx,C,gs,dx,fs,a,ev,ha,hf,l,M,q⟩=>?_) ht
 ·obtain⟨C,gs,ed,l,M,q⟩:=k
  subst ed
  cases dv with
  |obj h1 h2=>exact⟨_,_,_,_,_,rfl,h1,h2,l,M,(hM _ M).ms _ _ _ (λd μ z=>z.on s1) q⟩
 ·subst ev
  obtain rfl:u=Value.ref a:=rx
  obtain⟨f,fd,ps,c,mt,F,b⟩:=(hM C M).ex
  refine o_ I1 ha c mt (hf.none l) ?_
  exact PySem.W.callWith_K0 (first:=[.ref a]) I1.uu mt.kp (yN (us:=[.ref a]) (vs:=[.ref a]) F (hr.mono hj) b .nil sI I1 (.cons rfl .nil) ⟨[.obj C gs],.cons (.obj ha hf) .nil,q⟩)
def Kl (tf:EF):fL:=λE δ μ=>tf δ λd μ'=>E.rt d (μ'++μ)
theorem gY (he:PF X e tf):p7 X (.Return (some e) pos) (Kl tf):=by
 refine⟨PS.imp (yJ (gx he.pe)) λD σ H ⟨δ,μ,L,r,g,h⟩=>⟨L,g.dG,δ,r,he.mono _ _ _ (λd μ' k v H' L' s' g' dv z=>?_) h⟩,λE E' δ μ l h=>he.mono _ _ _ (λd μ' q=>l.rt _ _ q) h⟩
 obtain⟨g2,e2⟩:=g.join g' z s'
 exact k v _ (L'++L) (by rw[e2];exact s') g2 (by rw[e2];exact dv)
end
inductive nk:List (Str × V)->List DictEntry->Prop
 |nil:nk [] []
 |cons {x:Str} {t:Tok} {v:V} {e:DictEntry} {kvs:List (Str × V)} {es:List DictEntry}:e.key=.str x t->RelV v e.val->nk kvs es->nk ((x,v)::kvs) (e::es)
structure KTab (w:World) (K:PySem.W.Frag) (a:Addr) (kvs:List (Str × V)):Prop where
 ex:∃(es:Array DictEntry) (n:Nat),K.lookup a=some ⟨.type "dict",none,.dict es n,#[]⟩/\PySem.W.KeysLit w.params es.toList/\nk kvs es.toList
 sys:(a == sysModules)=false
theorem nk.has {x:Str}:∀{kvs:List (Str × V)} {es:List DictEntry},nk kvs es->((es.find? λd=>Value.isStrOf x d.key).map (·.val)).isSome=kvs.any λp=>p.1 == x
 |_,_,.nil=>rfl
 |_,_,.cons (x:=y) (e:=e) hk hv r=>by
  have ih:=nk.has (x:=x) r
  rw[List.find?_cons,hk,List.any_cons]
  show(Option.map (·.val) (match (y == x) with|true=>some e|false=>_)).isSome=(y == x||_)
  cases h:(y == x) with
  |true=>rfl
  |false=>exact ih
theorem nk.get {x:Str}{v:V}:∀{kvs:List (Str × V)} {es:List DictEntry},nk kvs es->kvs.lookup x=some v->∃u,(es.find? λd=>Value.isStrOf x d.key).map (·.val)=some u/\RelV v u
 |_,_,.nil,h=>by cases h
 |_,_,.cons (x:=y) (e:=e) hk hv r,h=>by
  rw[List.lookup_cons] at h
  rw[List.find?_cons,hk]
  show ∃u,Option.map (·.val) (match (y == x) with|true=>some e|false=>_)=some u/\RelV v u
  rw[show(y == x)=(x == y) from Bool.beq_comm]
  cases q:(x == y) with
  |true=>rw[q] at h;cases h;exact⟨_,rfl,hv⟩
  |false=>rw[q] at h;exact nk.get r h
section
variable {X:Cx}{a:Addr}{kvs:List (Str × V)}
theorem Iy (T:KTab X.w X.K a kvs):gq X (compareOp .In) (λx y H Q=>∃z,x=.str z/\y=.ref a/\Q (.bl (kvs.any λp=>p.1 == z)) H):=by
 intro pins s σ H x y v u Q I rx ry h
 obtain⟨z,rfl,rfl,q⟩:=h
 obtain⟨t,rfl⟩:=(show ∃t,v=Value.str z t from rx)
 cases(show u=Value.ref a from ry)
 obtain⟨es,n,hl,hk,he⟩:=T.ex
 refine wpAny_in_of (strKind_is X.prog X.w z t) T.sys (mapOf_K (prog:=X.prog) I.uu hl hk) ?_
 have e:(findBy Value.isStrOf es z).isSome=kvs.any λp=>p.1 == z:=by
  unfold findBy
  obtain⟨l⟩:=es
  rw[List.find?_toArray]
  exact he.has
 rw[e]
 exact⟨.bl _,H,I.tok _,rfl,q⟩
theorem Aq (T:KTab X.w X.K a kvs):gq X (compareOp .NotIn) (λx y H Q=>∃z,x=.str z/\y=.ref a/\Q (.bl (!kvs.any λp=>p.1 == z)) H):=by
 intro pins s σ H x y v u Q I rx ry h
 obtain⟨z,rfl,rfl,q⟩:=h
 obtain⟨t,rfl⟩:=(show ∃t,v=Value.str z t from rx)
 cases(show u=Value.ref a from ry)
 obtain⟨es,n,hl,hk,he⟩:=T.ex
 refine wpAny_notIn_of (strKind_is X.prog X.w z t) T.sys (mapOf_K (prog:=X.prog) I.uu hl hk) ?_
 have e:(findBy Value.isStrOf es z).isSome=kvs.any λp=>p.1 == z:=by
  unfold findBy
  obtain⟨l⟩:=es
  rw[List.find?_toArray]
  exact he.has
 rw[e]
 exact⟨.bl _,H,I.tok _,rfl,q⟩
theorem Ew (T:KTab X.w X.K a kvs):D6 X (λx y H Q=>∃z r,x=.ref a/\y=.str z/\kvs.lookup z=some r/\Q r H):=by
 intro value slice pins s σ H x y v u Q I rx ry h hs
 obtain⟨z,r,rfl,rfl,hr,q⟩:=h
 obtain⟨t,rfl⟩:=(show ∃t,u=Value.str z t from ry)
 cases(show v=Value.ref a from rx)
 obtain⟨es,n,hl,hk,he⟩:=T.ex
 have hm:=mapOf_K (prog:=X.prog) (w:=X.w) I.uu hl hk
 obtain⟨b,hb,rb⟩:=he.get hr
 have e:findBy Value.isStrOf es z=some b:=by
  unfold findBy
  obtain⟨l⟩:=es
  rw[List.find?_toArray]
  exact hb
 exact tail_any hm.typeIs slot_dict_getitem.lookup (wpAny_getItem_of (strKind_is X.prog X.w z t) hm e ⟨r,H,I.tok _,rb,q⟩) hs
end
inductive Tb (K:PySem.W.Frag):List (Str × V)->List (Str × D)->Prop
 |nil:Tb K [] []
 |cons {x:Str} {v:V} {d:D} {kvs:List (Str × V)} {tab:List (Str × D)}:(∀H,Dv K H v d)->Tb K kvs tab->Tb K ((x,v)::kvs) ((x,d)::tab)
structure EC (w:World) (K:PySem.W.Frag) (mg:Str->Option Value) (x:Str) (a:Addr) (tab:List (Str × D)):Prop where
 at_:mg x=some (.ref a)
 ex:∃kvs,KTab w K a kvs/\Tb K kvs tab
theorem Tb.any {K:PySem.W.Frag}{z:Str}:∀{kvs:List (Str × V)} {tab:List (Str × D)},Tb K kvs tab->(kvs.any λp=>p.1 == z)=tab.any λp=>p.1 == z
 |_,_,.nil=>rfl
 |_,_,.cons h r=>by rw[List.any_cons,List.any_cons,Tb.any r]
theorem Tb.look {K:PySem.W.Frag}{z:Str}{d:D}:∀{kvs:List (Str × V)} {tab:List (Str × D)},Tb K kvs tab->tab.lookup z=some d->∃v,kvs.lookup z=some v/\∀H,Dv K H v d
 |_,_,.nil,h=>by cases h
 |_,_,.cons (x:=x) h r,e=>by
  rw[List.lookup_cons] at e ⊢
  cases q:z == x with
  |true=>rw[q] at e;cases e;exact⟨_,rfl,h⟩
  |false=>rw[q] at e;exact Tb.look r e
theorem PD.weak {X:Cx}{e:Expr}{t t':ED}(h:PD X e t)(m:bX t')(f:∀ δ Q,t' δ Q->t δ Q):PD X e t':=⟨h.pe.imp λσ H Q ⟨δ,r,q⟩=>⟨δ,r,f _ _ q⟩,m⟩
theorem lH.weak {X:Cx}{e:Expr}{t t':TD}(h:lH X e t)(m:gU t')(f:∀ δ Q,t' δ Q->t δ Q):lH X e t':=⟨PT.imp h.pt λσ H Q ⟨δ,r,q⟩=>⟨δ,r,f _ _ q⟩,m⟩
def Jp (neg:Bool)(tab:List (Str × D))(te:ED):ED:=λδ Q=>te δ λd=>∃z,d=.str z/\Q (.bl (if neg then !tab.any λp=>p.1 == z else tab.any λp=>p.1 == z))
theorem Gx {neg:Bool}{tab:List (Str × D)}{te:ED}(m:bX te):bX (Jp neg tab te):=λδ P P' g h=>m _ _ _ (λd ⟨z,e,q⟩=>⟨z,e,g _ q⟩) h
def Hy (neg:Bool)(a:Addr)(tab:List (Str × D)):F2:=λd e Q=>∃z,d=.str z/\e=.adr a/\Q (.bl (if neg then !tab.any λp=>p.1 == z else tab.any λp=>p.1 == z))
theorem CY {neg:Bool}{a:Addr}{tab:List (Str × D)}:e8 (Hy neg a tab):=λd e P P' g ⟨z,e1,e2,q⟩=>⟨z,e1,e2,g _ q⟩
def Lp (tab:List (Str × D))(te:ED):ED:=λδ Q=>te δ λd=>∃z r,d=.str z/\tab.lookup z=some r/\Q r
def Gj (a:Addr)(tab:List (Str × D)):F2:=λe d Q=>∃z r,e=.adr a/\d=.str z/\tab.lookup z=some r/\Q r
theorem FC {a:Addr}{tab:List (Str × D)}:e8 (Gj a tab):=λd e P P' g ⟨z,r,e1,e2,l,q⟩=>⟨z,r,e1,e2,l,g _ q⟩
section
variable {X:Cx}{a:Addr}{tab:List (Str × D)}{kvs:List (Str × V)}{x:Str}{p pos:Pos}{e:Expr}{te:ED}
theorem B2 (t:Tb X.K kvs tab):g8 X.K (λx y H Q=>∃z,x=.str z/\y=.ref a/\Q (.bl (kvs.any λp=>p.1 == z)) H) (Hy false a tab):=by
 rintro H v u d e Q hv hu ⟨z,rfl,rfl,q⟩
 cases hv
 cases hu
 exact⟨z,rfl,rfl,by rw[t.any];exact q _ H (aK.refl _) (.bl _)⟩
theorem vT (t:Tb X.K kvs tab):g8 X.K (λx y H Q=>∃z,x=.str z/\y=.ref a/\Q (.bl (!kvs.any λp=>p.1 == z)) H) (Hy true a tab):=by
 rintro H v u d e Q hv hu ⟨z,rfl,rfl,q⟩
 cases hv
 cases hu
 exact⟨z,rfl,rfl,by rw[t.any];exact q _ H (aK.refl _) (.bl _)⟩
theorem AN (t:Tb X.K kvs tab):g8 X.K (λx y H Q=>∃z r,x=.ref a/\y=.str z/\kvs.lookup z=some r/\Q r H) (Gj a tab):=by
 rintro H v u d e Q hv hu ⟨z,r,rfl,rfl,l,q⟩
 cases hv
 cases hu
 obtain⟨b,hb,db⟩:=t.look l
 exact⟨z,b,rfl,rfl,hb,q _ H (aK.refl _) (db H)⟩
theorem KH (T:EC X.w X.K X.mg x a tab)(hg:Gl X x)(he:PD X e te)(hm:behindInMarks .In (.Name x p)=false:=by rfl)(hd:(x == ("__debug__":Str))=false:=by decide):PD X (.Compare e [.In] [.Name x p] pos) (Jp false tab te):=by
 obtain⟨kvs,k,t⟩:=T.ex
 exact(rW (Iy k) (B2 t) CY he (dq (v:=.ref a) hg T.at_ rfl (λ_=>.adr a) hd) hm).weak (Gx he.mono) λδ Q h=>he.mono _ _ _ (λd ⟨z,e1,q⟩=>⟨z,e1,rfl,q⟩) h
theorem Ds (T:EC X.w X.K X.mg x a tab)(hg:Gl X x)(he:PD X e te)(hm:behindInMarks .NotIn (.Name x p)=false:=by rfl)(hd:(x == ("__debug__":Str))=false:=by decide):lH X (.Compare e [.NotIn] [.Name x p] pos) (ff (Jp true tab te)):=by
 obtain⟨kvs,k,t⟩:=T.ex
 exact(nY (Aq k) (vT t) CY he (dq (v:=.ref a) hg T.at_ rfl (λ_=>.adr a) hd) hm).weak (Cc (Gx he.mono)) λδ Q h=>he.mono _ _ _ (λd ⟨z,e1,q⟩=>⟨z,e1,rfl,q⟩) h
theorem Bp (T:EC X.w X.K X.mg x a tab)(hg:Gl X x)(he:PD X e te)(hs:tH e)(hd:(x == ("__debug__":Str))=false:=by decide):PD X (.Subscript (.Name x p) e pos) (Lp tab te):=by
 obtain⟨kvs,k,t⟩:=T.ex
 have q:=dq (X:=X) (pos:=p) (v:=.ref a) hg T.at_ rfl (λ_=>.adr a) hd
 exact(vJ (t:=oE X.K (vC (.adr a))) (G7 (Ew k) q.pe he.pe hs) q.mono he.mono (AN t) FC).weak (λδ P P' g h=>he.mono _ _ _ (λd ⟨z,r,e,l,q⟩=>⟨z,r,e,l,g _ q⟩) h) λδ Q h=>he.mono _ _ _ (λd ⟨z,r,e1,l,q⟩=>⟨z,r,rfl,e1,l,q⟩) h
end
def MZ (t:AD):EF:=λδ Q=>t δ λds=>ds.length<=sizeLine/\∀a,Q (.adr a) [(a,.lst ds)]
theorem qG {X:Cx}{es:List Expr}{t:AD}{pos:Pos}(h:ni X es t):PF X (.List es pos) (MZ t):=by
 refine⟨(yF h.pa).imp λσ H Q ⟨δ,r,q⟩=>⟨δ,r,h.mono _ _ _ (λds ⟨hl,k⟩ vs H1 s1 dvs=>⟨by rw[dvs.length];exact hl,λp hp=>?_⟩) q⟩,λδ P P' g q=>h.mono _ _ _ (λds ⟨hl,k⟩=>⟨hl,λa=>g _ _ (k a)⟩) q⟩
 obtain⟨g2,e2⟩:=(dZ.nil (K:=X.K) (H:=H1)).Ij hp (ds:=ds) (by rw[cI];exact dvs)
 exact k p (.ref p) _ [p] (by rw[e2,cI];exact s1) g2 (.adr p)
def mO (g:D->D)(ds:List D):List (Option D):=ds.map λd=>some (g d)
theorem oQ {g:D->D}{ds:List D}:(mO g ds).length=ds.length:=by simp[mO]
theorem rm {g:D->D}{ds:List D}{i:Nat}{d:D}{o:Option D}(h1:ds[i]?=some d)(h2:(mO g ds)[i]?=some o):d∈ds/\o=some (g d):=by
 unfold mO at h2
 rw[List.getElem?_map,h1] at h2
 exact⟨List.mem_of_getElem? h1,by simpa using h2.symm⟩
theorem mF {g:D->D}:∀{ds:List D},(mO g ds).filterMap id=ds.map g
 |[]=>rfl
 |d::ds=>by
  have ih:=mF (g:=g) (ds:=ds)
  unfold mO at ih ⊢
  rw[List.map_cons,List.map_cons,<- ih]
  rfl
section
variable {X:Cx}{e:Expr}{tf:EF}{x:Str}{pos pos':Pos}{i:Nat}
def Km (i:Nat)(tf:EF):fL:=λE δ μ=>tf δ λd μ'=>((μ'++μ).map (·.1)).Nodup->E.nx (δ.set i (some d)) (μ'++μ)
theorem d8 (hN:X.N.Nodup)(hi:X.N[i]?=some x)(hx:Loc X.env.scope x)(he:PF X e tf)(hs:swapsWith e (some (.Name x pos')) pos.line X.env=pure false:=by rfl)
  (hf:X.fn x=true\/X.env.scope.names.lookup x=some .local:=by first|exact .inl rfl|exact .inr rfl|assumption):p7 X (.Assign [.Name x pos'] e pos) (Km i tf):=by
 refine⟨PS.imp (uO hN hi hx (gx he.pe) hs hf) λD σ H ⟨δ,μ,L,r,g,h⟩=>⟨L,g.dG,δ,r,he.mono _ _ _ (λd μ' k v H' L' s' g' dv z=>?_) h⟩,λE E' δ μ l h=>he.mono _ _ _ (λd μ' q n=>l.nx _ _ (q n)) h⟩
 obtain⟨g2,e2⟩:=g.join g' z s'
 refine k g2.FQ _ _ (L'++L) (by rw[e2];exact s') ?_ g2
 rw[e2]
 exact(r.same s').set i dv
end
end DC
namespace L2
open PySem PySem.Spec PyProof.Rows
section
variable {X:Cx}{es:List Expr}{t:TA}
def N6 (t:TA):TA:=λσ H Q=>∃L,(∀a∈L,dC H L a)/\t σ (aN H L) λvs H4=>(∀b∈L,H4 b=none)->Q vs (aa H4 H L)
theorem JD (ha:PA X es t):PA X es (N6 t):=by
 intro pos pins s σ H Q I ⟨L,hL,q⟩
 refine mE I hL λpl I' _ back=>?_
 refine b6 (ha pos (pins++pl) s σ _ _ I' q) λv s1 ⟨vs,H4,I4,r,k⟩=>?_
 obtain⟨z,J⟩:=back _ _ _ I4
 exact⟨vs,_,J,r,k z⟩
end
end L2
namespace DC
open PySem PySem.Spec PyProof.Rows L2
section
variable {P:Program}{w:World}{K:PySem.W.Frag}{mg:Str->Option Value}{base:Heap}
end
section
variable {P:Program}{w:World}{K:PySem.W.Frag}{mg:Str->Option Value}{base:Heap}
end
section
variable {X:Cx}{o e:Expr}{es:List Expr}{ta:ED}{t:AD}{j k:Nat}{x y m:Str}{ps:List Str}{sd:N2}{sm:Addr->N2}{ok:Addr->Prop}{p pos pos' pos2 apos:Pos}{i:Nat}
end
end DC
namespace L2
open PySem PySem.Spec PyProof.Rows
section
variable {M:Model}{A:Around}{E:Value->Shared->Prop}{s:Shared}{B:Heap}{env:Env}{outer:List Env}{L e C:Addr}{dx:Option Addr}{Q:Unit->Shared->Prop}
end
section
variable {P:Program}{w:World}{H H':Hp}{h h':Heap}{a d:Addr}{u:HO}
end
section
variable {P:Program}{w:World}{H H':Hp}{h h':Heap}{b:Addr}{u:HO}{fs:List Addr}
def HO.data:HO->Prop
 |.own _=>False
 |.fB _ _=>False
 |_=>True
end
section
variable {X:Cx}{pins:List (Addr × Obj)}{σ:St}{H:Hp}{s s':Shared}{E:XK}{e:Value}
end
section
variable {X:Cx}{k:Nat}{f C:Addr}{fd:FuncData}{ps:List Str}{sp:Sp}{dvs:List V}{ds:List Value}
end
theorem cu.rd {K:PySem.W.Frag}{H H':Hp}{a:Addr}{xs:List V}(f:∀b u,HO.data u->Rd H b u->Rd H' b u)(h:cu K H a xs):cu K H' a xs:=by
 rcases h with h|h
 ·exact .inl (f _ _ True.intro h)
 ·exact .inr h
theorem iM.rd {K:PySem.W.Frag}{H H':Hp}{a:Addr}{xs:List V}(f:∀b u,HO.data u->Rd H b u->Rd H' b u)(h:iM K H a xs):iM K H' a xs:=by
 rcases h with h|h
 ·exact .inl (f _ _ True.intro h)
 ·exact .inr h
end L2
namespace DC
open PySem PySem.Spec PyProof.Rows L2
section
variable {K:PySem.W.Frag}{H H':Hp}
theorem oy.rd (f:∀b u,HO.data u->Rd H b u->Rd H' b u){dx:Option Addr}{fs:List (Str × V)}(h:oy H dx fs):oy H' dx fs:=by
 cases dx with
 |none=>exact h
 |some d=>exact f _ _ True.intro h
mutual
theorem Dv.rd (f:∀b u,HO.data u->Rd H b u->Rd H' b u):∀{v:V} {d:D},Dv K H v d->Dv K H' v d
 |_,_,.ak=>.ak
 |_,_,.bl b=>.bl b
 |_,_,.int i=>.int i
 |_,_,.str x=>.str x
 |_,_,.lst h1 h2=>.lst (h1.rd f) (bM.rd f h2)
 |_,_,.tup h1 h2=>.tup (h1.rd f) (bM.rd f h2)
 |_,_,.obj h1 h2=>.obj (f _ _ True.intro h1) (gp.rd f h2)
 |_,_,.dK h1 h2=>.dK (f _ _ True.intro h1) (e7.rd f h2)
 |_,_,.dT h1 h2=>.dT (f _ _ True.intro h1) (yh.rd f h2)
 |_,_,.adr a=>.adr a
 |_,_,.exc h1 h2 h3=>.exc (f _ _ True.intro h1) (oy.rd f h2) (gp.rd f h3)
theorem bM.rd (f:∀b u,HO.data u->Rd H b u->Rd H' b u):∀{vs:List V} {ds:List D},bM K H vs ds->bM K H' vs ds
 |_,_,.nil=>.nil
 |_,_,.cons h1 h2=>.cons (Dv.rd f h1) (bM.rd f h2)
theorem gp.rd (f:∀b u,HO.data u->Rd H b u->Rd H' b u):∀{vs:List (Str × V)} {ds:List (Str × D)},gp K H vs ds->gp K H' vs ds
 |_,_,.nil=>.nil
 |_,_,.cons h1 h2=>.cons (Dv.rd f h1) (gp.rd f h2)
theorem e7.rd (f:∀b u,HO.data u->Rd H b u->Rd H' b u):∀{vs:List (Key × V)} {ds:List (Key × D)},e7 K H vs ds->e7 K H' vs ds
 |_,_,.nil=>.nil
 |_,_,.cons h1 h2=>.cons (Dv.rd f h1) (e7.rd f h2)
theorem yh.rd (f:∀b u,HO.data u->Rd H b u->Rd H' b u):∀{vs:List (List Key × V)} {ds:List (List Key × D)},yh K H vs ds->yh K H' vs ds
 |_,_,.nil=>.nil
 |_,_,.cons h1 h2=>.cons (Dv.rd f h1) (yh.rd f h2)
end
end
section
variable {X:Cx}{e:Expr}{es:List Expr}{t:AD}{pos p:Pos}{x:Str}{k:Nat}{f:Addr}{fd:FuncData}{ps:List Str}{sx:N3}{xk:SD->XR}{dvs:List V}{dls:List Value}{dd:List D}
end
section
variable {P:Program}{w:World}{K:PySem.W.Frag}{mg:Str->Option Value}{base:Heap}
end
end DC
namespace L2
open PySem PySem.Spec PyProof.Rows
section
variable {P:Program}{w:World}{H:Hp}{h:Heap}{C:Addr}{fs ex:List Addr}
end
section
variable {X:Cx}{k:Nat}{f C:Addr}{fd:FuncData}{ps:List Str}{sp:Sp}{dvs:List V}{ds:List Value}
end
end L2
namespace DC
open PySem PySem.Spec PyProof.Rows L2
section
variable {X:Cx}{o e:Expr}{es:List Expr}{ta:ED}{t:AD}{pos p apos:Pos}{x m:Str}{j k:Nat}{f C:Addr}{fd:FuncData}{ps:List Str}{sx:N1}{sm:Addr->N3}{ok:Addr->Prop}{xk:SD->XR}{dvs:List V}{dls:List Value}{dd:List D}
end
section
variable {P:Program}{w:World}{K:PySem.W.Frag}{mg:Str->Option Value}{base:Heap}
end
end DC
namespace L2
open PySem PySem.Spec PyProof.Rows
end L2
namespace DC
open PySem PySem.Spec PyProof.Rows L2
section
variable {X:Cx}{scope:Scope}{cl:List (Str × Addr)}{N:List Str}{R:XR}{C:Addr}{fp:List Addr}{pins:List (Addr × Obj)}{σ:L2.St}{H2:Hp}{s s2:Shared}
end
section
variable {X:Cx}{scope:Scope}{cl:List (Str × Addr)}{T cn:List Str}{caps:List Nat}{elt tg iter:Expr}{ifs:List Expr}{wi:TI}{g:TG}{tt:TT}{te:TE}{pos:Pos}{R:XR}
end
section
variable {X:Cx}{scope:Scope}{cl:List (Str × Addr)}{x:Str}{cn:List Str}{caps:List Nat}{elt tg iter:Expr}{ifs:List Expr}{ti:AD}{tt:TD}{te:ED}{pos:Pos}{R:XR}
end
end DC
namespace L2
open PySem PySem.Spec PyProof.Rows
section
variable {X:Cx}{pins:List (Addr × Obj)}{σ:St}{H:Hp}{s:Shared}{A:Around}{E:Value->Shared->Prop}
end
end L2
namespace DC
open PySem PySem.Spec PyProof.Rows L2
section
variable {X:Cx}{st:Stmt}{rest:List Stmt}{t u:jE}
end
end DC
namespace L2
open PySem PySem.Spec PyProof.Rows
section
variable {X:Cx}{k:Nat}{f:Addr}{fd:FuncData}{ps:List Str}{sp:Sp}
end
end L2
namespace DC
open PySem PySem.Spec PyProof.Rows L2
section
variable {P:Program}{w:World}{K:PySem.W.Frag}{mg:Str->Option Value}{base:Heap}
end
section
variable {X:Cx}{e:Expr}{es:List Expr}{t:AD}{pos p:Pos}{x:Str}{j k:Nat}{ps:List Str}{sd:cF}{ea:Addr}
end
end DC
namespace L2
open PySem PySem.Spec PyProof.Rows
section
variable {prog:Program}{w:World}{A:Around}{E:Value->Shared->Prop}{s:Shared}
end
section
variable {prog:Program}{w:World}{A:Around}{E:Value->Shared->Prop}{s:Shared}{K:PySem.W.Frag}{x C:Addr}{ox:Obj}{od:Option Obj}{name:Str}{tk:Tok}
end
section
variable {X:Cx}
end
end L2
namespace DC
open PySem PySem.Spec PyProof.Rows L2
section
variable {X:Cx}{o e:Expr}{es:List Expr}{te to:ED}{t:AD}{pos p p2 apos cpos:Pos}
end
end DC
namespace L2
open PySem PySem.Spec PyProof.Rows
open Builtin Builtin.ObjectAttr
section
variable {prog:Program}{w:World}{A:Around}{E:Value->Shared->Prop}{s:Shared}{K:PySem.W.Frag}{x C:Addr}{R:Result->Shared->Prop}{name:Str}{v:Value}{o:Obj}
end
open DC (HQ MO)
section
variable {X:Cx}{pins:List (Addr × Obj)}{σ:St}{H:Hp}{s:Shared}{a C d:Addr}{f:Str}{v:V}{u:Value}{Q:Unit->Shared->Prop}{E:Value->Shared->Prop}{A:Around}{fs:List (Str × V)}{p:Array Value->Prop}
end
open DC (HQ MO)
section
variable {prog:Program}{w:World}{A:Around}{E:Value->Shared->Prop}{h:Heap}{g:Array GenState}{d:Drawn}{t:Nat}{os:OsState}
variable {nm q:Str}{C N:Addr}{bs bm:List Value}{hdct:Bool}{sn:List Str}{sub:List Value}{ab:Bool}{col:Option Bool}{dd:Option Addr}{k0 k1 k2 k3 k5:Option Value}
end
end L2
namespace DC
open PySem PySem.Spec PyProof.Rows L2
section
variable {X:Cx}{x p f:Str}{j:Nat}{pa pv pos pos':Pos}
end
section
variable {P:Program}{w:World}{K:PySem.W.Frag}{mg:Str->Option Value}{base:Heap}
end
section
variable {X:Cx}{e:Expr}{es:List Expr}{t:AD}{pos p:Pos}{x:Str}{j k:Nat}{C:Addr}{fl:List Str}
end
section
variable {X:Cx}{c e:Expr}{es:List Expr}{body:List Stmt}{uc:TD}{te:ED}{tb:jE}{g:BY}{pos tp:Pos}{k:Nat}
end
section
variable {X:Cx}{a b:Expr}{rest:List Expr}{pos:Pos}{ta tb:TE}
end
section
variable {X:Cx}{a b:Expr}{rest:List Expr}{pos:Pos}{ta tb:ED}
end
end DC
namespace L2
open PySem PySem.Spec PyProof.Rows
section
variable {X:Cx}{pins:List (Addr × Obj)}{σ:St}{H:Hp}{s:Shared}{a C d:Addr}{t:Heap->Prop}
end
section
variable {prog:Program}{w:World}{A:Around}{E:Value->Shared->Prop}{s:Shared}{K:PySem.W.Frag}{env:Env}
end
end L2
namespace DC
open PySem PySem.Spec PyProof.Rows L2
section
variable {X:Cx}{e:Expr}{es:List Expr}{t:AD}{pos cpos p:Pos}{x:Str}{j k:Nat}{C:Addr}{fl:List Str}{xk:SD->XR}
end
end DC
namespace L2
open PySem PySem.Spec PyProof.Rows
def MJ (K:PySem.W.Frag)(l:Addr):It where
 go:=λi H=>∃xs x,cu K H l xs/\xs[i]?=some x
 BR:=λi H v H'=>∃p x,H p=none/\v=.ref p/\H'=upd H p (.tup [.int (i:Int),x])/\∀xs,cu K H l xs->xs[i]?=some x
 stop:=λi H=>∃xs,cu K H l xs/\xs[i]?=none
theorem BF {P:Program}{w:World}{K:PySem.W.Frag}{elts:List Expr}{c:Nat}{tp:Pos}{e it l:Addr}(hei:e≠it)(hle:l≠e)(hli:l≠it) :
  Turn P w K (.Tuple elts c tp) (MJ K l) [e,it] e (λi h=>(∃old,IsEnum h e it i old)/\h.IsListIter it l i) where
 mem:=by simp
 obj:=λi h ⟨⟨old,he⟩,hit⟩ q hq=>by
  simp only[List.mem_cons,List.not_mem_nil,or_false] at hq
  rcases hq with rfl|rfl
  ·exact⟨_,he,λv z=>by cases z⟩
  ·obtain⟨o,z,_,d⟩:=hit
   exact⟨o,z,λv y=>by rw[d] at y;cases y⟩
 keep:=λi h h' ⟨⟨old,he⟩,hit⟩ k=>⟨⟨old,k _ (by simp) _ he⟩,hit.at λo z=>k it (by simp) o z⟩
 item:=by
  intro X hP hw hK hc i pins s σ H E I hf st hg
  subst hP hw hK
  obtain⟨⟨old,he⟩,hit⟩:=st
  obtain⟨xs,x,hq,hx⟩:=hg
  obtain⟨its,rv,p,hz⟩:=I.list hq
  obtain⟨u,hu,ru⟩:=rv.get hx
  refine wpAny_pyNext_enum_item he hit p.isList (x:=u) (by simpa using hu) hei λh' ho hit' hT hsz hk=>?_
  refine⟨_,rfl,wpAny_letOwnedTupleGo_enum ho λh'' he' sb=>?_⟩
  have elt:e<s.heap.objs.size:=Heap.lt_size he
  have ilt:it<s.heap.objs.size:=by obtain⟨o,z,_⟩:=hit;exact Heap.lt_size z
  have up:∀b o,b≠e->h'.get? b=some o->h''.get? b=some o:=λb o nb q=>(sb.2 b nb).trans q
  have I':=I.GR (h':=h'') (t':=s.toks+1) (ch:=[e,it]) (T:=s.heap.objs.size) (u1:=.int (i:Int) s.toks) (u2:=u) (x:=.int (i:Int)) (y:=x)
   (λb o hb q=>by
    simp only[List.mem_cons,List.not_mem_nil,or_false,not_or] at hb
    exact up b o hb.1 (hk b o hb.1 hb.2 q)) hf (Nat.le_refl _) (up _ _ (Nat.ne_of_gt elt) hT) ⟨_,rfl⟩ ru
  refine⟨.ref s.heap.objs.size,_,I',rfl,⟨_,x,I.fresh,rfl,rfl,λzs hz'=>by rw[I.vy hz' hq];exact hx⟩,⟨⟨_,he'⟩,hit'.at λo z=>up it o (Ne.symm hei) z⟩,λb hb=>?_⟩
  have hfb:=(hf b hb).1
  rw[aI]
  ·exact hfb
  ·intro z
   have lt:b<s.heap.objs.size:=by
    simp only[List.mem_cons,List.not_mem_nil,or_false] at hb
    rcases hb with rfl|rfl
    ·exact elt
    ·exact ilt
   rw[z] at lt
   exact Nat.lt_irrefl _ lt
 done:=by
  intro X hP hw hK hc i pins s σ H E I hf st hg
  subst hP hw hK
  obtain⟨⟨old,he⟩,hit⟩:=st
  obtain⟨xs,hq,hx⟩:=hg
  obtain⟨its,rv,p,hz⟩:=I.list hq
  have hl:=rv.length
  refine wpAny_pyNext_enum_end (I.ok.hd hc) he hit p.isList (by simp only[List.getElem?_toArray];rw[List.getElem?_eq_none_iff] at hx ⊢;omega) λh' eb=>⟨rfl,I.GQ (t':=s.toks) (ch:=[e,it]) (λb o hb q=>?_) hf⟩
  simp only[List.mem_cons,List.not_mem_nil,or_false,not_or] at hb
  exact eb b o hb.2 q
 self:=λ_ _ _ _ _ st h=>let ⟨⟨_,he⟩,_⟩:=st;wpAny_pyIter_enum he h
section
variable {X:Cx}{e1:Expr}{ta:TA}{p pos tp:Pos}{elts:List Expr}{c:Nat}
def KZ (K:PySem.W.Frag)(ta:TA):TI:=λσ H R=>ta σ H λvs H1=>∃l xs,vs=[.ref l]/\cu K H1 l xs/\R (MJ K l) H1
theorem Fo (hg:Gl X "enumerate")(hm:X.mg "enumerate"=none)(ha:PA X [e1] ta)(hs:starEach [e1] X.env=[(false,eval e1 X.env)]:=by rfl) :
  PI X (.Tuple elts c tp) (.Call (.Name "enumerate" p) [e1] [] pos) (KZ X.K ta):=by
 intro pins s σ H R I h
 refine Call_ (oK I hg hm boot_enumerate (PyProof.Rows.callWith_type1 (b6 (ha pos pins s σ H _ I h) λus s1 ⟨vs,H1,I1,r1,q1⟩=>?_) (by rw[hs];rfl) rfl))
 obtain⟨l,xs,e,hq,q⟩:=q1
 subst e
 obtain⟨u,rfl,ru⟩:=r1.one
 cases(show u=Value.ref l from ru)
 obtain⟨its,rv,pl,hz⟩:=I1.list hq
 have llt:l<s1.heap.objs.size:=by obtain⟨o,n,z,_⟩:=pl;exact Heap.lt_size z
 refine call_enumerate_list pl.isList λh' a1 a2 a3 a4=>wpAny_pyIter_enum a1 ?_
 have I2:Inv X pins σ H1 { s1 with heap:=h' }:=I1.kept (t':=s1.toks) a4
 refine⟨_,[s1.heap.objs.size+1,s1.heap.objs.size],_,_,H1,rfl,I2,BF (l:=l) (Nat.succ_ne_self _) (Nat.ne_of_lt (Nat.lt_succ_of_lt llt)) (Nat.ne_of_lt llt),⟨⟨_,a1⟩,a2⟩,λb hb=>?_,q⟩
 have hb':s1.heap.objs.size<=b:=by
  simp only[List.mem_cons,List.not_mem_nil,or_false] at hb
  rcases hb with rfl|rfl
  ·exact Nat.le_add_right _ _
  ·exact Nat.le_refl _
 exact I1.B8 hb' (I1.bW.fresh hb')
end
end L2
namespace DC
open PySem PySem.Spec PyProof.Rows L2
def Gi:Nat->List D->List D
 |_,[]=>[]
 |k,x::xs=>.tup [.int (k:Int),x]::Gi (k+1) xs
theorem kl:∀(k:Nat) (xs:List D),(Gi k xs).length=xs.length
 |_,[]=>rfl
 |k,_::xs=>by rw[Gi,List.length_cons,List.length_cons,kl (k+1) xs]
theorem tR:∀(k i:Nat) (xs:List D),(Gi k xs)[i]?=(xs[i]?).map λx=>.tup [.int ((k+i:Nat):Int),x]
 |_,_,[]=>rfl
 |k,0,_::_=>rfl
 |k,i+1,_::xs=>by
  rw[Gi,List.getElem?_cons_succ,List.getElem?_cons_succ,tR (k+1) i xs,show k+1+i=k+(i+1) by omega]
theorem Eu {K:PySem.W.Frag}{H:Hp}{l:Addr}{xs:List V}{ds:List D}(h1:cu K H l xs)(d1:bM K H xs ds):HS K (MJ K l) H (Gi 0 ds):=by
 have hl:=kl 0 ds
 refine⟨λi H' s' hi=>?_,λH' s'=>⟨xs,s'.seq h1,?_⟩,λi H' x H'' s' hi y=>?_⟩
 ·rw[hl] at hi
  obtain⟨v1,g1,_⟩:=d1.get (List.getElem?_eq_getElem hi)
  exact⟨xs,v1,s'.seq h1,g1⟩
 ·rw[hl,List.getElem?_eq_none_iff,d1.length]
  exact Nat.le_refl _
 ·obtain⟨q,u,hn,rfl,rfl,y1⟩:=y
  obtain⟨a1,g1,v1⟩:=d1.En (y1 _ (s'.seq h1))
  have hnH:H q=none:=s'.free hn
  refine⟨aU hn,.tup [.int (i:Int),a1],by rw[tR,g1,Nat.zero_add];rfl,upd H q (.tup [.int (i:Int),u]),aU hnH,.tup (iM.of aJ) (.cons (.int _) (.cons (v1.same (aU hnH)) .nil)),λa o z=>?_,λa o z=>?_⟩
  ·by_cases ha:a=q
   ·rw[ha];exact .inr hn
   ·rw[aI ha] at z;exact .inl z
  ·by_cases ha:a=q
   ·rw[ha] at z ⊢;rw[aJ] at z ⊢;exact z
   ·rw[aI ha] at z ⊢;exact s' _ _ z
section
variable {X:Cx}{e1:Expr}{ta:AD}{p pos tp:Pos}{elts:List Expr}{c:Nat}
def J7 (ta:AD):AD:=λδ Q=>ta δ λds=>∃xs,ds=[.lst xs]/\Q (Gi 0 xs)
theorem tZ (hg:Gl X "enumerate")(hm:X.mg "enumerate"=none)(ha:ni X [e1] ta)(hs:starEach [e1] X.env=[(false,eval e1 X.env)]:=by rfl) :
  PId X (.Tuple elts c tp) (.Call (.Name "enumerate" p) [e1] [] pos) (J7 ta):=by
 refine⟨PI.imp (Fo hg hm ha.pa hs) λσ H R ⟨δ,r,h⟩=>⟨δ,r,ha.mono _ _ _ (λds ⟨xs,ed,q⟩ vs H1 sm dvs=>?_) h⟩,λδ P P' g h=>ha.mono _ _ _ (λds ⟨xs,ed,q⟩=>⟨xs,ed,g _ q⟩) h⟩
 subst ed
 cases dvs with
 |cons a r =>
  cases r
  cases a with
  |lst g1 v1=>exact⟨_,_,rfl,g1,q _ H1 sm (Eu g1 v1)⟩
end
section
variable {X:Cx}{scope:Scope}{cl:List (Str × Addr)}{x y:Str}{cn:List Str}{caps:List Nat}{elt iter:Expr}{ifs:List Expr}{ti:AD}{tt:TD}{te:ED}{pos px py tp:Pos}{c:Nat}{R:XR}
end
def Ad:D->Option Key
 |.int i=>some (.inl i)
 |.str x=>some (.inr x)
 |_=>none
def eV (kvs:List (Key × D))(k:Key):Option D:=(kvs.find? λkv=>decide (kv.1=k)).map (·.2)
def HL (td ty:ED):ED:=λδ Q=>td δ λd=>ty δ λy=>∃kvs k r,d=.dK kvs/\Ad y=some k/\eV kvs k=some r/\Q r
theorem e7.look {K:PySem.W.Frag}{H:Hp}{k:Key}{r:D}:∀{vs:List (Key × V)} {ds:List (Key × D)},e7 K H vs ds->eV ds k=some r->∃v,nh vs k=some v/\Dv K H v r
 |_,_,.nil,e=>by cases e
 |_,_,.cons (k:=k') (x:=x) (d:=d) (xs:=xs) (ds:=ds) h t,e=>by
  unfold eV at e
  unfold nh
  rw[List.find?_cons] at e ⊢
  by_cases q:k'=k
  ·simp only[q,decide_true] at e ⊢
   cases e
   exact⟨x,rfl,h⟩
  ·simp only[q,decide_false] at e ⊢
   exact e7.look t e
section
variable {X:Cx}{o i:Expr}{pos:Pos}{td ty:ED}
theorem cM (hu:X.A.units+64<cLine)(ho:PD X o td)(hi:PD X i ty)(hs:HU i):PD X (.Subscript o i pos) (HL td ty):=by
 refine⟨(Fj (by omega) ho.pe hi.pe hs).imp λσ H Q ⟨δ,r,h⟩=>⟨δ,r,ho.mono _ _ _ (λd hd v H1 s1 dv=>⟨δ,r.same s1,hi.mono _ _ _ (λy hy u H2 s2 du=>?_) hd⟩) h⟩,λδ P P' g h=>ho.mono _ _ _ (λd h'=>hi.mono _ _ _ (λe ⟨kvs,k,z,h1,h2,h3,h4⟩=>⟨kvs,k,z,h1,h2,h3,g _ h4⟩) h') h⟩
 obtain⟨kvs,k,z,e1,e2,e3,q⟩:=hy
 subst e1
 cases dv with
 |dK g1 g2 =>
  obtain⟨v,ev,dv'⟩:=(g2.same s2).look e3
  refine⟨_,v,rfl,.inl ⟨_,k,kz s2 g1,?_,ev.symm⟩,q v H2 (s1.trans s2) dv'⟩
  cases du<;>cases e2<;>rfl
end
section
variable {X:Cx}{rest:List Stmt}{st:Stmt}{t:fL}
def vz (t:fL):fL:=λE δ μ=>t E (bB μ δ) []
theorem Eo (m:uy t){D:Ends}{σ:L2.St}{H:Hp}(h:oM X.K (vz t) D σ H):oM X.K t D σ H:=by
 obtain⟨δ,μ,L,r,g,h⟩:=h
 exact⟨bB μ δ,[],[],by rw[cI];exact g.bB r,dZ.nil,m _ _ _ _ (km (by rw[cI];exact bN)) h⟩
theorem qX (h:uo X rest t):uo X rest (vz t):=⟨ly.imp h.ps λD σ H q=>Eo h.mono q,λE E' δ μ l q=>h.mono _ _ _ _ l q⟩
end
section
variable {K:PySem.W.Frag}{H:Hp}{μ:Mu}{L:List Addr}{a:Addr}{vs ys:List (Key × V)}{ds:List (Key × D)}
theorem dZ.putK (g:dZ K H μ L)(ha:a∈L)(hv:H a=some (.dK vs))(d:e7 K (aN H L) ys ds):dZ K (upd H a (.dK ys)) (fR a (.dK ds) μ) L:=by
 have e:aN (upd H a (.dK ys)) L=aN H L:=cp ha
 refine⟨λp hp=>?_,by rw[sR];exact g.FQ,λb hb=>?_,λb hb=>?_⟩
 ·obtain⟨q,hq,rfl⟩:=List.mem_map.mp hp
  by_cases hqa:q.1=a
  ·rw[if_pos hqa]
   exact⟨ha,ys,aJ,by rw[e];exact d⟩
  ·rw[if_neg hqa]
   obtain⟨h1,h2⟩:=g.at_ q hq
   refine⟨h1,?_⟩
   obtain⟨b,m⟩:=q
   cases m with
   |lst ds=>obtain⟨ws,h,d⟩:=h2;exact⟨ws,by rw[aI hqa];exact h,by rw[e];exact d⟩
   |ins C gs=>obtain⟨dx,fs,h,h2,h3,d⟩:=h2;exact⟨dx,fs,by rw[aI hqa];exact h,by rw[aI (λz=>by rw[z,hv] at h2;cases h2)];exact h2,h3,by rw[e];exact d⟩
   |dK kvs=>obtain⟨ws,h,d⟩:=h2;exact⟨ws,by rw[aI hqa];exact h,by rw[e];exact d⟩
 ·by_cases hba:b=a
  ·rw[hba];exact .dK ys aJ
  ·have w:=g.dG b hb
   cases w with
   |lst xs h=>exact .lst xs (by rw[aI hba];exact h)
   |dK xs h=>exact .dK xs (by rw[aI hba];exact h)
   |ins C dx fs h hd=>exact .ins C dx fs (by rw[aI hba];exact h) hd
   |own C c fs h hc hi=>exact .own C c fs (by rw[aI hba];exact h) hc (by rw[aI (λz=>by rw[z,hv] at hi;cases hi)];exact hi)
 ·rcases g.Ea b hb with⟨m,h⟩|⟨c,h⟩
  ·by_cases hba:b=a
   ·exact .inl ⟨.dK ds,List.mem_map.mpr ⟨_,h,by rw[if_pos hba,hba]⟩⟩
   ·exact .inl ⟨m,List.mem_map.mpr ⟨_,h,if_neg hba⟩⟩
  ·exact .inr ⟨c,by rw[aI (λz=>by rw[z,hv] at h;cases h)];exact h⟩
theorem dZ.Mw (hn:H a=none)(d:e7 K H ys ds):dZ K (upd H a (.dK ys)) [(a,.dK ds)] [a]/\aN (upd H a (.dK ys)) [a]=H:=by
 have e:aN (upd H a (.dK ys)) [a]=H:=by
  funext b
  by_cases hb:b=a
  ·rw[hb,cL List.mem_cons_self,hn]
  ·rw[ax (λz=>hb (List.mem_singleton.mp z)),aI hb]
 refine⟨⟨λp hp=>?_,?_,λb hb=>?_,λb hb=>?_⟩,e⟩
 ·rw[List.mem_singleton.mp hp]
  exact⟨List.mem_cons_self,ys,aJ,by rw[e];exact d⟩
 ·rw[List.map_cons,List.map_nil];exact List.nodup_cons.mpr ⟨(λh=>nomatch h),List.nodup_nil⟩
 ·rw[List.mem_singleton.mp hb];exact .dK ys aJ
 ·rw[List.mem_singleton.mp hb];exact .inl ⟨_,List.mem_cons_self⟩
end
def h_ (kvs:List (Key × D))(k:Key)(v:D):List (Key × D) :=
 if(kvs.any λkv=>decide (kv.1=k))=true then kvs.map (λkv=>if kv.1=k then(kv.1,v) else kv) else kvs++[(k,v)]
section
variable {K:PySem.W.Frag}{H:Hp}
theorem e7.length:∀{vs:List (Key × V)} {ds:List (Key × D)},e7 K H vs ds->vs.length=ds.length
 |_,_,.nil=>rfl
 |_,_,.cons _ h=>congrArg (·+1) (e7.length h)
theorem e7.any {k:Key}:∀{vs:List (Key × V)} {ds:List (Key × D)},e7 K H vs ds->(vs.any λkv=>decide (kv.1=k))=ds.any λkv=>decide (kv.1=k)
 |_,_,.nil=>rfl
 |_,_,.cons _ h=>by rw[List.any_cons,List.any_cons,e7.any h]
theorem e7.snoc {k:Key}{v:V}{d:D}(hv:Dv K H v d):∀{vs:List (Key × V)} {ds:List (Key × D)},e7 K H vs ds->e7 K H (vs++[(k,v)]) (ds++[(k,d)])
 |_,_,.nil=>.cons hv .nil
 |_,_,.cons h r=>.cons h (e7.snoc hv r)
theorem e7.xj {k:Key}{v:V}{d:D}(hv:Dv K H v d):∀{vs:List (Key × V)} {ds:List (Key × D)},e7 K H vs ds->e7 K H (vs.map λkv=>if kv.1=k then(kv.1,v) else kv) (ds.map λkv=>if kv.1=k then(kv.1,d) else kv)
 |_,_,.nil=>.nil
 |_,_,.cons (k:=j) (x:=x) (d:=y) h r=>by
  rw[List.map_cons,List.map_cons]
  by_cases e:j=k
  ·rw[if_pos (show((j,x):Key × V).1=k from e),if_pos (show((j,y):Key × D).1=k from e)]
   exact .cons hv (e7.xj hv r)
  ·rw[if_neg (show¬((j,x):Key × V).1=k from e),if_neg (show¬((j,y):Key × D).1=k from e)]
   exact .cons h (e7.xj hv r)
theorem e7.put {k:Key}{v:V}{d:D}(hv:Dv K H v d){vs:List (Key × V)}{ds:List (Key × D)}(h:e7 K H vs ds):e7 K H (putK vs k v) (h_ ds k d):=by
 unfold putK h_
 rw[h.any]
 split
 ·exact h.xj hv
 ·exact h.snoc hv
theorem xZ {y:V}{d:D}{k:Key}(h:Dv K H y d)(e:Ad d=some k):y=kV k:=by cases h<;>cases e<;>rfl
end
section
variable {X:Cx}{e ke:Expr}{te tk:ED}{i:Nat}{x:Str}{p pos pos':Pos}
def Hw:EF:=λ_ Q=>∀a,Q (.adr a) [(a,.dK [])]
theorem iV:PF X (.Dict [] [] pos) Hw:=by
 refine⟨C9.imp λσ H Q ⟨δ,r,q⟩ a hn=>?_,λδ P P' g q a=>g _ _ (q a)⟩
 obtain⟨g2,e2⟩:=dZ.Mw (K:=X.K) (ds:=[]) hn .nil
 exact q a (.ref a) _ [a] (by rw[e2];exact aK.refl _) g2 (.adr a)
def Kj (i:Nat)(tk te:ED):fL:=λE δ μ=>te δ λd=>∃a kvs,δ[i]?=some (some (.adr a))/\μ.lookup a=some (.dK kvs)/\kvs.length<sizeLine/\tk δ λy=>∃k,Ad y=some k/\E.nx δ (fR a (.dK (h_ kvs k d)) μ)
theorem fh (hu:X.A.units+64<cLine)(hi:X.N[i]?=some x)(hv:uq X.env.scope x)(hk:PD X ke tk)(he:PD X e te)(hd:(x == ("__debug__":Str))=false:=by decide)(hcd:(x == ("__classdict__":Str))=false:=by decide)
  (hs:swapsWith e (some (.Subscript (.Name x p) ke pos')) pos.line X.env=pure false:=by rfl):p7 X (.Assign [.Subscript (.Name x p) ke pos'] e pos) (Kj i tk te):=by
 refine⟨PS.imp (zb (by omega) (eB hi hv hd hcd) (gx hk.pe) (gx he.pe) hs) λD σ H ⟨δ,μ,L,r,g,q⟩=>⟨L,g.dG,δ,r,he.mono _ _ _ (λd ⟨a,kvs,k1,k2,k3,q⟩ v H1 s1 dv z=>?_) q⟩,
  λE E' δ μ l q=>he.mono _ _ _ (λd ⟨a,kvs,k1,k2,k3,q⟩=>⟨a,kvs,k1,k2,k3,hk.mono _ _ _ (λy ⟨k,e1,q⟩=>⟨k,e1,l.nx _ _ q⟩) q⟩) q⟩
 have e1:aN (aa H1 H L) L=H1:=bK z
 have g1:dZ X.K (aa H1 H L) μ L:=g.show z s1
 have r1:br X.K (aN (aa H1 H L) L) σ δ:=by rw[e1];exact r.same s1
 obtain⟨w,hv1,dvw⟩:=r.get i _ k1
 cases dvw
 refine⟨_,hv1,L,g1.dG,δ,r1,hk.mono _ _ _ (λy ⟨k,ek,q⟩ u H2 s2 du z2=>?_) q⟩
 have e2:aN (aa H2 (aa H1 H L) L) L=H2:=bK z2
 have g2:dZ X.K (aa H2 (aa H1 H L) L) μ L:=g1.show z2 s2
 obtain⟨haL,ws,hH,dvk⟩:=g2.at_ _ (mem_of_lookup k2)
 rw[e1] at s2
 have dk2:e7 X.K H2 ws kvs:=by rw[e2] at dvk;exact dvk
 rw[xZ du ek]
 refine⟨a,_,rfl,z7.k hH (by rw[dk2.length];exact k3),?_⟩
 have e3:aN (upd (aa H2 (aa H1 H L) L) a (.dK (L2.putK ws k v))) L=H2:=by rw[cp haL,e2]
 exact q σ _ L (by rw[e3];exact s1.trans s2) (by rw[e3];exact r.same (s1.trans s2)) (g2.putK haL hH (by rw[e2];exact dk2.put (dv.same s2)))
end
theorem AI {K:PySem.W.Frag}{caps:List Nat}{ti:AD}{tt:TD}{te:ED}(mi:lG ti)(mt:gU tt)(me:bX te){σ:L2.St}{δ:SD}{H:Hp}{P:D->Prop}{Q:VK}(r:br K H σ δ)(h:iL caps ti tt te δ P)
  (fin:∀H0 D ys ds,H0 D=none->aK H H0->bM K H0 ys ds->P (.lst ds)->Q (.ref D) (upd H0 D (.lst ys))) :
  nE 1 caps (λσ H R=>∃ δ,br K H σ δ/\ti δ λds=>∀J H1,aK H H1->HS K J H1 ds->R J H1) (dD 0) (kb (oT K tt)) (kY (oE K te)) σ H Q:=by
 refine⟨δ,r,mi _ _ _ (λds ⟨outs,hol,each,hlen,q⟩ J H1 s1 it D hD=>?_) h⟩
 refine⟨λi m ys H'=>m=ds.length - i/\i<=ds.length/\∃H0,H0 D=none/\aK H1 H0/\bM K H0 ys ((outs.take i).filterMap id)/\H'=upd H0 D (.lst ys),⟨ds.length,rfl,Nat.zero_le _,H1,hD,aK.refl _,.nil,rfl⟩,?_⟩
 rintro i m ys H' ⟨rfl,hle,H0,h0,s0,dys,rfl⟩
 refine⟨aJ,?_⟩
 have sU:aK H1 (upd H0 D (.lst ys)):=s0.trans (aU h0)
 by_cases hlt:i<ds.length
 ·refine .inr ⟨it.go i _ sU hlt,λx H'' y=>?_⟩
  obtain⟨s2,d,hd,Hx,sx1,dvx,only,sx⟩:=it.BR i _ x H'' sU hlt y
  have hD2:H'' D=some (.lst ys):=s2 _ _ aJ
  have ne1:∀a o,H1 a=some o->a≠D:=λa o z=>a_ z hD
  have nex:∀a o,Hx a=some o->a≠D:=λa o z w=>by
   rcases only a o z with z1|z1
   ·exact ne1 a o z1 w
   ·rw[w,aJ] at z1;cases z1
  have sd1:aK H0 (del H'' D):=λa o z=>by
   rw[l_ (a_ z h0)]
   exact s2 a o (aU h0 a o z)
  have sdx:aK Hx (del H'' D):=λa o z=>by
   rw[l_ (nex a o z)]
   exact sx a o z
  obtain⟨o,ho⟩:∃o,outs[i]?=some o:=⟨_,List.getElem?_eq_getElem (show i<outs.length by omega)⟩
  have rel:br K (del H'' D) (some x::caps.map λj=>(σ[j]?).getD none) (some d::n0 caps δ):=tK (r.same (s1.trans (s0.trans sd1))) (dvx.same sdx) caps
  refine⟨Le.one,D,ys,hD2,_,rel,mt _ _ _ (λb ⟨eb,hb⟩ H3 s3 h3=>?_) (each i d o hd ho)⟩
  have ht:outs.take (i+1)=outs.take i++[o]:=by rw[List.take_succ,ho];rfl
  have s03:aK H0 H3:=sd1.trans s3
  cases b with
  |false =>
   refine aO ?_
   refine⟨ds.length - (i+1),by omega,rfl,hlt,H3,h3,s0.trans s03,?_,rfl⟩
   have on:o=none:=by cases o with|none=>rfl|some z=>cases eb
   rw[ht,on,List.filterMap_append]
   simpa using dys.same s03
  |true =>
   refine ae ?_
   refine⟨D,ys,aJ,?_⟩
   rw[tO h3]
   refine⟨_,rel.same s3,me _ _ _ (λy ey v H4 s4 dv h4=>⟨aJ,?_,ds.length - (i+1),by omega,rfl,hlt,H4,h4,s0.trans (s03.trans s4),?_,p6⟩) (hb rfl)⟩
   ·rw[dys.length]
    exact Nat.lt_of_le_of_lt (Nat.le_trans (List.length_filterMap_le _ _) (List.length_take_le' _ _)) (by rw[hol];exact hlen)
   ·rw[ht,ey,List.filterMap_append]
    exact(dys.same (s03.trans s4)).append (.cons dv .nil)
 ·have e:i=ds.length:=by omega
  subst e
  refine .inl ⟨it.stop _ sU,?_⟩
  rw[<- hol,List.take_length] at dys
  exact fin H0 D ys _ h0 (s1.trans s0) dys q
section
variable {X:Cx}{scope:Scope}{cl:List (Str × Addr)}{x:Str}{cn:List Str}{caps:List Nat}{elt tg iter:Expr}{ifs:List Expr}{ti:AD}{tt:TD}{te:ED}{pos:Pos}
end
section
variable {X:Cx}{e ke:Expr}{te tk:ED}{i:Nat}{x:Str}{p pos pos':Pos}
def CT (i:Nat)(tk te:ED):fL:=λE δ μ=>te (bB μ δ) λd=>dz d=true/\∃a ds,δ[i]?=some (some (.adr a))/\μ.lookup a=some (.lst ds)/\tk (bB μ δ) λy=>∃k j,y=.int k/\zG ds.length k=some j/\E.nx δ (fR a (.lst (ds.set j d)) μ)
theorem bM.setAt {K:PySem.W.Frag}{H:Hp}{v:V}{d:D}(hv:Dv K H v d):∀{vs:List V} {ds:List D} (j:Nat),bM K H vs ds->bM K H (vs.set j v) (ds.set j d)
 |_,_,_,.nil=>.nil
 |_,_,0,.cons _ r=>.cons hv r
 |_,_,j+1,.cons h r=>.cons h (bM.setAt hv j r)
theorem uI (hi:X.N[i]?=some x)(hv:uq X.env.scope x)(hk:PD X ke tk)(he:PD X e te)(hd:(x == ("__debug__":Str))=false:=by decide)(hcd:(x == ("__classdict__":Str))=false:=by decide)
  (hs:swapsWithSole [.Subscript (.Name x p) ke pos'] e pos.line X.env=pure false:=by rfl)(hw:swappedStores [.Subscript (.Name x p) ke pos'] e X.env=pure none:=by rfl)
  (h1:(assignEach [.Subscript (.Name x p) ke pos'] X.env).map (·.2)=[assign (.Subscript (.Name x p) ke pos') X.env]:=by rfl)
  (ha:∀v,assign (.Subscript (.Name x p) ke pos') X.env v=(do
   let ov <- holding [v] (eval (.Name x p) X.env)
   let iv <- holding [v,ov] (eval ke X.env)
   standAt pos'
   holding [v,ov,iv] (setItem ov iv v)
   release [v,ov,iv] []):=by intro _;rfl):p7 X (.Assign [.Subscript (.Name x p) ke pos'] e pos) (CT i tk te):=by
 refine⟨PS.imp (DG he.pe (DB (eB hi hv hd hcd) hk.pe set_list ha) hs hw h1) λD σ H ⟨δ,μ,L,r,g,q⟩=>⟨_,g.bB r,he.mono _ _ _ (λd ⟨fl,a,ds,k1,k2,q⟩ v H1 s1 dv=>?_) q⟩,
  λE E' δ μ l q=>he.mono _ _ _ (λd ⟨fl,a,ds,k1,k2,q⟩=>⟨fl,a,ds,k1,k2,hk.mono _ _ _ (λy ⟨k,j,e1,e2,q⟩=>⟨k,j,e1,e2,l.nx _ _ q⟩) q⟩) q⟩
 obtain⟨w,hv1,dvw⟩:=r.get i _ k1
 cases dvw
 refine⟨_,hv1,_,(g.on s1).bB (r.same (bV s1)),hk.mono _ _ _ (λy ⟨k,j,ey,ej,q⟩ u H2 s2 du=>?_) q⟩
 subst ey
 cases du
 have s12:=s1.trans s2
 have g2:=g.on s12
 obtain⟨haL,vs,hH,dvs⟩:=g2.at_ _ (mem_of_lookup k2)
 refine⟨a,vs,k,j,rfl,rfl,hH,by rw[dvs.length];exact ej,?_⟩
 have e3:aN (upd H2 a (.lst (vs.set j v))) L=aN H2 L:=cp haL
 exact q σ _ L (by rw[e3];exact bV s12) (by rw[e3];exact r.same (bV s12)) (g2.putL haL hH (dvs.setAt (dv.zB fl) j))
end
def uY:cF:=λds Q=>∃xs,(ds=[.lst xs]\/ds=[.tup xs])/\Q (.tup xs)
theorem FH:cK uY:=λds P P' g ⟨xs,e,q⟩=>⟨xs,e,g _ q⟩
theorem xO {K:PySem.W.Frag}:mT K (λxs H Q=>∃p ys,xs=[.ref p]/\((cu K H p ys/\∀l,H l=none->Q (.ref l) (upd H l (.tup ys)))\/(iM K H p ys/\Q (.ref p) H))) uY:=by
 intro H vs ds Q dvs ⟨xs,e,q⟩
 rcases e with e|e
 ·subst e
  cases dvs with
  |cons dv r =>
   cases r
   cases dv with
   |lst h1 h2=>exact⟨_,_,rfl,.inl ⟨h1,λl hl=>q _ _ (aU hl) (.tup (iM.of aJ) (h2.same (aU hl)))⟩⟩
 ·subst e
  cases dvs with
  |cons dv r =>
   cases r
   cases dv with
   |tup h1 h2=>exact⟨_,_,rfl,.inr ⟨h1,q _ H (aK.refl _) (.tup h1 h2)⟩⟩
section
variable {X:Cx}{o e:Expr}{es:List Expr}{t:AD}{to te:ED}{pos p p1 p2 tp apos cpos:Pos}
theorem fz (hg:Gl X "tuple")(hm:X.mg "tuple"=none)(ha:ni X (e::es) t)(h1:starEach (e::es) X.env=(false,eval e X.env)::starEach es X.env:=by rfl)(h2:(backTo pos (starEach es X.env)).any (·.1)=false:=by rfl):PD X (.Call (.Name "tuple" p) (e::es) [] pos) (vB uY t):=vK (hX rK hg hm boot_tuple ha.pa (he:=h1) (hpl:=h2)) ha.mono xO FH
theorem sY:∀{ws:List Str} {us:List Value},Vals (ws.map V.str) us->∀y∈us,∃z t,y=Value.str z t
 |[],_,.nil,y,h=>nomatch h
 |z::ws,_,.cons h r,y,hy=>by
  obtain⟨t,rfl⟩:=h
  rcases List.mem_cons.mp hy with rfl|hy
  ·exact⟨z,t,rfl⟩
  ·exact sY r y hy
end
section
variable {X:Cx}{a b:Expr}{ta tb:ED}{pos:Pos}{k:Nat}
end
end DC
namespace L2
open PySem PySem.Spec PyProof.Rows
open AutoSeq1 (wpAny_loadPart')
section
variable {prog:Program}{w:World}{A:Around}{E:Value->Shared->Prop}{s:Shared}
end
section
variable {X:Cx}{e1:Expr}{ta:TA}{p pos tp:Pos}{elts:List Expr}{c:Nat}
end
end L2
namespace DC
open PySem PySem.Spec PyProof.Rows L2
section
variable {X:Cx}{e1:Expr}{ta:AD}{p pos tp:Pos}{elts:List Expr}{c:Nat}
end
section
variable {P:Program}{w:World}{K:PySem.W.Frag}{mg:Str->Option Value}{base:Heap}
end
section
variable {X:Cx}{scope:Scope}{cl:List (Str × Addr)}{x:Str}{cn:List Str}{caps:List Nat}{elt tg iter:Expr}{ifs:List Expr}{ti:AD}{tt:TD}{te:ED}{pos:Pos}
end
section
variable {X:Cx}{e:Expr}{te:ED}{p p2 pos:Pos}
end
section
variable {X:Cx}{a b:Expr}{pos:Pos}{ta tb:ED}
end
def yR:cF:=λds Q=>∃xs,(ds=[.lst xs]\/ds=[.tup xs])/\Q (.lst xs)
theorem Ic:cK yR:=λds P P' g ⟨xs,e,q⟩=>⟨xs,e,g _ q⟩
theorem AQ {K:PySem.W.Frag}:mT K (λxs H Q=>∃p ys,xs=[.ref p]/\(cu K H p ys\/iM K H p ys)/\∀l,H l=none->Q (.ref l) (upd H l (.lst ys))) yR:=by
 intro H vs ds Q dvs ⟨xs,e,q⟩
 rcases e with e|e
 ·subst e
  cases dvs with
  |cons dv r =>
   cases r
   cases dv with
   |lst h1 h2=>exact⟨_,_,rfl,.inl h1,λl hl=>q _ _ (aU hl) (.lst (cu.of aJ) (h2.same (aU hl)))⟩
 ·subst e
  cases dvs with
  |cons dv r =>
   cases r
   cases dv with
   |tup h1 h2=>exact⟨_,_,rfl,.inr h1,λl hl=>q _ _ (aU hl) (.lst (cu.of aJ) (h2.same (aU hl)))⟩
section
variable {X:Cx}{o e:Expr}{es:List Expr}{t:AD}{to te:ED}{pos p p1 p2 tp apos cpos:Pos}{i:Nat}{x:Str}
theorem rX (hg:Gl X "list")(hm:X.mg "list"=none)(ha:ni X (e::es) t)(h1:starEach (e::es) X.env=(false,eval e X.env)::starEach es X.env:=by rfl)(h2:(backTo pos (starEach es X.env)).any (·.1)=false:=by rfl):PD X (.Call (.Name "list" p) (e::es) [] pos) (vB yR t):=vK (hX mY hg hm boot_list ha.pa (he:=h1) (hpl:=h2)) ha.mono AQ Ic
end
end DC
namespace L2
open PySem PySem.Spec PyProof.Rows
section
variable {X:Cx}
def M4 (z:Str)(k:Nat):Str:=⟨(List.replicate k z.cps).foldl (·++·) #[]⟩
def Cp (z:Str)(k:Int):Str:=if k=1 then z else M4 z k.toNat
def LI:R2:=λx y H Q=>∃z k,x=.str z/\y=.int k/\0<k/\k<1000/\0<z.length/\z.length<1000/\Q (.str (Cp z k)) H
theorem Fc:gq X (binaryOp .Mult) LI:=by
 intro pins s σ H x y v u Q I rx ry h
 obtain⟨z,k,rfl,rfl,h0,h1,h2,h3,q⟩:=h
 obtain⟨t,rfl⟩:=rx
 obtain⟨t',rfl⟩:=ry
 have hp:z.length*k.toNat<=1000000:=Nat.le_trans (Nat.mul_le_mul (Nat.le_of_lt h3) (show k.toNat<=1000 by omega)) (by decide)
 have hl:Builtin.Str.tooLong (z.length*k.toNat)=false:=by
  unfold Builtin.Str.tooLong
  exact decide_eq_false (Nat.not_lt.mpr (Nat.le_trans hp (by decide)))
 refine P.mul_str (by rw[decide_eq_false (by omega),decide_eq_false (by omega)];rfl) (λ_ _=>?_) (λ_ _=>hl) ?_
 ·have:(1000:Int)<=(2 ^ 63 - 1) / k:=(Int.le_ediv_iff_mul_le h0).mpr (Int.le_trans (show(1000:Int)*k<=1000*1000 from Int.mul_le_mul_of_nonneg_left (by omega) (by decide)) (by decide))
  omega
 ·rw[if_neg (by omega)]
  unfold Cp at q
  by_cases e:k=1
  ·rw[if_pos (by rw[e];rfl)]
   rw[if_pos e] at q
   exact⟨.str z,H,I,⟨_,rfl⟩,q⟩
  ·rw[if_neg (by simp only[Bool.or_eq_true,beq_iff_eq];omega)]
   rw[if_neg e] at q
   refine⟨?_,.str _,H,I.tok _,⟨_,rfl⟩,q⟩
   exact fits_reps hl
end
end L2
namespace DC
open PySem PySem.Spec PyProof.Rows L2
section
variable {X:Cx}{a b e:Expr}{es:List Expr}{ta tb te:ED}{t:AD}{pos p p2:Pos}
def KQ:F2:=λd e Q=>∃z k,d=.str z/\e=.int k/\0<k/\k<1000/\0<z.length/\z.length<1000/\Q (.str (Cp z k))
def Lr:ED->ED->ED:=q_ KQ
theorem Hs (ha:PD X a ta)(hb:PD X b tb):PD X (.BinOp a .Mult b pos) (Lr ta tb):=AK Fc (λH x y d e Q hx hy ⟨z,k,h1,h2,a1,a2,a3,a4,q⟩=>by
 subst h1;subst h2;cases hx;cases hy
 exact⟨z,k,rfl,rfl,a1,a2,a3,a4,q _ H (aK.refl _) (.str _)⟩) (λd e P P' f ⟨z,k,h1,h2,a1,a2,a3,a4,q⟩=>⟨z,k,h1,h2,a1,a2,a3,a4,f _ q⟩) ha hb
end
end DC
namespace L2
open PySem PySem.Spec PyProof.Rows
section
variable {X:Cx}
theorem uk:∀{vs:List Value} {ss:List Str},StrsAre vs ss->Vals (ss.map V.str) vs
 |_,_,.nil=>.nil
 |_,_,.cons _ t h=>.cons ⟨t,rfl⟩ (uk h)
theorem lC:∀{vs:List Value} {ss:List Str},Vals (ss.map V.str) vs->StrsAre vs ss
 |_,[],.nil=>.nil
 |_,_::_,.cons ⟨t,e⟩ h=>by subst e;exact .cons _ t (lC h)
theorem nz:eW X (.builtin "sorted") (λxs H Q=>∃p ss,xs=[.ref p]/\cu X.K H p (ss.map V.str)/\ss.length<64/\∀ss':List Str,ss'.Perm ss->sortedS ss'=true->∀l,H l=none->Q (.ref l) (upd H l (.lst (ss'.map V.str)))):=by
 intro pins s σ H xs us Q I r h
 obtain⟨p,ss,rfl,hq,hl,q⟩:=h
 obtain⟨u,rfl,rx⟩:=vals1 r
 cases rx
 obtain⟨its,r',pl,hz⟩:=I.list hq
 have hn:its.length=ss.length:=by have:=r'.length;simpa using this.symm
 refine sorted_strs pl.isList (lC r') (by omega) λout ss' a1 a2 a3=>?_
 obtain⟨e,he⟩:=sortedAll_at s.heap its out
 have hs:ss'.length<=sizeLine:=Nat.le_trans (Nat.le_of_eq a2.length_eq) (Nat.le_trans (Nat.le_of_lt hl) (by decide))
 refine⟨.ref (s.heap.objs.size+1),_,I.laid (t':=s.toks) (λ_ _=>sortedAll_old) (Nat.le_succ _) (show bJ X.prog X.w _ _ _ (.lst (ss'.map V.str)) from⟨by rw[List.length_map];exact hs,out.toList,e,uk a1,by rw[Array.toArray_toList];exact he⟩),rfl,q ss' a2 a3 _ (I.bW.fresh (Nat.le_succ _))⟩
theorem zJ {P:Program}{w:World}:∀{kvs:List (Key × V)} {vs:List (Key × Value)},KV kvs vs->vs.map (·.1)=kvs.map (·.1)
 |_,_,.nil=>rfl
 |_,_,.cons h r=>by rw[List.map_cons,List.map_cons,zJ (P:=P) (w:=w) r,h.1]
theorem sZ {P:Program}{w:World}:∀{acc:List Value} {ss:List Str},acc.length=ss.length->(∀(j:Nat) (v:Value),acc[j]?=some v->∃x:Str,ss[j]?=some x/\(bq P w).is (Sum.inr x) v=true)->StrsAre acc ss
 |[],[],_,_=>.nil
 |[],_::_,h,_=>by cases h
 |_::_,[],h,_=>by cases h
 |v::acc,x::ss,h,k=>by
  obtain⟨y,e,z⟩:=k 0 v rfl
  cases e
  rcases bj (show qQ (Sum.inr x) v=true from z) with⟨i,t,e,_⟩|⟨y,t,e,e2⟩
  ·cases e
  ·cases e
   subst e2
   exact .cons _ t (sZ (P:=P) (w:=w) (by simpa using h) λj u hj=>k (j+1) u hj)
theorem ny (hh:X.A.handled=none):eW X (.builtin "sorted") (λxs H Q=>∃p kvs ss,xs=[.ref p]/\Rd H p (.dK kvs)/\kvs.map (·.1)=ss.map Sum.inr/\ss.length<64/\∀ss':List Str,ss'.Perm ss->sortedS ss'=true->∀l,H l=none->Q (.ref l) (upd H l (.lst (ss'.map V.str)))):=by
 intro pins s σ H xs us Q I r h
 obtain⟨p,kvs,ss,rfl,hq,hk,hl,q⟩:=h
 obtain⟨u,rfl,rx⟩:=vals1 r
 cases rx
 obtain⟨z,hd,vs,rel,dd⟩:=o6 I.bW hq
 obtain⟨ep,hat⟩:=dd.dictAt
 have ek:=zJ (P:=X.prog) (w:=X.w) rel
 have el:vs.length=ss.length:=by
  have:=congrArg List.length (ek.trans hk)
  simpa using this
 refine Calls.call_function_entry kind_sorted plain_sorted entry_sorted (args_sorted1 _) ?_
 unfold Builtin.«sorted»
 refine wpAny_bind (m:=checkCount "sorted" 1 1 _) (wpAny_pure ?_)
 refine wpAny_bind (PySem.W.kdu_collect (A:=X.A.in1) (PySem.W.kdl_dict (knd:=bq X.prog X.w) (kvs:=vs) (ep:=ep) hd) hh hat (by rw[el];exact Nat.le_trans (Nat.le_of_lt hl) (by decide)) λh' tk acc hk' hacc=>?_)
 have ha:acc.toList.length=ss.length:=by rw[Array.length_toList,hacc.1,el]
 have hS:StrsAre acc.toList ss:=sZ (P:=X.prog) (w:=X.w) ha λj v hj=>by
  obtain⟨k,x,e1,e2⟩:=hacc.2 j v (by rw[<- Array.getElem?_toList];exact hj)
  have e3:(vs.map (·.1))[j]?=some k:=by rw[List.getElem?_map,e1];rfl
  rw[ek,hk,List.getElem?_map] at e3
  cases e4:ss[j]? with
  |none=>rw[e4] at e3;cases e3
  |some y=>rw[e4] at e3;cases e3;exact⟨y,rfl,e2⟩
 refine wpAny_bind (wpAny_newList ?_ (by rw[ha];exact Nat.le_trans (Nat.le_of_lt hl) (by decide)))
 have hoL:(h'.push (seqObj "list" acc.toList.toArray 0)).get? h'.objs.size=some (seqObj "list" acc.toList.toArray 0):=Heap.get?_push_size _ rfl
 refine wpAny_bind (wpAny_holding (wpAny_call_entry slot_list_sort ⟨_,hoL,rfl⟩ entry_list_sort (list_sort_treeK strKind_oneLt hoL hS.keysOf (λv₁ v₂ rest e=>keyKind_strs (by rw[<- e];exact hS)) (by rw[ha];exact hl) λst' hp hs=>⟨_,rfl,?_⟩) (args_list_sort _)))
 obtain⟨ss',h1,h2,h3⟩:=sorted_out_str hS hp hs
 refine wpAny_pure ⟨_,rfl,?_⟩
 obtain⟨e,he⟩:=sortedHeap_at (out:=(arrOf st').map (·.2)) hoL
 have hs':ss'.length<=sizeLine:=Nat.le_trans (Nat.le_of_eq h2.length_eq) (Nat.le_trans (Nat.le_of_lt hl) (by decide))
 have I1:Inv X pins σ H { s with heap:=h',toks:=tk }:=I.kept (t':=tk) hk'
 have kp:∀b o,h'.get? b=some o->(sortedHeap (h'.push (seqObj "list" acc.toList.toArray 0)) h'.objs.size acc.toList ((arrOf st').map (·.2))).get? b=some o:=λb o hb'=>by
  have hlt:=Heap.lt_size hb'
  rw[sortedHeap_old (Nat.ne_of_lt hlt) (by rw[size_push'];exact Nat.lt_succ_of_lt hlt)]
  exact Heap.get?_push_of_some _ hb'
 exact⟨.ref h'.objs.size,_,I1.laid (t':=tk) kp (Nat.le_refl _) (show bJ X.prog X.w _ _ _ (.lst (ss'.map V.str)) from⟨by rw[List.length_map];exact hs',((arrOf st').map (·.2)).toList,e,uk h1,by rw[Array.toArray_toList];exact he⟩),rfl,q ss' h2 h3 _ (I1.bW.fresh (Nat.le_refl _))⟩
end
end L2
namespace DC
open PySem PySem.Spec PyProof.Rows L2
def qq:cF:=λds Q=>∃ss:List Str,(ds=[.lst (ss.map D.str)]\/∃kvs,ds=[.dK kvs]/\kvs.map (·.1)=ss.map Sum.inr)/\ss.length<64/\∀ss':List Str,ss'.Perm ss->sortedS ss'=true->Q (.lst (ss'.map D.str))
theorem Cb:cK qq:=λds P P' g ⟨ss,e,hl,q⟩=>⟨ss,e,hl,λs' h1 h2=>g _ (q s' h1 h2)⟩
theorem pb {K:PySem.W.Frag}{H:Hp}:∀{vs:List V} {ss:List Str},bM K H vs (ss.map D.str)->vs=ss.map V.str
 |_,[],.nil=>rfl
 |_,x::ss,.cons (.str _) h=>by rw[List.map_cons,pb h]
theorem vW {K:PySem.W.Frag}{H:Hp}:∀{vs:List (Key × V)} {ds:List (Key × D)},e7 K H vs ds->vs.map (·.1)=ds.map (·.1)
 |_,_,.nil=>rfl
 |_,_,.cons _ h=>by rw[List.map_cons,List.map_cons,vW h]
theorem vU {K:PySem.W.Frag}:mT K (λxs H Q=>(∃p ss,xs=[.ref p]/\cu K H p (ss.map V.str)/\ss.length<64/\∀ss':List Str,ss'.Perm ss->sortedS ss'=true->∀l,H l=none->Q (.ref l) (upd H l (.lst (ss'.map V.str)))) \/
  ∃p kvs ss,xs=[.ref p]/\Rd H p (.dK kvs)/\kvs.map (·.1)=ss.map Sum.inr/\ss.length<64/\∀ss':List Str,ss'.Perm ss->sortedS ss'=true->∀l,H l=none->Q (.ref l) (upd H l (.lst (ss'.map V.str)))) qq:=by
 intro H vs ds Q dvs ⟨ss,e,hl,q⟩
 have fin:∀ss':List Str,ss'.Perm ss->sortedS ss'=true->∀l,H l=none->Q (.ref l) (upd H l (.lst (ss'.map V.str))):=λss' h1 h2 l hl=>q ss' h1 h2 _ _ (aU hl) (.lst (cu.of aJ) (mf ss'))
 rcases e with e|⟨kvs,e,ek⟩
 ·subst e
  cases dvs with
  |cons dv r =>
   cases r
   cases dv with
   |lst h1 h2=>exact .inl ⟨_,ss,rfl,pb h2 ▸ h1,hl,fin⟩
 ·subst e
  cases dvs with
  |cons dv r =>
   cases r
   cases dv with
   |dK h1 h2=>exact .inr ⟨_,_,ss,rfl,h1,(vW h2).trans ek,hl,fin⟩
section
variable {X:Cx}{e:Expr}{es:List Expr}{t:AD}{pos p:Pos}
theorem vO (hh:X.A.handled=none)(hg:Gl X "sorted")(hm:X.mg "sorted"=none)(ha:ni X (e::es) t)(h1:starEach (e::es) X.env=(false,eval e X.env)::starEach es X.env:=by rfl)(h2:(backTo pos (starEach es X.env)).any (·.1)=false:=by rfl):PD X (.Call (.Name "sorted" p) (e::es) [] pos) (vB qq t) :=
 vK (fE (nz.or (ny hh)) hg hm boot_sorted ha.pa (he:=h1) (hpl:=h2)) ha.mono vU Cb
end
theorem oW:∀{p:Str} {l:List Str},risingS p l=true->∀x∈l,ltCps x.cps.toList p.cps.toList=false
 |p,[],_,x,h=>(nomatch h)
 |p,y::r,e,x,h=>by
  have e':(!ltCps y.cps.toList p.cps.toList&&risingS y r)=true:=e
  rw[Bool.and_eq_true] at e'
  have e1:ltCps y.cps.toList p.cps.toList=false:=by simpa using e'.1
  rcases List.mem_cons.mp h with rfl|h
  ·exact e1
  ·have e2:=oW e'.2 x h
   rw[ltCps_eq,decide_eq_false_iff_not] at e1 e2 ⊢
   exact λz=>e2 (by
    rcases List.le_total x.cps.toList y.cps.toList with w|w
    ·rcases Classical.em (x.cps.toList<y.cps.toList) with w2|w2
     ·exact w2
     ·exact absurd (List.lt_of_le_of_lt (List.not_lt.mp w2) z) e1
    ·exact absurd (List.lt_of_le_of_lt w z) e1)
theorem pN {p:Str}{l:List Str}(h:sortedS (p::l)=true):sortedS l=true:=by
 cases l with
 |nil=>rfl
 |cons y r =>
  have e':(!ltCps y.cps.toList p.cps.toList&&risingS y r)=true:=h
  rw[Bool.and_eq_true] at e'
  exact e'.2
theorem yV {x y:Str}(h:x.cps.toList=y.cps.toList):x=y:=by
 obtain⟨a⟩:=x
 obtain⟨b⟩:=y
 cases a;cases b
 cases h
 rfl
theorem qt:∀{l m:List Str},l.Perm m->sortedS l=true->sortedS m=true->l=m
 |[],m,h,_,_=>h.nil_eq
 |x::l,m,h,h1,h2=>by
  cases m with
  |nil=>exact absurd h.length_eq (by simp)
  |cons y m =>
   have e:x=y:=by
    have a:x∈y::m:=h.mem_iff.mp List.mem_cons_self
    have b:y∈x::l:=h.mem_iff.mpr List.mem_cons_self
    rcases List.mem_cons.mp a with a|a
    ·exact a
    ·rcases List.mem_cons.mp b with b|b
     ·exact b.symm
     ·have c:=oW (p:=x) (l:=l) h1 y b
      have d:=oW (p:=y) (l:=m) h2 x a
      rw[ltCps_eq,decide_eq_false_iff_not] at c d
      exact yV (List.le_antisymm (List.not_lt.mp c) (List.not_lt.mp d))
   subst e
   rw[qt (h.cons_inv) (pN h1) (pN h2)]
section
variable {X:Cx}{i:Nat}{x:Str}{p pos apos cpos:Pos}
end
theorem JV {H:Hp}{L:List Addr}{a:Addr}{xs:List V}(hL:∀b∈L,dC H L b)(h:Rd H a (.tup xs)):Rd (aN H L) a (.tup xs):=by
 have nb:a∉L:=λhb=>by
  rcases h with h|⟨o,h⟩
  ·exact(hL a hb).pE.1 _ h
  ·exact(hL a hb).pE.2.1 _ _ h
 unfold Rd
 rw[ax nb]
 exact h
section
variable {X:Cx}{e:Expr}{te:ED}{i:Nat}{x:Str}{p pos apos cpos:Pos}
end
section
variable {uc:TD}{t u r:fL}{te:ED}{E:fb}{δ δ':SD}{μ:Mu}
theorem zD (e:bB μ δ=δ')(h:uc δ' λb=>if b=true then t { E with nx:=r E } δ μ else u { E with nx:=r E } δ μ):oR (IU uc t u) r E δ μ:=by
 unfold oR IU
 rw[e]
 exact h
theorem hG (e:bB μ δ=δ')(h:t E δ' []):vz t E δ μ:=by
 unfold vz
 rw[e]
 exact h
theorem GA (I:SD->Mu->Prop)(hI:∀ δ μ,I δ μ->u E δ μ)(hA:∀N:SD->Mu->Prop,(∀ δ μ,I δ μ->N δ μ)->t { E with nx:=N } δ μ):oR t u E δ μ:=hA (u E) hI
theorem bg {a:Addr}{m:MD}:List.lookup a [(a,m)]=some m:=by simp[List.lookup]
theorem gD {a:Addr}{m m':MD}:fR a m' [(a,m)]=[(a,m')]:=by simp[fR]
theorem fK {a:Addr}{m:MD}:ay [(a,m)] (.adr a)=m.d:=by simp[ay,List.lookup]
end
section
variable {X:Cx}{body:List Stmt}{t:fL}{h₀:ExceptHandler}{hs:List ExceptHandler}{pos:Pos}
end
section
variable {P:Program}{w:World}{K:PySem.W.Frag}{mg:Str->Option Value}{base:Heap}
theorem cP.sub {cx:yg}{f:Addr}{fd:FuncData}{ps:List Str}{k:Nat}{sp sp':Sp}(F:cP P w K mg base cx k f fd ps sp)(h:∀vs H Q E,sp' vs H Q E->sp vs H Q E):cP P w K mg base cx k f fd ps sp' :=
 ⟨λvs H Q E q=>F.len vs H Q E (h _ _ _ _ q),λA outer s H args us vs Q E hr e0 hb r q=>F.run A outer s H args us vs Q E hr e0 hb r (h _ _ _ _ q)⟩
theorem Df.rG {k:Nat}{x:Str}{st:Stmt}{ps N:List Str}{sd:rD}{t:fL}(d:Df K mg x st ps)(S:aE N ps (aC st))(ms:iO sd)(len:∀ds Q,sd ds Q->ds.length=ps.length)
  (hb:∀(f:Addr) (cdv:Value) (A:Around) (outer:List Env) (s:Shared) (H:Hp) (E:XK),cH k (A.deeper (envOfC x (aC st) s.heap.objs.size f cdv))->uo (Bx P w K mg base N x st f cdv A outer s H E) (bE st) t)
  (hr:∀ds Q,sd ds Q->t { nx:=λ_ μ=>Q .ak μ,rt:=Q } (cZ N ds) []):iN P w K mg base (k+1) x ps sd:=by
 obtain⟨f,fd,F,m,b⟩:=d.ex
 exact⟨⟨f,fd,Nl F S len (hb f) hr,m,F.kp,b⟩,ms⟩
theorem iN.dN {k:Nat}{x:Str}{ps:List Str}{sd:rD}{se:cF}(c:iN P w K mg base k x ps sd)(ms:cK se)(h:∀ds Q,se ds Q->sd ds λd μ=>Q (ay μ d)):av P w K mg base k x ps se:=by
 obtain⟨f,fd,F,m,kp,b⟩:=c.ex
 exact⟨⟨f,fd,cP.sub F (yU c.ms h),m,kp,b⟩,ms⟩
theorem iN.up {j k:Nat}{x:Str}{ps:List Str}{sd:rD}(c:iN P w K mg base j x ps sd)(h:j<=k):iN P w K mg base k x ps sd:=⟨let ⟨f,fd,F,r⟩:=c.ex;⟨f,fd,F.mono h,r⟩,c.ms⟩
end
theorem e7.has {K:PySem.W.Frag}{H:Hp}{k:Key}:∀{vs:List (Key × V)} {ds:List (Key × D)},e7 K H vs ds->(nh vs k).isSome=(eV ds k).isSome
 |_,_,.nil=>rfl
 |_,_,.cons (k:=k') (x:=x) (d:=d) (xs:=xs) (ds:=ds) h t=>by
  have ih:=e7.has (k:=k) t
  unfold eV nh at ih ⊢
  rw[List.find?_cons,List.find?_cons]
  by_cases q:k'=k
  ·simp only[q,decide_true]
   rfl
  ·simp only[q,decide_false]
   exact ih
section
variable {X:Cx}{o i:Expr}{pos:Pos}{td ty:ED}
def D3 (neg:Bool)(ty td:ED):ED:=λδ Q=>ty δ λy=>td δ λd=>∃kvs k,d=.dK kvs/\Ad y=some k/\Q (.bl (if neg=true then !(eV kvs k).isSome else(eV kvs k).isSome))
theorem CW {neg:Bool}(hi:bX ty)(ho:bX td):bX (D3 neg ty td):=λδ P P' g h=>hi _ _ _ (λy h'=>ho _ _ _ (λd ⟨kvs,k,e1,e2,q⟩=>⟨kvs,k,e1,e2,g _ q⟩) h') h
theorem xJ {neg:Bool}(hi:PD X i ty)(ho:PD X o td){σ:L2.St}{H:Hp}{Q:VK}(h:oE X.K (D3 neg ty td) σ H Q):(if neg=true then zx (oE X.K ty) (oE X.K td) else Ld (oE X.K ty) (oE X.K td)) σ H Q:=by
 obtain⟨δ,r,h⟩:=h
 have key:∀(y:D) (u:V) (d:D) (v:V) (H1 H2:Hp),aK H H1->aK H1 H2->Dv X.K H1 u y->Dv X.K H2 v d->(∃kvs k,d=.dK kvs/\Ad y=some k/\kD X.K H Q (.bl (if neg=true then !(eV kvs k).isSome else(eV kvs k).isSome))) ->
   ∃a oo,v=.ref a/\uw H2 a u oo/\Q (.bl (if neg=true then !oo.isSome else oo.isSome)) H2:=λy u d v H1 H2 s1 s2 du dv ⟨kvs,k,e1,e2,q⟩=>by
  subst e1
  cases dv with
  |dK g1 g2 =>
   refine⟨_,_,rfl,.inl ⟨_,k,g1,xZ du e2,rfl⟩,?_⟩
   rw[g2.has]
   exact q _ H2 (s1.trans s2) (.bl _)
 cases neg with
 |true =>
  rw[if_pos rfl]
  exact⟨δ,r,hi.mono _ _ _ (λy hy u H1 s1 du=>⟨δ,r.same s1,ho.mono _ _ _ (λd hd v H2 s2 dv=>key y u d v H1 H2 s1 s2 du dv hd) hy⟩) h⟩
 |false =>
  rw[if_neg Bool.false_ne_true]
  exact⟨δ,r,hi.mono _ _ _ (λy hy u H1 s1 du=>⟨δ,r.same s1,ho.mono _ _ _ (λd hd v H2 s2 dv=>key y u d v H1 H2 s1 s2 du dv hd) hy⟩) h⟩
theorem KG (hu:X.A.units+64<cLine)(hi:PD X i ty)(ho:PD X o td)(hm:behindInMarks .In o=false):PD X (.Compare i [.In] [o] pos) (D3 false ty td) :=
 ⟨(C8 (JE (by omega) hi.pe ho.pe) hm).imp λσ H Q h=>xJ (neg:=false) hi ho h,CW hi.mono ho.mono⟩
theorem Bu (hu:X.A.units+64<cLine)(hi:PD X i ty)(ho:PD X o td)(hm:behindInMarks .NotIn o=false):PD X (.Compare i [.NotIn] [o] pos) (D3 true ty td) :=
 ⟨(C8 (sL (by omega) hi.pe ho.pe) hm).imp λσ H Q h=>xJ (neg:=true) hi ho h,CW hi.mono ho.mono⟩
theorem Dr (hu:X.A.units+64<cLine)(hi:PD X i ty)(ho:PD X o td)(hm:behindInMarks .NotIn o=false):lH X (.Compare i [.NotIn] [o] pos) (ff (D3 true ty td)) :=
 lH.of (JP (sL (by omega) hi.pe ho.pe) hm) (λσ H Q h=>xJ (neg:=true) hi ho h) (CW hi.mono ho.mono)
end
section
variable {X:Cx}{e:Expr}{tf:EF}{i:Nat}{x:Str}{p pos apos cpos:Pos}
def E8 (i:Nat)(tf:EF):fL:=λE δ μ=>∃a ds,δ[i]?=some (some (.adr a))/\μ.lookup a=some (.lst ds)/\tf δ λd μ'=>∃b es,d=.adr b/\μ'.lookup b=some (.lst es)/\ds.length+es.length<=sizeLine/\E.nx δ (fR a (.lst (ds++es)) μ)
theorem ku (hi:X.N[i]?=some x)(hv:uq X.env.scope x)(he:PF X e tf)(hd:(x == ("__debug__":Str))=false:=by decide)(hcd:(x == ("__classdict__":Str))=false:=by decide)
  (hst:starEach [e] X.env=(false,eval e X.env)::starEach [] X.env:=by rfl)(hline:(apos.endLine == cpos.line)=true:=by rfl)
  (hfew:((backTo cpos (starEach [e] X.env)).all (λx=>!x.1)&&(backToKw cpos (keywordEach [] X.env)).all (λx=>x.1.isSome)&&decide ([e].length+([]:List Keyword).length+(if([]:List Keyword).isEmpty then 0 else 1)<30))=true:=by rfl)
  (hs:swapsWith (.Call (.Attribute (.Name x p) "extend" apos) [e] [] cpos) none pos.line X.env=pure false:=by rfl)
  (hb:attributeBase (.Name x p) "extend" X.env (eval (.Name x p) X.env)=eval (.Name x p) X.env:=by rfl) :
  p7 X (.Expr (.Call (.Attribute (.Name x p) "extend" apos) [e] [] cpos) pos) (E8 i tf):=by
 refine⟨PS.imp (ie (sM PySem.F.plainAttrs_list PySem.F.slot_list_extend PySem.F.type_list_extend Al (eB hi hv hd hcd) (eA (gx he.pe) ic hst) hb hfew hline hst) hs) λD σ H ⟨δ,μ,L,r,g,q⟩=>?_,
  λE E' δ μ l ⟨a,ds,k1,k2,q⟩=>⟨a,ds,k1,k2,he.mono _ _ _ (λd μ' ⟨b,es,e1,e2,e3,k⟩=>⟨b,es,e1,e2,e3,l.nx _ _ k⟩) q⟩⟩
 obtain⟨a,ds,k1,k2,q⟩:=q
 obtain⟨v,hv1,dv⟩:=r.get i _ k1
 cases dv
 obtain⟨haL,vs,hH,dvs⟩:=g.at_ _ (mem_of_lookup k2)
 refine⟨_,hv1,.inl ⟨rfl,_,cu.of hH⟩,L,g.dG,δ,r,he.mono _ _ _ (λd μ' k w H' L' s' g' dw z=>?_) q⟩
 obtain⟨b,es,ed,hbl,hlen,k⟩:=k
 subst ed
 cases dw
 obtain⟨hbL,ws,hB,dws⟩:=g'.at_ _ (mem_of_lookup hbl)
 have nbL:b∉L:=λhb=>by rw[z b hb] at hB;cases hB
 have sf:aK (aN H L) H':=s'.trans bN
 have e1:aN (aa H' H L) L=H':=bK z
 have g1:dZ X.K (aa H' H L) μ L:=g.show z sf
 have hA1:aa H' H L a=some (.lst vs):=by rw[af haL];exact hH
 have hB1:aa H' H L b=some (.lst ws):=by rw[aV nbL];exact hB
 refine⟨a,b,vs,ws,rfl,rfl,hA1,hB1,by rw[dvs.length,dws.length];exact hlen,?_⟩
 have g2:=g1.putL haL hA1 (ys:=vs++ws) (ds:=ds++es) (by rw[e1];exact(bM.same sf dvs).append (bM.same bN dws))
 have e2:aN (upd (aa H' H L) a (.lst (vs++ws))) L=H':=by rw[cp haL,e1]
 exact k σ _ L (by rw[e2];exact sf) (by rw[e2];exact r.same sf) g2
end
section
variable {X:Cx}{c:Expr}{body:List Stmt}{uc:TD}{tb:fL}{pos:Pos}
def IX (uc:TD)(tb:fL):fL:=λE δ μ=>∃inv:Nat->SD->Mu->Prop,(∃m,inv m δ μ)/\∀m δ' μ',inv m δ' μ'->uc (bB μ' δ') λb=>if b=true then tb { E with nx:=λδ2 μ2=>∃m',m'<m/\inv m' δ2 μ2,ct:=λδ2 μ2=>∃m',m'<m/\inv m' δ2 μ2,bk:=E.nx } δ' μ' else E.nx δ' μ'
theorem Cm (hp:PassesOwn (model X.prog X.w) X.A X.env X.xe)(hc:lH X c uc)(hb:uo X body tb):p7 X (.While c body [] pos) (IX uc tb):=by
 refine⟨PS.imp (DJ hp hc.pt hb.ps) λD σ H ⟨δ,μ,L,r,g,inv,⟨m0,i0⟩,step⟩=>⟨λm σ' H'=>∃ δ' μ' L',aK (aN H L) (aN H' L')/\br X.K (aN H' L') σ' δ'/\dZ X.K H' μ' L'/\inv m δ' μ',⟨m0,δ,μ,L,aK.refl _,r,g,i0⟩,?_⟩,λE E' δ μ l ⟨inv,i0,step⟩=>⟨inv,i0,λm δ' μ' hi=>hc.mono _ _ _ (λb q=>?_) (step m δ' μ' hi)⟩⟩
 ·rintro m σ' H' ⟨δ',μ',L',s',r',g',hi⟩
  refine⟨_,g'.bB r',hc.mono _ _ _ (λb q H1 s1=>?_) (step m δ' μ' hi)⟩
  have s2:aK (aN H' L') (aN H1 L'):=bV s1
  cases b with
  |false =>
   show if false=true then _ else _
   rw[if_neg Bool.false_ne_true] at q ⊢
   exact q σ' H1 L' (s'.trans s2) (r'.same s2) (g'.on s1)
  |true =>
   show if true=true then _ else _
   rw[if_pos rfl] at q ⊢
   refine⟨λσ2 H2=>∃ δ2 μ2 L2,aK (aN H L) (aN H2 L2)/\br X.K (aN H2 L2) σ2 δ2/\dZ X.K H2 μ2 L2/\∃m',m'<m/\inv m' δ2 μ2,λσ2 H2 ⟨δ2,μ2,L2,s2,r2,g2,m',hm,h2⟩=>⟨m',hm,δ2,μ2,L2,s2,r2,g2,h2⟩,δ',μ',L',r'.same s2,g'.on s1,
    hb.mono { mB X.K H L D with nx:=λδ2 μ2=>∃m',m'<m/\inv m' δ2 μ2,ct:=λδ2 μ2=>∃m',m'<m/\inv m' δ2 μ2,bk:=(mB X.K H L D).nx } _ _ _ ⟨?_,?_,?_,?_⟩ q⟩
   ·exact λδ2 μ2 h2 σ2 H2 L2 s3 r2 g2=>⟨δ2,μ2,L2,(s'.trans s2).trans s3,r2,g2,h2⟩
   ·exact λd μ2 h2 v H2 L2 s3 g2 dv=>h2 v H2 L2 ((s'.trans s2).trans s3) g2 dv
   ·exact λδ2 μ2 h2 σ2 H2 L2 s3 r2 g2=>h2 σ2 H2 L2 ((s'.trans s2).trans s3) r2 g2
   ·exact λδ2 μ2 h2 σ2 H2 L2 s3 r2 g2=>⟨δ2,μ2,L2,(s'.trans s2).trans s3,r2,g2,h2⟩
 ·cases b with
  |false =>
   rw[if_neg Bool.false_ne_true] at q ⊢
   exact l.nx _ _ q
  |true =>
   rw[if_pos rfl] at q ⊢
   exact hb.mono { E with nx:=λδ2 μ2=>∃m',m'<m/\inv m' δ2 μ2,ct:=λδ2 μ2=>∃m',m'<m/\inv m' δ2 μ2,bk:=E.nx } _ _ _ ⟨λ_ _ z=>z,l.rt,λ_ _ z=>l.nx _ _ z,λ_ _ z=>z⟩ q
end
section
variable {X:Cx}{c a b e:Expr}{es:List Expr}{uc:TD}{ta tb:EF}{t:AD}{pos p:Pos}
def N5 (uc:TD)(ta tb:EF):EF:=λδ Q=>uc δ λk=>if k=true then ta δ Q else tb δ Q
theorem Ma (hc:lH X c uc)(ha:PF X a ta)(hb:PF X b tb):PF X (.IfExp c a b pos) (N5 uc ta tb):=by
 refine⟨(wR hc.pt ha.pe hb.pe).imp λσ H Q ⟨δ,r,h⟩=>⟨δ,r,hc.mono _ _ _ (λk q H1 s1=>?_) h⟩,λδ P P' g h=>hc.mono _ _ _ (λk q=>?_) h⟩
 ·cases k with
  |true =>
   show if true=true then _ else _
   rw[if_pos rfl] at q ⊢
   exact⟨δ,r.same s1,ha.mono _ _ _ (λd μ z=>z.on s1) q⟩
  |false =>
   show if false=true then _ else _
   rw[if_neg Bool.false_ne_true] at q ⊢
   exact⟨δ,r.same s1,hb.mono _ _ _ (λd μ z=>z.on s1) q⟩
 ·cases k with
  |true=>rw[if_pos rfl] at q ⊢;exact ha.mono _ _ _ g q
  |false=>rw[if_neg Bool.false_ne_true] at q ⊢;exact hb.mono _ _ _ g q
def Em (t:AD):EF:=λδ Q=>t δ λds=>∃xs,(ds=[.lst xs]\/ds=[.tup xs])/\∀a,Q (.adr a) [(a,.lst xs)]
theorem n6 (hg:Gl X "list")(hm:X.mg "list"=none)(ha:ni X (e::es) t)(h1:starEach (e::es) X.env=(false,eval e X.env)::starEach es X.env:=by rfl)(h2:(backTo pos (starEach es X.env)).any (·.1)=false:=by rfl):PF X (.Call (.Name "list" p) (e::es) [] pos) (Em t):=by
 refine⟨(hX mY hg hm boot_list ha.pa (he:=h1) (hpl:=h2)).imp λσ H Q ⟨δ,r,h⟩=>⟨δ,r,ha.mono _ _ _ (λds ⟨xs,e,k⟩ vs H1 s1 dvs=>?_) h⟩,λδ P P' g h=>ha.mono _ _ _ (λds ⟨xs,e,k⟩=>⟨xs,e,λa=>g _ _ (k a)⟩) h⟩
 have fin:∀{ys:List V},bM X.K H1 ys xs->∀l,H1 l=none->Q (.ref l) (upd H1 l (.lst ys)):=fun{ys} dy l hl=>by
  obtain⟨g2,e2⟩:=(dZ.nil (K:=X.K) (H:=H1)).Ij hl (ds:=xs) (by rw[cI];exact dy)
  exact k l (.ref l) _ [l] (by rw[e2,cI];exact s1) g2 (.adr l)
 rcases e with e|e
 ·subst e
  cases dvs with
  |cons dv r2 =>
   cases r2
   cases dv with
   |lst q1 q2=>exact⟨_,_,rfl,.inl q1,fin q2⟩
 ·subst e
  cases dvs with
  |cons dv r2 =>
   cases r2
   cases dv with
   |tup q1 q2=>exact⟨_,_,rfl,.inr q1,fin q2⟩
theorem jH.dN {P:Program}{w:World}{K:PySem.W.Frag}{mg:Str->Option Value}{base:Heap}{j:Nat}{C:Addr}{m:Str}{sd:rD}{se:cF}(c:jH P w K mg base j C m sd)(ms:cK se)(h:∀ds Q,se ds Q->sd ds λd μ=>Q (ay μ d)):cA P w K mg base j C m se []:=by
 obtain⟨f,fd,ps,h1,h2,F,b⟩:=c.ex
 exact⟨⟨f,fd,ps,[],[],h1,h2,cP.sub F (λvs H Q E ⟨ds,dv,q⟩=>yU c.ms h vs H Q E ⟨ds,dv,q⟩),b,.nil,λ_=>.nil⟩,ms⟩
end
end DC
namespace L2
open PySem PySem.Spec PyProof.Rows
theorem GJ {ss:List Str}{i:Nat}{x:Str}(hx:ss[i]?=some x)(k:Str):(decide (k∈ss.take i)||decide (k=x))=decide (k∈ss.take (i+1)):=by
 rw[List.take_succ,hx]
 by_cases h1:k∈ss.take i
 ·simp[h1]
 ·by_cases h2:k=x
  ·simp[h2]
  ·simp[h1,h2]
theorem Du {ss:List Str}(hd:ss.Nodup){i:Nat}{x:Str}(hx:ss[i]?=some x):decide (x∈ss.take i)=false:=decide_eq_false λh=>by
 obtain⟨m,hm⟩:=List.mem_iff_getElem?.mp h
 rw[List.getElem?_take] at hm
 split at hm
 ·rename_i hlt
  have:=(List.getElem?_inj (List.getElem?_eq_some_iff.mp hm).1 hd).mp (hm.trans hx.symm)
  omega
 ·cases hm
section
variable {prog:Program}{w:World}{A:Around}{E:Value->Shared->Prop}{s:Shared}
abbrev sk (prog:Program)(w:World):=PySem.strKind prog w
theorem HH (x:Str)(t:Tok):(sk prog w).is x (.str x t)=true:=by show Value.isStrOf x (.str x t)=true;simp[Value.isStrOf]
theorem wg {R:Result->Shared->Prop}{I:Addr}{fp wr:List Addr}{G:Array GenState->Array GenState->Prop}{n:Nat}{P:Nat->Value->Prop}{St:Nat->Shared->Prop}
  (W:WalksS prog w A.in1 I fp wr G n P St)(B:Addr)(hB:B∉fp){ss:List Str}(hn:ss.length=n)(hd:ss.Nodup)(hv:∀i v,P i v->∃x t,ss[i]?=some x/\v=.str x t)(hb:n+1<scanBound) :
  ∀(d i:Nat) (s:Shared),n - i=d->i<=n->St i s->s.heap.SetOf (sk prog w) B (λk=>decide (k∈ss.take i)) i ->
   (∀s',Moved (B::wr) G s s'->s'.heap.SetOf (sk prog w) B (λk=>decide (k∈ss.take n)) n->R (.ok (.ret .none)) s') ->
   codeAny (model prog w) A (.builtin "set.update.loop" ⟨[.ref B,.ref I],[]⟩) R s
 | 0,i,s,h0,hi,st,hS,fin=>by
  have e:i=n:=by omega
  subst e
  refine codeAny_builtin F.entry_set_update_loop ?_
  rw[Around.under_plainId F.plain_set_update_loop _]
  refine(show wpAny _ A.in1 (pyNext (.ref I) >>= _) _ _ s from wpAny_bind (W.done s _ _ st λs1 mv=>?_))
  refine(show wpAny _ A.in1 (ret Value.none) _ _ s1 from wpAny_pure (fin s1 (mv.mono λb q=>List.mem_cons_of_mem _ q) ?_))
  obtain⟨ob,es,ep,tb,ho,more⟩:=hS
  exact⟨ob,es,ep,tb,mv.heap B _ (λq=>hB (W.sub _ q)) ho,more⟩
 |d+1,i,s,h0,hi,st,hS,fin=>by
  have lt:i<n:=by omega
  refine codeAny_builtin F.entry_set_update_loop ?_
  rw[Around.under_plainId F.plain_set_update_loop _]
  refine(show wpAny _ A.in1 (pyNext (.ref I) >>= _) _ _ s from wpAny_bind (W.item i s _ _ lt st λv s1 hP st1 mv=>?_))
  obtain⟨x,t,hx,rfl⟩:=hv i v hP
  have hS1:s1.heap.SetOf (sk prog w) B (λk=>decide (k∈ss.take i)) i:=by
   obtain⟨ob,es,ep,tb,ho,more⟩:=hS
   exact⟨ob,es,ep,tb,mv.heap B _ (λq=>hB (W.sub _ q)) ho,more⟩
  refine(show wpAny _ A.in1 (holding [Value.str x t] (setAdd B (.str x t)) >>= _) _ _ s1 from wpAny_bind (wpAny_holding ?_))
  unfold setAdd
  refine wpAny_holding (wpAny_bind ((sk prog w).pyHash (k:=x) (HH x t) ?_))
  refine wpAny_setAddHashed_of (knd:=sk prog w) (s:={ s1 with toks:=s1.toks+1 }) (HH x t) rfl hS1 (by omega) λh2 same hS2=>?_
  have hS3:h2.SetOf (sk prog w) B (λk=>decide (k∈ss.take (i+1))) (i+1):=by
   have e1:(λk'=>decide (k'∈ss.take i)||decide (k'=x))=λk=>decide (k∈ss.take (i+1)):=funext λk=>GJ hx k
   have e2:(if decide (x∈ss.take i)=true then i else i+1)=i+1:=by rw[Du hd hx];rfl
   have z:h2.SetOf (sk prog w) B (λk'=>decide (k'∈ss.take i)||decide (k'=x)) (if decide (x∈ss.take i)=true then i else i+1):=hS2
   rw[e1,e2] at z
   exact z
  refine wpAny_pure ⟨plainId_quiet F.plain_set_update_loop _,wg W B hB hn hd hv hb d (i+1) _ (by omega) lt (W.frame _ s1 _ _ st1 (Nat.le_succ _) λb hb2 o e=>?_) hS3 λs3 mv3 hS4=>?_⟩
  ·rw[same.2 b (λq=>hB (by rw[<- q];exact hb2))]
   exact e
  ·refine fin s3 (Moved.trans W.gtrans ((mv.mono λb q=>List.mem_cons_of_mem _ q).then_heap (Nat.le_succ _) λb o hb2 e=>?_) mv3) hS4
   rw[same.2 b (λq=>hb2 (by rw[q];exact List.mem_cons_self))]
   exact e
end
abbrev bh (led:Bool):Obj:={ cls:=.type "set",dict:=none,data:=.set #[] 0 (.fresh 0 0 led)}
structure Ge (h:Heap) (l:Addr) (T:String) (ss:List Str):Prop where
 ex:∃(o:Obj) (its:Array Value),h.get? l=some o/\o.cls=.type T/\StrsAre its.toList ss/\((T="list"/\h.IsList l its)\/(T="tuple"/\h.IsTuple l its))
theorem zv:∀{vs:List Value} {ss:List Str},StrsAre vs ss->∀{i:Nat} {v:Value},vs[i]?=some v->∃x t,ss[i]?=some x/\v=.str x t
 |_,_,.nil,i,v,h=>by cases h
 |_,_,.cons x t r,0,v,h=>by cases h;exact⟨x,t,rfl,rfl⟩
 |_,_,.cons x t r,i+1,v,h=>zv r (i:=i) h
theorem strs_size:∀{vs:List Value} {ss:List Str},StrsAre vs ss->vs.length=ss.length
 |_,_,.nil=>rfl
 |_,_,.cons _ _ r=>congrArg (·+1) (strs_size r)
section
variable {prog:Program}{w:World}{A:Around}{E:Value->Shared->Prop}{s:Shared}
theorem xX {l:Addr}{T:String}{ss:List Str}{its:Array Value}(hh:A.handled=none)(hS:StrsAre its.toList ss)(hk:(T="list"/\s.heap.IsList l its)\/(T="tuple"/\s.heap.IsTuple l its))(hl:l<s.heap.objs.size) :
  ∃(oI:Obj) (St:Nat->Shared->Prop),(∀(A':Around) (E':Value->Shared->Prop) (Q:Value->Shared->Prop),Q (.ref s.heap.objs.size) { s with heap:=s.heap.push oI }->wpAny (model prog w) A' (pyIter (.ref l)) Q E' s) /\
   WalksS prog w A s.heap.objs.size [s.heap.objs.size,l] [s.heap.objs.size] (λa b=>b=a) ss.length (λi v=>its[i]?=some v) St/\St 0 { s with heap:=s.heap.push oI }:=by
 have en:its.size=ss.length:=by rw[<- strs_size hS,Array.length_toList]
 have ne:l≠s.heap.objs.size:=Nat.ne_of_lt hl
 rcases hk with⟨_,hL⟩|⟨_,hL⟩
 ·exact⟨_,_,λA' E' Q q=>wpAny_pyIter_list hL q,en ▸ (Walks.list hh _ l ne its).toS,⟨⟨_,Heap.get?_push_size _ rfl,rfl,rfl⟩,hL.push _⟩⟩
 ·exact⟨_,_,λA' E' Q q=>wpAny_pyIter_tuple hL q,en ▸ (Walks.tuple hh _ l ne its).toS,⟨⟨_,Heap.get?_push_size _ rfl,rfl,rfl⟩,hL.push _⟩⟩
theorem Bg {l:Addr}{T:String}{ss:List Str}{Q:Value->Shared->Prop}(hh:A.handled=none)(tx:Ge s.heap l T ss)(hd:ss.Nodup)(hb:ss.length+1<scanBound)
  (fin:∀h' tk,h'.SetOf (sk prog w) s.heap.objs.size (λk=>decide (k∈ss.take ss.length)) ss.length->(∀b o,s.heap.get? b=some o->h'.get? b=some o)->Q (.ref s.heap.objs.size) { s with heap:=h',toks:=tk }) :
  wpAny (model prog w) A (call (.type "set") [.ref l]) Q E s:=by
 obtain⟨ol,its,hol,hcl,hS,hk⟩:=tx.ex
 have hlt:l<s.heap.objs.size:=Heap.lt_size hol
 obtain⟨k0,k1,mro⟩:=F.called_set.mro
 have made:=F.called_set.made
 have isub:=F.called_set.sub
 refine wpAny_call (codeAny_of_tree (show wpAny _ _ (callAny (.type "set") _) _ _ _ from wpAny_pure ⟨Code.quiet_builtin _ (by decide +kernel),codeAny_builtin F.entry_type_call ?_⟩))
 rw[Around.under_plain (weight_type_call_type "set" [.ref l] []) rfl]
 have nt:=F.called_set.notType
 have cc:=F.called_set.canCreate
 have tc:=F.typeCall_set_1 (.ref l)
 repeat (any_goals (first|assumption|wp_step))
 refine codeAny_mono (code_set_new_1 (.ref l) (E:=E) (Q₁:=λv s1=>∃led:Bool,v=.ref s.heap.objs.size/\s1={ s with heap:=s.heap.push (bh led)}) λled=>⟨led,rfl,rfl⟩) λr s1 hr=>?_
 match r,hr with
 |.error e,hr=>exact hr
 |.ok .next,hr=>exact hr.elim
 |.ok .brk,hr=>exact hr.elim
 |.ok .cont,hr=>exact hr.elim
 |.ok (.ret v),hr =>
  obtain⟨led,rfl,rfl⟩:=hr
  have hB:(s.heap.push (bh led)).get? s.heap.objs.size=some (bh led):=Heap.get?_push_size _ rfl
  have tB:Shared.TypeIs { s with heap:=s.heap.push (bh led)} (.ref s.heap.objs.size) "set":=⟨_,hB,rfl⟩
  have li:=F.called_set.init.lookup
  have bi:=F.called_set.init.bind (.ref s.heap.objs.size)
  repeat (any_goals (first|assumption|wp_step))
  refine codeAny_mono (codeAny_call_builtin (R:=wants (λr s2=>r=.none/\∃h' tk,s2={ s with heap:=h',toks:=tk }/\h'.SetOf (sk prog w) s.heap.objs.size (λk=>decide (k∈ss.take ss.length)) ss.length /\
   (∀b o,s.heap.get? b=some o->h'.get? b=some o)) E) F.called_set.init.plain F.entry_set_init (check_set_init_1 tB ?_)) λr2 s2 hr2=>?_
  ·have done:∀(A':Around),A'.in1.handled=none ->
     ∃oI:Obj,(∀(A2:Around) (E':Value->Shared->Prop) (Q:Value->Shared->Prop),Q (.ref (s.heap.push (bh led)).objs.size) { s with heap:=(s.heap.push (bh led)).push oI }->wpAny (model prog w) A2 (pyIter (.ref l)) Q E' { s with heap:=s.heap.push (bh led)}) /\
      ∀(R:Result->Shared->Prop),(∀h' tk,h'.SetOf (sk prog w) s.heap.objs.size (λk=>decide (k∈ss.take ss.length)) ss.length->(∀b o,s.heap.get? b=some o->h'.get? b=some o)->R (.ok (.ret .none)) { s with heap:=h',toks:=tk }) ->
       codeAny (model prog w) A' (.builtin "set.update.loop" ⟨[.ref s.heap.objs.size,.ref (s.heap.push (bh led)).objs.size],[]⟩) R { s with heap:=(s.heap.push (bh led)).push oI }:=λA' ha=>by
    have hk2:(T="list"/\(s.heap.push (bh led)).IsList l its)\/(T="tuple"/\(s.heap.push (bh led)).IsTuple l its):=hk.imp (λz=>⟨z.1,z.2.push _⟩) λz=>⟨z.1,z.2.push _⟩
    have hl2:l<(s.heap.push (bh led)).objs.size:=by rw[Heap.size_push];exact Nat.lt_succ_of_lt hlt
    obtain⟨oI,St,it,W,st⟩:=xX (prog:=prog) (w:=w) (A:=A'.in1) (s:={ s with heap:=s.heap.push (bh led)}) ha hS hk2 hl2
    refine⟨oI,it,λR hR=>?_⟩
    have nB:s.heap.objs.size∉[(s.heap.push (bh led)).objs.size,l]:=by
     rw[Heap.size_push]
     simp only[List.mem_cons,List.not_mem_nil,or_false,not_or]
     exact⟨Nat.ne_of_lt (Nat.lt_succ_self _),Nat.ne_of_gt hlt⟩
    refine wg W s.heap.objs.size nB rfl hd (λi v hv=>zv hS (by rw[Array.getElem?_toList];exact hv)) hb (ss.length - 0) 0 _ rfl (Nat.zero_le _) st ?_ λs' mv z=>?_
    ·have g0:((s.heap.push (bh led)).push oI).get? s.heap.objs.size=some (bh led):=Heap.get?_push_of_some _ hB
     have z:=(setObjOf_fresh (knd:=sk prog w) led).setOf g0 (by unfold scanBound;omega)
     have e:(λ_:Str=>false)=λk=>decide (k∈ss.take 0):=funext λk=>by simp
     rw[e] at z
     exact z
    ·obtain⟨h',g',d',tk',os'⟩:=s'
     have eg:g'=s.gens:=mv.gens
     have ed:d'=s.drawn:=mv.drawn
     have eo:os'=s.os:=mv.os
     subst eg ed eo
     refine hR h' tk' z λb o q=>?_
     have lb:=Heap.lt_size q
     refine mv.heap b o ?_ (Heap.get?_push_of_some _ (Heap.get?_push_of_some _ q))
     rw[Heap.size_push]
     simp only[List.mem_cons,List.not_mem_nil,or_false,not_or]
     exact⟨Nat.ne_of_lt lb,Nat.ne_of_lt (Nat.lt_succ_of_lt lb)⟩
   have hol2:(s.heap.push (bh led)).get? l=some ol:=Heap.get?_push_of_some _ hol
   obtain⟨oc,odd,oda,osl⟩:=ol
   have hcl:oc=.type T:=hcl
   subst hcl
   rcases hk with⟨rfl,_⟩|⟨rfl,_⟩
   ·have s1:=F.sub_list_set
    have s2:=F.sub_list_frozenset
    have s3:(Value.type "list" == Value.type "dict")=false:=by decide
    unfold Builtin.«set.__init__» noKeywords Builtin.Frozenset.updateFrom
    generalize hPI:pyIter=PI
    wp_walk
    subst hPI
    obtain⟨oI,it,lp⟩:=done A.in1.in1 (by simp[hh])
    refine it _ _ _ (wpAny_bind (wpAny_runValue (lp _ λh' tk z1 z2=>?_)))
    show wpAny _ _ _ _ _ _
    refine wpAny_pure ?_
    show wpAny _ _ (ret Value.none) _ _ _
    exact wpAny_pure ⟨rfl,h',tk,rfl,z1,z2⟩
   ·have s1:=F.sub_tuple_set
    have s2:=F.sub_tuple_frozenset
    have s3:(Value.type "tuple" == Value.type "dict")=false:=by decide
    unfold Builtin.«set.__init__» noKeywords Builtin.Frozenset.updateFrom
    generalize hPI:pyIter=PI
    wp_walk
    subst hPI
    obtain⟨oI,it,lp⟩:=done A.in1.in1 (by simp[hh])
    refine it _ _ _ (wpAny_bind (wpAny_runValue (lp _ λh' tk z1 z2=>?_)))
    show wpAny _ _ _ _ _ _
    refine wpAny_pure ?_
    show wpAny _ _ (ret Value.none) _ _ _
    exact wpAny_pure ⟨rfl,h',tk,rfl,z1,z2⟩
  ·match r2,hr2 with
   |.error e,hr2=>exact hr2
   |.ok .next,hr2=>exact hr2.elim
   |.ok .brk,hr2=>exact hr2.elim
   |.ok .cont,hr2=>exact hr2.elim
   |.ok (.ret v),hr2 =>
    obtain⟨rfl,h',tk,rfl,z1,z2⟩:=hr2
    repeat (any_goals (first|assumption|wp_step))
    exact fin _ _ z1 z2
end
def u0 (a:Addr)(n:Nat):HO:=.ext λh=>∃o es ep t,h.get? a=some o/\o.ExactSet/\o.data=.set es ep t/\t.fits es.size=true/\es.size=n
section
variable {X:Cx}
theorem rJ (hh:X.A.handled=none):eW X (.type "set") (λxs H Q=>∃(p:Addr) (ss:List Str),xs=[.ref p]/\(cu X.K H p (ss.map V.str)\/iM X.K H p (ss.map V.str))/\ss.Nodup/\ss.length+1<scanBound/\∀l,H l=none->Q (.ref l) (upd H l (u0 l ss.length))):=by
 intro pins s σ H xs us Q I r h
 obtain⟨p,ss,rfl,hq,hd,hb,q⟩:=h
 obtain⟨u,rfl,rx⟩:=vals1 r
 cases rx
 have go:∀T:String,Ge s.heap p T ss->wpAny (model X.prog X.w) X.A (call (.type "set") [.ref p]) (EP X pins σ Q) X.xe s:=λT tx =>
  Bg hh tx hd hb λh' tk ⟨o,es,ep,t,z1,z2,z3,_,_,_,z4,z5⟩ keep =>
   ⟨.ref s.heap.objs.size,_,I.laid (t':=tk) keep (Nat.le_refl _) (show bJ X.prog X.w _ h' _ (u0 _ _) from⟨⟨o,es,ep,t,z1,z2,z3,z4,z5⟩,⟨o,z1⟩,λh1 h2 ⟨o,es,ep,t,y1,y⟩ k=>⟨o,es,ep,t,k _ y1,y⟩⟩),rfl,q _ (I.bW.fresh (Nat.le_refl _))⟩
 rcases hq with hq|hq
 ·obtain⟨its,r',pl,hz⟩:=I.list hq
  obtain⟨o,ho,hc,n,hdt⟩:=pl.isList
  exact go "list" ⟨o,its.toArray,ho,hc,lC r',.inl ⟨rfl,⟨o,ho,hc,n,hdt⟩⟩⟩
 ·obtain⟨its,r',pl,hz⟩:=I.tuple hq
  obtain⟨o,ho,hc,n,hdt⟩:=pl
  exact go "tuple" ⟨o,its.toArray,ho,hc,lC r',.inr ⟨rfl,⟨o,ho,hc,n,hdt⟩⟩⟩
theorem rH:eW X (.builtin "len") (λxs H Q=>∃p n,xs=[.ref p]/\H p=some (u0 p n)/\n<1000000/\Q (.int n) H):=by
 intro pins s σ H xs us Q I r h
 obtain⟨p,n,rfl,hp,hn,q⟩:=h
 obtain⟨u,rfl,rx⟩:=vals1 r
 cases rx
 obtain⟨⟨o,es,ep,t,z1,z2,z3,z4,z5⟩,_⟩:=(show bJ X.prog X.w H s.heap p (u0 p n) from I.bW p _ hp)
 exact call_len_set z1 z2 z3 z4 (by omega) ⟨.int n,H,I.tok _,⟨_,by rw[z5]⟩,q⟩
end
end L2
namespace DC
open PySem PySem.Spec PyProof.Rows L2
section
variable {X:Cx}{e:Expr}{te:ED}{p p1 p2 pos:Pos}
theorem boot_set:bootBuiltins "set"=some (.type "set"):=by kernel_rfl
def GV (te:ED):ED:=λδ Q=>te δ λd=>∃ss:List Str,(d=.lst (ss.map D.str)\/d=.tup (ss.map D.str))/\ss.Nodup/\ss.length<=200/\Q (.int ss.length)
theorem Bt (hh:X.A.handled=none)(hg:Gl X "len")(hm:X.mg "len"=none)(hg2:Gl X "set")(hm2:X.mg "set"=none)(he:PD X e te)
  (h1:starEach [e] X.env=(false,eval e X.env)::starEach [] X.env:=by rfl)(h2:(backTo p2 (starEach [] X.env)).any (·.1)=false:=by rfl)
  (h3:starEach [.Call (.Name "set" p1) [e] [] p2] X.env=(false,eval (.Call (.Name "set" p1) [e] [] p2) X.env)::starEach [] X.env:=by rfl)(h4:(backTo pos (starEach [] X.env)).any (·.1)=false:=by rfl) :
  PD X (.Call (.Name "len" p) [.Call (.Name "set" p1) [e] [] p2] [] pos) (GV te):=by
 refine⟨(fE rH hg hm PySem.boot_len (eA (hX (rJ hh) hg2 hm2 boot_set (eA he.pe ic h1) (he:=h1) (hpl:=h2)) ic h3) (he:=h3) (hpl:=h4)).imp λσ H Q ⟨δ,r,h⟩=>⟨δ,r,he.mono _ _ _ (λd ⟨ss,ed,nd,hl,k⟩ v H1 s1 dv=>?_) h⟩,
  λδ P P' g h=>he.mono _ _ _ (λd ⟨ss,ed,nd,hl,k⟩=>⟨ss,ed,nd,hl,g _ k⟩) h⟩
 have fin:∀l,H1 l=none->∃p n,[V.ref l]=[.ref p]/\upd H1 l (u0 l ss.length) p=some (u0 p n)/\n<1000000/\Q (.int n) (upd H1 l (u0 l ss.length)):=λl hl' =>
  ⟨l,ss.length,rfl,aJ,by omega,k _ _ (s1.trans (aU hl')) (.int _)⟩
 rcases ed with ed|ed
 ·subst ed
  cases dv with
  |lst q1 q2=>exact⟨_,ss,rfl,.inl (pb q2 ▸ q1),nd,by unfold scanBound;omega,fin⟩
 ·subst ed
  cases dv with
  |tup q1 q2=>exact⟨_,ss,rfl,.inr (pb q2 ▸ q1),nd,by unfold scanBound;omega,fin⟩
end
section
variable {P:Program}{w:World}{K:PySem.W.Frag}{mg:Str->Option Value}{base:Heap}
theorem Dm.rG {k:Nat}{C:Addr}{m qual:Str}{st:Stmt}{ps N:List Str}{sd:rD}{t:fL}(d:Dm K C m qual st ps)(S:aE N ps (aC st))(ms:iO sd)(len:∀ds Q,sd ds Q->ds.length=ps.length)
  (hb:∀(f:Addr) (cdv:Value) (A:Around) (outer:List Env) (s:Shared) (H:Hp) (E:XK),cH k (A.deeper (envOfC qual (aC st) s.heap.objs.size f cdv))->uo (Bx P w K mg base N qual st f cdv A outer s H E) (bE st) t)
  (hr:∀ds Q,sd ds Q->t { nx:=λ_ μ=>Q .ak μ,rt:=Q } (cZ N ds) []):jH P w K mg base (k+1) C m sd:=by
 obtain⟨f,fd,F,M,c,b⟩:=d.ex
 exact⟨⟨f,fd,ps,c,M,Nl F S len (hb f) hr,b⟩,ms⟩
end
section
variable {X:Cx}{e:Expr}{te:ED}{pos:Pos}
def IT (te:ED):fL:=λE δ μ=>te (bB μ δ) λ_=>E.nx δ μ
theorem wB (he:PD X e te)(hs:swapsWith e none pos.line X.env=pure false:=by rfl):p7 X (.Expr e pos) (IT te) :=
 ⟨PS.imp (ie he.pe hs) λD σ H ⟨δ,μ,L,r,g,h⟩=>⟨_,g.bB r,he.mono _ _ _ (λd q v H1 s1 dv=>q σ H1 L (bV s1) (r.same (bV s1)) (g.on s1)) h⟩,λE E' δ μ l h=>he.mono _ _ _ (λd q=>l.nx _ _ q) h⟩
variable {E:fb}{δ δ':SD}{μ:Mu}{uc:TD}{t u r:fL}
end
section
variable {P:Program}{w:World}{K:PySem.W.Frag}{mg:Str->Option Value}{base:Heap}
theorem Dm.l7 {k:Nat}{C:Addr}{m qual:Str}{st:Stmt}{ps N:List Str}{sd:cF}{t:fL}(d:Dm K C m qual st ps)(S:aE N ps (aC st))(ms:cK sd)(len:∀ds Q,sd ds Q->ds.length=ps.length)
  (hb:∀(f:Addr) (cdv:Value) (A:Around) (outer:List Env) (s:Shared) (H:Hp) (E:XK),cH k (A.deeper (envOfC qual (aC st) s.heap.objs.size f cdv))->uo (Bx P w K mg base N qual st f cdv A outer s H E) (bE st) t)
  (hr:∀ds Q,sd ds Q->t { nx:=λ_ _=>Q .ak,rt:=λd μ=>Q (ay μ d)} (cZ N ds) []):cA P w K mg base (k+1) C m sd []:=by
 obtain⟨f,fd,F,M,c,b⟩:=d.ex
 exact⟨⟨f,fd,ps,[],[],c,M,Nm F S len (hb f) hr,b,.nil,λ_=>.nil⟩,ms⟩
end
end DC
namespace L2
open PySem PySem.Spec PyProof.Rows
section
variable {X:Cx}
theorem pW {k:Nat}(h:k<1000000):-(2 ^ 63)<=(k:Int)/\(k:Int)<2 ^ 63:=⟨by show(-9223372036854775808:Int)<=k;omega,by show(k:Int)<9223372036854775808;omega⟩
theorem An:Js X "list.insert" (λx vs H Q=>∃(l:Addr) (xs:List V) (i:Int) (k:Nat) (y:V),x=.ref l/\vs=[.int i,y]/\i=(k:Int)/\H l=some (.lst xs)/\k<=xs.length/\xs.length<sizeLine/\k<1000000/\Q .ak (upd H l (.lst (xs.take k++y::xs.drop k)))):=by
 intro pins s σ H x vs v us Q I rx rv h
 obtain⟨l,xs,i,k,y,rfl,rfl,hi,hH,hk,hz,hk2,q⟩:=h
 cases rx
 obtain⟨u,w',rfl,⟨t,rfl⟩,ru⟩:=vals2 rv
 obtain⟨z,its,n,r,hl,e⟩:=I.Ak hH
 have hf:¬ (!Builtin.List.listFitsIndex i)=true:=by
  rw[fitsIndex_both (by rw[hi];exact(pW hk2).1) (by rw[hi];exact(pW hk2).2)]
  exact Bool.false_ne_true
 have hsz:its.toArray.size<=sizeLine:=by rw[List.size_toArray,<- hl];exact Nat.le_of_lt hz
 have M:=AutoSeq1.list_insert_list_int_val_1 l its.toArray n i t w' hf hsz
 refine call_meets F.slot_list_insert ⟨_,e,rfl⟩ F.entry_list_insert (F.args_list_insert_3 (.ref l) (.int i t) w') M ⟨e,?_⟩
 refine⟨.ak,_,I.CS (its':=its.take k++w'::its.drop k) hH e ?_ ((r.take k).append (.cons ru (r.drop k))) ?_,rfl,q⟩
 ·have h1:¬ (i<0):=by omega
  have h2:min i.toNat its.toArray.size=k:=by rw[List.size_toArray];omega
  simp only[h1,if_false,h2]
  apply Array.ext'
  simp
  exact List.take_of_length_le (by rw[List.length_drop];exact Nat.le_refl _)
 ·simp only[List.length_append,List.length_take,List.length_cons,List.length_drop]
  omega
theorem Am:ML X "list.index" (λx xs H Q=>∃(a:Addr) (ws:List Str) (z:Str) (j:Nat),x=.ref a/\xs=[.str z]/\cu X.K H a (ws.map V.str)/\ws[j]?=some z/\(∀m y,m<j->ws[m]?=some y->y≠z)/\j<1000/\Q (.int (j:Int)) H):=by
 intro pins s σ H x xs v us Q I rx rs h
 obtain⟨a,ws,z,j,rfl,rfl,hS,h1,h2,h3,q⟩:=h
 cases rx
 obtain⟨u,rfl,ru⟩:=rs.one
 obtain⟨tu,rfl⟩:=(show ∃t,u=Value.str z t from ru)
 obtain⟨its,rv,⟨o,n,e,ec,_,d⟩,_⟩:=I.list hS
 obtain⟨oc,od,oda,osl⟩:=o
 cases(show oc=Value.type "list" from ec)
 cases(show oda=Data.seq its.toArray n from d)
 have at_:∀m y,ws[m]?=some y->∃t,its[m]?=some (Value.str y t):=λm y hy=>by
  obtain⟨w',hw,t,rfl⟩:=rv.get (show(ws.map V.str)[m]?=some (V.str y) by rw[List.getElem?_map,hy];rfl)
  exact⟨t,hw⟩
 obtain⟨tj,hj⟩:=at_ j z h1
 have hjl:j<its.length:=(List.getElem?_eq_some_iff.mp hj).1
 refine call_meets F.slot_list_index ⟨_,e,rfl⟩ F.entry_list_index (F.args_list_index_2 _ _) (SeqAt.list_indexAt a _ n od osl (.str z tu) (λy=>match y with|.str z' _=>decide (z'=z)|_=>false) j (by simpa using hjl) (by omega) ?_ ?_) ⟨e,λy hy=>?_,?_⟩
 ·have z1:=(List.getElem?_eq_some_iff.mp hj).2
  simp[z1]
 ·intro m hm hmj
  have hml:m<ws.length:=by have:=(List.getElem?_eq_some_iff.mp h1).1;omega
  obtain⟨tm,hm2⟩:=at_ m ws[m] (List.getElem?_eq_getElem hml)
  have z1:=(List.getElem?_eq_some_iff.mp hm2).2
  have ne:=h2 m ws[m] hmj (List.getElem?_eq_getElem hml)
  simp[z1,ne]
 ·obtain⟨z',t,rfl⟩:=DC.sY rv y (List.mem_toArray.mp hy)
  exact SeqAt.EqAt.str_str z' t z tu
 ·exact⟨.int (j:Int),H,I.tok _,⟨s.toks,rfl⟩,q⟩
end
end L2
namespace DC
open PySem PySem.Spec PyProof.Rows L2
section
variable {X:Cx}{i:Nat}{x:Str}{e e1 e2 o:Expr}{es:List Expr}{t:AD}{te to:ED}{p pos apos cpos:Pos}
theorem ux {K:PySem.W.Frag}{H:Hp}{vs:List V}{ds:List D}(h:bM K H vs ds)(k:Nat){w:V}{d:D}(hw:Dv K H w d):bM K H (vs.take k++w::vs.drop k) (ds.take k++d::ds.drop k):=(h.take k).append (.cons hw (h.drop k))
def E_ (i:Nat)(t:AD):fL:=λE δ μ=>∃a ds,δ[i]?=some (some (.adr a))/\μ.lookup a=some (.lst ds)/\t δ λxs=>∃(k:Nat) (d:D),xs=[.int (k:Int),d]/\k<=ds.length/\ds.length<sizeLine/\k<1000000/\E.nx δ (fR a (.lst (ds.take k++d::ds.drop k)) μ)
theorem rp (hi:X.N[i]?=some x)(hv:uq X.env.scope x)(he:ni X [e1,e2] t)(hd:(x == ("__debug__":Str))=false:=by decide)(hcd:(x == ("__classdict__":Str))=false:=by decide)
  (hst:starEach [e1,e2] X.env=(false,eval e1 X.env)::starEach [e2] X.env:=by rfl)(hplain:(backTo cpos (starEach [e2] X.env)).any (·.1)=false:=by rfl)(hline:(apos.endLine == cpos.line)=true:=by rfl)
  (hfew:((backTo cpos (starEach [e1,e2] X.env)).all (λx=>!x.1)&&(backToKw cpos (keywordEach [] X.env)).all (λx=>x.1.isSome)&&decide ([e1,e2].length+([]:List Keyword).length+(if([]:List Keyword).isEmpty then 0 else 1)<30))=true:=by rfl)
  (hs:swapsWith (.Call (.Attribute (.Name x p) "insert" apos) [e1,e2] [] cpos) none pos.line X.env=pure false:=by rfl)
  (hb:attributeBase (.Name x p) "insert" X.env (eval (.Name x p) X.env)=eval (.Name x p) X.env:=by rfl) :
  p7 X (.Expr (.Call (.Attribute (.Name x p) "insert" apos) [e1,e2] [] cpos) pos) (E_ i t):=by
 refine⟨PS.imp (ie (sM PySem.F.plainAttrs_list PySem.F.slot_list_insert PySem.F.type_list_insert An (eB hi hv hd hcd) (JD he.pa) hb hfew hline hst hplain) hs) λD σ H ⟨δ,μ,L,r,g,q⟩=>?_,
  λE E' δ μ l ⟨a,ds,k1,k2,q⟩=>⟨a,ds,k1,k2,he.mono _ _ _ (λxs ⟨k,d,h1,h2,h3,h4,h5⟩=>⟨k,d,h1,h2,h3,h4,l.nx _ _ h5⟩) q⟩⟩
 obtain⟨a,ds,k1,k2,q⟩:=q
 obtain⟨v,hv1,dv⟩:=r.get i _ k1
 cases dv
 have hm:=mem_of_lookup k2
 obtain⟨haL,vs,hH,dvs⟩:=g.at_ _ hm
 refine⟨_,hv1,.inl ⟨rfl,_,cu.of hH⟩,L,g.dG,δ,r,he.mono _ _ _ (λxs ⟨kk,d,exs,hk1,hk2,hk3,k⟩ ws H1 s1 dws z=>?_) q⟩
 subst exs
 cases dws with
 |cons dw1 dws =>
  cases dws with
  | @cons w _ _ _ dw2 dws =>
   cases dws
   cases dw1
   have e1:aN (aa H1 H L) L=H1:=bK z
   have g1:dZ X.K (aa H1 H L) μ L:=g.show z s1
   have hH1:aa H1 H L a=some (.lst vs):=by rw[af haL];exact hH
   refine⟨a,vs,_,kk,w,rfl,rfl,rfl,hH1,by rw[dvs.length];exact hk1,by rw[dvs.length];exact hk2,hk3,?_⟩
   have g2:=g1.putL haL hH1 (ys:=vs.take kk++w::vs.drop kk) (ds:=ds.take kk++d::ds.drop kk) (by rw[e1];exact ux (bM.same s1 dvs) kk dw2)
   have e2:∀ys,aN (upd (aa H1 H L) a (.lst ys)) L=H1:=λys=>by rw[cp haL,e1]
   exact k σ _ L (by rw[e2];exact s1) (by rw[e2];exact r.same s1) g2
def CU (i:Nat):fL:=λE δ μ=>∃a ds,δ[i]?=some (some (.adr a))/\μ.lookup a=some (.lst ds)/\E.nx δ (fR a (.lst ds.reverse) μ)
theorem bM.rev {K:PySem.W.Frag}{H:Hp}:∀{vs:List V} {ds:List D},bM K H vs ds->bM K H vs.reverse ds.reverse
 |_,_,.nil=>.nil
 |_,_,.cons a r=>by rw[List.reverse_cons,List.reverse_cons];exact(bM.rev r).append (.cons a .nil)
theorem xm (hi:X.N[i]?=some x)(hv:uq X.env.scope x)(hd:(x == ("__debug__":Str))=false:=by decide)(hcd:(x == ("__classdict__":Str))=false:=by decide)(hline:(apos.endLine == cpos.line)=true:=by rfl)
  (hs:swapsWith (.Call (.Attribute (.Name x p) "reverse" apos) [] [] cpos) none pos.line X.env=pure false:=by rfl)
  (hb:attributeBase (.Name x p) "reverse" X.env (eval (.Name x p) X.env)=eval (.Name x p) X.env:=by rfl) :
  p7 X (.Expr (.Call (.Attribute (.Name x p) "reverse" apos) [] [] cpos) pos) (CU i):=by
 refine⟨PS.imp (ie (JG PySem.F.plainAttrs_list PySem.F.slot_list_reverse PySem.F.type_list_reverse xn (eB hi hv hd hcd) hb hline) hs) λD σ H ⟨δ,μ,L,r,g,q⟩=>?_,
  λE E' δ μ l ⟨a,ds,k1,k2,q⟩=>⟨a,ds,k1,k2,l.nx _ _ q⟩⟩
 obtain⟨a,ds,k1,k2,q⟩:=q
 obtain⟨v,hv1,dv⟩:=r.get i _ k1
 cases dv
 obtain⟨haL,vs,hH,dvs⟩:=g.at_ _ (mem_of_lookup k2)
 refine⟨_,hv1,.inl ⟨rfl,_,cu.of hH⟩,a,vs,rfl,rfl,hH,?_⟩
 have e2:aN (upd H a (.lst vs.reverse)) L=aN H L:=cp haL
 exact q σ _ L (by rw[e2];exact aK.refl _) (by rw[e2];exact r) (g.putL haL hH (bM.rev dvs))
def IW (i:Nat)(te:ED):fL:=λE δ μ=>∃a ds,δ[i]?=some (some (.adr a))/\μ.lookup a=some (.lst ds)/\te δ λd=>∃k:Nat,d=.int (k:Int)/\k<ds.length/\k<1000000/\E.nx δ (fR a (.lst (ds.eraseIdx k)) μ)
theorem bM.erase {K:PySem.W.Frag}{H:Hp}:∀{vs:List V} {ds:List D},bM K H vs ds->∀k,bM K H (vs.eraseIdx k) (ds.eraseIdx k)
 |_,_,.nil,_=>.nil
 |_,_,.cons _ r,0=>r
 |_,_,.cons a r,k+1=>.cons a (bM.erase r k)
theorem Ck (hi:X.N[i]?=some x)(hv:uq X.env.scope x)(he:PD X e te)(hd:(x == ("__debug__":Str))=false:=by decide)(hcd:(x == ("__classdict__":Str))=false:=by decide)
  (hst:starEach [e] X.env=(false,eval e X.env)::starEach [] X.env:=by rfl)(hline:(apos.endLine == cpos.line)=true:=by rfl)
  (hfew:((backTo cpos (starEach [e] X.env)).all (λx=>!x.1)&&(backToKw cpos (keywordEach [] X.env)).all (λx=>x.1.isSome)&&decide ([e].length+([]:List Keyword).length+(if([]:List Keyword).isEmpty then 0 else 1)<30))=true:=by rfl)
  (hs:swapsWith (.Call (.Attribute (.Name x p) "pop" apos) [e] [] cpos) none pos.line X.env=pure false:=by rfl)
  (hb:attributeBase (.Name x p) "pop" X.env (eval (.Name x p) X.env)=eval (.Name x p) X.env:=by rfl) :
  p7 X (.Expr (.Call (.Attribute (.Name x p) "pop" apos) [e] [] cpos) pos) (IW i te):=by
 refine⟨PS.imp (ie (sM PySem.F.plainAttrs_list PySem.F.slot_list_pop PySem.F.type_list_pop Cn (eB hi hv hd hcd) (eA (gx he.pe) ic hst) hb hfew hline hst) hs) λD σ H ⟨δ,μ,L,r,g,q⟩=>?_,
  λE E' δ μ l ⟨a,ds,k1,k2,q⟩=>⟨a,ds,k1,k2,he.mono _ _ _ (λd ⟨k,h1,h2,h3,h4⟩=>⟨k,h1,h2,h3,l.nx _ _ h4⟩) q⟩⟩
 obtain⟨a,ds,k1,k2,q⟩:=q
 obtain⟨v,hv1,dv⟩:=r.get i _ k1
 cases dv
 have hm:=mem_of_lookup k2
 obtain⟨haL,vs,hH,dvs⟩:=g.at_ _ hm
 refine⟨_,hv1,.inl ⟨rfl,_,cu.of hH⟩,L,g.dG,δ,r,he.mono _ _ _ (λd ⟨k,ed,hk,hk2,nx⟩ w H1 s1 dw z=>?_) q⟩
 subst ed
 cases dw
 have e1:aN (aa H1 H L) L=H1:=bK z
 have g1:dZ X.K (aa H1 H L) μ L:=g.show z s1
 have hH1:aa H1 H L a=some (.lst vs):=by rw[af haL];exact hH
 have hkv:k<vs.length:=by rw[dvs.length];exact hk
 refine⟨a,vs,(k:Int),k,vs[k],rfl,rfl,hH1,(pW hk2).1,(pW hk2).2,?_,List.getElem?_eq_getElem hkv,?_⟩
 ·unfold seqIndex?
  simp
  omega
 have g2:=g1.putL haL hH1 (ys:=vs.eraseIdx k) (ds:=ds.eraseIdx k) (by rw[e1];exact bM.erase (bM.same s1 dvs) k)
 have e2:aN (upd (aa H1 H L) a (.lst (vs.eraseIdx k))) L=H1:=by rw[cp haL,e1]
 exact nx σ _ L (by rw[e2];exact s1) (by rw[e2];exact r.same s1) g2
def GU (to:ED)(t:AD):ED:=λδ Q=>to δ λd=>∃ws:List Str,d=.lst (ws.map D.str)/\t δ λds=>∃z,ds=[.str z]/\∃j:Nat,ws[j]?=some z/\(∀m y,m<j->ws[m]?=some y->y≠z)/\j<1000/\Q (.int (j:Int))
theorem vL (ho:PD X o to)(ha:ni X (e::es) t)(hbase:attributeBase o "index" X.env (eval o X.env)=eval o X.env:=by rfl)
  (hfew:((backTo cpos (starEach (e::es) X.env)).all (λx=>!x.1)&&(backToKw cpos (keywordEach [] X.env)).all (λx=>x.1.isSome)&&decide ((e::es).length+([]:List Keyword).length+(if([]:List Keyword).isEmpty then 0 else 1)<30))=true:=by rfl)
  (hline:(apos.endLine == cpos.line)=true:=by rfl)(hs:starEach (e::es) X.env=(false,eval e X.env)::starEach es X.env:=by rfl)(hplain:(backTo cpos (starEach es X.env)).any (·.1)=false:=by rfl) :
  PD X (.Call (.Attribute o "index" apos) (e::es) [] cpos) (GU to t):=by
 refine⟨(sM PySem.F.plainAttrs_list PySem.F.slot_list_index PySem.F.type_list_index Am ho.pe ha.pa hbase hfew hline hs hplain).imp λσ H Q ⟨δ,r,h⟩=>⟨δ,r,ho.mono _ _ _ (λz ⟨bs,ez,q⟩ v H1 s1 dv=>?_) h⟩,
  λδ P P' g h=>ho.mono _ _ _ (λz ⟨bs,ez,q⟩=>⟨bs,ez,ha.mono _ _ _ (λds ⟨w,e1,j,k1,k2,k3,k⟩=>⟨w,e1,j,k1,k2,k3,g _ k⟩) q⟩) h⟩
 subst ez
 cases dv with
 |lst h1 h2 =>
  rw[wy h2] at h1
  refine⟨.inl ⟨rfl,_,h1⟩,δ,r.same s1,ha.mono _ _ _ (λds ⟨w,e1,j,k1,k2,k3,k⟩ vs H2 s2 dvs=>?_) q⟩
  subst e1
  cases dvs with
  |cons a b =>
   cases a
   cases b
   exact⟨_,bs,w,j,rfl,rfl,s2.seq h1,k1,k2,k3,k _ _ (s1.trans s2) (.int _)⟩
end
def ye (caps:List Nat)(ti:AD)(tt:TD)(te:ED):ED:=λδ Q=>ti δ λds=>∃outs:List (Option D),outs.length=ds.length /\
 (∀(i:Nat) (d:D) (o:Option D),ds[i]?=some d->outs[i]?=some o->∃x y z u,d=.tup [x,y,z,u]/\tt (some x::some y::some z::some u::n0 caps δ) λb=>b=o.isSome/\(b=true->te (some x::some y::some z::some u::n0 caps δ) λr=>o=some r))/\ds.length<sizeLine/\Q (.lst (outs.filterMap id))
theorem E4 {r:L2.St}{x y z u:Option V}:Le (none::none::none::none::r) (x::y::z::u::r):=⟨rfl,λi v h=>by
 match i with
 | 0=>cases h
 | 1=>cases h
 | 2=>cases h
 | 3=>cases h
 |i+4=>exact h⟩
theorem AH {K:PySem.W.Frag}{caps:List Nat}{ti:AD}{tt:TD}{te:ED}(mi:lG ti)(mt:gU tt)(me:bX te){σ:L2.St}{H:Hp}{Q:VK}(h:oE K (ye caps ti tt te) σ H Q) :
  nE 4 caps (λσ H R=>∃ δ,br K H σ δ/\ti δ λds=>∀J H1,aK H H1->HS K J H1 ds->R J H1) (IB K 4 (mm (dD 0) (mm (dD 1) (mm (dD 2) (mm (dD 3) IA))))) (kb (oT K tt)) (kY (oE K te)) σ H Q:=by
 obtain⟨δ,r,h⟩:=h
 refine⟨δ,r,mi _ _ _ (λds ⟨outs,hol,each,hlen,q⟩ J H1 s1 it D hD=>?_) h⟩
 refine⟨λi m ys H'=>m=ds.length - i/\i<=ds.length/\∃H0,H0 D=none/\aK H1 H0/\bM K H0 ys ((outs.take i).filterMap id)/\H'=upd H0 D (.lst ys),⟨ds.length,rfl,Nat.zero_le _,H1,hD,aK.refl _,.nil,rfl⟩,?_⟩
 rintro i m ys H' ⟨rfl,hle,H0,h0,s0,dys,rfl⟩
 refine⟨aJ,?_⟩
 have sU:aK H1 (upd H0 D (.lst ys)):=s0.trans (aU h0)
 by_cases hlt:i<ds.length
 ·refine .inr ⟨it.go i _ sU hlt,λx H'' y=>?_⟩
  obtain⟨s2,d,hd,Hx,sx1,dvx,only,sx⟩:=it.BR i _ x H'' sU hlt y
  have hD2:H'' D=some (.lst ys):=s2 _ _ aJ
  have ne1:∀a o,H1 a=some o->a≠D:=λa o z=>a_ z hD
  have nex:∀a o,Hx a=some o->a≠D:=λa o z w=>by
   rcases only a o z with z1|z1
   ·exact ne1 a o z1 w
   ·rw[w,aJ] at z1;cases z1
  have sd1:aK H0 (del H'' D):=λa o z=>by
   rw[l_ (a_ z h0)]
   exact s2 a o (aU h0 a o z)
  have sdx:aK Hx (del H'' D):=λa o z=>by
   rw[l_ (nex a o z)]
   exact sx a o z
  obtain⟨o,ho⟩:∃o,outs[i]?=some o:=⟨_,List.getElem?_eq_getElem (show i<outs.length by omega)⟩
  obtain⟨d1,d2,d3,d4,ed,eachd⟩:=each i d o hd ho
  have dvx':=ed ▸ dvx
  cases dvx' with
  |tup g1 g2 =>
   cases g2 with
   | @cons v1 _ _ _ w1 g2 =>
    cases g2 with
    | @cons v2 _ _ _ w2 g2 =>
     cases g2 with
     | @cons v3 _ _ _ w3 g2 =>
     cases g2 with
     | @cons v4 _ _ _ w4 g2 =>
      cases g2
      have rel:br K (del H'' D) (some v1::some v2::some v3::some v4::caps.map λj=>(σ[j]?).getD none) (some d1::some d2::some d3::some d4::n0 caps δ):=nF (nF (nF (nF (Bi (r.same (s1.trans (s0.trans sd1))) caps) (w4.same sdx)) (w3.same sdx)) (w2.same sdx)) (w1.same sdx)
      refine⟨_,[v1,v2,v3,v4],rfl,wY sx g1,rfl,v1,[v2,v3,v4],rfl,v2,[v3,v4],rfl,v3,[v4],rfl,v4,[],rfl,rfl,E4,D,ys,hD2,_,rel,mt _ _ _ (λb ⟨eb,hb⟩ H3 s3 h3=>?_) eachd⟩
      have ht:outs.take (i+1)=outs.take i++[o]:=by rw[List.take_succ,ho];rfl
      have s03:aK H0 H3:=sd1.trans s3
      cases b with
      |false =>
       refine aO ?_
       refine⟨ds.length - (i+1),by omega,rfl,hlt,H3,h3,s0.trans s03,?_,rfl⟩
       have on:o=none:=by cases o with|none=>rfl|some z=>cases eb
       rw[ht,on,List.filterMap_append]
       simpa using dys.same s03
      |true =>
       refine ae ?_
       refine⟨D,ys,aJ,?_⟩
       rw[tO h3]
       refine⟨_,rel.same s3,me _ _ _ (λy ey v H4 s4 dv h4=>⟨aJ,?_,ds.length - (i+1),by omega,rfl,hlt,H4,h4,s0.trans (s03.trans s4),?_,p6⟩) (hb rfl)⟩
       ·rw[dys.length]
        exact Nat.lt_of_le_of_lt (Nat.le_trans (List.length_filterMap_le _ _) (List.length_take_le' _ _)) (by rw[hol];exact hlen)
       ·rw[ht,ey,List.filterMap_append]
        exact(dys.same (s03.trans s4)).append (.cons dv .nil)
 ·have e:i=ds.length:=by omega
  subst e
  refine .inl ⟨it.stop _ sU,?_⟩
  rw[<- hol,List.take_length] at dys
  exact q _ _ (s1.trans sU) (.lst (cu.of aJ) (dys.same (aU h0)))
section
variable {X:Cx}{scope:Scope}{cl:List (Str × Addr)}{x y z u:Str}{cn:List Str}{caps:List Nat}{elt tg iter:Expr}{ifs:List Expr}{ti:AD}{tt:TD}{te:ED}{pos px py pz pu tp:Pos}{c:Nat}
theorem zO (mi:lG ti):bX (ye caps ti tt te):=λδ P P' g h=>mi _ _ _ (λds ⟨outs,hol,each,hlen,q⟩=>⟨outs,hol,each,hlen,g _ q⟩) h
end
end DC
namespace L2
open PySem PySem.Spec PyProof.Rows
def Hu (o:Obj):Nat:=match o.data with
 |.dict _ ep=>ep
 |_=>0
theorem qI {P:Program}{w:World}{H:Hp}{h:Heap}{a:Addr}{o:Obj}{kvs:List (Key × V)}(ok:ki P w H h)(e:H a=some (.fB o (.dK kvs))):(a == sysModules)=false/\∃vs,KV kvs vs/\h.DictAt (bq P w) a vs (Hu o):=by
 obtain⟨ho,z,hd,vs,kv,o',es,ep,ho',h1,h2,h3⟩:=(show bJ P w H h a (.fB o (.dK kvs)) from ok a _ e)
 rw[ho] at ho'
 cases ho'
 refine⟨hd,vs,kv,o,es,ho,h1,?_,h3⟩
 rw[h2]
 unfold Hu
 rw[h2]
theorem Gv {P:Program}{w:World}{k:Key}{u:Value}(r:(bq P w).is k u=true):RelV (kV k) u:=by
 rcases bj (k:=k) (v:=u) r with⟨i,t,rfl,rfl⟩|⟨x,t,rfl,rfl⟩
 ·exact⟨t,rfl⟩
 ·exact⟨t,rfl⟩
theorem KV.at_ {kvs:List (Key × V)}{vs:List (Key × Value)}(r:KV kvs vs){i:Nat}{kv:Key × V}(h:kvs[i]?=some kv):∃v,vs[i]?=some (kv.1,v):=by
 have hl:=r.length
 have hi:i<kvs.length:=(List.getElem?_eq_some_iff.mp h).1
 have hk:=r.keys
 have e1:(kvs.map (·.1))[i]?=some kv.1:=by rw[List.getElem?_map,h];rfl
 rw[hk,List.getElem?_map] at e1
 cases q:vs[i]? with
 |none=>rw[q] at e1;cases e1
 |some p =>
  rw[q] at e1
  obtain⟨k,v⟩:=p
  have:k=kv.1:=by simpa using e1
  exact⟨v,by rw[this]⟩
def MI (a:Addr)(o:Obj)(kvs:List (Key × V)):It :=
 ⟨λi H=>H a=some (.fB o (.dK kvs))/\i<kvs.length,λi H x H'=>H'=H/\∃kv,kvs[i]?=some kv/\x=kV kv.1,λi H=>H a=some (.fB o (.dK kvs))/\kvs.length<=i⟩
theorem BE {P:Program}{w:World}{K:PySem.W.Frag}{tg:Expr}(a it:Addr)(o:Obj)(kvs:List (Key × V)):Turn P w K tg (MI a o kvs) [it] it (λi h=>h.IsKeyIter it a i kvs.length (Hu o)) where
 mem:=by simp
 obj:=λi h st b hb=>by
  have e:b=it:=by simpa using hb
  subst e
  obtain⟨o,e,c,d⟩:=st
  exact⟨o,e,λv z=>by rw[d] at z;cases z⟩
 keep:=λi h h' ⟨o,e,r⟩ k=>⟨o,k it (by simp) o e,r⟩
 item:=by
  intro X hP hw hK hc i pins s σ H E I hf st hg
  subst hP hw hK
  obtain⟨hq,hx⟩:=hg
  obtain⟨hd,vs,kv,da⟩:=qI I.bW hq
  obtain⟨v,hv⟩:=kv.at_ (List.getElem?_eq_getElem hx)
  obtain⟨f0,f1,f2,f3,f4,f5⟩:=hf it (by simp)
  have hl:=kv.length
  refine wpAny_pyNext_dict_item (hl ▸ st) da hv λkey h' hk st' sb=>?_
  have I1:Inv X pins σ H { s with heap:=h' }:=I.turned (t':=s.toks) (λb o hb e=>(sb.2 b hb).trans e) f0 f1 f3 f4 f5
  obtain⟨o',e,c,d⟩:=id st'
  exact⟨key,rfl,rY (s:={ s with heap:=h' }) e c d (by decide) ⟨_,H,I1,Gv hk,⟨rfl,_,List.getElem?_eq_getElem hx,rfl⟩,hl ▸ st',λb hb=>(hf b hb).1⟩⟩
 done:=by
  intro X hP hw hK hc i pins s σ H E I hf st hg
  subst hP hw hK
  obtain⟨hq,hx⟩:=hg
  obtain⟨hd,vs,kv,da⟩:=qI I.bW hq
  obtain⟨f0,f1,f2,f3,f4,f5⟩:=hf it (by simp)
  have hl:=kv.length
  exact wpAny_pyNext_dict_end (I.ok.hd hc) (hl ▸ st) da (List.getElem?_eq_none (by omega)) λh' eb=>⟨rfl,I.turned (t':=s.toks) (λb o hb e=>eb b o hb e) f0 f1 f3 f4 f5⟩
 self:=λ_ _ _ _ _ st h=>wpAny_pyIter_keyiter st h
def oF (tl:TE):TI:=λσ H R=>tl σ H λx H1=>∃a o kvs,x=.ref a/\H1 a=some (.fB o (.dK kvs))/\R (MI a o kvs) H1
theorem qd {X:Cx}{tg l:Expr}{tl:TE}(hl:PE X l tl):PI X tg l (oF tl):=by
 intro pins s σ H R I h
 refine b6 (hl pins s σ H _ I h) λv s1 ⟨x,H1,I1,r1,a,o,kvs,e,hq,q⟩=>?_
 have hf:∀b∈[s1.heap.objs.size],jG X pins H1 b:=λb hb=>by
  have e:b=s1.heap.objs.size:=by simpa using hb
  subst e
  exact I1.B8 (Nat.le_refl _) (I1.bW.fresh (Nat.le_refl _))
 subst e
 cases(show v=Value.ref a from r1)
 obtain⟨hd,vs,kv,da⟩:=qI I1.bW hq
 have hl:=kv.length
 exact wpAny_pyIter_dict hd da ⟨s1.heap.objs.size,[s1.heap.objs.size],_,_,H1,rfl,I1.kept (t':=s1.toks) λb o e=>Heap.get?_push_of_some _ e,BE a _ o kvs,⟨_,Heap.get?_push_size _ rfl,rfl,by rw[hl];rfl⟩,hf,q⟩
section
variable {X:Cx}{pins:List (Addr × Obj)}{σ:St}{H:Hp}{s:Shared}{a:Addr}{o:Obj}{kvs:List (Key × V)}
theorem CC {P:Program}{w:World}{H:Hp}{h:Heap}{a:Addr}{u v:HO}(ok:ki P w H h)(e:H a=some u)(n1:∀x,u≠.own x)(n2:∀xs,u≠.tup xs)(new:bJ P w (upd H a v) h a v):ki P w (upd H a v) h:=λb q hq=>by
 by_cases hb:b=a
 ·subst hb
  rw[aJ] at hq
  cases hq
  exact new
 ·rw[aI hb] at hq
  exact(ok b q hq).om (λc x _ z=>z) (λc z=>by rw[aI (λy=>by rw[y,e] at z;exact n1 _ (Option.some.inj z))];exact z) λc xs z=>by rw[aI (λy=>by rw[y,e] at z;exact n2 _ (Option.some.inj z))];exact z
theorem Inv.Dz {u v:HO}(I:Inv X pins σ H s)(e:H a=some u)(n1:∀x,u≠.own x)(n2:∀xs,u≠.tup xs)(n3:∀o x,X.H₀ a≠some (.fB o x))(n4:∀ps,u≠.GK ps)(new:bJ X.prog X.w (upd H a v) s.heap a v):Inv X pins σ (upd H a v) s:=by
 have ne:∀b,H b=none->b≠a:=λb h y=>by rw[y,e] at h;cases h
 refine⟨I.ok,I.os,I.bare,⟨I.base.keep,I.base.slot,λb o q n hx=>?_,I.base.there,λb xs q=>?_,λb o x q=>?_,λb ps q=>?_⟩,I.loc,I.cell,by rw[aI (ne _ I.free)];exact I.free,λx c h=>by rw[aI (ne _ (I.fA x c h))];exact I.fA x c h,λp hp=>?_,CC I.bW e n1 n2 new,I.len⟩
 ·have z:=I.base.free b o q n hx
  rw[aI (ne _ z)]
  exact z
 ·have z:=I.base.q9 b xs q
  rw[aI (λy=>by rw[y,e] at z;exact n2 _ (Option.some.inj z))]
  exact z
 ·have z:=I.base.n8 b o x q
  rw[aI (λy=>n3 _ _ (y ▸ q))]
  exact z
 ·obtain⟨more,z⟩:=I.base.qy b ps q
  exact⟨more,by rw[aI (λy=>by rw[y,e] at z;exact n4 _ (Option.some.inj z))];exact z⟩
 ·obtain⟨y1,y2,y3⟩:=I.pin p hp
  exact⟨y1,by rw[aI (ne _ y2)];exact y2,y3⟩
theorem Inv.Cy (I:Inv X pins σ H s)(e:H a=some (.dK kvs)):∀o x,X.H₀ a≠some (.fB o x):=λo x q=>by
 have z:=I.base.n8 a o x q
 rw[e] at z
 cases z
theorem Inv.Mc (I:Inv X pins σ H s)(e:H a=some (.dK kvs)):∃o,Inv X pins σ (upd H a (.fB o (.dK kvs))) s:=by
 have ok:=(show bJ X.prog X.w H s.heap a (.dK kvs) from I.bW a _ e)
 obtain⟨z,hd,vs,kv,o,r⟩:=id ok
 have ho:s.heap.get? a=some o:=by obtain⟨es,ep,ho,_⟩:=r;exact ho
 exact⟨o,I.Dz e (λ_ q=>by cases q) (λ_ q=>by cases q) (I.Cy e) (λ_ q=>by cases q) ⟨ho,ok⟩⟩
theorem Inv.zy (I:Inv X pins σ H s)(e:H a=some (.fB o (.dK kvs)))(n:∀o x,X.H₀ a≠some (.fB o x)):Inv X pins σ (upd H a (.dK kvs)) s :=
 I.Dz e (λ_ q=>by cases q) (λ_ q=>by cases q) n (λ_ q=>by cases q) (show bJ X.prog X.w _ s.heap a (.dK kvs) from(show bJ X.prog X.w H s.heap a (.fB o (.dK kvs)) from I.bW a _ e).2)
theorem ze {H:Hp}{a:Addr}{u v:HO}(e:H a=some u)(f:∀x,HO.data x->(u=x\/∃o,u=.fB o x)->(v=x\/∃o,v=.fB o x)):∀b x,HO.data x->Rd H b x->Rd (upd H a v) b x:=λb x hx r=>by
 by_cases hb:b=a
 ·subst hb
  have:v=x\/∃o,v=.fB o x:=f x hx (by
   rcases r with r|⟨o,r⟩
   ·rw[e] at r;exact .inl (Option.some.inj r)
   ·rw[e] at r;exact .inr ⟨o,Option.some.inj r⟩)
  rcases this with h|⟨o,h⟩
  ·exact .inl (by rw[aJ,h])
  ·exact .inr ⟨o,by rw[aJ,h]⟩
 ·rcases r with r|⟨o,r⟩
  ·exact .inl (by rw[aI hb];exact r)
  ·exact .inr ⟨o,by rw[aI hb];exact r⟩
theorem uR {H:Hp}{a:Addr}{o:Obj}{kvs:List (Key × V)}(e:H a=some (.dK kvs)):∀b x,HO.data x->Rd H b x->Rd (upd H a (.fB o (.dK kvs))) b x:=ze e λx _ h=>by
 rcases h with h|⟨o',h⟩
 ·exact .inr ⟨o,by rw[<- h]⟩
 ·cases h
theorem wU {H:Hp}{a:Addr}{o:Obj}{kvs:List (Key × V)}(e:H a=some (.fB o (.dK kvs))):∀b x,HO.data x->Rd H b x->Rd (upd H a (.dK kvs)) b x:=ze e λx hx h=>by
 rcases h with h|⟨o',h⟩
 ·subst h
  exact absurd hx (by simp[HO.data])
 ·cases h
  exact .inl rfl
end
end L2
namespace DC
open PySem PySem.Spec PyProof.Rows L2
theorem br.rd {K:PySem.W.Frag}{H H':Hp}{σ:L2.St}{δ:SD}(f:∀b u,HO.data u->Rd H b u->Rd H' b u)(r:br K H σ δ):br K H' σ δ:=⟨r.len,λi d h=>let ⟨v,h1,h2⟩:=r.get i d h;⟨v,h1,h2.rd f⟩⟩
def keyOf:Key->D
 |.inl i=>.int i
 |.inr x=>.str x
def oz (i:Nat):AD:=λδ Q=>∃kvs,δ[i]?=some (some (.dK kvs))/\Q (kvs.map λkv=>keyOf kv.1)
theorem m_keys {i:Nat}:lG (oz i):=λδ P P' g ⟨kvs,e,q⟩=>⟨kvs,e,g _ q⟩
theorem e7.keys {K:PySem.W.Frag}{H:Hp}:∀{vs:List (Key × V)} {ds:List (Key × D)},e7 K H vs ds->vs.map (·.1)=ds.map (·.1)
 |_,_,.nil=>rfl
 |_,_,.cons _ r=>by rw[List.map_cons,List.map_cons,e7.keys r]
theorem B5 {K:PySem.W.Frag}{H:Hp}(k:Key):Dv K H (kV k) (keyOf k):=by
 cases k with
 |inl i=>exact .int i
 |inr x=>exact .str x
theorem uB {K:PySem.W.Frag}{H:Hp}{a:Addr}{o:Obj}{vs:List (Key × V)}{ds:List (Key × D)}(e:H a=some (.fB o (.dK vs)))(dk:e7 K H vs ds):HS K (MI a o vs) H (ds.map λkv=>keyOf kv.1):=by
 have hk:=dk.keys
 have hl:vs.length=ds.length:=by have:=congrArg List.length hk;simpa using this
 refine⟨λi H' s hi=>⟨s _ _ e,by rw[hl];simpa using hi⟩,λH' s=>⟨s _ _ e,by rw[hl];simp⟩,λi H' x H'' s hi ⟨eh,kv,hkv,hx⟩=>?_⟩
 subst eh
 subst hx
 refine⟨aK.refl _,keyOf kv.1,?_,H,aK.refl _,B5 _,λb u q=>.inl q,s⟩
 have e1:(vs.map (·.1))[i]?=some kv.1:=by rw[List.getElem?_map,hkv];rfl
 rw[hk,List.getElem?_map] at e1
 rw[List.getElem?_map]
 cases q:ds[i]? with
 |none=>rw[q] at e1;cases e1
 |some p =>
  rw[q] at e1
  have:p.1=kv.1:=by simpa using e1
  show some (keyOf p.1)=_
  rw[this]
section
variable {X:Cx}{scope:Scope}{cl:List (Str × Addr)}{x y:Str}{caps:List Nat}{cn:List Str}{tg iter elt:Expr}{ifs:List Expr}{ti:AD}{tt:TD}{te:ED}{pos p:Pos}{i:Nat}
end
section
variable {X:Cx}{pins:List (Addr × Obj)}{σ:L2.St}{H:Hp}{s:Shared}{a:Addr}{vs:List (Key × V)}
def KR (a:Addr)(vs:List (Key × V))(o:Obj)(D:Ends):Ends:=⟨λσ' H1=>H1 a=some (.fB o (.dK vs))/\D.nx σ' (upd H1 a (.dK vs)),λv H1=>H1 a=some (.fB o (.dK vs))/\D.rt v (upd H1 a (.dK vs)),λσ' H1=>H1 a=some (.fB o (.dK vs))/\D.bk σ' (upd H1 a (.dK vs)),λσ' H1=>H1 a=some (.fB o (.dK vs))/\D.ct σ' (upd H1 a (.dK vs))⟩
theorem uP {st:Stmt}{t:TS}(h:PS X st t){D:Ends}(I:Inv X pins σ H s)(q:H a=some (.dK vs))(ht:∀o,t (KR a vs o D) σ (upd H a (.fB o (.dK vs)))):wpAny (model X.prog X.w) X.A (exec st X.env) (SP X pins D) X.xe s:=by
 obtain⟨o,I1⟩:=I.Mc q
 have n:=I.Cy q
 refine wpAny_mono (h pins s σ _ _ I1 (ht o)) (λfl s' hs=>?_) λ_ _ z=>z
 cases fl with
 |next=>obtain⟨σ',H',I',e,z⟩:=hs;exact⟨σ',_,I'.zy e n,z⟩
 |brk=>obtain⟨σ',H',I',e,z⟩:=hs;exact⟨σ',_,I'.zy e n,z⟩
 |cont=>obtain⟨σ',H',I',e,z⟩:=hs;exact⟨σ',_,I'.zy e n,z⟩
 |ret u=>obtain⟨v,σ',H',I',rv,e,z⟩:=hs;exact⟨v,σ',_,I'.zy e n,rv,z⟩
theorem lA {H1:Hp}{o:Obj}(q:H a=some (.dK vs))(s1:aK (upd H a (.fB o (.dK vs))) H1):aK H (upd H1 a (.dK vs)):=λb z hb=>by
 by_cases hba:b=a
 ·subst hba
  rw[q] at hb
  cases hb
  exact aJ
 ·rw[aI hba]
  exact s1 b z (by rw[aI hba];exact hb)
end
section
variable {X:Cx}{scope:Scope}{cl:List (Str × Addr)}{x y z u:Str}{caps:List Nat}{cn:List Str}{tg iter elt:Expr}{ifs:List Expr}{ti:AD}{tt:TD}{te:ED}{pos p px py pz pu tp:Pos}{c:Nat}{i k:Nat}{v:Str}{pv spos:Pos}
theorem LO (hNd:X.N.Nodup)(hk:X.N[k]?=some v)(hl:Loc X.env.scope v)(S:b9 X scope cl [x,y,z,u] caps cn)(hc:X.calm=true)(hi:PId X (.Tuple [.Name x px,.Name y py,.Name z pz,.Name u pu] c tp) iter ti)
  (hg:∀C fp s₂ H₂,PG (aw X scope cl C ([x,y,z,u]++cn) fp s₂ H₂) (.Tuple [.Name x px,.Name y py,.Name z pz,.Name u pu] c tp) (IB X.K 4 (mm (dD 0) (mm (dD 1) (mm (dD 2) (mm (dD 3) IA))))))
  (ht:∀C fp s₂ H₂,tG (aw X scope cl C ([x,y,z,u]++cn) fp s₂ H₂) ifs tt)(he:∀C fp s₂ H₂,PD (aw X scope cl C ([x,y,z,u]++cn) fp s₂ H₂) elt te)
  (hsw:swapsWith (.ListComp elt [⟨.Tuple [.Name x px,.Name y py,.Name z pz,.Name u pu] c tp,iter,ifs,0⟩] scope pos) (some (.Name v pv)) spos.line X.env=pure true:=by rfl)(hf:X.fn v=true\/X.env.scope.names.lookup v=some .local:=by first|exact .inl rfl|exact .inr rfl|assumption)
  (hs:∀x,foldedSetIterable iter X.env x=pure x:=by intro _;rfl):yj X (.Assign [.Name v pv] (.ListComp elt [⟨.Tuple [.Name x px,.Name y py,.Name z pz,.Name u pu] c tp,iter,ifs,0⟩] scope pos) spos) (yK k (ye caps ti tt te)) :=
 ⟨PS.imp (ph hNd hk hl S hc hi.pi hg (λC fp s₂ H₂=>gC (ht C fp s₂ H₂).K_) (λC fp s₂ H₂=>hZ (he C fp s₂ H₂).pe) hsw hf hs) λD σ H ⟨δ,r,h⟩ =>
   AH hi.mono (ht 0 [] X.s₀ X.H₀).mono (he 0 [] X.s₀ X.H₀).mono ⟨δ,r,zO hi.mono _ _ _ (λd q v H1 s1 dv=>q _ H1 s1 ((r.same s1).set k dv)) h⟩,
  λE E' δ l h=>zO hi.mono _ _ _ (λd q=>l.nx _ q) h⟩
theorem HC (hNd:X.N.Nodup)(hk:X.N[k]?=some v)(hl:Loc X.env.scope v)(hN:X.N[i]?=some y)(hv:uq X.env.scope y)(S:b9 X scope cl [x] caps cn)(hc:X.calm=true)(hg:∀C fp s₂ H₂,PG (aw X scope cl C ([x]++cn) fp s₂ H₂) tg (dD 0))(ht:∀C fp s₂ H₂,tG (aw X scope cl C ([x]++cn) fp s₂ H₂) ifs tt)
  (he:∀C fp s₂ H₂,PD (aw X scope cl C ([x]++cn) fp s₂ H₂) elt te)(hsw:swapsWith (.ListComp elt [⟨tg,.Name y p,ifs,0⟩] scope pos) (some (.Name v pv)) spos.line X.env=pure true:=by rfl)(hf:X.fn v=true\/X.env.scope.names.lookup v=some .local:=by first|exact .inl rfl|exact .inr rfl|assumption)
  (hs:∀x,foldedSetIterable (.Name y p) X.env x=pure x:=by intro _;rfl)(hd:(y == ("__debug__":Str))=false:=by decide)(hcd:(y == ("__classdict__":Str))=false:=by decide) :
  yj X (.Assign [.Name v pv] (.ListComp elt [⟨tg,.Name y p,ifs,0⟩] scope pos) spos) (yK k (iL caps (oz i) tt te)):=by
 have mt:=(ht 0 [] X.s₀ X.H₀).mono
 have me:=(he 0 [] X.s₀ X.H₀).mono
 have core:PS X (.Assign [.Name v pv] (.ListComp elt [⟨tg,.Name y p,ifs,0⟩] scope pos) spos) (DR k (nE 1 caps (oF (wq i)) (dD 0) (kb (oT X.K tt)) (kY (oE X.K te)))):=ph hNd hk hl S hc (qd (eB (i:=i) (pos:=p) hN hv hd hcd)) hg (λC fp s₂ H₂=>gC (ht C fp s₂ H₂).K_) (λC fp s₂ H₂=>hZ (he C fp s₂ H₂).pe) hsw hf hs
 have frozen:∀{σ:L2.St} {H:Hp} {Q:VK} {a:Addr} {o:Obj} {vs:List (Key × V)},σ[i]?=some (some (.ref a))->H a=some (.fB o (.dK vs))->oE X.K (iL caps (oz i) tt te) σ H Q->nE 1 caps (oF (wq i)) (dD 0) (kb (oT X.K tt)) (kY (oE X.K te)) σ H Q:=fun{σ H Q a o vs} h1 h2 h=>by
  obtain⟨δ,r,kvs,hk,f⟩:=qB m_keys mt me h
  obtain⟨v,hv1,dv⟩:=r.get i _ hk
  rw[h1] at hv1
  cases hv1
  cases dv with
  |dK q1 q2 =>
   rcases q1 with q1|⟨o',q1⟩
   ·rw[h2] at q1;cases q1
   ·rw[h2] at q1
    cases q1
    exact⟨_,h1,a,o,_,rfl,h2,f _ _ (aK.refl _) (uB h2 q2)⟩
 refine⟨λpins s σ H D I h=>?_,λE E' δ l h=>mG m_keys _ _ _ (λd q=>l.nx _ q) h⟩
 obtain⟨δ,r,h⟩:=h
 obtain⟨kvs,hk,h'⟩:=id h
 obtain⟨v,hv1,dv⟩:=r.get i _ hk
 cases dv with
 | @dK a vs _ q1 q2 =>
  rcases q1 with q1|⟨o,q1⟩
  ·refine uP core I q1 λo=>?_
   have hf:upd H a (.fB o (.dK vs)) a=some (.fB o (.dK vs)):=aJ
   refine frozen hv1 hf ⟨δ,r.rd (uR q1),mG m_keys _ _ _ (λd k v H1 s1 dv=>?_) h⟩
   have e1:=s1 _ _ hf
   exact⟨e1,k _ _ (lA q1 s1) ((r.same (lA q1 s1)).set _ (dv.rd (wU e1)))⟩
  ·exact core pins s σ H D I (frozen hv1 q1 ⟨δ,r,mG m_keys _ _ _ (λd k v H1 s1 dv=>k _ H1 s1 ((r.same s1).set _ dv)) h⟩)
end
section
variable {K:PySem.W.Frag}{H:Hp}{L:List Addr}{μ:Mu}{a:Addr}{u v:HO}
theorem ne_in {b:Addr}(ha:a∉L)(hb:b∈L):b≠a:=λe=>by rw[e] at hb;exact ha hb
theorem oB (h:a∉L):aN (upd H a v) L=upd (aN H L) a v:=by
 funext b
 by_cases hb:b∈L
 ·rw[cL hb,aI (ne_in h hb),cL hb]
 ·rw[ax hb]
  by_cases hba:b=a
  ·subst hba;rw[aJ,aJ]
  ·rw[aI hba,aI hba,ax hb]
theorem HN.turn {b:Addr}(ha:a∉L)(hb:b∈L)(f:∀c x,HO.data x->Rd (aN H L) c x->Rd (aN (upd H a v) L) c x):∀{m:MD},HN K H L b m->HN K (upd H a v) L b m
 |.lst _,⟨vs,h,d⟩=>⟨vs,by rw[aI (ne_in ha hb)];exact h,bM.rd f d⟩
 |.ins _ _,⟨dx,fs,h,h2,h3,d⟩=>⟨dx,fs,by rw[aI (ne_in ha hb)];exact h,by rw[aI (ne_in ha h3)];exact h2,h3,gp.rd f d⟩
 |.dK _,⟨ws,h,d⟩=>⟨ws,by rw[aI (ne_in ha hb)];exact h,e7.rd f d⟩
theorem CB {b:Addr}(ha:a∉L)(hb:b∈L)(h:dC H L b):dC (upd H a v) L b:=by
 have ne:∀c∈L,upd H a v c=H c:=λc hc=>aI (ne_in ha hc)
 cases h with
 |lst xs h=>exact .lst xs (by rw[ne b hb];exact h)
 |dK kvs h=>exact .dK kvs (by rw[ne b hb];exact h)
 |ins C dx fs h hd=>exact .ins C dx fs (by rw[ne b hb];exact h) hd
 |own C c fs h hc hi=>exact .own C c fs (by rw[ne b hb];exact h) hc (by rw[ne c hc];exact hi)
theorem dZ.turn (g:dZ K H μ L)(ha:a∉L)(f:∀c x,HO.data x->Rd (aN H L) c x->Rd (aN (upd H a v) L) c x):dZ K (upd H a v) μ L :=
 ⟨λp hp=>⟨(g.at_ p hp).1,(g.at_ p hp).2.turn ha (g.at_ p hp).1 f⟩,g.FQ,λb hb=>CB ha hb (g.dG b hb),λb hb=>by
  rcases g.Ea b hb with h|⟨c,h⟩
  ·exact .inl h
  ·exact .inr ⟨c,by rw[aI (ne_in ha hb)];exact h⟩⟩
end
section
variable {X:Cx}{tg:Expr}{body:List Stmt}{g:BY}{tb:fL}{pos p:Pos}{i:Nat}{y:Str}
theorem zQ (hp:PassesOwn (model X.prog X.w) X.A X.env X.xe)(hc:X.calm=true)(hN:X.N[i]?=some y)(hv:uq X.env.scope y)(hg:Ju X tg g)(hb:uo X body tb)(hs:∀x,foldedSetIterable (.Name y p) X.env x=pure x:=by intro _;rfl)
  (hd:(y == ("__debug__":Str))=false:=by decide)(hcd:(y == ("__classdict__":Str))=false:=by decide):p7 X (.For tg (.Name y p) body [] pos) (E9 (oz i) g tb):=by
 have mono:uy (E9 (oz i) g tb):=λE E' δ μ l h=>m_keys _ _ _ (λds ⟨inv,i0,step,fin⟩=>⟨inv,i0,λi d δ' μ' hd hin=>hg.mono _ _ _ _ (λδ2 q=>hb.mono { E with nx:=inv (i+1),ct:=inv (i+1),bk:=E.nx } _ _ _ ⟨λ_ _ q=>q,l.rt,l.nx,λ_ _ q=>q⟩ q) (step i d δ' μ' hd hin),λδ' μ' q=>l.nx _ _ (fin δ' μ' q)⟩) h
 have core:=yH hp hc (DE (qd (eB (i:=i) (pos:=p) hN hv hd hcd))) (DA hg.pg) hb.ps hs (pos:=pos)
 have frozen:∀{D:Ends} {σ:L2.St} {H:Hp} {a:Addr} {o:Obj} {vs:List (Key × V)},σ[i]?=some (some (.ref a))->H a=some (.fB o (.dK vs))->oM X.K (E9 (oz i) g tb) D σ H->Lh (Nh (oF (wq i))) (Ng λv σ H Q=>∃d δ,Dv X.K H v d/\br X.K H σ δ/\g d δ (kS X.K H Q)) (oM X.K tb) D σ H:=fun{D σ H a o vs} h1 h2 ⟨δ,μ,L,r,st,kvs,hk,inv,i0,step,fin⟩=>by
  obtain⟨v,hv1,dv⟩:=r.get i _ hk
  rw[h1] at hv1
  cases hv1
  cases dv with
  | @dK _ ws _ q1 q2 =>
   have hh:aN H L a=some (.fB o (.dK vs)):=by
    rcases q1 with q1|⟨o',q1⟩
    ·have:=(de q1).2;rw[h2] at this;cases this
    ·have:=(de q1).1;rw[ax this];exact h2
   have q1':vs=ws:=by
    rcases q1 with q1|⟨o',q1⟩
    ·rw[hh] at q1;cases q1
    ·rw[hh] at q1;cases q1;rfl
   subst q1'
   have it:=uB hh q2
   have s1:aK (aN H L) (aN H L):=aK.refl _
   refine⟨L,st.dG,_,h1,a,o,_,rfl,hh,λz=>?_⟩
   have e1:aN (aa (aN H L) H L) L=aN H L:=bK z
   have e0:(kvs.map λkv=>keyOf kv.1).length=kvs.length:=List.length_map ..
   refine⟨λi m σ' H'=>m=(kvs.map λkv=>keyOf kv.1).length - i/\i<=(kvs.map λkv=>keyOf kv.1).length/\∃ δ' μ' L',aK (aN H L) (aN H' L')/\br X.K (aN H' L') σ' δ'/\dZ X.K H' μ' L'/\inv i δ' μ',⟨_,rfl,Nat.zero_le _,δ,μ,L,by rw[e1];exact aK.refl _,by rw[e1];exact r,st.show z s1,i0⟩,?_⟩
   rintro i m σ' H' ⟨rfl,hle,δ',μ',L',s',r',st',hin⟩
   have sf:aK (aN H L) H':=s'.trans bN
   by_cases hlt:i<(kvs.map λkv=>keyOf kv.1).length
   ·refine .inr ⟨it.go i H' sf hlt,λσ2 H2=>∃ δ2 μ2 L2,aK (aN H L) (aN H2 L2)/\br X.K (aN H2 L2) σ2 δ2/\dZ X.K H2 μ2 L2/\inv (i+1) δ2 μ2,λσ2 H2 ⟨δ2,μ2,L2,q⟩=>⟨_,by omega,rfl,hlt,δ2,μ2,L2,q⟩,λx H'' y=>?_⟩
    obtain⟨s2,d,hd,Hx,_,dvx,hx,sx⟩:=it.BR i H' x H'' sf hlt y
    have sA:aK (aN H' L') (aN H'' L'):=bV s2
    have sX:aK Hx (aN H'' L'):=λb o hb=>by
     have nb:b∉L':=by
      intro hbL
      rcases hx b o hb with q|q
      ·have:=s' _ _ q
       rw[cL hbL] at this
       cases this
      ·obtain⟨o',q'⟩:=(st'.dG b hbL).there
       rw[q] at q'
       cases q'
     rw[ax nb]
     exact sx _ _ hb
    have st2:dZ X.K H'' μ' L':=st'.on s2
    refine⟨L',st2.dG,d,δ',dvx.same sX,r'.same sA,hg.mono _ _ _ _ (λδ2 q σ3 H3 s3 r3 z3=>?_) (step i d δ' μ' hd hin)⟩
    have e3:aN (aa H3 H'' L') L'=H3:=bK z3
    have st3:dZ X.K (aa H3 H'' L') μ' L':=st2.show z3 s3
    have sB:aK (aN H L) H3:=s'.trans (sA.trans s3)
    refine⟨δ2,μ',L',by rw[e3];exact r3,st3,hb.mono { mB X.K H L D with nx:=inv (i+1),ct:=inv (i+1),bk:=(mB X.K H L D).nx } _ _ _ ?_ q⟩
    have sC:aK (aN H L) (aN (aa H3 H'' L') L'):=by rw[e3];exact sB
    have l:=km (K:=X.K) (D:=D) sC
    refine⟨λδ4 μ4 q4 σ4 H4 L4 s4 r4 st4=>⟨δ4,μ4,L4,?_,r4,st4,q4⟩,λ_ _ q4=>l.rt _ _ q4,λ_ _ q4=>l.nx _ _ q4,λδ4 μ4 q4 σ4 H4 L4 s4 r4 st4=>⟨δ4,μ4,L4,?_,r4,st4,q4⟩⟩
    ·rw[e3] at s4;exact sB.trans s4
    ·rw[e3] at s4;exact sB.trans s4
   ·have e:i=(kvs.map λkv=>keyOf kv.1).length:=by omega
    subst e
    exact .inl ⟨it.stop H' sf,fin δ' μ' hin σ' H' L' s' r' st'⟩
 refine⟨λpins s σ H D I h=>?_,mono⟩
 obtain⟨δ,μ,L,r,st,h⟩:=h
 obtain⟨kvs,hk,h'⟩:=id h
 obtain⟨v,hv1,dv⟩:=r.get i _ hk
 cases dv with
 | @dK a vs _ q1 q2 =>
  rcases q1 with q1|⟨o,q1⟩
  ·obtain⟨aL,q0⟩:=de q1
   refine uP core I q0 λo=>?_
   have hf:upd H a (.fB o (.dK vs)) a=some (.fB o (.dK vs)):=aJ
   have eL:aN (upd H a (.fB o (.dK vs))) L=upd (aN H L) a (.fB o (.dK vs)):=oB aL
   have f1:∀c x,HO.data x->Rd (aN H L) c x->Rd (aN (upd H a (.fB o (.dK vs))) L) c x:=by rw[eL];exact uR q1
   refine frozen hv1 hf ⟨δ,μ,L,r.rd f1,st.turn aL f1,mono _ _ _ _ ?_ h⟩
   have back:∀{H':Hp} {L':List Addr},aK (aN (upd H a (.fB o (.dK vs))) L) (aN H' L')->a∉L'/\H' a=some (.fB o (.dK vs))/\aK (aN H L) (aN (upd H' a (.dK vs)) L')/\∀c x,HO.data x->Rd (aN H' L') c x->Rd (aN (upd H' a (.dK vs)) L') c x:=fun{H' L'} s'=>by
    have z:=s' a (.fB o (.dK vs)) (by rw[eL];exact aJ)
    obtain⟨aL',z'⟩:=de z
    refine⟨aL',z',?_,?_⟩
    ·rw[oB aL']
     rw[eL] at s'
     exact lA q1 s'
    ·rw[oB aL']
     exact wU z
   refine⟨λδ' μ' q σ' H' L' s' r' g'=>?_,λd μ' q v H' L' s' g' dv=>?_,λδ' μ' q σ' H' L' s' r' g'=>?_,λδ' μ' q σ' H' L' s' r' g'=>?_⟩
   ·obtain⟨b1,b2,b3,b4⟩:=back s'
    exact⟨b2,q σ' _ L' b3 (r'.rd b4) (g'.turn b1 b4)⟩
   ·obtain⟨b1,b2,b3,b4⟩:=back s'
    exact⟨b2,q v _ L' b3 (g'.turn b1 b4) (dv.rd b4)⟩
   ·obtain⟨b1,b2,b3,b4⟩:=back s'
    exact⟨b2,q σ' _ L' b3 (r'.rd b4) (g'.turn b1 b4)⟩
   ·obtain⟨b1,b2,b3,b4⟩:=back s'
    exact⟨b2,q σ' _ L' b3 (r'.rd b4) (g'.turn b1 b4)⟩
  ·exact core pins s σ H D I (frozen hv1 (de q1).2 ⟨δ,μ,L,r,st,h⟩)
end
theorem bM.pX {K:PySem.W.Frag}{H H':Hp}:∀{vs:List V} {ds:List D},bM K H vs ds->ds.all dz=true->bM K H' vs ds
 |_,_,.nil,_=>.nil
 |_,_,.cons a r,h=>by
  rw[List.all_cons,Bool.and_eq_true] at h
  exact .cons (a.zB h.1) (bM.pX r h.2)
def IV (k:Nat)(caps:List Nat)(ti:AD)(tt:TD)(te:ED):fL:=λE δ μ=>iL caps ti tt te (bB μ δ) λd=>∃ds,d=.lst ds/\ds.all dz=true/\E.nx (δ.set k (some d)) μ
section
variable {X:Cx}{scope:Scope}{cl:List (Str × Addr)}{x y:Str}{caps:List Nat}{cn:List Str}{tg iter elt:Expr}{ifs:List Expr}{ti:AD}{tt:TD}{te:ED}{pos p:Pos}{i k:Nat}{v:Str}{pv spos:Pos}
theorem FP (hNd:X.N.Nodup)(hk:X.N[k]?=some v)(hl:Loc X.env.scope v)(hN:X.N[i]?=some y)(hv:uq X.env.scope y)(S:b9 X scope cl [x] caps cn)(hc:X.calm=true)(hg:∀C fp s₂ H₂,PG (aw X scope cl C ([x]++cn) fp s₂ H₂) tg (dD 0))(ht:∀C fp s₂ H₂,tG (aw X scope cl C ([x]++cn) fp s₂ H₂) ifs tt)
  (he:∀C fp s₂ H₂,PD (aw X scope cl C ([x]++cn) fp s₂ H₂) elt te)(hsw:swapsWith (.ListComp elt [⟨tg,.Name y p,ifs,0⟩] scope pos) (some (.Name v pv)) spos.line X.env=pure true:=by rfl)(hf:X.fn v=true\/X.env.scope.names.lookup v=some .local:=by first|exact .inl rfl|exact .inr rfl|assumption)
  (hs:∀x,foldedSetIterable (.Name y p) X.env x=pure x:=by intro _;rfl)(hd:(y == ("__debug__":Str))=false:=by decide)(hcd:(y == ("__classdict__":Str))=false:=by decide) :
  p7 X (.Assign [.Name v pv] (.ListComp elt [⟨tg,.Name y p,ifs,0⟩] scope pos) spos) (IV k caps (oz i) tt te):=by
 have mt:=(ht 0 [] X.s₀ X.H₀).mono
 have me:=(he 0 [] X.s₀ X.H₀).mono
 have core:PS X (.Assign [.Name v pv] (.ListComp elt [⟨tg,.Name y p,ifs,0⟩] scope pos) spos) (DR k (nE 1 caps (oF (wq i)) (dD 0) (kb (oT X.K tt)) (kY (oE X.K te)))):=ph hNd hk hl S hc (qd (eB (i:=i) (pos:=p) hN hv hd hcd)) hg (λC fp s₂ H₂=>gC (ht C fp s₂ H₂).K_) (λC fp s₂ H₂=>hZ (he C fp s₂ H₂).pe) hsw hf hs
 have frozen:∀{σ:L2.St} {H:Hp} {δ:SD} {Q:VK} {W:D->Prop} {a:Addr} {o:Obj} {vs:List (Key × V)},σ[i]?=some (some (.ref a))->H a=some (.fB o (.dK vs))->br X.K H σ δ->iL caps (oz i) tt te δ W ->
   (∀(H0:Hp) (b:Addr) (ys:List V) (ds:List D),H0 b=none->aK H H0->bM X.K H0 ys ds->W (.lst ds)->Q (.ref b) (upd H0 b (.lst ys)))->nE 1 caps (oF (wq i)) (dD 0) (kb (oT X.K tt)) (kY (oE X.K te)) σ H Q:=fun{σ H δ Q W a o vs} h1 h2 r h fin=>by
  obtain⟨δ',r',kvs,hk,f⟩:=AI m_keys mt me r h fin
  obtain⟨v,hv1,dv⟩:=r'.get i _ hk
  rw[h1] at hv1
  cases hv1
  cases dv with
  |dK q1 q2 =>
   rcases q1 with q1|⟨o',q1⟩
   ·rw[h2] at q1;cases q1
   ·rw[h2] at q1
    cases q1
    exact⟨_,h1,a,o,_,rfl,h2,f _ _ (aK.refl _) (uB h2 q2)⟩
 refine⟨λpins s σ H D I h=>?_,λE E' δ μ l h=>mG m_keys _ _ _ (λd ⟨ds,e,f,q⟩=>⟨ds,e,f,l.nx _ _ q⟩) h⟩
 obtain⟨δ,μ,L,r,g,h⟩:=h
 have rv:=g.bB r
 have lb:∀{H0:Hp} {b:Addr},aK H H0->H0 b=none->b∉L:=λs0 hb hbL=>by
  obtain⟨o',q'⟩:=(g.dG _ hbL).there
  have:=s0 _ _ q'
  rw[hb] at this
  cases this
 obtain⟨kvs,hkk,h'⟩:=id h
 obtain⟨v,hv1,dv⟩:=rv.get i _ hkk
 cases dv with
 | @dK a vs _ q1 q2 =>
  rcases q1 with q1|⟨o,q1⟩
  ·refine uP core I q1 λo=>?_
   have hfz:upd H a (.fB o (.dK vs)) a=some (.fB o (.dK vs)):=aJ
   refine frozen hv1 hfz (rv.rd (uR q1)) h λH0 b ys ds hb s0 dvs ⟨ds',ed,fl,nx⟩=>?_
   cases ed
   have e0:H0 a=some (.fB o (.dK vs)):=s0 _ _ hfz
   have nba:b≠a:=λe=>by rw[e,e0] at hb;cases hb
   have e1:upd H0 b (.lst ys) a=some (.fB o (.dK vs)):=by rw[aI (Ne.symm nba)];exact e0
   have sF:aK H (upd (upd H0 b (.lst ys)) a (.dK vs)):=lA q1 (s0.trans (aU hb))
   have bL:b∉L:=λhbL=>by
    obtain⟨o',q'⟩:=(g.dG _ hbL).there
    have z:=s0 b o' (by rw[aI nba];exact q')
    rw[hb] at z
    cases z
   refine⟨e1,nx _ _ L (bV sF) ((r.same (bV sF)).set k (.lst (cu.of (show aN (upd (upd H0 b (.lst ys)) a (.dK vs)) L b=some (.lst ys) by rw[ax bL,aI nba,aJ])) (dvs.pX fl))) (g.on sF)⟩
  ·refine core pins s σ H D I (frozen hv1 q1 rv h λH0 b ys ds hb s0 dvs ⟨ds',ed,fl,nx⟩=>?_)
   cases ed
   have sF:aK H (upd H0 b (.lst ys)):=s0.trans (aU hb)
   have bL:=lb s0 hb
   exact nx _ _ L (bV sF) ((r.same (bV sF)).set k (.lst (cu.of (show aN (upd H0 b (.lst ys)) L b=some (.lst ys) by rw[ax bL,aJ])) (dvs.pX fl))) (g.on sF)
end
end DC
namespace L2
open PySem PySem.Spec PyProof.Rows
section
variable {X:Cx}
theorem su {P:Program}{w:World}:∀{acc:List Value} {kvs:List (Key × V)},acc.length=kvs.length->(∀(j:Nat) (v:Value),acc[j]?=some v->∃y,kvs[j]?=some y/\(bq P w).is y.1 v=true)->Vals (kvs.map λkv=>kV kv.1) acc
 |[],[],_,_=>.nil
 |[],_::_,h,_=>by cases h
 |_::_,[],h,_=>by cases h
 |v::acc,y::kvs,h,k=>by
  obtain⟨y',e,z⟩:=k 0 v rfl
  cases e
  exact .cons (Gv z) (su (P:=P) (w:=w) (by simpa using h) λj u hj=>k (j+1) u hj)
theorem p_ (hh:X.A.handled=none):eW X (.type "list") (λxs H Q=>∃p kvs,xs=[.ref p]/\Rd H p (.dK kvs)/\∀l,H l=none->Q (.ref l) (upd H l (.lst (kvs.map λkv=>kV kv.1)))):=by
 intro pins s σ H xs us Q I r h
 obtain⟨p,kvs,rfl,hq,q⟩:=h
 obtain⟨u,rfl,rx⟩:=vals1 r
 cases rx
 obtain⟨z,hd,vs,rel,dd⟩:=o6 I.bW hq
 obtain⟨ep,hat⟩:=dd.dictAt
 have hl:=rel.length
 refine PySem.W.kdl_call (PySem.W.kdl_dict (knd:=bq X.prog X.w) (kvs:=vs) (ep:=ep) hd) hh hat (by rw[<- hl];exact z) ?_
 intro h' tk acc c' kp e hacc
 have ha:acc.toList.length=kvs.length:=by rw[Array.length_toList,hacc.1,<- hl]
 have hv:Vals (kvs.map λkv=>kV kv.1) acc.toList:=su (P:=X.prog) (w:=X.w) ha λj v hj=>by
  obtain⟨k,x,e1,e2⟩:=hacc.2 j v (by rw[<- Array.getElem?_toList];exact hj)
  have e3:(vs.map (·.1))[j]?=some k:=by rw[List.getElem?_map,e1];rfl
  rw[<- rel.keys,List.getElem?_map] at e3
  cases e4:kvs[j]? with
  |none=>rw[e4] at e3;cases e3
  |some y =>
   rw[e4] at e3
   have:y.1=k:=by simpa using e3
   exact⟨y,rfl,by rw[this];exact e2⟩
 exact⟨.ref s.heap.objs.size,_,I.laid (t':=tk) kp (Nat.le_refl _) (show bJ X.prog X.w _ h' _ (.lst (kvs.map λkv=>kV kv.1)) from⟨by rw[List.length_map];exact z,acc.toList,c',hv,by rw[Array.toArray_toList];exact e⟩),rfl,q _ (I.bW.fresh (Nat.le_refl _))⟩
theorem call_len_dict:eW X (.builtin "len") (λxs H Q=>∃a kvs,xs=[V.ref a]/\Rd H a (.dK kvs)/\Q (.int kvs.length) H):=by
 intro pins s σ H xs us Q I r h
 obtain⟨a,kvs,rfl,ha,q⟩:=h
 obtain⟨u,rfl,ru⟩:=vals1 r
 cases ru
 exact cO I ha λt s' I'=>⟨.int kvs.length,H,I',⟨t,rfl⟩,q⟩
end
end L2
namespace DC
open PySem PySem.Spec PyProof.Rows L2
theorem bM.keys {K:PySem.W.Frag}{H H':Hp}:∀{vs:List (Key × V)} {ds:List (Key × D)},e7 K H vs ds->bM K H' (vs.map λkv=>kV kv.1) (ds.map λkv=>keyOf kv.1)
 |_,_,.nil=>.nil
 |_,_,.cons _ r=>.cons (B5 _) (bM.keys r)
def uW:cF:=λds Q=>∃kvs,ds=[.dK kvs]/\Q (.lst (kvs.map λkv=>keyOf kv.1))
theorem FG:cK uW:=λds P P' g ⟨xs,e,q⟩=>⟨xs,e,g _ q⟩
theorem xN {K:PySem.W.Frag}:mT K (λxs H Q=>∃p kvs,xs=[.ref p]/\Rd H p (.dK kvs)/\∀l,H l=none->Q (.ref l) (upd H l (.lst (kvs.map λkv=>kV kv.1)))) uW:=by
 intro H vs ds Q dvs ⟨kvs,e,q⟩
 subst e
 cases dvs with
 |cons dv r =>
  cases r
  cases dv with
  |dK h1 h2=>exact⟨_,_,rfl,h1,λl hl=>q _ _ (aU hl) (.lst (cu.of aJ) (bM.keys h2))⟩
def yQ:cF:=λds Q=>∃kvs,ds=[.dK kvs]/\Q (.int kvs.length)
theorem Ib:cK yQ:=λds P P' g ⟨xs,e,q⟩=>⟨xs,e,g _ q⟩
theorem AO {K:PySem.W.Frag}:mT K (λxs H Q=>∃a kvs,xs=[V.ref a]/\Rd H a (.dK kvs)/\Q (.int kvs.length) H) yQ:=by
 intro H vs ds Q dvs ⟨kvs,e,q⟩
 subst e
 cases dvs with
 |cons dv r =>
  cases r
  cases dv with
  |dK h1 h2 =>
   have hl:=congrArg List.length h2.keys
   rw[List.length_map,List.length_map] at hl
   exact⟨_,_,rfl,h1,by rw[hl];exact q _ _ (aK.refl _) (.int _)⟩
section
variable {X:Cx}{e:Expr}{es:List Expr}{t:AD}{pos p:Pos}
theorem Eb (hh:X.A.handled=none)(hg:Gl X "list")(hm:X.mg "list"=none)(ha:ni X (e::es) t)(h1:starEach (e::es) X.env=(false,eval e X.env)::starEach es X.env:=by rfl)(h2:(backTo pos (starEach es X.env)).any (·.1)=false:=by rfl):PD X (.Call (.Name "list" p) (e::es) [] pos) (vB uW t):=vK (hX (p_ hh) hg hm boot_list ha.pa (he:=h1) (hpl:=h2)) ha.mono xN FG
theorem Bs (hg:Gl X "len")(hm:X.mg "len"=none)(ha:ni X (e::es) t)(h1:starEach (e::es) X.env=(false,eval e X.env)::starEach es X.env:=by rfl)(h2:(backTo pos (starEach es X.env)).any (·.1)=false:=by rfl):PD X (.Call (.Name "len" p) (e::es) [] pos) (vB yQ t):=vK (fE call_len_dict hg hm boot_len ha.pa (he:=h1) (hpl:=h2)) ha.mono AO Ib
end
mutual
def cN:D->Bool
 |.tup xs=>jN xs
 |.ak=>true
 |.bl _=>true
 |.int _=>true
 |.str _=>true
 |.lst _=>false
 |.obj _ _=>false
 |.dK _=>false
 |.dT _=>false
 |.adr _=>false
 |.exc _ _ _=>false
def jN:List D->Bool
 |[]=>true
 |d::ds=>cN d&&jN ds
end
mutual
theorem Dv.AV {K:PySem.W.Frag}{H:Hp}{L:List Addr}(hL:∀b∈L,dC H L b):∀{v:V} {d:D},Dv K H v d->cN d=true->Dv K (aN H L) v d
 |_,_,.ak,_=>.ak
 |_,_,.bl b,_=>.bl b
 |_,_,.int i,_=>.int i
 |_,_,.str x,_=>.str x
 |_,_,.tup h1 h2,f=>.tup (h1.elim (λh=>.inl (JV hL h)) .inr) (bM.AV hL h2 (by rw[cN] at f;exact f))
 |_,_,.lst h1 h2,f=>by rw[cN] at f;cases f
 |_,_,.obj h1 h2,f=>by rw[cN] at f;cases f
 |_,_,.dK h1 h2,f=>by rw[cN] at f;cases f
 |_,_,.dT h1 h2,f=>by rw[cN] at f;cases f
 |_,_,.adr a,f=>by rw[cN] at f;cases f
 |_,_,.exc h1 h2 h3,f=>by rw[cN] at f;cases f
theorem bM.AV {K:PySem.W.Frag}{H:Hp}{L:List Addr}(hL:∀b∈L,dC H L b):∀{vs:List V} {ds:List D},bM K H vs ds->jN ds=true->bM K (aN H L) vs ds
 |_,_,.nil,_=>.nil
 |_,_,.cons h r,f=>.cons (Dv.AV hL h (by rw[jN,Bool.and_eq_true] at f;exact f.1)) (bM.AV hL r (by rw[jN,Bool.and_eq_true] at f;exact f.2))
end
section
variable {X:Cx}{e ke:Expr}{te tk:ED}{i:Nat}{x:Str}{p pos pos':Pos}
def CV (i:Nat)(te:ED):fL:=λE δ μ=>te (bB μ δ) λd=>cN d=true/\E.nx (δ.set i (some d)) μ
theorem zR (hN:X.N.Nodup)(hi:X.N[i]?=some x)(hx:Loc X.env.scope x)(he:PD X e te)(hs:swapsWith e (some (.Name x pos')) pos.line X.env=pure false:=by rfl)
  (hf:X.fn x=true\/X.env.scope.names.lookup x=some .local:=by first|exact .inl rfl|exact .inr rfl|assumption):p7 X (.Assign [.Name x pos'] e pos) (CV i te) :=
 ⟨PS.imp (uO hN hi hx he.pe hs hf) λD σ H ⟨δ,μ,L,r,g,h⟩=>⟨_,g.bB r,he.mono _ _ _ (λd ⟨fl,q⟩ v H1 s1 dv=>q _ H1 L (bV s1) ((r.same (bV s1)).set i (dv.AV (g.on s1).dG fl)) (g.on s1)) h⟩,
  λE E' δ μ l h=>he.mono _ _ _ (λd ⟨fl,q⟩=>⟨fl,l.nx _ _ q⟩) h⟩
def xc (i:Nat)(tk te:ED):fL:=λE δ μ=>te (bB μ δ) λd=>cN d=true/\∃a ds,δ[i]?=some (some (.adr a))/\μ.lookup a=some (.lst ds)/\tk (bB μ δ) λy=>∃k j,y=.int k/\zG ds.length k=some j/\E.nx δ (fR a (.lst (ds.set j d)) μ)
theorem Cj (hi:X.N[i]?=some x)(hv:uq X.env.scope x)(hk:PD X ke tk)(he:PD X e te)(hd:(x == ("__debug__":Str))=false:=by decide)(hcd:(x == ("__classdict__":Str))=false:=by decide)
  (hs:swapsWithSole [.Subscript (.Name x p) ke pos'] e pos.line X.env=pure false:=by rfl)(hw:swappedStores [.Subscript (.Name x p) ke pos'] e X.env=pure none:=by rfl)
  (h1:(assignEach [.Subscript (.Name x p) ke pos'] X.env).map (·.2)=[assign (.Subscript (.Name x p) ke pos') X.env]:=by rfl)
  (ha:∀v,assign (.Subscript (.Name x p) ke pos') X.env v=(do
   let ov <- holding [v] (eval (.Name x p) X.env)
   let iv <- holding [v,ov] (eval ke X.env)
   standAt pos'
   holding [v,ov,iv] (setItem ov iv v)
   release [v,ov,iv] []):=by intro _;rfl):p7 X (.Assign [.Subscript (.Name x p) ke pos'] e pos) (xc i tk te):=by
 refine⟨PS.imp (DG he.pe (DB (eB hi hv hd hcd) hk.pe set_list ha) hs hw h1) λD σ H ⟨δ,μ,L,r,g,q⟩=>⟨_,g.bB r,he.mono _ _ _ (λd ⟨fl,a,ds,k1,k2,q⟩ v H1 s1 dv=>?_) q⟩,
  λE E' δ μ l q=>he.mono _ _ _ (λd ⟨fl,a,ds,k1,k2,q⟩=>⟨fl,a,ds,k1,k2,hk.mono _ _ _ (λy ⟨k,j,e1,e2,q⟩=>⟨k,j,e1,e2,l.nx _ _ q⟩) q⟩) q⟩
 obtain⟨w,hv1,dvw⟩:=r.get i _ k1
 cases dvw
 refine⟨_,hv1,_,(g.on s1).bB (r.same (bV s1)),hk.mono _ _ _ (λy ⟨k,j,ey,ej,q⟩ u H2 s2 du=>?_) q⟩
 subst ey
 cases du
 have s12:=s1.trans s2
 have g2:=g.on s12
 obtain⟨haL,vs,hH,dvs⟩:=g2.at_ _ (mem_of_lookup k2)
 refine⟨a,vs,k,j,rfl,rfl,hH,by rw[dvs.length];exact ej,?_⟩
 have e3:aN (upd H2 a (.lst (vs.set j v))) L=aN H2 L:=cp haL
 exact q σ _ L (by rw[e3];exact bV s12) (by rw[e3];exact r.same (bV s12)) (g2.putL haL hH (dvs.setAt ((dv.same s2).AV g2.dG fl) j))
end
def dF (l:List Str)(f:Str->D):List (Key × D):=l.map λn=>((Sum.inr n:Key),f n)
def ou (f:Str->D)(n:Str)(v:D):Str->D:=λm=>if m=n then v else f m
theorem iT (l:List Str)(f:Str->D):(dF l f).length=l.length:=List.length_map ..
theorem dP {l:List Str}{f g:Str->D}(h:∀n∈l,f n=g n):dF l f=dF l g:=List.map_congr_left λn hn=>by rw[h n hn]
theorem md {l:List Str}{f:Str->D}:((dF l f).map λkv=>keyOf kv.1)=l.map D.str:=by
 unfold dF
 rw[List.map_map]
 rfl
theorem Hj {l:List Str}{f:Str->D}:(dF l f).map (·.1)=l.map Sum.inr:=by
 unfold dF
 rw[List.map_map]
 rfl
theorem cE {f:Str->D}{n:Str}:∀{l:List Str},n∈l->eV (dF l f) (.inr n)=some (f n)
 |m::l,h=>by
  unfold dF eV
  rw[List.map_cons,List.find?_cons]
  by_cases e:m=n
  ·subst e;simp
  ·rw[show decide (((Sum.inr m:Key),f m).1=Sum.inr n)=false from decide_eq_false λz=>e (Sum.inr.inj z)]
   exact cE ((List.mem_cons.mp h).resolve_left λz=>e z.symm)
theorem va {f:Str->D}{n:Str}:∀{l:List Str},n∉l->eV (dF l f) (.inr n)=none
 |[],_=>rfl
 |m::l,h=>by
  unfold dF eV
  rw[List.map_cons,List.find?_cons]
  have e:m≠n:=λe=>h (by rw[e];exact List.mem_cons_self)
  rw[show decide (((Sum.inr m:Key),f m).1=Sum.inr n)=false from decide_eq_false λz=>e (Sum.inr.inj z)]
  exact va λz=>h (List.mem_cons_of_mem _ z)
theorem j_ {l:List Str}{f:Str->D}{n:Str}{v:D}(h:n∉l):h_ (dF l f) (.inr n) v=dF (l++[n]) (ou f n v):=by
 unfold h_
 rw[if_neg]
 ·unfold dF
  rw[List.map_append]
  congr 1
  ·refine List.map_congr_left λm hm=>?_
   unfold ou
   rw[if_neg (λe:m=n=>h (e ▸ hm))]
  ·simp[ou]
 ·intro z
  obtain⟨p,hp,e⟩:=List.any_eq_true.mp z
  obtain⟨m,hm,rfl⟩:=List.mem_map.mp hp
  have e':=of_decide_eq_true e
  cases e'
  exact h hm
theorem qg {l:List Str}{f:Str->D}{n:Str}{v:D}(h:n∈l):h_ (dF l f) (.inr n) v=dF l (ou f n v):=by
 unfold h_
 rw[if_pos]
 ·unfold dF
  rw[List.map_map]
  refine List.map_congr_left λm hm=>?_
  show(if(Sum.inr m:Key)=Sum.inr n then _ else _)=_
  unfold ou
  by_cases e:m=n
  ·rw[if_pos (congrArg Sum.inr e),if_pos e]
  ·rw[if_neg (λz=>e (Sum.inr.inj z)),if_neg e]
 ·exact List.any_eq_true.mpr ⟨(.inr n,f n),List.mem_map.mpr ⟨n,h,rfl⟩,decide_eq_true rfl⟩
theorem Gq {α:Type}(p:α->Bool)(g:α->D):∀l:List α,(l.map λx=>if p x=true then some (g x) else none).filterMap id=(l.filter p).map g
 |[]=>rfl
 |x::l=>by
  have ih:=Gq p g l
  cases hp:p x with
  |true=>rw[List.map_cons,List.filter_cons,hp,if_pos rfl,if_pos rfl,List.filterMap_cons,List.map_cons,<- ih];rfl
  |false=>rw[List.map_cons,List.filter_cons,hp,if_neg Bool.false_ne_true,if_neg Bool.false_ne_true,List.filterMap_cons,<- ih];rfl
theorem Gp {α:Type}{l:List α}{f:α->D}{h:α->Option D}{i:Nat}{d:D}{o:Option D}(a1:(l.map f)[i]?=some d)(a2:(l.map h)[i]?=some o):∃x∈l,f x=d/\o=h x:=by
 rw[List.getElem?_map] at a1 a2
 cases e:l[i]? with
 |none=>rw[e] at a1;cases a1
 |some x =>
  rw[e] at a1 a2
  exact⟨x,List.mem_of_getElem? e,by simpa using a1,by simpa using a2.symm⟩
theorem jS {α β:Type}{l:List α}{f:α->β}{i:Nat}{d:β}(h:(l.map f)[i]?=some d):∃x,l[i]?=some x/\f x=d:=by
 rw[List.getElem?_map] at h
 cases e:l[i]? with
 |none=>rw[e] at h;cases h
 |some x=>rw[e] at h;exact⟨x,rfl,by simpa using h⟩
def outF {α:Type}(p:α->Bool)(g:α->D)(l:List α):List (Option D):=l.map λx=>if p x=true then some (g x) else none
def wN {α:Type}(g:α->D)(l:List α):List (Option D):=l.map λx=>some (g x)
theorem fD {α:Type}{p:α->Bool}{f g:α->D}{l:List α}:(outF p g l).length=(l.map f).length:=by simp[outF]
theorem qb {α:Type}{f g:α->D}{l:List α}:(wN g l).length=(l.map f).length:=by simp[wN]
theorem d_ {α:Type}{p:α->Bool}{g:α->D}{l:List α}:(outF p g l).filterMap id=(l.filter p).map g:=Gq p g l
theorem qc {α:Type}{g:α->D}{l:List α}:(wN g l).filterMap id=l.map g:=by unfold wN;rw[List.filterMap_map];simp
theorem dg {α:Type}{p:α->Bool}{f g:α->D}{l:List α}{T:D->Option D->Prop}(h:∀x∈l,T (f x) (if p x=true then some (g x) else none)):∀(i:Nat) (d:D) (o:Option D),(l.map f)[i]?=some d->(outF p g l)[i]?=some o->T d o:=λi d o a1 a2=>by
 obtain⟨x,hx,rfl,rfl⟩:=Gp a1 a2
 exact h x hx
theorem oV {α:Type}{f g:α->D}{l:List α}{T:D->Option D->Prop}(h:∀x∈l,T (f x) (some (g x))):∀(i:Nat) (d:D) (o:Option D),(l.map f)[i]?=some d->(wN g l)[i]?=some o->T d o:=λi d o a1 a2=>by
 obtain⟨x,hx,rfl,rfl⟩:=Gp a1 a2
 exact h x hx
theorem qW {α β:Type}{l:List α}{f:α->β}{n:Nat}(h:l.length<n):(l.map f).length<n:=by rw[List.length_map];exact h
theorem vG {xs:List D}{k:Nat}(h:k<=xs.length):cutD xs (some (k:Int)) none=xs.drop k:=by
 unfold cutD
 rw[HT.pj,HT.wW,Nat.min_eq_left h,List.take_of_length_le]
 rw[List.length_drop]
 exact Nat.le_refl _
theorem n5 {xs:List D}{k:Nat}:cutD xs none (some (k:Int))=xs.take k:=by
 unfold cutD
 rw[HT.pj,HT.wW,List.drop_zero,Nat.sub_zero]
 by_cases h:k<=xs.length
 ·rw[Nat.min_eq_left h]
 ·rw[Nat.min_eq_right (by omega),List.take_length,List.take_of_length_le (by omega)]
theorem wL {xs:List D}{k:Nat}{R:Prop}(h0:0<k)(h:k<=xs.length):¬ (HT.di xs.length 0 (some (k:Int))=0/\R):=λz=>by
 have:=z.1
 rw[HT.pj,Nat.min_eq_left h] at this
 omega
structure Lay (k:Nat) (d:D):Prop where
 pl:DC.plain d=true
 cl:(iJ d).canLay0=true
 dp:(iJ d).depth<=k
theorem Lay.up {k m:Nat}{d:D}(h:Lay k d)(e:k<=m):Lay m d:=⟨h.pl,h.cl,Nat.le_trans h.dp e⟩
theorem E3:Lay 0 .ak:=⟨by simp[DC.plain],by rw[iJ,PyData.canLay0],by rw[iJ,PyData.depth];decide⟩
theorem E2 (i:Int):Lay 0 (.int i):=⟨by simp[DC.plain],by rw[iJ,PyData.canLay0],by rw[iJ,PyData.depth];decide⟩
theorem IM (i:Bool):Lay 0 (.bl i):=⟨by simp[DC.plain],by rw[iJ,PyData.canLay0],by rw[iJ,PyData.depth];decide⟩
theorem cy {x:Str}(h:PyData.strOk x=true):Lay 0 (.str x):=⟨by simp[DC.plain],by rw[iJ,PyData.canLay0];exact h,by rw[iJ,PyData.depth];decide⟩
theorem uC {k:Nat}:∀{ds:List D},(∀d∈ds,Lay k d)->mK ds=true/\PyData.canLayAll0 (gS ds)=true/\PyData.depthAll (gS ds)<=k
 |[],_=>⟨rfl,rfl,Nat.zero_le _⟩
 |d::ds,h=>by
  obtain⟨h1,h2,h3⟩:=uC (ds:=ds) λe he=>h e (List.mem_cons_of_mem _ he)
  have hd:=h d List.mem_cons_self
  refine⟨?_,?_,?_⟩
  ·rw[mK,hd.pl,h1];rfl
  ·rw[gS,PyData.canLayAll0,hd.cl,h2];rfl
  ·rw[gS,PyData.depthAll];exact Nat.max_le.mpr ⟨hd.dp,h3⟩
theorem uD {k:Nat}{ds:List D}(h:∀d∈ds,Lay k d):Lay (k+1) (.tup ds):=by
 obtain⟨h1,h2,h3⟩:=uC h
 exact⟨by rw[DC.plain];exact h1,by rw[iJ,PyData.canLay0];exact h2,by rw[iJ,PyData.depth];omega⟩
theorem zK {k:Nat}{ds:List D}(h:∀d∈ds,Lay k d):Lay (k+1) (.lst ds):=by
 obtain⟨h1,h2,h3⟩:=uC h
 exact⟨by rw[DC.plain];exact h1,by rw[iJ,PyData.canLay0];exact h2,by rw[iJ,PyData.depth];omega⟩
theorem Lay.sh {k:Nat}{d:D}(h:Lay k d)(e:k<=64):SeqAt.shaped (iJ d)=true:=by
 unfold SeqAt.shaped
 rw[h.cl,decide_eq_true (Nat.le_trans h.dp e)]
 rfl
theorem f7 {l:List Str}(h:∀x∈l,PyData.strOk x=true):Lay 1 (.lst (l.map D.str)):=zK λd hd=>by
 obtain⟨x,hx,rfl⟩:=List.mem_map.mp hd
 exact cy (h x hx)
theorem F7 {neg:Bool}{k:Nat}{d:D}{Q:D->Prop}(e:tV d d=none)(h:Lay k d)(hk:k<=64)(q:Q (.bl (!neg))):yz neg d d Q:=by
 have ev:PyData.eqv (iJ d) (iJ d)=true:=SeqAt.eqv_refl _ h.cl
 unfold yz
 rw[e]
 refine⟨h.pl,h.pl,h.sh hk,h.sh hk,?_⟩
 rw[ev]
 cases neg<;>exact q
theorem vY:∀a b:List Str,PyData.eqvAll (gS (a.map D.str)) (gS (b.map D.str))=decide (a=b)
 |[],[]=>by rw[List.map_nil,gS,PyData.eqvAll];rfl
 |[],y::b=>by rw[List.map_nil,List.map_cons,gS,gS,PyData.eqvAll];rfl
 |x::a,[]=>by rw[List.map_nil,List.map_cons,gS,gS,PyData.eqvAll];rfl
 |x::a,y::b=>by
  rw[List.map_cons,List.map_cons,gS,gS,PyData.eqvAll,vY a b,iJ,iJ,PyData.eqv]
  by_cases h:x=y
  ·subst h
   by_cases h2:a=b
   ·subst h2;simp
   ·simp[h2]
  ·simp[h]
theorem N4 {neg:Bool}{a b:List Str}{Q:D->Prop}(ha:∀x∈a,PyData.strOk x=true)(hb:∀x∈b,PyData.strOk x=true)(q:Q (.bl (if neg=true then !decide (a=b) else decide (a=b)))):yz neg (.lst (a.map D.str)) (.lst (b.map D.str)) Q:=by
 have la:=f7 ha
 have lb:=f7 hb
 have e:PyData.eqv (iJ (.lst (a.map D.str))) (iJ (.lst (b.map D.str)))=decide (a=b):=by rw[iJ,iJ,PyData.eqv,vY]
 refine⟨la.pl,lb.pl,la.sh (by decide),lb.sh (by decide),?_⟩
 rw[e]
 exact q
theorem yx {neg:Bool}{k:Nat}{ds:List D}{Q:D->Prop}(h:Lay k (.lst ds))(hk:k<=64)(q:Q (.bl (if neg=true then !ds.isEmpty else ds.isEmpty))):yz neg (.lst ds) (.lst []) Q:=by
 have lb:=f7 (l:=[]) λx hx=>nomatch hx
 have e:PyData.eqv (iJ (.lst ds)) (iJ (.lst []))=ds.isEmpty:=by
  rw[iJ,iJ,PyData.eqv]
  cases ds with
  |nil=>rw[gS,PyData.eqvAll];rfl
  |cons b bs=>rw[gS,gS,PyData.eqvAll];rfl
 refine⟨h.pl,lb.pl,h.sh hk,lb.sh (by decide),?_⟩
 rw[e]
 exact q
def BX (μ:Mu):Prop:=∀p∈μ,∃kvs,p.2=MD.dK kvs
theorem dZ.Ik {K:PySem.W.Frag}{H:Hp}{μ:Mu}{L:List Addr}(g:dZ K H μ L)(h:BX μ){l:Addr}{xs:List V}(q:Rd H l (.lst xs)):l∉L:=λhl=>by
 rcases q with q|⟨o,q⟩
 ·rcases g.Ea l hl with⟨m,hm⟩|⟨a,ha⟩
  ·obtain⟨kvs,e⟩:=h _ hm
   cases e
   obtain⟨_,ws,hH,_⟩:=g.at_ _ hm
   rw[q] at hH
   cases hH
  ·rw[q] at ha;cases ha
 ·exact(g.dG l hl).pE.2.1 _ _ q
theorem dZ.E6 {K:PySem.W.Frag}{H:Hp}{μ:Mu}{L:List Addr}(g:dZ K H μ L)(h:BX μ){v:V}{ds:List D}(dv:Dv K H v (.lst ds))(f:ds.all dz=true):Dv K (aN H L) v (.lst ds):=by
 cases dv with
 |lst q1 q2 =>
  refine .lst ?_ (q2.pX f)
  rcases q1 with q1|q1
  ·have n:=g.Ik h q1
   refine .inl ?_
   unfold Rd
   rw[ax n]
   exact q1
  ·exact .inr q1
section
variable {X:Cx}{e ke:Expr}{te tk:ED}{i:Nat}{x:Str}{p pos pos':Pos}
def IS (i:Nat)(tk te:ED):fL:=λE δ μ=>te (bB μ δ) λd=>∃ds,d=.lst ds/\ds.all dz=true/\BX μ/\∃a kvs,δ[i]?=some (some (.adr a))/\μ.lookup a=some (.dK kvs)/\kvs.length<sizeLine/\tk (bB μ δ) λy=>∃k,Ad y=some k/\E.nx δ (fR a (.dK (h_ kvs k d)) μ)
theorem Ci (hu:X.A.units+64<cLine)(hi:X.N[i]?=some x)(hv:uq X.env.scope x)(hk:PD X ke tk)(he:PD X e te)(hd:(x == ("__debug__":Str))=false:=by decide)(hcd:(x == ("__classdict__":Str))=false:=by decide)
  (hs:swapsWith e (some (.Subscript (.Name x p) ke pos')) pos.line X.env=pure false:=by rfl):p7 X (.Assign [.Subscript (.Name x p) ke pos'] e pos) (IS i tk te):=by
 refine⟨PS.imp (zb (by omega) (eB hi hv hd hcd) hk.pe he.pe hs) λD σ H ⟨δ,μ,L,r,g,q⟩=>⟨_,g.bB r,he.mono _ _ _ (λd ⟨ds,ed,fl,ok,a,kvs,k1,k2,k3,q⟩ v H1 s1 dv=>?_) q⟩,
  λE E' δ μ l q=>he.mono _ _ _ (λd ⟨ds,ed,fl,ok,a,kvs,k1,k2,k3,q⟩=>⟨ds,ed,fl,ok,a,kvs,k1,k2,k3,hk.mono _ _ _ (λy ⟨k,e1,q⟩=>⟨k,e1,l.nx _ _ q⟩) q⟩) q⟩
 subst ed
 obtain⟨w,hv1,dvw⟩:=r.get i _ k1
 cases dvw
 refine⟨_,hv1,_,(g.on s1).bB (r.same (bV s1)),hk.mono _ _ _ (λy ⟨k,ek,q⟩ u H2 s2 du=>?_) q⟩
 have s12:=s1.trans s2
 have g2:=g.on s12
 obtain⟨haL,ws,hH,dvk⟩:=g2.at_ _ (mem_of_lookup k2)
 rw[xZ du ek]
 refine⟨a,_,rfl,z7.k hH (by rw[dvk.length];exact k3),?_⟩
 have e3:aN (upd H2 a (.dK (L2.putK ws k v))) L=aN H2 L:=cp haL
 exact q σ _ L (by rw[e3];exact bV s12) (by rw[e3];exact r.same (bV s12)) (g2.putK haL hH (dvk.put (g2.E6 ok (dv.same s2) fl)))
end
def BQ {α:Type}(f:Str->α)(n:Str)(v:α):Str->α:=λm=>if m=n then v else f m
theorem kg {α:Type}{f:Str->α}{n:Str}{v:α}:BQ f n v n=v:=if_pos rfl
theorem ot {α:Type}{f:Str->α}{n m:Str}{v:α}(h:m≠n):BQ f n v m=f m:=if_neg h
theorem zz {α:Type}(f:Str->α)(g:α->D)(n:Str)(v:α):ou (λn=>g (f n)) n (g v)=λm=>g (BQ f n v m):=by
 funext m
 unfold ou BQ
 split<;>rfl
theorem qS {a:Addr}{m:MD}:∀{μ:Mu} {m0:MD},μ.lookup a=some m0->(fR a m μ).lookup a=some m
 |[],_,h=>by cases h
 | (b,mb)::μ,m0,h=>by
  unfold fR
  rw[List.map_cons,List.lookup_cons]
  rw[List.lookup_cons] at h
  by_cases e:b=a
  ·subst e;simp
  ·have e':(a == b)=false:=by rw[beq_eq_false_iff_ne];exact λz=>e z.symm
   rw[if_neg e]
   dsimp only
   rw[e'] at h ⊢
   exact qS (μ:=μ) h
theorem jR {a b:Addr}{m:MD}(h:a≠b):∀{μ:Mu},(fR b m μ).lookup a=μ.lookup a
 |[]=>rfl
 | (c,mc)::μ=>by
  unfold fR
  rw[List.map_cons,List.lookup_cons,List.lookup_cons]
  by_cases e:c=b
  ·subst e
   have e':(a == c)=false:=by rw[beq_eq_false_iff_ne];exact h
   rw[if_pos rfl]
   dsimp only
   rw[e']
   exact jR h (μ:=μ)
  ·rw[if_neg e]
   dsimp only
   split
   ·rfl
   ·exact jR h (μ:=μ)
theorem CQ {a b:Addr}{m:MD}{μ:Mu}(h:a≠b):((b,m)::μ).lookup a=μ.lookup a:=by
 rw[List.lookup_cons]
 have e':(a == b)=false:=by rw[beq_eq_false_iff_ne];exact h
 rw[e']
theorem look_same {b:Addr}{m:MD}{μ:Mu}:((b,m)::μ).lookup b=some m:=by rw[List.lookup_cons];simp
theorem z6 {μ:Mu}{a:Addr}{m:MD}(h:μ.lookup a=some m):ay μ (.adr a)=m.d:=by
 show(Option.map MD.d (List.lookup a μ)).getD (D.adr a)=_
 rw[h]
 rfl
theorem mem_keys {μ:Mu}{a:Addr}{m:MD}(h:μ.lookup a=some m):a∈μ.map (·.1):=List.mem_map.mpr ⟨_,mem_of_lookup h,rfl⟩
theorem yM {m i:Nat}{d:D}(h:(List.map (λi:Nat=>D.int (0+(i:Int))) (List.range m))[i]?=some d):i<m/\d=.int (i:Int):=by
 rw[List.getElem?_map] at h
 cases e:(List.range m)[i]? with
 |none=>rw[e] at h;cases h
 |some r =>
  rw[e] at h
  have z:=List.getElem?_eq_some_iff.mp e
  have hl:i<m:=by have:=z.1;rwa [List.length_range] at this
  have hr:i=r:=by have:=z.2;rwa [List.getElem_range] at this
  subst hr
  refine⟨hl,?_⟩
  have h':some (D.int (0+(i:Int)))=some d:=h
  rw[Int.zero_add] at h'
  exact(Option.some.inj h').symm
theorem yw {α:Type}{l:List α}{f:α->D}{i:Nat}{d:D}(h:(Gi 0 (l.map f))[i]?=some d):∃x,l[i]?=some x/\d=.tup [.int (i:Int),f x]:=by
 rw[tR,List.getElem?_map] at h
 cases e:l[i]? with
 |none=>rw[e] at h;cases h
 |some x =>
  rw[e] at h
  exact⟨x,rfl,by simpa using h.symm⟩
end DC
namespace K43
open PySem PySem.Spec PyProof.Rows L2 DC
theorem iP13:(0:Int)<13:=by decide
theorem iP2:(0:Int)<2:=by decide
theorem iP2147483399:(0:Int)<2147483399:=by decide
theorem iP2147483647:(0:Int)<2147483647:=by decide
theorem iP256:(0:Int)<256:=by decide
theorem iP3:(0:Int)<3:=by decide
theorem iP4:(0:Int)<4:=by decide
theorem iP5:(0:Int)<5:=by decide
theorem iP6:(0:Int)<6:=by decide
theorem iP7:(0:Int)<7:=by decide
theorem iP9:(0:Int)<9:=by decide
theorem zL0:0<=sizeLine:=by decide
theorem zL1:1<=sizeLine:=by decide
theorem zL2:2<=sizeLine:=by decide
theorem zL3:3<=sizeLine:=by decide
theorem zL4:4<=sizeLine:=by decide
theorem zL7:7<=sizeLine:=by decide
theorem zL8:8<=sizeLine:=by decide
def top (i:Nat):Stmt:=PySem.Challenge.pw_runrows_k43_lists_that_are_orders.main.body.getD i (.Pass ⟨0,0,0,0⟩)
def bY:Stmt->List Stmt
 |.ClassDef _ _ _ b _ _ _ _ _ _ _=>b
 |_=>[]
theorem cJ {N P:List Str}{sc:Scope}(a:sc.kind=.function:=by rfl)(b:sc.isCoroutine=false:=by rfl)(c:sc.isGenerator=false:=by rfl)(d:N.Nodup:=by decide +kernel)(e:N.take P.length=P:=by rfl)
  (f:∀x∈P,sc.names.lookup x=some .local\/sc.names.lookup x=some .cell:=by decide +kernel)(g:∀y∈sc.names,y.2≠.free:=by decide +kernel):aE N P sc:=⟨a,b,c,d,e,f,g⟩
abbrev g4:Stmt:=top 13
theorem kU:aE ["text"] ["text"] (aC g4):=cJ
abbrev fY:Stmt:=top 14
theorem iH:aE ["text"] ["text"] (aC fY):=cJ
abbrev oZ:Stmt:=top 15
theorem qj:aE ["thing"] ["thing"] (aC oZ):=cJ
abbrev oY:Stmt:=top 16
theorem qi:aE ["thing","words"] ["thing"] (aC oY):=cJ
abbrev kI:Stmt:=top 17
theorem nN:aE ["thing"] ["thing"] (aC kI):=cJ
abbrev mN:Stmt:=top 18
theorem pI:aE ["thing"] ["thing"] (aC mN):=cJ
abbrev kK:Stmt:=top 24
theorem nO:aE ["name"] ["name"] (aC kK):=cJ
abbrev yO:Stmt:=top 25
theorem zf:aE ["lists","found","names","name"] ["lists"] (aC yO):=cJ
abbrev i3:Stmt:=top 36
theorem lr:aE ["holds","words"] ["holds","words"] (aC i3):=cJ
abbrev kO:Stmt:=top 37
theorem nR:aE ["word"] ["word"] (aC kO):=cJ
abbrev oa:Stmt:=top 38
theorem qk:aE ["on"] ["on"] (aC oa):=cJ
abbrev fZ:Stmt:=top 39
theorem iI:aE ["kind"] ["kind"] (aC fZ):=cJ
abbrev uT:Stmt:=top 40
abbrev g6:Stmt:=top 44
theorem kX:aE ["sheet"] ["sheet"] (aC g6):=cJ
abbrev kL:Stmt:=top 45
theorem nP:aE ["names","words"] ["names","words"] (aC kL):=cJ
abbrev eR:Stmt:=top 46
theorem gQ:aE ["line","names","part"] ["line"] (aC eR):=cJ
abbrev iz:Stmt:=top 47
theorem lq:aE ["sheet","found","wanted","line","name"] ["sheet","found"] (aC iz):=cJ
abbrev mP:Stmt:=top 48
theorem pJ:aE ["sheet","found","line","passed","on"] ["sheet","found"] (aC mP):=cJ
abbrev kN:Stmt:=top 49
theorem nQ:aE ["sheet","line"] ["sheet"] (aC kN):=cJ
abbrev mQ:Stmt:=top 51
theorem pK:aE ["sheet","needs","line"] ["sheet"] (aC mQ):=cJ
abbrev iw:Stmt:=top 52
theorem lh:aE ["line","needs","part"] ["line"] (aC iw):=cJ
abbrev iu:Stmt:=top 54
theorem lg:aE ["names","others"] ["names","others"] (aC iu):=cJ
abbrev mM:Stmt:=top 55
theorem pH:aE ["sheet","names","needs","passed","name"] ["sheet","names"] (aC mM):=cJ
abbrev iy:Stmt:=top 57
theorem lj:aE ["first"] ["first"] (aC iy):=cJ
abbrev kH:Stmt:=top 65
theorem nM:aE ["told"] ["told"] (aC kH):=cJ
abbrev mR:Stmt:=top 66
theorem pL:aE ["told","inner","word"] ["told","inner"] (aC mR):=cJ
abbrev mS:Stmt:=top 67
theorem pM:aE ["told","inner","word"] ["told","inner"] (aC mS):=cJ
abbrev g5:Stmt:=top 68
theorem kW:aE ["told"] ["told"] (aC g5):=cJ
abbrev k_:Stmt:=top 69
theorem ql:aE ["told","inner"] ["told"] (aC k_):=cJ
abbrev kE:Stmt:=top 71
theorem nJ:aE ["_law_script","_law_k"] ["_law_script","_law_k"] (aC kE):=cJ
abbrev iq:Stmt:=top 72
theorem lW:aE ["_law_cell_here","_law_k","_law_mix"] ["_law_cell_here","_law_k"] (aC iq):=cJ
abbrev ir:Stmt:=top 73
theorem lX:aE ["_law_cell_here","_law_style","_law_size","_law_spot","_law_word"] ["_law_cell_here"] (aC ir):=cJ
abbrev il:Stmt:=top 74
theorem lU:aE ["_law_told"] ["_law_told"] (aC il):=cJ
abbrev kG:Stmt:=top 75
theorem nK:aE ["_law_kind","_law_seed","_law_kinds_here","_law_some"] ["_law_kind","_law_seed","_law_kinds_here"] (aC kG):=cJ
abbrev ik:Stmt:=top 76
theorem lT:aE ["_law_kind","_law_seed"] ["_law_kind","_law_seed"] (aC ik):=cJ
abbrev eQ:Stmt:=top 77
theorem lZ:aE ["_law_kind","_law_seed","_law_deep","_law_kinds_here","_law_way","_law_one","_law_truths","_law_name"] ["_law_kind","_law_seed","_law_deep","_law_kinds_here","_law_way"] (aC eQ):=cJ
abbrev fF:Stmt:=top 78
theorem ft:aE ["_law_kind","_law_seed","_law_deep","_law_kinds_here","_law_way","_law_sign","_law_both","_law_one","_law_truth"] ["_law_kind","_law_seed","_law_deep","_law_kinds_here"] (aC fF):=cJ
abbrev eu:Stmt:=top 79
theorem kT:aE ["_law_told","_law_seed","_law_kinds_here","_law_inner_here","_law_at"] ["_law_told","_law_seed","_law_kinds_here"] (aC eu):=cJ
abbrev ip:Stmt:=top 80
theorem lV:aE ["_law_names_here","_law_cell_here","_law_many","_law_kinds_here","_law_k"] ["_law_names_here","_law_cell_here","_law_many"] (aC ip):=cJ
abbrev fq:Stmt:=top 81
theorem lY:aE ["_law_told","_law_found","_law_part","_law_own"] ["_law_told"] (aC fq):=cJ
abbrev ef:Stmt:=top 82
theorem gj:aE ["_law_ons_here","_law_lines","_law_found","_law_name","_law_kind","_law_told","_law_on"] ["_law_ons_here","_law_lines"] (aC ef):=cJ
abbrev gz:Stmt:=top 83
theorem kQ:aE ["_law_names_here","_law_cell_here","_law_found","_law_k","_law_name"] ["_law_names_here","_law_cell_here"] (aC gz):=cJ
abbrev mL:Stmt:=top 84
theorem pG:aE ["_law_names_here","_law_kinds_here","_law_ranked_here","_law_cell_here","_law_ons_here","_law_k","_law_name","_law_some"] ["_law_names_here","_law_kinds_here","_law_ranked_here","_law_cell_here"] (aC mL):=cJ
abbrev dJ:Stmt:=top 85
theorem fG:aE ["_law_names_here","_law_kinds_here","_law_ranked_here","_law_ons_here","_law_script","_law_spoilt_here","_law_lines","_law_k","_law_name","_law_seed","_law_some","_law_one","_law_told"] ["_law_names_here","_law_kinds_here","_law_ranked_here","_law_ons_here","_law_script","_law_spoilt_here"] (aC dJ):=cJ
abbrev dM:Stmt:=top 86
theorem fH:aE ["_law_names_here","_law_kinds_here","_law_ons_here","_law_lines","_law_inputs","_law_rows"] ["_law_names_here","_law_kinds_here","_law_ons_here","_law_lines"] (aC dM):=cJ
abbrev ij:Stmt:=top 87
theorem lS:aE ["_law_script","_law_most","_law_names_here","_law_kinds_here","_law_ranked_here","_law_ons_here","_law_lines"] ["_law_script","_law_most"] (aC ij):=cJ
abbrev fX:Stmt:=top 88
theorem iG:aE ["_law_built_here"] ["_law_built_here"] (aC fX):=cJ
abbrev eP:Stmt:=top 89
theorem gP:aE ["_law_needs_here","_law_cell_here","_law_found","_law_k","_law_some"] ["_law_needs_here","_law_cell_here"] (aC eP):=cJ
abbrev kC:Stmt:=top 90
theorem nI:aE ["_law_names_here","_law_cell_here","_law_way","_law_at","_law_to","_law_found"] ["_law_names_here","_law_cell_here"] (aC kC):=cJ
abbrev oX:Stmt:=top 91
theorem qh:aE ["_law_needs_here","_law_names_here","_law_k","_law_name"] ["_law_needs_here","_law_names_here"] (aC oX):=cJ
abbrev kJ:Stmt:=top 92
theorem DS:aE ["_law_script","_law_built_here","_law_sheet","_law_needs_here","_law_k","_law_cell_here","_law_names_here","_law_ahead","_law_found"] ["_law_script"] (aC kJ):=cJ
abbrev cR:Stmt:=(bY (top 26)).getD 0 (.Pass ⟨0,0,0,0⟩)
theorem e6:aE ["self"] ["self"] (aC cR):=cJ
abbrev aP:Stmt:=(bY (top 26)).getD 1 (.Pass ⟨0,0,0,0⟩)
theorem aZ:aE ["self"] ["self"] (aC aP):=cJ
abbrev bU:Stmt:=(bY (top 26)).getD 2 (.Pass ⟨0,0,0,0⟩)
theorem nH:aE ["self"] ["self"] (aC bU):=cJ
abbrev bG:Stmt:=(bY (top 26)).getD 3 (.Pass ⟨0,0,0,0⟩)
theorem lO:aE ["self"] ["self"] (aC bG):=cJ
abbrev aX:Stmt:=(bY (top 26)).getD 4 (.Pass ⟨0,0,0,0⟩)
theorem fe:aE ["self"] ["self"] (aC aX):=cJ
abbrev bH:Stmt:=(bY (top 26)).getD 5 (.Pass ⟨0,0,0,0⟩)
theorem lP:aE ["self"] ["self"] (aC bH):=cJ
abbrev ba:Stmt:=(bY (top 26)).getD 6 (.Pass ⟨0,0,0,0⟩)
theorem lQ:aE ["self"] ["self"] (aC ba):=cJ
abbrev eY:Stmt:=(bY (top 27)).getD 0 (.Pass ⟨0,0,0,0⟩)
theorem gc:aE ["self","value"] ["self","value"] (aC eY):=cJ
abbrev eZ:Stmt:=(bY (top 28)).getD 0 (.Pass ⟨0,0,0,0⟩)
theorem gg:aE ["self","name"] ["self","name"] (aC eZ):=cJ
abbrev ck:Stmt:=(bY (top 28)).getD 1 (.Pass ⟨0,0,0,0⟩)
theorem gM:aE ["self"] ["self"] (aC ck):=cJ
abbrev eN:Stmt:=(bY (top 29)).getD 0 (.Pass ⟨0,0,0,0⟩)
theorem gO:aE ["self","part"] ["self","part"] (aC eN):=cJ
abbrev eO:Stmt:=(bY (top 29)).getD 1 (.Pass ⟨0,0,0,0⟩)
theorem jB:aE ["self"] ["self"] (aC eO):=cJ
abbrev fS:Stmt:=(bY (top 30)).getD 0 (.Pass ⟨0,0,0,0⟩)
theorem iB:aE ["self","sign","one","other"] ["self","sign","one","other"] (aC fS):=cJ
abbrev fk:Stmt:=(bY (top 30)).getD 1 (.Pass ⟨0,0,0,0⟩)
theorem lN:aE ["self"] ["self"] (aC fk):=cJ
abbrev eE:Stmt:=(bY (top 31)).getD 0 (.Pass ⟨0,0,0,0⟩)
theorem gI:aE ["self","truth","one","other"] ["self","truth","one","other"] (aC eE):=cJ
abbrev eF:Stmt:=(bY (top 31)).getD 1 (.Pass ⟨0,0,0,0⟩)
theorem i9:aE ["self"] ["self"] (aC eF):=cJ
abbrev c_:Stmt:=(bY (top 41)).getD 0 (.Pass ⟨0,0,0,0⟩)
theorem gf:aE ["self","name","kind","on"] ["self","name","kind","on"] (aC c_):=cJ
abbrev eI:Stmt:=(bY (top 41)).getD 1 (.Pass ⟨0,0,0,0⟩)
theorem gK:aE ["self"] ["self"] (aC eI):=cJ
abbrev eJ:Stmt:=(bY (top 41)).getD 2 (.Pass ⟨0,0,0,0⟩)
theorem gL:aE ["self"] ["self"] (aC eJ):=cJ
abbrev eG:Stmt:=(bY (top 41)).getD 3 (.Pass ⟨0,0,0,0⟩)
theorem gJ:aE ["self"] ["self"] (aC eG):=cJ
abbrev eK:Stmt:=(bY (top 42)).getD 0 (.Pass ⟨0,0,0,0⟩)
theorem jA:aE ["self","name","kind","part","on"] ["self","name","kind","part","on"] (aC eK):=cJ
abbrev fU:Stmt:=(bY (top 42)).getD 1 (.Pass ⟨0,0,0,0⟩)
theorem iD:aE ["self"] ["self"] (aC fU):=cJ
abbrev fV:Stmt:=(bY (top 42)).getD 2 (.Pass ⟨0,0,0,0⟩)
theorem iE:aE ["self"] ["self"] (aC fV):=cJ
abbrev fT:Stmt:=(bY (top 42)).getD 3 (.Pass ⟨0,0,0,0⟩)
theorem iC:aE ["self"] ["self"] (aC fT):=cJ
abbrev ee:Stmt:=(bY (top 43)).getD 0 (.Pass ⟨0,0,0,0⟩)
theorem gh:aE ["self","name","inputs","outputs","lines","found"] ["self","name","inputs","outputs","lines"] (aC ee):=cJ
abbrev eM:Stmt:=(bY (top 43)).getD 1 (.Pass ⟨0,0,0,0⟩)
theorem gN:aE ["self"] ["self"] (aC eM):=cJ
abbrev gy:Stmt:=(bY (top 43)).getD 2 (.Pass ⟨0,0,0,0⟩)
theorem kP:aE ["self","found","line"] ["self"] (aC gy):=cJ
abbrev cY:Stmt:=(bY (top 43)).getD 3 (.Pass ⟨0,0,0,0⟩)
theorem eT:aE ["self","found","line","name"] ["self"] (aC cY):=cJ
abbrev cj:Stmt:=(bY (top 59)).getD 0 (.Pass ⟨0,0,0,0⟩)
theorem gH:aE ["self","part","first"] ["self","part","first"] (aC cj):=cJ
abbrev eC:Stmt:=(bY (top 59)).getD 1 (.Pass ⟨0,0,0,0⟩)
theorem i7:aE ["self"] ["self"] (aC eC):=cJ
abbrev eD:Stmt:=(bY (top 59)).getD 2 (.Pass ⟨0,0,0,0⟩)
theorem i8:aE ["self"] ["self"] (aC eD):=cJ
abbrev gG:Stmt:=(bY (top 60)).getD 0 (.Pass ⟨0,0,0,0⟩)
theorem i_:aE ["self","head","rest"] ["self","head","rest"] (aC gG):=cJ
abbrev gb:Stmt:=(bY (top 60)).getD 1 (.Pass ⟨0,0,0,0⟩)
theorem nG:aE ["self"] ["self"] (aC gb):=cJ
abbrev fW:Stmt:=(bY (top 61)).getD 0 (.Pass ⟨0,0,0,0⟩)
theorem iF:aE ["self","part","name"] ["self","part","name"] (aC fW):=cJ
abbrev fm:Stmt:=(bY (top 61)).getD 1 (.Pass ⟨0,0,0,0⟩)
theorem lR:aE ["self"] ["self"] (aC fm):=cJ
abbrev dA:Stmt:=(bY (top 61)).getD 2 (.Pass ⟨0,0,0,0⟩)
theorem gi:aE ["self"] ["self"] (aC dA):=cJ
abbrev dX:Stmt:=(bY (top 62)).getD 0 (.Pass ⟨0,0,0,0⟩)
theorem iA:aE ["self","part","name","first"] ["self","part","name","first"] (aC dX):=cJ
abbrev fj:Stmt:=(bY (top 62)).getD 1 (.Pass ⟨0,0,0,0⟩)
theorem lM:aE ["self"] ["self"] (aC fj):=cJ
abbrev cz:Stmt:=(bY (top 62)).getD 2 (.Pass ⟨0,0,0,0⟩)
theorem gd:aE ["self"] ["self"] (aC cz):=cJ
inductive Pt where
 |given (v:D)|named (n:Str)|turned (p:Pt)|pair (g:Str) (a b:Pt)|choice (t a b:Pt)
 |before (p:Pt) (f:D)|led (h r:Pt)|cS (p:Pt) (n:Str)|held (p:Pt) (n:Str) (f:D)
structure bR where
 given:Addr
 named:Addr
 turned:Addr
 pair:Addr
 choice:Addr
 before:Addr
 led:Addr
 cS:Addr
 held:Addr
def Pt.cls (A:bR):Pt->Addr
 |.given _=>A.given|.named _=>A.named|.turned _=>A.turned|.pair _ _ _=>A.pair|.choice _ _ _=>A.choice
 |.before _ _=>A.before|.led _ _=>A.led|.cS _ _=>A.cS|.held _ _ _=>A.held
def Pt.d (A:bR):Pt->D
 |.given v=>.obj A.given [("value",v)]
 |.named n=>.obj A.named [("name",.str n)]
 |.turned p=>.obj A.turned [("part",p.d A)]
 |.pair g a b=>.obj A.pair [("sign",.str g),("one",a.d A),("other",b.d A)]
 |.choice t a b=>.obj A.choice [("truth",t.d A),("one",a.d A),("other",b.d A)]
 |.before p f=>.obj A.before [("part",p.d A),("first",f)]
 |.led h r=>.obj A.led [("head",h.d A),("rest",r.d A)]
 |.cS p n=>.obj A.cS [("part",p.d A),("name",.str n)]
 |.held p n f=>.obj A.held [("part",p.d A),("name",.str n),("first",f)]
def Pt.depth:Pt->Nat
 |.given _=>1|.named _=>1|.turned p=>p.depth+1|.pair _ a b=>max a.depth b.depth+1|.choice t a b=>max t.depth (max a.depth b.depth)+1
 |.before p _=>p.depth+1|.led h r=>max h.depth r.depth+1|.cS p _=>p.depth+1|.held p _ _=>p.depth+1
def Pt.inner:Pt->List Pt
 |.given _=>[]|.named _=>[]|.turned p=>[p]|.pair _ a b=>[a,b]|.choice t a b=>[t,a,b]
 |.before p _=>[p]|.led h r=>[h,r]|.cS p _=>[p]|.held p _ _=>[p]
def Pt.told:Pt->D
 |.given v=>.tup [.str "given",v]
 |.named n=>.tup [.str "named",.str n]
 |.turned p=>.tup [.str "not",p.told]
 |.pair g a b=>.tup [.str g,a.told,b.told]
 |.choice t a b=>.tup [.str "if",t.told,a.told,b.told]
 |.before p f=>.tup [.str "before",p.told,f]
 |.led h r=>.tup [.str "then",h.told,r.told]
 |.cS p n=>.tup [.str "when",p.told,.str n]
 |.held p n f=>.tup [.str "held",p.told,.str n,f]
structure gT (K:PySem.W.Frag) (A:bR):Prop where
 nd:[A.given,A.named,A.turned,A.pair,A.choice,A.before,A.led,A.cS,A.held].Nodup
 cl:∀C∈[A.given,A.named,A.turned,A.pair,A.choice,A.before,A.led,A.cS,A.held],rE K C
 g7:∀C∈[A.given,A.named,A.turned,A.pair,A.choice,A.before,A.led,A.cS,A.held],∀f∈(["value","name","part","sign","one","other","truth","first","head","rest"]:List Str),dE K C f
theorem Pt.aW (A:bR)(p:Pt):p.cls A∈[A.given,A.named,A.turned,A.pair,A.choice,A.before,A.led,A.cS,A.held]:=by cases p<;>simp[Pt.cls]
def Pt.ix:Pt->Nat
 |.given _=>0|.named _=>1|.turned _=>2|.pair _ _ _=>3|.choice _ _ _=>4|.before _ _=>5|.led _ _=>6|.cS _ _=>7|.held _ _ _=>8
theorem Pt.at_ (A:bR)(p:Pt):[A.given,A.named,A.turned,A.pair,A.choice,A.before,A.led,A.cS,A.held][p.ix]?=some (p.cls A):=by cases p<;>rfl
theorem jX {α:Type}:∀{l:List α} {i j:Nat} {x:α},l.Nodup->l[i]?=some x->l[j]?=some x->i=j:=fun{l i j x} nd a b=>by
 have hi:i<l.length:=(List.getElem?_eq_some_iff.mp a).1
 exact(List.getElem?_inj hi nd).mp (a.trans b.symm)
theorem iS {K:PySem.W.Frag}{A:bR}(hA:gT K A){p q:Pt}(h:p.cls A=q.cls A):p.ix=q.ix:=jX hA.nd (p.at_ A) (by rw[h];exact q.at_ A)
theorem vp {K:PySem.W.Frag}{A:bR}(hA:gT K A){p:Pt}(h:p.cls A=A.given):∃v,p=.given v:=by
 have i:=iS hA (q:=.given .ak) h
 cases p with
 |given v=>exact⟨v,rfl⟩
 |_=>exact absurd i (by simp only[Pt.ix];decide)
theorem vq {K:PySem.W.Frag}{A:bR}(hA:gT K A){p:Pt}(h:p.cls A=A.named):∃n,p=.named n:=by
 have i:=iS hA (q:=.named "") h
 cases p with
 |named n=>exact⟨n,rfl⟩
 |_=>exact absurd i (by simp only[Pt.ix];decide)
theorem ra {K:PySem.W.Frag}{A:bR}(hA:gT K A){p:Pt}(h:p.cls A=A.turned):∃x,p=.turned x:=by
 have i:=iS hA (q:=.turned (.given .ak)) h
 cases p with
 |turned x=>exact⟨x,rfl⟩
 |_=>exact absurd i (by simp only[Pt.ix];decide)
theorem zF {K:PySem.W.Frag}{A:bR}(hA:gT K A){p:Pt}(h:p.cls A=A.pair):∃g x y,p=.pair g x y:=by
 have i:=iS hA (q:=.pair "" (.given .ak) (.given .ak)) h
 cases p with
 |pair g x y=>exact⟨g,x,y,rfl⟩
 |_=>exact absurd i (by simp only[Pt.ix];decide)
theorem rZ {K:PySem.W.Frag}{A:bR}(hA:gT K A){p:Pt}(h:p.cls A=A.choice):∃t x y,p=.choice t x y:=by
 have i:=iS hA (q:=.choice (.given .ak) (.given .ak) (.given .ak)) h
 cases p with
 |choice t x y=>exact⟨t,x,y,rfl⟩
 |_=>exact absurd i (by simp only[Pt.ix];decide)
theorem oG {K:PySem.W.Frag}{A:bR}(hA:gT K A){p:Pt}(h:p.cls A=A.before):∃x f,p=.before x f:=by
 have i:=iS hA (q:=.before (.given .ak) .ak) h
 cases p with
 |before x f=>exact⟨x,f,rfl⟩
 |_=>exact absurd i (by simp only[Pt.ix];decide)
theorem CH {K:PySem.W.Frag}{A:bR}(hA:gT K A){p:Pt}(h:p.cls A=A.led):∃x y,p=.led x y:=by
 have i:=iS hA (q:=.led (.given .ak) (.given .ak)) h
 cases p with
 |led x y=>exact⟨x,y,rfl⟩
 |_=>exact absurd i (by simp only[Pt.ix];decide)
theorem CI {K:PySem.W.Frag}{A:bR}(hA:gT K A){p:Pt}(h:p.cls A=A.cS):∃x n,p=.cS x n:=by
 have i:=iS hA (q:=.cS (.given .ak) "") h
 cases p with
 |cS x n=>exact⟨x,n,rfl⟩
 |_=>exact absurd i (by simp only[Pt.ix];decide)
theorem zE {K:PySem.W.Frag}{A:bR}(hA:gT K A){p:Pt}(h:p.cls A=A.held):∃x n f,p=.held x n f:=by
 have i:=iS hA (q:=.held (.given .ak) "" .ak) h
 cases p with
 |held x n f=>exact⟨x,n,f,rfl⟩
 |_=>exact absurd i (by simp only[Pt.ix];decide)
def qp (A:bR)(n:Nat)(g:Pt->D)(C:Addr):cF:=λds Q=>∃p:Pt,ds=[p.d A]/\p.cls A=C/\p.depth<=n/\Q (g p)
theorem rL {A:bR}{n:Nat}{g:Pt->D}{C:Addr}:cK (qp A n g C):=λds P P' f ⟨p,e,c,h,q⟩=>⟨p,e,c,h,f _ q⟩
theorem rh {A:bR}{n:Nat}{g:Pt->D}{C:Addr}(ds:List D)(Q:D->Prop)(h:qp A n g C ds Q):ds.length=1:=by obtain⟨p,e,_⟩:=h;rw[e];rfl
def ur (A:bR)(C:Addr):Prop:=∃p:Pt,p.cls A=C
def wH (m:Str):Prop:=∀f∈(["value","name","part","sign","one","other","truth","first","head","rest"]:List Str),(m == f)=false
theorem pZ (A:bR){m:Str}(h:wH m)(p:Pt):∃gs,p.d A=.obj (p.cls A) gs/\gs.lookup m=none:=by
 have l:∀{f:Str} {d:D} {r:List (Str × D)},f∈(["value","name","part","sign","one","other","truth","first","head","rest"]:List Str)->r.lookup m=none->((f,d)::r).lookup m=none:=λhf hr=>by
  rw[List.lookup_cons,h _ hf]
  exact hr
 cases p<;>refine⟨_,rfl,?_⟩<;>repeat (first|rfl|refine l (by decide) ?_)
theorem bI {K:PySem.W.Frag}{δ:SD}{i:Nat}{C:Addr}{gs:List (Str × D)}{f:Str}{r:D}{Q:D->Prop}(h:δ[i]?=some (some (.obj C gs)))(c:rE K C)(n:dE K C f)(l:gs.lookup f=some r)(q:Q r):Jo K (lE i) f δ Q:=⟨_,h,C,gs,r,rfl,c,n,l,q⟩
theorem dR {A:bR}{n:Nat}{g:Pt->D}{m:Str}{ta:ED}{δ:SD}{p:Pt}{Q:D->Prop}(mt:bX ta)(hm:wH m)(h:ta δ λd=>d=p.d A)(hd:p.depth<=n)(q:Q (g p)) :
  pP (ur A) m (qp A n g) [] ta tI δ Q:=mt _ _ _ (λd e=>by
 obtain⟨gs,e1,e2⟩:=pZ A hm p
 exact⟨p.cls A,gs,e.trans e1,e2,⟨p,rfl⟩,p,by rw[List.append_nil,e],rfl,hd,q⟩) h
theorem kx:wH "inner":=by unfold wH;decide +kernel
def isVal (d:D):Prop:=(∃b,d=.bl b)\/∃i:Int,d=.int i/\-128<=i/\i<=127
def dW (d:D):Prop:=d=.ak\/isVal d
def L_ (A:bR)(n:Nat)(ok:Pt->Prop)(g:Pt->D)(C:Addr):cF:=λds Q=>∃p:Pt,ds=[p.d A]/\p.cls A=C/\p.depth<=n/\ok p/\Q (g p)
theorem Ni {A:bR}{n:Nat}{ok:Pt->Prop}{g:Pt->D}{C:Addr}:cK (L_ A n ok g C):=λds P P' f ⟨p,e,c,h,o,q⟩=>⟨p,e,c,h,o,f _ q⟩
theorem OA {A:bR}{n:Nat}{ok:Pt->Prop}{g:Pt->D}{C:Addr}(ds:List D)(Q:D->Prop)(h:L_ A n ok g C ds Q):ds.length=1:=by obtain⟨p,e,_⟩:=h;rw[e];rfl
theorem dB {A:bR}{n:Nat}{ok:Pt->Prop}{g:Pt->D}{m:Str}{ta:ED}{δ:SD}{p:Pt}{Q:D->Prop}(mt:bX ta)(hm:wH m)(h:ta δ λd=>d=p.d A)(hd:p.depth<=n)(ho:ok p)(q:Q (g p)) :
  pP (ur A) m (L_ A n ok g) [] ta tI δ Q:=mt _ _ _ (λd e=>by
 obtain⟨gs,e1,e2⟩:=pZ A hm p
 exact⟨p.cls A,gs,e.trans e1,e2,⟨p,rfl⟩,p,by rw[List.append_nil,e],rfl,hd,ho,q⟩) h
abbrev MQ (P:Program)(w:World)(K:PySem.W.Frag)(mg:Str->Option Value)(base:Heap)(A:bR)(j:Nat)(m:Str)(n:Nat)(ok:Pt->Prop)(g:Pt->D):Prop:=∀C,ur A C->cA P w K mg base j C m (L_ A n ok g C) []
section
seal wpAny
variable {P:Program}{w:World}{K:PySem.W.Frag}{mg:Str->Option Value}{base:Heap}{A:bR}{n j:Nat}
abbrev MP (P:Program)(w:World)(K:PySem.W.Frag)(mg:Str->Option Value)(base:Heap)(A:bR)(j:Nat)(m:Str)(n:Nat)(g:Pt->D):Prop:=∀C,ur A C->cA P w K mg base j C m (qp A n g C) []
theorem Pt.fu (p:Pt):0<p.depth:=by cases p<;>simp only[Pt.depth]<;>omega
theorem Dm.never {C:Addr}{m qual:Str}{st:Stmt}{ps:List Str}{sd:cF}(d:Dm K C m qual st ps)(ms:cK sd)(h:∀ds Q,¬sd ds Q):cA P w K mg base j C m sd []:=by
 obtain⟨f,fd,F,M,c,b⟩:=d.ex
 exact⟨⟨f,fd,ps,[],[],c,M,⟨λvs H Q E ⟨ds,_,q⟩=>(h _ _ q).elim,λA outer s H args us vs Q E _ _ _ _ ⟨ds,_,q⟩=>(h _ _ q).elim⟩,b,.nil,λ_=>.nil⟩,ms⟩
theorem Jr {g:Pt->D}{C:Addr}(ds:List D)(Q:D->Prop):¬ qp A 0 g C ds Q:=fun⟨p,_,_,h,_⟩=>absurd p.fu (by omega)
mutual
def Pt.size:Pt->Nat
 |.given _=>1|.named _=>1|.turned p=>p.size+1|.pair _ a b=>a.size+b.size+1|.choice t a b=>t.size+a.size+b.size+1
 |.before p _=>p.size+1|.led h r=>h.size+r.size+1|.cS p _=>p.size+1|.held p _ _=>p.size+1
end
theorem Pt.size_inner (p:Pt):(p.size:Int)=1+(p.inner.map λq=>(q.size:Int)).sum:=by
 cases p<;>simp only[Pt.size,Pt.inner,List.map_cons,List.map_nil,List.sum_cons,List.sum_nil]<;>omega
theorem Pt.vR (p:Pt):(p.depth:Int)=1+rM 0 (p.inner.map λq=>(q.depth:Int)):=by
 cases p<;>simp only[Pt.depth,Pt.inner,List.map_cons,List.map_nil,rM,List.foldl_cons,List.foldl_nil]<;>omega
theorem Pt.d6 {p q:Pt}(h:q∈p.inner){n:Nat}(hd:p.depth<=n+1):q.depth<=n:=by
 cases p<;>simp only[Pt.inner,Pt.depth,List.mem_cons,List.not_mem_nil,or_false] at h hd
 case turned=>subst h;omega
 case pair=>rcases h with rfl|rfl<;>omega
 case choice=>rcases h with rfl|rfl|rfl<;>omega
 case before=>subst h;omega
 case led=>rcases h with rfl|rfl<;>omega
 case cS=>subst h;omega
 case held=>subst h;omega
theorem Pt.df (p:Pt):p.inner.length<=3:=by cases p<;>simp[Pt.inner]
def d0 (A:bR)(p:Pt):D:=.tup (p.inner.map (Pt.d A))
theorem wI:wH "size":=by unfold wH;decide +kernel
theorem r_:wH "depth":=by unfold wH;decide +kernel
theorem b7 {i:Nat}:bX (lE i):=λδ P P' f ⟨d,hd,k⟩=>⟨d,hd,f d k⟩
theorem mr {A:bR}{g:Pt->D}{ps:List Pt}{i:Nat}{d:D}{o:Option D}(h1:(ps.map (Pt.d A))[i]?=some d)(h2:(ps.map λq=>some (g q))[i]?=some o):∃q∈ps,q.d A=d/\some (g q)=o:=by
 rw[List.getElem?_map] at h1 h2
 cases e:ps[i]? with
 |none=>rw[e] at h1;cases h1
 |some q =>
  rw[e] at h1 h2
  exact⟨q,List.mem_of_getElem? e,by simpa using h1,by simpa using h2⟩
theorem filterMap_some {α β:Type}(f:α->β):∀l:List α,l.filterMap (id∘λq=>some (f q))=l.map f
 |[]=>rfl
 |a::l=>by rw[List.map_cons,<- filterMap_some f l];rfl
theorem size_of (d:∀C,ur A C->Dm K C "size" "Part.size" bU ["self"])(n_sum:mg "sum"=none)(m_inner:MP P w K mg base A j "inner" (n+1) (d0 A))(m_size:MP P w K mg base A j "size" n λp=>.int p.size):MP P w K mg base A (j+1) "size" (n+1) λp=>.int p.size:=by
 intro C hC
 refine(d C hC).dN nH rL rh (λf cdv A outer s H E hr=>have hu:=hr.units;have hh:=hr.hd;have sc:=nH
  (aF (aQ (bp aD (KJ hh (by rfl) n_sum (aA (l9 (x:="part") (caps:=[]) (cn:=[]) (cl:=[]) (lI (by rfl) (by rfl) (by decide +kernel) (by decide +kernel) (by decide +kernel)) rfl (bw (dh m_inner hr (by omega) (dv 0))) (λC fp s₂ H₂=>bF (i:=0) (show(["part"]:List Str).Nodup by decide +kernel) rfl (Or.inl rfl) (.inr rfl)) (λC fp s₂ H₂=>eU) (λC fp s₂ H₂=>(dh m_size hr (by omega) (dv 0)))) aB)))))) ?_
 rintro ds Q ⟨p,rfl,hc,hd,q⟩
 refine dR b7 kx ⟨_,rfl,rfl⟩ hd ?_
 refine⟨p.inner.map (Pt.d A),rfl,p.inner.map λq=>some (.int q.size),by simp,λi d o hd' ho=>?_,?_,?_⟩
 ·obtain⟨r,hr,e1,e2⟩:=mr hd' ho
  subst e1 e2
  exact⟨rfl,λ_=>dR b7 wI ⟨_,rfl,rfl⟩ (p.d6 hr hd) rfl⟩
 ·rw[List.length_map];exact Nat.lt_of_le_of_lt p.df (by decide)
 ·refine⟨p.inner.map λq=>(q.size:Int),?_,?_⟩
  ·rw[List.filterMap_map,List.map_map]
   congr 2
   exact filterMap_some _ _
  ·have q':Q (.int (p.size:Int)):=q
   rw[Pt.size_inner] at q'
   exact q'
theorem By (d:∀C,ur A C->Dm K C "depth" "Part.depth" bG ["self"])(n_max:mg "max"=none)(m_inner:MP P w K mg base A j "inner" (n+1) (d0 A))(m_depth:MP P w K mg base A j "depth" n λp=>.int p.depth):MP P w K mg base A (j+1) "depth" (n+1) λp=>.int p.depth:=by
 intro C hC
 refine(d C hC).dN lO rL rh (λf cdv A outer s H E hr=>have hu:=hr.units;have hh:=hr.hd;have sc:=lO
  (aF (aQ (bp aD (Hr hh (by rfl) n_max (l9 (x:="part") (caps:=[]) (cn:=[]) (cl:=[]) (lI (by rfl) (by rfl) (by decide +kernel) (by decide +kernel) (by decide +kernel)) rfl (bw (dh m_inner hr (by omega) (dv 0))) (λC fp s₂ H₂=>bF (i:=0) (show(["part"]:List Str).Nodup by decide +kernel) rfl (Or.inl rfl) (.inr rfl)) (λC fp s₂ H₂=>eU) (λC fp s₂ H₂=>(dh m_depth hr (by omega) (dv 0)))) aD))))) ?_
 rintro ds Q ⟨p,rfl,hc,hd,q⟩
 refine dR b7 kx ⟨_,rfl,rfl⟩ hd ?_
 refine⟨p.inner.map (Pt.d A),rfl,p.inner.map λq=>some (.int q.depth),by simp,λi d o hd' ho=>?_,?_,?_⟩
 ·obtain⟨r,hr,e1,e2⟩:=mr hd' ho
  subst e1 e2
  exact⟨rfl,λ_=>dR b7 r_ ⟨_,rfl,rfl⟩ (p.d6 hr hd) rfl⟩
 ·rw[List.length_map];exact Nat.lt_of_le_of_lt p.df (by decide)
 ·refine⟨p.inner.map λq=>(q.depth:Int),0,?_,rfl,?_⟩
  ·rw[List.filterMap_map,List.map_map]
   congr 1
   exact filterMap_some _ _
  ·have q':Q (.int (p.depth:Int)):=q
   rw[Pt.vR] at q'
   exact q'
theorem Pt.tq {p q:Pt}(h:q∈p.inner):q.size<=p.size:=by
 cases p<;>simp only[Pt.inner,Pt.size,List.mem_cons,List.not_mem_nil,or_false] at h ⊢
 case turned=>subst h;omega
 case pair=>rcases h with rfl|rfl<;>omega
 case choice=>rcases h with rfl|rfl|rfl<;>omega
 case before=>subst h;omega
 case led=>rcases h with rfl|rfl<;>omega
 case cS=>subst h;omega
 case held=>subst h;omega
structure nj (K:PySem.W.Frag) (A:bR):Prop where
 given:Dm K A.given "inner" "Part.inner" cR ["self"]
 named:Dm K A.named "inner" "Part.inner" cR ["self"]
 turned:Dm K A.turned "inner" "Turned.inner" eO ["self"]
 pair:Dm K A.pair "inner" "Pair.inner" fk ["self"]
 choice:Dm K A.choice "inner" "Choice.inner" eF ["self"]
 before:Dm K A.before "inner" "Before.inner" eC ["self"]
 led:Dm K A.led "inner" "Led.inner" gb ["self"]
 cS:Dm K A.cS "inner" "When.inner" fm ["self"]
 held:Dm K A.held "inner" "Held.inner" fj ["self"]
theorem vm (hA:gT K A)(d:Dm K A.given "inner" "Part.inner" cR ["self"]):cA P w K mg base (j+1) A.given "inner" (qp A n (d0 A) A.given) []:=by
 refine d.dN e6 rL rh (λf cdv A outer s H E hr=>have hu:=hr.units;have hh:=hr.hd;have sc:=e6
  (aF (aQ (cB aB)))) ?_
 rintro ds Q ⟨p,rfl,hc,hd,q⟩
 have c:=hA.cl _ (Pt.aW A p)
 have no:=hA.g7 _ (Pt.aW A p)
 obtain⟨v,rfl⟩:=vp hA hc
 exact⟨zL0,q⟩
theorem vn (hA:gT K A)(d:Dm K A.named "inner" "Part.inner" cR ["self"]):cA P w K mg base (j+1) A.named "inner" (qp A n (d0 A) A.named) []:=by
 refine d.dN e6 rL rh (λf cdv A outer s H E hr=>have hu:=hr.units;have hh:=hr.hd;have sc:=e6
  (aF (aQ (cB aB)))) ?_
 rintro ds Q ⟨p,rfl,hc,hd,q⟩
 have c:=hA.cl _ (Pt.aW A p)
 have no:=hA.g7 _ (Pt.aW A p)
 obtain⟨s,rfl⟩:=vq hA hc
 exact⟨zL0,q⟩
theorem uA (hA:gT K A)(d:Dm K A.turned "inner" "Turned.inner" eO ["self"]):cA P w K mg base (j+1) A.turned "inner" (qp A n (d0 A) A.turned) []:=by
 refine d.dN jB rL rh (λf cdv A outer s H E hr=>have hu:=hr.units;have hh:=hr.hd;have sc:=jB
  (aF (aQ (cB (aA (bD K rfl (dv 0) (by rfl)) aB))))) ?_
 rintro ds Q ⟨p,rfl,hc,hd,q⟩
 have c:=hA.cl _ (Pt.aW A p)
 have no:=hA.g7 _ (Pt.aW A p)
 obtain⟨x,rfl⟩:=ra hA hc
 exact(bI rfl c (no _ (by decide)) (by kernel_rfl) ⟨zL1,q⟩)
theorem xT (hA:gT K A)(d:Dm K A.pair "inner" "Pair.inner" fk ["self"]):cA P w K mg base (j+1) A.pair "inner" (qp A n (d0 A) A.pair) []:=by
 refine d.dN lN rL rh (λf cdv A outer s H E hr=>have hu:=hr.units;have hh:=hr.hd;have sc:=lN
  (aF (aQ (cB (aA (bD K rfl (dv 0) (by rfl)) (aA (bD K rfl (dv 0) (by rfl)) aB)))))) ?_
 rintro ds Q ⟨p,rfl,hc,hd,q⟩
 have c:=hA.cl _ (Pt.aW A p)
 have no:=hA.g7 _ (Pt.aW A p)
 obtain⟨g,x,y,rfl⟩:=zF hA hc
 exact(bI rfl c (no _ (by decide)) (by kernel_rfl) (bI rfl c (no _ (by decide)) (by kernel_rfl) ⟨zL2,q⟩))
theorem t_ (hA:gT K A)(d:Dm K A.choice "inner" "Choice.inner" eF ["self"]):cA P w K mg base (j+1) A.choice "inner" (qp A n (d0 A) A.choice) []:=by
 refine d.dN i9 rL rh (λf cdv A outer s H E hr=>have hu:=hr.units;have hh:=hr.hd;have sc:=i9
  (aF (aQ (cB (aA (bD K rfl (dv 0) (by rfl)) (aA (bD K rfl (dv 0) (by rfl)) (aA (bD K rfl (dv 0) (by rfl)) aB))))))) ?_
 rintro ds Q ⟨p,rfl,hc,hd,q⟩
 have c:=hA.cl _ (Pt.aW A p)
 have no:=hA.g7 _ (Pt.aW A p)
 obtain⟨x,y,z,rfl⟩:=rZ hA hc
 exact(bI rfl c (no _ (by decide)) (by kernel_rfl) (bI rfl c (no _ (by decide)) (by kernel_rfl) (bI rfl c (no _ (by decide)) (by kernel_rfl) ⟨zL3,q⟩)))
theorem tw (hA:gT K A)(d:Dm K A.before "inner" "Before.inner" eC ["self"]):cA P w K mg base (j+1) A.before "inner" (qp A n (d0 A) A.before) []:=by
 refine d.dN i7 rL rh (λf cdv A outer s H E hr=>have hu:=hr.units;have hh:=hr.hd;have sc:=i7
  (aF (aQ (cB (aA (bD K rfl (dv 0) (by rfl)) aB))))) ?_
 rintro ds Q ⟨p,rfl,hc,hd,q⟩
 have c:=hA.cl _ (Pt.aW A p)
 have no:=hA.g7 _ (Pt.aW A p)
 obtain⟨x,f,rfl⟩:=oG hA hc
 exact(bI rfl c (no _ (by decide)) (by kernel_rfl) ⟨zL1,q⟩)
theorem Aa (hA:gT K A)(d:Dm K A.led "inner" "Led.inner" gb ["self"]):cA P w K mg base (j+1) A.led "inner" (qp A n (d0 A) A.led) []:=by
 refine d.dN nG rL rh (λf cdv A outer s H E hr=>have hu:=hr.units;have hh:=hr.hd;have sc:=nG
  (aF (aQ (cB (aA (bD K rfl (dv 0) (by rfl)) (aA (bD K rfl (dv 0) (by rfl)) aB)))))) ?_
 rintro ds Q ⟨p,rfl,hc,hd,q⟩
 have c:=hA.cl _ (Pt.aW A p)
 have no:=hA.g7 _ (Pt.aW A p)
 obtain⟨x,y,rfl⟩:=CH hA hc
 exact(bI rfl c (no _ (by decide)) (by kernel_rfl) (bI rfl c (no _ (by decide)) (by kernel_rfl) ⟨zL2,q⟩))
theorem Ab (hA:gT K A)(d:Dm K A.cS "inner" "When.inner" fm ["self"]):cA P w K mg base (j+1) A.cS "inner" (qp A n (d0 A) A.cS) []:=by
 refine d.dN lR rL rh (λf cdv A outer s H E hr=>have hu:=hr.units;have hh:=hr.hd;have sc:=lR
  (aF (aQ (cB (aA (bD K rfl (dv 0) (by rfl)) aB))))) ?_
 rintro ds Q ⟨p,rfl,hc,hd,q⟩
 have c:=hA.cl _ (Pt.aW A p)
 have no:=hA.g7 _ (Pt.aW A p)
 obtain⟨x,s,rfl⟩:=CI hA hc
 exact(bI rfl c (no _ (by decide)) (by kernel_rfl) ⟨zL1,q⟩)
theorem xS (hA:gT K A)(d:Dm K A.held "inner" "Held.inner" fj ["self"]):cA P w K mg base (j+1) A.held "inner" (qp A n (d0 A) A.held) []:=by
 refine d.dN lM rL rh (λf cdv A outer s H E hr=>have hu:=hr.units;have hh:=hr.hd;have sc:=lM
  (aF (aQ (cB (aA (bD K rfl (dv 0) (by rfl)) aB))))) ?_
 rintro ds Q ⟨p,rfl,hc,hd,q⟩
 have c:=hA.cl _ (Pt.aW A p)
 have no:=hA.g7 _ (Pt.aW A p)
 obtain⟨x,s,f,rfl⟩:=zE hA hc
 exact(bI rfl c (no _ (by decide)) (by kernel_rfl) ⟨zL1,q⟩)
theorem ko (hA:gT K A)(d:nj K A)(n:Nat):MP P w K mg base A (j+1) "inner" n (d0 A):=λC ⟨p,e⟩=>by
 subst e
 cases p
 ·exact vm hA d.given
 ·exact vn hA d.named
 ·exact uA hA d.turned
 ·exact xT hA d.pair
 ·exact t_ hA d.choice
 ·exact tw hA d.before
 ·exact Aa hA d.led
 ·exact Ab hA d.cS
 ·exact xS hA d.held
theorem p9 {m qual:Str}{st:Stmt}{ps:List Str}{g:Pt->D}(d:∀C,ur A C->Dm K C m qual st ps)(h:∀n j,MP P w K mg base A (j+1) m n g->MP P w K mg base A (j+2) m (n+1) g):∀n,MP P w K mg base A (n+1) m n g
 | 0=>λC hC=>(Dm.never (j:=1) (d C hC) rL Jr)
 |n+1=>h n n (p9 d h n)
theorem Dk (hA:gT K A)(dI:nj K A)(d:∀C,ur A C->Dm K C "size" "Part.size" bU ["self"])(n_sum:mg "sum"=none)(n:Nat):MP P w K mg base A (n+1) "size" n λp=>.int p.size :=
 p9 d (λn j h=>size_of d n_sum (ko (j:=j) hA dI _) h) n
theorem AM (hA:gT K A)(dI:nj K A)(d:∀C,ur A C->Dm K C "depth" "Part.depth" bG ["self"])(n_max:mg "max"=none)(n:Nat):MP P w K mg base A (n+1) "depth" n λp=>.int p.depth :=
 p9 d (λn j h=>By d n_max (ko (j:=j) hA dI _) h) n
structure GI (mg:Str->Option Value) (x:Str) (i:Int):Prop where
 ex:∃t,mg x=some (.int i t)
def HD:cF:=λds Q=>∃i:Int,ds=[.int i]/\Q (.bl (decide (-128<=i)&&decide (i<=127)))
def Dg:cF:=λds Q=>(∃i:Int,ds=[.int i]/\Q (.bl (decide (-128<=i)&&decide (i<=127))))\/∃b,ds=[.bl b]/\Q (.bl true)
theorem dY:wH "need_bounds":=by unfold wH;decide +kernel
def pF (p:Pt):Prop:=p.depth<=10/\p.size<=40
theorem jK (d:Df K mg "is_number" kI ["thing"])(n_isinstance:mg "isinstance"=none)(n_bool:mg "bool"=none)(n_int:mg "int"=none)(g1:GI mg "LOWEST" (-128))(g2:GI mg "HIGHEST" 127):av P w K mg base (j+1) "is_number" ["thing"] HD:=by
 obtain⟨t1,q_LOWEST⟩:=g1.ex
 obtain⟨t2,q_HIGHEST⟩:=g2.ex
 have r_LOWEST:RelV (.int (-128)) (.int (-128) t1):=⟨_,rfl⟩
 have r_HIGHEST:RelV (.int 127) (.int 127 t2):=⟨_,rfl⟩
 have v_LOWEST:∀H,Dv K H (.int (-128)) (.int (-128)):=λ_=>.int _
 have v_HIGHEST:∀H,Dv K H (.int 127) (.int 127):=λ_=>.int _
 refine d.dN nN (λds P P' g ⟨i,e,q⟩=>⟨i,e,g _ q⟩) (λds Q ⟨d,e,_⟩=>by rw[e];rfl) (λf cdv A outer s H E hr=>have hu:=hr.units;have hh:=hr.hd;have sc:=nN
  (aG (bx (ow.td (w_or (kZ (qP (by rfl) n_isinstance (by rfl) n_bool (dv 0))) (lu (ng (kZ (Es (by rfl) n_isinstance (by rfl) n_int (dv 0))))))) (aF (aQ tN)) aY)
 (aF (aQ (xI (dq (by rfl) q_LOWEST r_LOWEST v_LOWEST) (dv 0) (dq (by rfl) q_HIGHEST r_HIGHEST v_HIGHEST)))))) ?_
 rintro ds Q ⟨i,rfl,q⟩
 refine⟨_,rfl,false,rfl,_,rfl,aO ⟨_,rfl,true,rfl,_,rfl,aO ⟨_,rfl,_,rfl,?_⟩⟩⟩
 by_cases h:(-128:Int)<=i
 ·rw[decide_eq_true h] at q ⊢
  exact ae q
 ·rw[decide_eq_false h] at q ⊢
  exact aO q
theorem fw (d:Df K mg "is_value" mN ["thing"])(n_isinstance:mg "isinstance"=none)(n_bool:mg "bool"=none)(jK:av P w K mg base j "is_number" ["thing"] HD):av P w K mg base (j+1) "is_value" ["thing"] Dg:=by
 refine d.dN pI (λds P P' g h=>h.elim (fun⟨i,e,q⟩=>.inl ⟨i,e,g _ q⟩) fun⟨i,e,q⟩=>.inr ⟨i,e,g _ q⟩) (λds Q h=>h.elim (fun⟨d,e,_⟩=>by rw[e];rfl) fun⟨d,e,_⟩=>by rw[e];rfl) (λf cdv A outer s H E hr=>have hu:=hr.units;have hh:=hr.hd;have sc:=pI
  (aF (aQ (KI (qP (by rfl) n_isinstance (by rfl) n_bool (dv 0)) (qC (aH jK hr (by omega) (by rfl) (aA (dv 0) aB))))))) ?_
 rintro ds Q (⟨i,rfl,q⟩|⟨b,rfl,q⟩)
 ·exact⟨_,rfl,false,rfl,_,rfl,aO ⟨_,rfl,i,rfl,q⟩⟩
 ·exact⟨_,rfl,true,rfl,_,rfl,ae q⟩
theorem AG (d:∀C,ur A C->Dm K C "need_bounds" "Part.need_bounds" aX ["self"])(m_depth:MP P w K mg base A j "depth" n λp=>.int p.depth)(m_size:MP P w K mg base A j "size" n λp=>.int p.size)(g1:GI mg "DEEPEST" 10)(g2:GI mg "LARGEST" 40) :
  MQ P w K mg base A (j+1) "need_bounds" n pF λ_=>.ak:=by
 obtain⟨t1,q_DEEPEST⟩:=g1.ex
 obtain⟨t2,q_LARGEST⟩:=g2.ex
 have r_DEEPEST:RelV (.int 10) (.int 10 t1):=⟨_,rfl⟩
 have r_LARGEST:RelV (.int 40) (.int 40 t2):=⟨_,rfl⟩
 have v_DEEPEST:∀H,Dv K H (.int 10) (.int 10):=λ_=>.int _
 have v_LARGEST:∀H,Dv K H (.int 40) (.int 40):=λ_=>.int _
 intro C hC
 refine(d C hC).dN fe Ni OA (λf cdv A outer s H E hr=>have hu:=hr.units;have hh:=hr.hd;have sc:=fe
  (aF (bx (ow.td (w_or (Dp (dh m_depth hr (by omega) (dv 0)) (dq (by rfl) q_DEEPEST r_DEEPEST v_DEEPEST)) (lu (Dp (dh m_size hr (by omega) (dv 0)) (dq (by rfl) q_LARGEST r_LARGEST v_LARGEST))))) (aF i4) aY))) ?_
 rintro ds Q ⟨p,rfl,hc,hd,ho,q⟩
 obtain⟨h1,h2⟩:=ho
 have e1:decide ((10:Int)<p.depth)=false:=decide_eq_false (by omega)
 have e2:decide ((40:Int)<p.size)=false:=decide_eq_false (by omega)
 refine dR (p:=p) b7 r_ ⟨_,rfl,rfl⟩ hd ⟨_,rfl,?_⟩
 show if decide ((10:Int)<p.depth)=true then _ else _
 rw[e1]
 refine aO (dR (p:=p) b7 wI ⟨_,rfl,rfl⟩ hd ⟨_,rfl,?_⟩)
 show if decide ((40:Int)<p.size)=true then _ else _
 rw[e2]
 exact aO q
theorem xQ (hc:rE K A.given)(hn:dE K A.given "value")(d:Di K mg "Given" A.given "Given.__init__" eY ["self","value"] [])(fw:av P w K mg base j "is_value" ["thing"] Dg) :
  nq P w K mg base (j+1) "Given" A.given (λds Q=>∃v,ds=[v]/\isVal v/\Q [("value",v)]) []:=by
 refine d.BN gc (λds P P' g ⟨v,e,h,q⟩=>⟨v,e,h,g _ q⟩) (λds Q ⟨v,e,_⟩=>by rw[e];rfl) (λf cdv A outer s H E hr=>have hu:=hr.units;have hh:=hr.hd;have sc:=gc
  (ao (d5 (bx (ng (kZ (aH fw hr (by omega) (by rfl) (aA (dv 1) aB)))) (aF i4) aY))
 (ao (bZ K rfl rfl (Or.inl rfl) (dv 1))
 zC))) ?_
 rintro a ds Q ⟨v,rfl,hv,q⟩
 rcases hv with⟨b,rfl⟩|⟨i,rfl,h1,h2⟩
 ·exact⟨_,rfl,.inr ⟨b,rfl,_,rfl,⟨_,rfl,rfl,hc,hn,(by decide),q⟩⟩⟩
 ·refine⟨_,rfl,.inl ⟨i,rfl,true,by simp[GP,h1,h2],⟨_,rfl,rfl,hc,hn,(by decide),q⟩⟩⟩
def uV:cF:=λds Q=>∃f,ds=[f]/\dW f/\Q .ak
theorem gE (f:Str)(d:D):∀gs:FD,(putD f d gs).length<=gs.length+1
 |[]=>Nat.le_refl _
 | (g,e)::r=>by
  unfold putD
  split
  ·exact Nat.le_succ _
  ·exact Nat.succ_le_succ (gE f d r)
theorem sN:([]:FD).length<1000:=by decide
theorem sO {f:Str}{d:D}:(putD f d []).length<1000:=Nat.lt_of_le_of_lt (gE f d []) (by decide)
theorem sP {f g:Str}{d e:D}:(putD f d (putD g e [])).length<1000:=Nat.lt_of_le_of_lt (Nat.le_trans (gE f d _) (Nat.succ_le_succ (gE g e []))) (by decide)
theorem vk (hA:gT K A)(d:Di K mg "Turned" A.turned "Turned.__init__" eN ["self","part"] [])(m_need_bounds:MQ P w K mg base A j "need_bounds" n pF λ_=>.ak) :
  nq P w K mg base (j+1) "Turned" A.turned (λds Q=>∃p:Pt,ds=[p.d A]/\(Pt.turned p).depth<=n/\pF (.turned p)/\Q [("part",p.d A)]) []:=by
 have hc:=hA.cl A.turned (by simp)
 have hn:=hA.g7 A.turned (by simp)
 refine d.BN gO (λds P P' g ⟨v,e,h,o,q⟩=>⟨v,e,h,o,g _ q⟩) (λds Q ⟨v,e,_⟩=>by rw[e];rfl) (λf cdv A outer s H E hr=>have hu:=hr.units;have hh:=hr.hd;have sc:=gO
  (ao (bZ K rfl rfl (Or.inl rfl) (dv 1))
 (jP (aF (bP (dh m_need_bounds hr (by omega) (dv 0))))))) ?_
 rintro a ds Q ⟨p,rfl,hd,ho,q⟩
 exact⟨_,rfl,rfl,hc,hn _ (by decide),(by first|exact sN|exact sO|exact sP),rfl,dB (p:=.turned p) b7 dY ⟨_,rfl,rfl⟩ hd ho q⟩
theorem vj (hA:gT K A)(d:Di K mg "Choice" A.choice "Choice.__init__" eE ["self","truth","one","other"] [])(m_need_bounds:MQ P w K mg base A j "need_bounds" n pF λ_=>.ak) :
  nq P w K mg base (j+1) "Choice" A.choice (λds Q=>∃t x y:Pt,ds=[t.d A,x.d A,y.d A]/\(Pt.choice t x y).depth<=n/\pF (.choice t x y)/\Q [("truth",t.d A),("one",x.d A),("other",y.d A)]) []:=by
 have hc:=hA.cl A.choice (by simp)
 have hn:=hA.g7 A.choice (by simp)
 refine d.BN gI (λds P P' g ⟨t,v,u,e,h,o,q⟩=>⟨t,v,u,e,h,o,g _ q⟩) (λds Q ⟨t,v,u,e,_⟩=>by rw[e];rfl) (λf cdv A outer s H E hr=>have hu:=hr.units;have hh:=hr.hd;have sc:=gI
  (ao (bZ K rfl rfl (Or.inl rfl) (dv 1))
 (ao (bZ K rfl rfl (Or.inl rfl) (dv 2))
 (ao (bZ K rfl rfl (Or.inl rfl) (dv 3))
 (jP (aF (bP (dh m_need_bounds hr (by omega) (dv 0))))))))) ?_
 rintro a ds Q ⟨t,x,y,rfl,hd,ho,q⟩
 exact⟨_,rfl,rfl,hc,hn _ (by decide),(by first|exact sN|exact sO|exact sP),_,rfl,rfl,hc,hn _ (by decide),(by first|exact sN|exact sO|exact sP),_,rfl,rfl,hc,hn _ (by decide),(by first|exact sN|exact sO|exact sP),rfl,dB (p:=.choice t x y) b7 dY ⟨_,rfl,rfl⟩ hd ho q⟩
theorem CD (hA:gT K A)(d:Di K mg "Led" A.led "Led.__init__" gG ["self","head","rest"] [])(m_need_bounds:MQ P w K mg base A j "need_bounds" n pF λ_=>.ak) :
  nq P w K mg base (j+1) "Led" A.led (λds Q=>∃x y:Pt,ds=[x.d A,y.d A]/\(Pt.led x y).depth<=n/\pF (.led x y)/\Q [("head",x.d A),("rest",y.d A)]) []:=by
 have hc:=hA.cl A.led (by simp)
 have hn:=hA.g7 A.led (by simp)
 refine d.BN i_ (λds P P' g ⟨v,u,e,h,o,q⟩=>⟨v,u,e,h,o,g _ q⟩) (λds Q ⟨v,u,e,_⟩=>by rw[e];rfl) (λf cdv A outer s H E hr=>have hu:=hr.units;have hh:=hr.hd;have sc:=i_
  (ao (bZ K rfl rfl (Or.inl rfl) (dv 1))
 (ao (bZ K rfl rfl (Or.inl rfl) (dv 2))
 (jP (aF (bP (dh m_need_bounds hr (by omega) (dv 0)))))))) ?_
 rintro a ds Q ⟨x,y,rfl,hd,ho,q⟩
 exact⟨_,rfl,rfl,hc,hn _ (by decide),(by first|exact sN|exact sO|exact sP),_,rfl,rfl,hc,hn _ (by decide),(by first|exact sN|exact sO|exact sP),rfl,dB (p:=.led x y) b7 dY ⟨_,rfl,rfl⟩ hd ho q⟩
theorem dj (d:Df K mg "need_first" iy ["first"])(fw:av P w K mg base j "is_value" ["thing"] Dg):av P w K mg base (j+1) "need_first" ["first"] uV:=by
 refine d.dN lj (λds P P' g ⟨f,e,h,q⟩=>⟨f,e,h,g _ q⟩) (λds Q ⟨f,e,_⟩=>by rw[e];rfl) (λf cdv A outer s H E hr=>have hu:=hr.units;have hh:=hr.hd;have sc:=lj
  (aF (bx (ow.td (w_and (nZ (dv 0) lJ) (kh (ng (kZ (aH fw hr (by omega) (by rfl) (aA (dv 0) aB))))))) (aF i4) aY))) ?_
 rintro ds Q ⟨f,rfl,hf,q⟩
 rcases hf with rfl|⟨b,rfl⟩|⟨i,rfl,h1,h2⟩
 ·exact⟨_,rfl,_,rfl,q⟩
 ·exact⟨_,rfl,_,rfl,_,rfl,.inr ⟨b,rfl,_,rfl,q⟩⟩
 ·exact⟨_,rfl,_,rfl,_,rfl,.inl ⟨i,rfl,true,by simp[GP,h1,h2],q⟩⟩
theorem vi (hA:gT K A)(d:Di K mg "Before" A.before "Before.__init__" cj ["self","part","first"] [])(dj:av P w K mg base j "need_first" ["first"] uV)(m_need_bounds:MQ P w K mg base A j "need_bounds" n pF λ_=>.ak) :
  nq P w K mg base (j+1) "Before" A.before (λds Q=>∃(p:Pt) (f:D),ds=[p.d A,f]/\dW f/\(Pt.before p f).depth<=n/\pF (.before p f)/\Q [("part",p.d A),("first",f)]) []:=by
 have hc:=hA.cl A.before (by simp)
 have hn:=hA.g7 A.before (by simp)
 refine d.BN gH (λds P P' g ⟨v,u,e,k,h,o,q⟩=>⟨v,u,e,k,h,o,g _ q⟩) (λds Q ⟨v,u,e,_⟩=>by rw[e];rfl) (λf cdv A outer s H E hr=>have hu:=hr.units;have hh:=hr.hd;have sc:=gH
  (ao (d5 (bP (aH dj hr (by omega) (by rfl) (aA (dv 2) aB))))
 (ao (bZ K rfl rfl (Or.inl rfl) (dv 1))
 (ao (bZ K rfl rfl (Or.inl rfl) (dv 2))
 (jP (aF (bP (dh m_need_bounds hr (by omega) (dv 0))))))))) ?_
 rintro a ds Q ⟨p,f,rfl,hf,hd,ho,q⟩
 exact⟨_,rfl,_,rfl,hf,_,rfl,rfl,hc,hn _ (by decide),(by first|exact sN|exact sO|exact sP),_,rfl,rfl,hc,hn _ (by decide),(by first|exact sN|exact sO|exact sP),rfl,dB (p:=.before p f) b7 dY ⟨_,rfl,rfl⟩ hd ho q⟩
theorem d7 (n:Str)(l:List Str):inD (.str n) (l.map D.str)=l.contains n:=by
 unfold inD
 rw[List.any_map,List.contains_eq_any_beq]
 congr 1
 funext x
 show(x == n)=(n == x)
 exact Bool.beq_comm
theorem b_ (l:List Str):(l.map D.str).all dz=true:=by
 rw[List.all_eq_true]
 intro d hd
 obtain⟨x,_,rfl⟩:=List.mem_map.mp hd
 rfl
def uH:Str:="abcdefghijklmnopqrstuvwxyz"
def signs (x:Str):List Str:=x.cps.toList.map λc=>⟨#[c]⟩
def Lz (c:Str):Bool:=yW c uH
def vx (x:Str):Bool:=decide ((0:Int)<(x.length:Int))&&(signs x).all Lz
def hE (x:Str):Bool:=decide ((x.length:Int)<=8)&&vx x
def rg:List Str:=["module","in","out","row","use","end","number","truth","on","yes","no","not","and","or","if","before","then","when","held"]
def jC (x:Str):Bool:=hE x&&!rg.contains x
def dot:Str:="."
def gA (x:Str):Bool:=if decide (((Txt.split x dot).length:Int)=1)=true then jC x else decide (((Txt.split x dot).length:Int)<=4)&&(Txt.split x dot).all hE
structure GD (K:PySem.W.Frag) (mg:Str->Option Value) (x:Str) (d:D):Prop where
 ex:∃v u,mg x=some u/\RelV v u/\∀H,Dv K H v d
def BP (g:Str->D):cF:=λds Q=>∃x:Str,ds=[.str x]/\x.length<=100000/\Q (g x)
theorem L6 {g:Str->D}:cK (BP g):=λds P P' f ⟨x,e,h,q⟩=>⟨x,e,h,f _ q⟩
theorem L5 {g:Str->D}(ds:List D)(Q:D->Prop)(h:BP g ds Q):ds.length=1:=by obtain⟨x,e,_⟩:=h;rw[e];rfl
theorem str_len {x:Str}(h:x.length<=100000):x.length<=sizeLine:=Nat.le_trans h (by decide)
theorem mZ {Q:D->Prop}{a b:Bool}(e:a=b)(q:Q (.bl a)):Q (.bl b):=e ▸ q
theorem CO:∀{l:List Nat} {a:Nat},a∈l->a<=l.sum
 |b::l,a,h=>by
  rw[List.sum_cons]
  rcases List.mem_cons.mp h with rfl|h
  ·exact Nat.le_add_right _ _
  ·exact Nat.le_trans (CO h) (Nat.le_add_left _ _)
def Md:D->D
 |.str z=>.bl (Lz z)
 |_=>.ak
def KS:D->D
 |.str z=>.bl (hE z)
 |_=>.ak
theorem gr (d:Df K mg "has_letters" g4 ["text"])(n_len:mg "len"=none)(n_all:mg "all"=none)(gl:GD K mg "LETTERS" (.str uH)):av P w K mg base (j+1) "has_letters" ["text"] (BP λx=>.bl (vx x)):=by
 obtain⟨y_LETTERS,u_LETTERS,q_LETTERS,r_LETTERS,v_LETTERS⟩:=gl.ex
 refine d.dN kU L6 L5 (λf cdv A outer s H E hr=>have hu:=hr.units;have hh:=hr.hd;have sc:=kU
  (aF (aQ (vI (MV (cO (by rfl) n_len (aA (dv 0) aB)) aD) (qC (Bn hh (by rfl) n_all (aA (l9 (x:="sign") (caps:=[]) (cn:=[]) (cl:=[]) (lI (by rfl) (by rfl) (by decide +kernel) (by decide +kernel) (by decide +kernel)) rfl (bw (dv 0)) (λC fp s₂ H₂=>bF (i:=0) (show(["sign"]:List Str).Nodup by decide +kernel) rfl (Or.inl rfl) (.inr rfl)) (λC fp s₂ H₂=>eU) (λC fp s₂ H₂=>(Bq (dv 0) (dq (by rfl) q_LETTERS r_LETTERS v_LETTERS) (by rfl)))) aB))))))) ?_
 rintro ds Q ⟨x,rfl,hx,q⟩
 refine⟨_,rfl,_,_,rfl,if_pos (str_len hx),_,rfl,?_⟩
 cases h:decide ((0:Int)<(x.length:Int)) with
 |false =>
  have e:vx x=false:=by unfold vx;rw[h];rfl
  exact aO (mZ e q)
 |true =>
  have e:vx x=((signs x).map Lz).all id:=by unfold vx;rw[h,List.all_map];rfl
  refine ae ⟨_,rfl,_,rfl,mO Md (x.cps.toList.map λc=>.str ⟨#[c]⟩),oQ,λi d o h1 h2=>?_,?_,?_⟩
  ·obtain⟨hd,rfl⟩:=rm h1 h2
   obtain⟨c,_,rfl⟩:=List.mem_map.mp hd
   exact⟨rfl,λ_=>⟨_,rfl,_,rfl,rfl⟩⟩
  ·rw[List.length_map,Array.length_toList]
   exact Nat.lt_of_le_of_lt hx (by decide)
  ·rw[mF]
   refine⟨(signs x).map Lz,?_,mZ e q⟩
   unfold signs
   rw[List.map_map,List.map_map,List.map_map]
   rfl
theorem cT (d:Df K mg "has_word_form" fY ["text"])(n_len:mg "len"=none)(g:GI mg "LONGEST_WORD" 8)(gr:av P w K mg base j "has_letters" ["text"] (BP λx=>.bl (vx x))) :
  av P w K mg base (j+1) "has_word_form" ["text"] (BP λx=>.bl (hE x)):=by
 obtain⟨t1,q_LONGEST_WORD⟩:=g.ex
 have r_LONGEST_WORD:RelV (.int 8) (.int 8 t1):=⟨_,rfl⟩
 have v_LONGEST_WORD:∀H,Dv K H (.int 8) (.int 8):=λ_=>.int _
 refine d.dN iH L6 L5 (λf cdv A outer s H E hr=>have hu:=hr.units;have hh:=hr.hd;have sc:=iH
  (aF (aQ (vI (Ho (cO (by rfl) n_len (aA (dv 0) aB)) (dq (by rfl) q_LONGEST_WORD r_LONGEST_WORD v_LONGEST_WORD)) (qC (aH gr hr (by omega) (by rfl) (aA (dv 0) aB))))))) ?_
 rintro ds Q ⟨x,rfl,hx,q⟩
 refine⟨_,rfl,_,_,rfl,if_pos (str_len hx),_,rfl,?_⟩
 cases h:decide ((x.length:Int)<=8) with
 |false =>
  have e:hE x=false:=by unfold hE;rw[h];rfl
  exact aO (mZ e q)
 |true =>
  have e:hE x=vx x:=by unfold hE;rw[h];rfl
  exact ae ⟨_,rfl,x,rfl,hx,mZ e q⟩
theorem g9 (d:Df K mg "is_word" oZ ["thing"])(gk:GD K mg "KEPT_WORDS" (.tup (rg.map D.str)))(cT:av P w K mg base j "has_word_form" ["text"] (BP λx=>.bl (hE x))) :
  av P w K mg base (j+1) "is_word" ["thing"] (BP λx=>.bl (jC x)):=by
 obtain⟨y_KEPT_WORDS,u_KEPT_WORDS,q_KEPT_WORDS,r_KEPT_WORDS,v_KEPT_WORDS⟩:=gk.ex
 refine d.dN qj L6 L5 (λf cdv A outer s H E hr=>have hu:=hr.units;have hh:=hr.hd;have sc:=qj
  (aF (aQ (vI (aH cT hr (by omega) (by rfl) (aA (dv 0) aB)) (qC (Ee (dv 0) (dq (by rfl) q_KEPT_WORDS r_KEPT_WORDS v_KEPT_WORDS) (by rfl))))))) ?_
 rintro ds Q ⟨x,rfl,hx,q⟩
 refine⟨_,rfl,x,rfl,hx,_,rfl,?_⟩
 cases h:hE x with
 |false =>
  have e:jC x=false:=by unfold jC;rw[h];rfl
  exact aO (mZ e q)
 |true =>
  have e:jC x=!inD (.str x) (rg.map D.str):=by unfold jC;rw[h,d7];rfl
  exact ae ⟨_,rfl,rfl,b_ _,mZ e q⟩
theorem nv (d:Df K mg "is_name" oY ["thing"])(n_len:mg "len"=none)(n_all:mg "all"=none)(g:GI mg "MOST_WORDS" 4)(g9:av P w K mg base j "is_word" ["thing"] (BP λx=>.bl (jC x)))
  (cT:av P w K mg base j "has_word_form" ["text"] (BP λx=>.bl (hE x))):av P w K mg base (j+1) "is_name" ["thing"] (BP λx=>.bl (gA x)):=by
 obtain⟨t1,q_MOST_WORDS⟩:=g.ex
 have r_MOST_WORDS:RelV (.int 4) (.int 4 t1):=⟨_,rfl⟩
 have v_MOST_WORDS:∀H,Dv K H (.int 4) (.int 4):=λ_=>.int _
 refine d.dN qi L6 L5 (λf cdv A outer s H E hr=>have hu:=hr.units;have hh:=hr.hd;have sc:=qi
  (aG (ar (i:=1) sc.nd rfl (Or.inl rfl) (Ef (dv 0) (aA ah aB)))
 (aG (bx (cD hu (cO (by rfl) n_len (aA (dv 1) aB)) aD) (aF (aQ (aH g9 hr (by omega) (by rfl) (aA (dv 0) aB)))) aY)
 (aF (aQ (vI (Ho (cO (by rfl) n_len (aA (dv 1) aB)) (dq (by rfl) q_MOST_WORDS r_MOST_WORDS v_MOST_WORDS)) (qC (Bn hh (by rfl) n_all (aA (l9 (x:="word") (caps:=[]) (cn:=[]) (cl:=[]) (lI (by rfl) (by rfl) (by decide +kernel) (by decide +kernel) (by decide +kernel)) rfl (bw (dv 1)) (λC fp s₂ H₂=>bF (i:=0) (show(["word"]:List Str).Nodup by decide +kernel) rfl (Or.inl rfl) (.inr rfl)) (λC fp s₂ H₂=>eU) (λC fp s₂ H₂=>(aH cT hr (by omega) (by rfl) (aA (dv 0) aB)))) aB))))))))) ?_
 rintro ds Q ⟨x,rfl,hx,q⟩
 have hs:=split_le x dot
 refine⟨_,rfl,⟨x,rfl⟩,x,dot,rfl,rfl,rfl,Nat.le_trans (Nat.add_le_add_right hx 2) (by decide),?_⟩
 refine⟨_,rfl,_,_,rfl,rfl,_,rfl,?_⟩
 show if decide ((((Txt.split x dot).map D.str).length:Int)=1)=true then _ else _
 rw[List.length_map]
 cases h:decide (((Txt.split x dot).length:Int)=1) with
 |true =>
  have e:gA x=jC x:=by unfold gA;rw[h];rfl
  exact ae ⟨_,rfl,x,rfl,hx,mZ e q⟩
 |false =>
  refine aO ⟨_,rfl,_,_,rfl,rfl,_,rfl,?_⟩
  show if decide ((((Txt.split x dot).map D.str).length:Int)<=4)=true then _ else _
  rw[List.length_map]
  cases h2:decide (((Txt.split x dot).length:Int)<=4) with
  |false =>
   have e:gA x=false:=by unfold gA;rw[h,h2];rfl
   exact aO (mZ e q)
  |true =>
   have e:gA x=((Txt.split x dot).map hE).all id:=by unfold gA;rw[h,h2,List.all_map];rfl
   refine ae ⟨_,rfl,_,rfl,mO KS ((Txt.split x dot).map D.str),oQ,λi d o h1 h2=>?_,?_,?_⟩
   ·obtain⟨hd,rfl⟩:=rm h1 h2
    obtain⟨c,hc,rfl⟩:=List.mem_map.mp hd
    refine⟨rfl,λ_=>⟨_,rfl,c,rfl,?_,rfl⟩⟩
    have hw:=split_weight x dot (by decide)
    have hc2:c.length∈(Txt.split x dot).map (·.length):=List.mem_map.mpr ⟨c,hc,rfl⟩
    have:=CO hc2
    have hp:=split_pos x dot
    omega
   ·rw[List.length_map]
    exact Nat.lt_of_le_of_lt hs (Nat.lt_of_le_of_lt (Nat.add_le_add_right hx 2) (by decide))
   ·rw[mF]
    refine⟨(Txt.split x dot).map hE,?_,mZ e q⟩
    rw[List.map_map,List.map_map]
    rfl
def yS:cF:=λds Q=>∃x:Str,ds=[.str x]/\x.length<=100000/\gA x=true/\Q .ak
theorem bS (d:Df K mg "need_name" kK ["name"])(nv:av P w K mg base j "is_name" ["thing"] (BP λx=>.bl (gA x))):av P w K mg base (j+1) "need_name" ["name"] yS:=by
 refine d.dN nO (λds P P' f ⟨x,e,h,z,q⟩=>⟨x,e,h,z,f _ q⟩) (λds Q ⟨x,e,_⟩=>by rw[e];rfl) (λf cdv A outer s H E hr=>have hu:=hr.units;have hh:=hr.hd;have sc:=nO
  (aF (bx (ng (kZ (aH nv hr (by omega) (by rfl) (aA (dv 0) aB)))) (aF i4) aY))) ?_
 rintro ds Q ⟨x,rfl,hx,hn,q⟩
 exact⟨_,rfl,x,rfl,hx,true,congrArg some hn,aO q⟩
def nn:D:=.tup [.str "number",.str "number"]
def nt:D:=.tup [.str "number",.str "truth"]
def tt:D:=.tup [.str "truth",.str "truth"]
def uZ:List (Str × D):=[("+",nn),("-",nn),("*",nn),("=",.tup [.ak,.str "truth"]),("<",nt),("<=",nt),("and",tt),("or",tt)]
def gm:List Str:=["+","-","*","=","<","<=","and","or"]
theorem F9 {g:Str}(h:g∈gm):(if true=true then !uZ.any λp=>p.1 == g else uZ.any λp=>p.1 == g)=false:=by
 simp only[gm,List.mem_cons,List.not_mem_nil,or_false] at h
 rcases h with rfl|rfl|rfl|rfl|rfl|rfl|rfl|rfl<;>decide +kernel
def mI (x:Str):Prop:=gA x=true/\x.length<=100/\PyData.strOk x=true
theorem xR (hA:gT K A)(d:Di K mg "Named" A.named "Named.__init__" eZ ["self","name"] [])(bS:av P w K mg base j "need_name" ["name"] yS) :
  nq P w K mg base (j+1) "Named" A.named (λds Q=>∃x:Str,ds=[.str x]/\mI x/\Q [("name",.str x)]) []:=by
 have hc:=hA.cl A.named (by simp)
 have hn:=hA.g7 A.named (by simp)
 refine d.BN gg (λds P P' g ⟨v,e,h,q⟩=>⟨v,e,h,g _ q⟩) (λds Q ⟨v,e,_⟩=>by rw[e];rfl) (λf cdv A outer s H E hr=>have hu:=hr.units;have hh:=hr.hd;have sc:=gg
  (ao (d5 (bP (aH bS hr (by omega) (by rfl) (aA (dv 1) aB))))
 (ao (bZ K rfl rfl (Or.inl rfl) (dv 1))
 zC))) ?_
 rintro a ds Q ⟨x,rfl,⟨h1,h2,h3⟩,q⟩
 exact⟨_,rfl,x,rfl,Nat.le_trans h2 (by decide),h1,_,rfl,rfl,hc,hn _ (by decide),(by first|exact sN|exact sO|exact sP),q⟩
theorem AZ (hA:gT K A)(d:Di K mg "When" A.cS "When.__init__" fW ["self","part","name"] [])(bS:av P w K mg base j "need_name" ["name"] yS)(m_need_bounds:MQ P w K mg base A j "need_bounds" n pF λ_=>.ak) :
  nq P w K mg base (j+1) "When" A.cS (λds Q=>∃(p:Pt) (x:Str),ds=[p.d A,.str x]/\mI x/\(Pt.cS p x).depth<=n/\pF (.cS p x)/\Q [("part",p.d A),("name",.str x)]) []:=by
 have hc:=hA.cl A.cS (by simp)
 have hn:=hA.g7 A.cS (by simp)
 refine d.BN iF (λds P P' g ⟨v,u,e,k,h,o,q⟩=>⟨v,u,e,k,h,o,g _ q⟩) (λds Q ⟨v,u,e,_⟩=>by rw[e];rfl) (λf cdv A outer s H E hr=>have hu:=hr.units;have hh:=hr.hd;have sc:=iF
  (ao (d5 (bP (aH bS hr (by omega) (by rfl) (aA (dv 2) aB))))
 (ao (bZ K rfl rfl (Or.inl rfl) (dv 1))
 (ao (bZ K rfl rfl (Or.inl rfl) (dv 2))
 (jP (aF (bP (dh m_need_bounds hr (by omega) (dv 0))))))))) ?_
 rintro a ds Q ⟨p,x,rfl,⟨h1,h2,h3⟩,hd,ho,q⟩
 exact⟨_,rfl,x,rfl,Nat.le_trans h2 (by decide),h1,_,rfl,rfl,hc,hn _ (by decide),(by first|exact sN|exact sO|exact sP),_,rfl,rfl,hc,hn _ (by decide),(by first|exact sN|exact sO|exact sP),rfl,dB (p:=.cS p x) b7 dY ⟨_,rfl,rfl⟩ hd ho q⟩
theorem AX (hA:gT K A)(d:Di K mg "Held" A.held "Held.__init__" dX ["self","part","name","first"] [])(bS:av P w K mg base j "need_name" ["name"] yS)(dj:av P w K mg base j "need_first" ["first"] uV)
  (m_need_bounds:MQ P w K mg base A j "need_bounds" n pF λ_=>.ak) :
  nq P w K mg base (j+1) "Held" A.held (λds Q=>∃(p:Pt) (x:Str) (f:D),ds=[p.d A,.str x,f]/\mI x/\dW f/\(Pt.held p x f).depth<=n/\pF (.held p x f)/\Q [("part",p.d A),("name",.str x),("first",f)]) []:=by
 have hc:=hA.cl A.held (by simp)
 have hn:=hA.g7 A.held (by simp)
 refine d.BN iA (λds P P' g ⟨v,u,f,e,k,l,h,o,q⟩=>⟨v,u,f,e,k,l,h,o,g _ q⟩) (λds Q ⟨v,u,f,e,_⟩=>by rw[e];rfl) (λf cdv A outer s H E hr=>have hu:=hr.units;have hh:=hr.hd;have sc:=iA
  (ao (d5 (bP (aH bS hr (by omega) (by rfl) (aA (dv 2) aB))))
 (ao (d5 (bP (aH dj hr (by omega) (by rfl) (aA (dv 3) aB))))
 (ao (bZ K rfl rfl (Or.inl rfl) (dv 1))
 (ao (bZ K rfl rfl (Or.inl rfl) (dv 2))
 (ao (bZ K rfl rfl (Or.inl rfl) (dv 3))
 (jP (aF (bP (dh m_need_bounds hr (by omega) (dv 0))))))))))) ?_
 rintro a ds Q ⟨p,x,f,rfl,⟨h1,h2,h3⟩,hf,hd,ho,q⟩
 exact⟨_,rfl,x,rfl,Nat.le_trans h2 (by decide),h1,_,rfl,_,rfl,hf,_,rfl,rfl,hc,hn _ (by decide),(by first|exact sN|exact sO|exact sP),_,rfl,rfl,hc,hn _ (by decide),(by first|exact sN|exact sO|exact sP),_,rfl,rfl,hc,hn _ (by decide),(by first|exact sN|exact sO|exact sP),rfl,dB (p:=.held p x f) b7 dY ⟨_,rfl,rfl⟩ hd ho q⟩
theorem AY {sa:Addr}(hA:gT K A)(d:Di K mg "Pair" A.pair "Pair.__init__" fS ["self","sign","one","other"] [])(kd_SIGNS:EC w K mg "SIGNS" sa uZ)(m_need_bounds:MQ P w K mg base A j "need_bounds" n pF λ_=>.ak) :
  nq P w K mg base (j+1) "Pair" A.pair (λds Q=>∃(g:Str) (x y:Pt),ds=[.str g,x.d A,y.d A]/\g∈gm/\(Pt.pair g x y).depth<=n/\pF (.pair g x y)/\Q [("sign",.str g),("one",x.d A),("other",y.d A)]) []:=by
 have hc:=hA.cl A.pair (by simp)
 have hn:=hA.g7 A.pair (by simp)
 refine d.BN iB (λds P P' g ⟨v,u,f,e,k,h,o,q⟩=>⟨v,u,f,e,k,h,o,g _ q⟩) (λds Q ⟨v,u,f,e,_⟩=>by rw[e];rfl) (λf cdv A outer s H E hr=>have hu:=hr.units;have hh:=hr.hd;have sc:=iB
  (ao (d5 (bx (Ds kd_SIGNS (by rfl) (dv 1)) (aF i4) aY))
 (ao (bZ K rfl rfl (Or.inl rfl) (dv 1))
 (ao (bZ K rfl rfl (Or.inl rfl) (dv 2))
 (ao (bZ K rfl rfl (Or.inl rfl) (dv 3))
 (jP (aF (bP (dh m_need_bounds hr (by omega) (dv 0)))))))))) ?_
 rintro a ds Q ⟨g,x,y,rfl,hg,hd,ho,q⟩
 exact⟨_,rfl,g,rfl,false,congrArg D.bl (F9 hg),aO ⟨_,rfl,rfl,hc,hn _ (by decide),(by first|exact sN|exact sO|exact sP),_,rfl,rfl,hc,hn _ (by decide),(by first|exact sN|exact sO|exact sP),_,rfl,rfl,hc,hn _ (by decide),(by first|exact sN|exact sO|exact sP),rfl,dB (p:=.pair g x y) b7 dY ⟨_,rfl,rfl⟩ hd ho q⟩⟩
def sh (a b:Int):D:=.tup [.int a,.int b]
def nV:List (Str × D):=[("given",sh 2 0),("named",sh 2 0),("not",sh 2 1),("if",sh 4 3),("before",sh 3 1),("then",sh 3 2),("when",sh 3 1),("held",sh 4 1)]
def Pt.ok:Pt->Prop
 |.given v=>isVal v
 |.named s=>mI s
 |.turned p=>p.ok
 |.pair g a b=>g∈gm/\a.ok/\b.ok
 |.choice t a b=>t.ok/\a.ok/\b.ok
 |.before p f=>p.ok/\dW f
 |.led h r=>h.ok/\r.ok
 |.cS p s=>p.ok/\mI s
 |.held p s f=>p.ok/\mI s/\dW f
def Pt.qN:Pt->Bool
 |.pair _ _ _=>true
 |_=>false
def Pt.isPlain:Pt->Bool
 |.given _=>true|.named _=>true|.turned _=>true|.choice _ _ _=>true|_=>false
theorem Pt.zU {p q:Pt}(h:q∈p.inner)(o:p.ok):q.ok:=by
 cases p<;>simp only[Pt.inner,Pt.ok,List.mem_cons,List.not_mem_nil,or_false] at h o
 case turned=>subst h;exact o
 case pair=>rcases h with rfl|rfl<;>simp only[o]
 case choice=>rcases h with rfl|rfl|rfl<;>simp only[o]
 case before=>subst h;exact o.1
 case led=>rcases h with rfl|rfl<;>simp only[o]
 case cS=>subst h;exact o.1
 case held=>subst h;exact o.1
def uX (ok:Pt->Prop)(g:Pt->D):cF:=λds Q=>∃p:Pt,ds=[p.told]/\ok p/\Q (g p)
theorem Kq {ok:Pt->Prop}{g:Pt->D}:cK (uX ok g):=λds P P' f ⟨p,e,h,q⟩=>⟨p,e,h,f _ q⟩
theorem Ki {ok:Pt->Prop}{g:Pt->D}(ds:List D)(Q:D->Prop)(h:uX ok g ds Q):ds.length=1:=by obtain⟨x,e,_⟩:=h;rw[e];rfl
def yP (A:bR)(n:Nat)(b:Bool):cF:=λds Q=>∃p:Pt,ds=[p.told,.lst (p.inner.map (Pt.d A))]/\p.qN=false/\p.isPlain=b/\p.ok/\pF p/\p.depth<=n/\Q (p.d A)
def A4 (A:bR)(n:Nat):cF:=λds Q=>∃p:Pt,ds=[p.told]/\p.depth<=n/\p.ok/\pF p/\Q (p.d A)
theorem Mq {A:bR}{n:Nat}:cK (A4 A n):=λds P P' f ⟨p,e,h,o,b,q⟩=>⟨p,e,h,o,b,f _ q⟩
theorem Kn {A:bR}{n:Nat}{b:Bool}:cK (yP A n b):=λds P P' f ⟨p,e,h,o,b,i,d,q⟩=>⟨p,e,h,o,b,i,d,f _ q⟩
theorem Ct {g:Str}(h:g∈gm):(if false=true then !nV.any λp=>p.1 == g else nV.any λp=>p.1 == g)=false:=by
 simp only[gm,List.mem_cons,List.not_mem_nil,or_false] at h
 rcases h with rfl|rfl|rfl|rfl|rfl|rfl|rfl|rfl<;>decide +kernel
theorem e9 {sa:Addr}(d:Df K mg "has_shape" kH ["told"])(n_len:mg "len"=none)(kd_SHAPES:EC w K mg "SHAPES" sa nV):av P w K mg base (j+1) "has_shape" ["told"] (uX Pt.ok λp=>.bl (!p.qN)):=by
 refine d.dN nM Kq Ki (λf cdv A outer s H E hr=>have hu:=hr.units;have hh:=hr.hd;have sc:=nM
  (aF (aQ (vI (KH kd_SHAPES (by rfl) (bT (dv 0) aD (λ_ _=>rfl))) (qC (xH hu (cO (by rfl) n_len (aA (dv 0) aB)) (bT (Bp kd_SHAPES (by rfl) (bT (dv 0) aD (λ_ _=>rfl)) (λ_ _=>rfl)) aD (λ_ _=>rfl)))))))) ?_
 rintro ds Q ⟨p,rfl,ho,q⟩
 cases p with
 |given v=>exact⟨_,rfl,_,rfl,"given",rfl,true,congrArg D.bl (by decide +kernel),ae ⟨_,rfl,_,_,rfl,rfl,_,rfl,_,rfl,"given",sh 2 0,rfl,(by kernel_rfl),_,rfl,q⟩⟩
 |named s=>exact⟨_,rfl,_,rfl,"named",rfl,true,congrArg D.bl (by decide +kernel),ae ⟨_,rfl,_,_,rfl,rfl,_,rfl,_,rfl,"named",sh 2 0,rfl,(by kernel_rfl),_,rfl,q⟩⟩
 |turned x=>exact⟨_,rfl,_,rfl,"not",rfl,true,congrArg D.bl (by decide +kernel),ae ⟨_,rfl,_,_,rfl,rfl,_,rfl,_,rfl,"not",sh 2 1,rfl,(by kernel_rfl),_,rfl,q⟩⟩
 |pair g x y=>exact⟨_,rfl,_,rfl,g,rfl,false,congrArg D.bl (Ct ho.1),aO q⟩
 |choice x y z=>exact⟨_,rfl,_,rfl,"if",rfl,true,congrArg D.bl (by decide +kernel),ae ⟨_,rfl,_,_,rfl,rfl,_,rfl,_,rfl,"if",sh 4 3,rfl,(by kernel_rfl),_,rfl,q⟩⟩
 |before x f=>exact⟨_,rfl,_,rfl,"before",rfl,true,congrArg D.bl (by decide +kernel),ae ⟨_,rfl,_,_,rfl,rfl,_,rfl,_,rfl,"before",sh 3 1,rfl,(by kernel_rfl),_,rfl,q⟩⟩
 |led x y=>exact⟨_,rfl,_,rfl,"then",rfl,true,congrArg D.bl (by decide +kernel),ae ⟨_,rfl,_,_,rfl,rfl,_,rfl,_,rfl,"then",sh 3 2,rfl,(by kernel_rfl),_,rfl,q⟩⟩
 |cS x s=>exact⟨_,rfl,_,rfl,"when",rfl,true,congrArg D.bl (by decide +kernel),ae ⟨_,rfl,_,_,rfl,rfl,_,rfl,_,rfl,"when",sh 3 1,rfl,(by kernel_rfl),_,rfl,q⟩⟩
 |held x s f=>exact⟨_,rfl,_,rfl,"held",rfl,true,congrArg D.bl (by decide +kernel),ae ⟨_,rfl,_,_,rfl,rfl,_,rfl,_,rfl,"held",sh 4 1,rfl,(by kernel_rfl),_,rfl,q⟩⟩
theorem l5 (d:Df K mg "plain_by" mR ["told","inner"])
  {i:Nat}(hi:i+1<=j)
  (k_Given_1:nq P w K mg base i "Given" A.given (λds Q=>∃v,ds=[v]/\isVal v/\Q [("value",v)]) [])
  (k_Named_1:nq P w K mg base i "Named" A.named (λds Q=>∃x:Str,ds=[.str x]/\mI x/\Q [("name",.str x)]) [])
  (k_Turned_1:nq P w K mg base i "Turned" A.turned (λds Q=>∃p:Pt,ds=[p.d A]/\(Pt.turned p).depth<=n/\pF (.turned p)/\Q [("part",p.d A)]) [])
  (k_Choice_3:nq P w K mg base i "Choice" A.choice (λds Q=>∃t x y:Pt,ds=[t.d A,x.d A,y.d A]/\(Pt.choice t x y).depth<=n/\pF (.choice t x y)/\Q [("truth",t.d A),("one",x.d A),("other",y.d A)]) [])
  : av P w K mg base (j+1) "plain_by" ["told","inner"] (yP A n true):=by
 refine d.dN pL Kn (λds Q ⟨x,e,_⟩=>by rw[e];rfl) (λf cdv A outer s H E hr=>have hu:=hr.units;have hh:=hr.hd;have sc:=pL
  (aG (ar (i:=2) sc.nd rfl (Or.inl rfl) (bT (dv 0) aD (λ_ _=>rfl)))
 (aG (bx (cD hu (dv 2) ah) (aF (aQ (pS k_Given_1 hr (by omega) (by rfl) (aA (bT (dv 0) aD (λ_ _=>rfl)) aB)))) aY)
 (aG (bx (cD hu (dv 2) ah) (aF (aQ (pS k_Named_1 hr (by omega) (by rfl) (aA (bT (dv 0) aD (λ_ _=>rfl)) aB)))) aY)
 (aG (bx (cD hu (dv 2) ah) (aF (aQ (pS k_Turned_1 hr (by omega) (by rfl) (aA (bT (dv 1) aD (λ_ _=>rfl)) aB)))) aY)
 (aF (aQ (pS k_Choice_3 hr (by omega) (by rfl) (aA (bT (dv 1) aD (λ_ _=>rfl)) (aA (bT (dv 1) aD (λ_ _=>rfl)) (aA (bT (dv 1) aD (λ_ _=>rfl)) aB))))))))))) ?_
 rintro ds Q ⟨p,rfl,hp,hl,ho,hb,hd,q⟩
 cases p with
 |given v=>exact⟨_,rfl,_,rfl,⟨_,rfl,true,congrArg D.bl (by decide +kernel),ae ⟨_,rfl,_,rfl,v,rfl,ho,q⟩⟩⟩
 |named s=>exact⟨_,rfl,_,rfl,⟨_,rfl,false,congrArg D.bl (by decide +kernel),aO ⟨_,rfl,true,congrArg D.bl (by decide +kernel),ae ⟨_,rfl,_,rfl,s,rfl,ho,q⟩⟩⟩⟩
 |turned x=>exact⟨_,rfl,_,rfl,⟨_,rfl,false,congrArg D.bl (by decide +kernel),aO ⟨_,rfl,false,congrArg D.bl (by decide +kernel),aO ⟨_,rfl,true,congrArg D.bl (by decide +kernel),ae ⟨_,rfl,_,rfl,x,rfl,hd,hb,q⟩⟩⟩⟩⟩
 |pair g x y=>cases hp
 |choice x y z=>exact⟨_,rfl,_,rfl,⟨_,rfl,false,congrArg D.bl (by decide +kernel),aO ⟨_,rfl,false,congrArg D.bl (by decide +kernel),aO ⟨_,rfl,false,congrArg D.bl (by decide +kernel),aO ⟨_,rfl,_,rfl,_,rfl,_,rfl,_,rfl,_,rfl,x,y,z,rfl,hd,hb,q⟩⟩⟩⟩⟩
 |before x f=>cases hl
 |led x y=>cases hl
 |cS x s=>cases hl
 |held x s f=>cases hl
theorem l6 (d:Df K mg "timed_by" mS ["told","inner"])
  {i:Nat}(hi:i+1<=j)
  (k_Before_2:nq P w K mg base i "Before" A.before (λds Q=>∃(p:Pt) (f:D),ds=[p.d A,f]/\dW f/\(Pt.before p f).depth<=n/\pF (.before p f)/\Q [("part",p.d A),("first",f)]) [])
  (k_Led_2:nq P w K mg base i "Led" A.led (λds Q=>∃x y:Pt,ds=[x.d A,y.d A]/\(Pt.led x y).depth<=n/\pF (.led x y)/\Q [("head",x.d A),("rest",y.d A)]) [])
  (k_When_2:nq P w K mg base i "When" A.cS (λds Q=>∃(p:Pt) (x:Str),ds=[p.d A,.str x]/\mI x/\(Pt.cS p x).depth<=n/\pF (.cS p x)/\Q [("part",p.d A),("name",.str x)]) [])
  (k_Held_3:nq P w K mg base i "Held" A.held (λds Q=>∃(p:Pt) (x:Str) (f:D),ds=[p.d A,.str x,f]/\mI x/\dW f/\(Pt.held p x f).depth<=n/\pF (.held p x f)/\Q [("part",p.d A),("name",.str x),("first",f)]) [])
  : av P w K mg base (j+1) "timed_by" ["told","inner"] (yP A n false):=by
 refine d.dN pM Kn (λds Q ⟨x,e,_⟩=>by rw[e];rfl) (λf cdv A outer s H E hr=>have hu:=hr.units;have hh:=hr.hd;have sc:=pM
  (aG (ar (i:=2) sc.nd rfl (Or.inl rfl) (bT (dv 0) aD (λ_ _=>rfl)))
 (aG (bx (cD hu (dv 2) ah) (aF (aQ (pS k_Before_2 hr (by omega) (by rfl) (aA (bT (dv 1) aD (λ_ _=>rfl)) (aA (bT (dv 0) aD (λ_ _=>rfl)) aB))))) aY)
 (aG (bx (cD hu (dv 2) ah) (aF (aQ (pS k_Led_2 hr (by omega) (by rfl) (aA (bT (dv 1) aD (λ_ _=>rfl)) (aA (bT (dv 1) aD (λ_ _=>rfl)) aB))))) aY)
 (aG (bx (cD hu (dv 2) ah) (aF (aQ (pS k_When_2 hr (by omega) (by rfl) (aA (bT (dv 1) aD (λ_ _=>rfl)) (aA (bT (dv 0) aD (λ_ _=>rfl)) aB))))) aY)
 (aF (aQ (pS k_Held_3 hr (by omega) (by rfl) (aA (bT (dv 1) aD (λ_ _=>rfl)) (aA (bT (dv 0) aD (λ_ _=>rfl)) (aA (bT (dv 0) aD (λ_ _=>rfl)) aB))))))))))) ?_
 rintro ds Q ⟨p,rfl,hp,hl,ho,hb,hd,q⟩
 cases p with
 |given v=>cases hl
 |named s=>cases hl
 |turned x=>cases hl
 |pair g x y=>cases hp
 |choice x y z=>cases hl
 |before x f=>exact⟨_,rfl,_,rfl,⟨_,rfl,true,congrArg D.bl (by decide +kernel),ae ⟨_,rfl,_,rfl,_,rfl,_,rfl,x,f,rfl,ho.2,hd,hb,q⟩⟩⟩
 |led x y=>exact⟨_,rfl,_,rfl,⟨_,rfl,false,congrArg D.bl (by decide +kernel),aO ⟨_,rfl,true,congrArg D.bl (by decide +kernel),ae ⟨_,rfl,_,rfl,_,rfl,_,rfl,x,y,rfl,hd,hb,q⟩⟩⟩⟩
 |cS x s=>exact⟨_,rfl,_,rfl,⟨_,rfl,false,congrArg D.bl (by decide +kernel),aO ⟨_,rfl,false,congrArg D.bl (by decide +kernel),aO ⟨_,rfl,true,congrArg D.bl (by decide +kernel),ae ⟨_,rfl,_,rfl,_,rfl,_,rfl,x,s,rfl,ho.2,hd,hb,q⟩⟩⟩⟩⟩
 |held x s f=>exact⟨_,rfl,_,rfl,⟨_,rfl,false,congrArg D.bl (by decide +kernel),aO ⟨_,rfl,false,congrArg D.bl (by decide +kernel),aO ⟨_,rfl,false,congrArg D.bl (by decide +kernel),aO ⟨_,rfl,_,rfl,_,rfl,_,rfl,_,rfl,_,rfl,x,s,f,rfl,ho.2.1,ho.2.2,hd,hb,q⟩⟩⟩⟩⟩
theorem M7 (x:D)(xs:List D):HT.di (x::xs).length 0 (some 1)=1:=by
 rw[show(1:Int)=((1:Nat):Int) from rfl,HT.pj,List.length_cons]
 omega
theorem fO {x:D}{xs:List D}{R:Prop}:¬ (HT.di (x::xs).length 0 (some 1)=0/\R):=λz=>by
 rw[M7] at z
 exact absurd z.1 (by decide)
theorem ia (p:Pt):(p.inner.map λq=>some (q.d A)).length=(p.inner.map Pt.told).length:=by simp
theorem fi {caps:List Nat}{δ:SD}(p:Pt)(hd:p.depth<=n+1)(ho:p.ok)(hb:pF p)(i:Nat)(d:D)(o:Option D)(h1:(p.inner.map Pt.told)[i]?=some d)(h2:(p.inner.map λq=>some (q.d A))[i]?=some o) :
  Lm (some d::n0 caps δ) λb=>b=o.isSome/\(b=true->D2 (A4 A n) (BZ (lE 0) tI) (some d::n0 caps δ) λy=>o=some y):=by
 rw[List.getElem?_map] at h1 h2
 cases e:p.inner[i]? with
 |none=>rw[e] at h1;cases h1
 |some r =>
  rw[e] at h1 h2
  cases h1
  cases h2
  have hr:=List.mem_of_getElem? e
  have hs:=Pt.tq hr
  have hp:=p.d6 hr (n:=p.depth - 1) (by omega)
  exact⟨rfl,λ_=>⟨_,rfl,r,rfl,p.d6 hr hd,Pt.zU hr ho,⟨by have:=hb.1;omega,Nat.le_trans hs hb.2⟩,rfl⟩⟩
theorem of_lt (p:Pt):(p.inner.map Pt.told).length<sizeLine:=by rw[List.length_map];exact Nat.lt_of_le_of_lt p.df (by decide)
theorem ib (p:Pt):(p.inner.map λq=>some (q.d A)).filterMap id=p.inner.map (Pt.d A):=by rw[List.filterMap_map,filterMap_some]
theorem gu {sa:Addr}(d:Df K mg "many_within" g5 ["told"])(kd_SHAPES:EC w K mg "SHAPES" sa nV)(e9:av P w K mg base j "has_shape" ["told"] (uX Pt.ok λp=>.bl (!p.qN))):av P w K mg base (j+1) "many_within" ["told"] (uX Pt.ok λp=>.int p.inner.length):=by
 refine d.dN kW Kq Ki (λf cdv A outer s H E hr=>have hu:=hr.units;have hh:=hr.hd;have sc:=kW
  (aF (aQ (MW (kZ (aH e9 hr (by omega) (by rfl) (aA (dv 0) aB))) (bT (Bp kd_SHAPES (by rfl) (bT (dv 0) aD (λ_ _=>rfl)) (λ_ _=>rfl)) aD (λ_ _=>rfl)) aD)))) ?_
 rintro ds Q ⟨p,rfl,ho,q⟩
 cases p with
 |given v=>exact⟨_,rfl,.given v,rfl,ho,_,rfl,ae ⟨_,rfl,_,rfl,"given",sh 2 0,rfl,(by kernel_rfl),_,rfl,q⟩⟩
 |named s=>exact⟨_,rfl,.named s,rfl,ho,_,rfl,ae ⟨_,rfl,_,rfl,"named",sh 2 0,rfl,(by kernel_rfl),_,rfl,q⟩⟩
 |turned x=>exact⟨_,rfl,.turned x,rfl,ho,_,rfl,ae ⟨_,rfl,_,rfl,"not",sh 2 1,rfl,(by kernel_rfl),_,rfl,q⟩⟩
 |pair g x y=>exact⟨_,rfl,.pair g x y,rfl,ho,_,rfl,aO q⟩
 |choice x y z=>exact⟨_,rfl,.choice x y z,rfl,ho,_,rfl,ae ⟨_,rfl,_,rfl,"if",sh 4 3,rfl,(by kernel_rfl),_,rfl,q⟩⟩
 |before x f=>exact⟨_,rfl,.before x f,rfl,ho,_,rfl,ae ⟨_,rfl,_,rfl,"before",sh 3 1,rfl,(by kernel_rfl),_,rfl,q⟩⟩
 |led x y=>exact⟨_,rfl,.led x y,rfl,ho,_,rfl,ae ⟨_,rfl,_,rfl,"then",sh 3 2,rfl,(by kernel_rfl),_,rfl,q⟩⟩
 |cS x s=>exact⟨_,rfl,.cS x s,rfl,ho,_,rfl,ae ⟨_,rfl,_,rfl,"when",sh 3 1,rfl,(by kernel_rfl),_,rfl,q⟩⟩
 |held x s f=>exact⟨_,rfl,.held x s f,rfl,ho,_,rfl,ae ⟨_,rfl,_,rfl,"held",sh 4 1,rfl,(by kernel_rfl),_,rfl,q⟩⟩
theorem Ax {i m N:Nat}(hi:i+1<=j)(hN:n<=N)(d:Df K mg "part_of" k_ ["told"])(gu:av P w K mg base j "many_within" ["told"] (uX Pt.ok λp=>.int p.inner.length))(e9:av P w K mg base j "has_shape" ["told"] (uX Pt.ok λp=>.bl (!p.qN)))
  (c_part_of:av P w K mg base j "part_of" ["told"] (A4 A m))(hm:n<=m+1)
  (l5:av P w K mg base j "plain_by" ["told","inner"] (yP A N true))(l6:av P w K mg base j "timed_by" ["told","inner"] (yP A N false))
  (k_Pair_3:nq P w K mg base i "Pair" A.pair (λds Q=>∃(g:Str) (x y:Pt),ds=[.str g,x.d A,y.d A]/\g∈gm/\(Pt.pair g x y).depth<=N/\pF (.pair g x y)/\Q [("sign",.str g),("one",x.d A),("other",y.d A)]) [])
  : av P w K mg base (j+1) "part_of" ["told"] (A4 A n):=by
 refine d.dN ql Mq (λds Q ⟨x,e,_⟩=>by rw[e];rfl) (λf cdv A outer s H E hr=>have hu:=hr.units;have hh:=hr.hd;have sc:=ql
  (aG (Jb (i:=1) sc.nd rfl (Or.inl rfl) (x:="one") (caps:=[]) (cn:=[]) (cl:=[]) (lI (by rfl) (by rfl) (by decide +kernel) (by decide +kernel) (by decide +kernel)) rfl (bw (cv (dv 0) (d9 aD) (d9 (bp aD (aH gu hr (by omega) (by rfl) (aA (dv 0) aB)))))) (λC fp s₂ H₂=>bF (i:=0) (show(["one"]:List Str).Nodup by decide +kernel) rfl (Or.inl rfl) (.inr rfl)) (λC fp s₂ H₂=>eU) (λC fp s₂ H₂=>(aH c_part_of hr (by omega) (by rfl) (aA (dv 0) aB))))
 (aG (bx (ng (kZ (aH e9 hr (by omega) (by rfl) (aA (dv 0) aB)))) (aF (aQ (pS k_Pair_3 hr (by omega) (by rfl) (aA (bT (dv 0) aD (λ_ _=>rfl)) (aA (bT (dv 1) aD (λ_ _=>rfl)) (aA (bT (dv 1) aD (λ_ _=>rfl)) aB)))))) aY)
 (aG (bx (yX (bT (dv 0) aD (λ_ _=>rfl)) (cB (jI (by rfl))) (by rfl)) (aF (aQ (aH l5 hr (by omega) (by rfl) (aA (dv 0) (aA (dv 1) aB))))) aY)
 (aF (aQ (aH l6 hr (by omega) (by rfl) (aA (dv 0) (aA (dv 1) aB))))))))) ?_
 rintro ds Q ⟨p,rfl,hd,ho,hb,q⟩
 have hdm:p.depth<=m+1:=Nat.le_trans hd hm
 have hdN:p.depth<=N:=Nat.le_trans hd hN
 cases p with
 |given v =>
  refine⟨_,rfl,_,rfl,_,rfl,.given v,rfl,ho,_,rfl,fO,(Pt.given v).inner.map Pt.told,rfl,_,ia (.given v),fi (.given v) hdm ho hb,of_lt (.given v),?_⟩
  rw[ib]
  exact⟨_,rfl,.given v,rfl,ho,_,rfl,aO ⟨_,rfl,_,rfl,(by decide),rfl,(by decide),true,congrArg D.bl (by decide +kernel),ae ⟨_,rfl,_,rfl,.given v,rfl,rfl,rfl,ho,hb,hdN,q⟩⟩⟩
 |named s =>
  refine⟨_,rfl,_,rfl,_,rfl,.named s,rfl,ho,_,rfl,fO,(Pt.named s).inner.map Pt.told,rfl,_,ia (.named s),fi (.named s) hdm ho hb,of_lt (.named s),?_⟩
  rw[ib]
  exact⟨_,rfl,.named s,rfl,ho,_,rfl,aO ⟨_,rfl,_,rfl,(by decide),rfl,(by decide),true,congrArg D.bl (by decide +kernel),ae ⟨_,rfl,_,rfl,.named s,rfl,rfl,rfl,ho,hb,hdN,q⟩⟩⟩
 |turned x =>
  refine⟨_,rfl,_,rfl,_,rfl,.turned x,rfl,ho,_,rfl,fO,(Pt.turned x).inner.map Pt.told,rfl,_,ia (.turned x),fi (.turned x) hdm ho hb,of_lt (.turned x),?_⟩
  rw[ib]
  exact⟨_,rfl,.turned x,rfl,ho,_,rfl,aO ⟨_,rfl,_,rfl,(by decide),rfl,(by decide),true,congrArg D.bl (by decide +kernel),ae ⟨_,rfl,_,rfl,.turned x,rfl,rfl,rfl,ho,hb,hdN,q⟩⟩⟩
 |pair g x y =>
  refine⟨_,rfl,_,rfl,_,rfl,.pair g x y,rfl,ho,_,rfl,fO,(Pt.pair g x y).inner.map Pt.told,rfl,_,ia (.pair g x y),fi (.pair g x y) hdm ho hb,of_lt (.pair g x y),?_⟩
  rw[ib]
  exact⟨_,rfl,.pair g x y,rfl,ho,_,rfl,ae ⟨_,rfl,_,rfl,_,rfl,_,rfl,_,rfl,_,rfl,g,x,y,rfl,ho.1,hdN,hb,q⟩⟩
 |choice x y z =>
  refine⟨_,rfl,_,rfl,_,rfl,.choice x y z,rfl,ho,_,rfl,fO,(Pt.choice x y z).inner.map Pt.told,rfl,_,ia (.choice x y z),fi (.choice x y z) hdm ho hb,of_lt (.choice x y z),?_⟩
  rw[ib]
  exact⟨_,rfl,.choice x y z,rfl,ho,_,rfl,aO ⟨_,rfl,_,rfl,(by decide),rfl,(by decide),true,congrArg D.bl (by decide +kernel),ae ⟨_,rfl,_,rfl,.choice x y z,rfl,rfl,rfl,ho,hb,hdN,q⟩⟩⟩
 |before x f =>
  refine⟨_,rfl,_,rfl,_,rfl,.before x f,rfl,ho,_,rfl,fO,(Pt.before x f).inner.map Pt.told,rfl,_,ia (.before x f),fi (.before x f) hdm ho hb,of_lt (.before x f),?_⟩
  rw[ib]
  exact⟨_,rfl,.before x f,rfl,ho,_,rfl,aO ⟨_,rfl,_,rfl,(by decide),rfl,(by decide),false,congrArg D.bl (by decide +kernel),aO ⟨_,rfl,_,rfl,.before x f,rfl,rfl,rfl,ho,hb,hdN,q⟩⟩⟩
 |led x y =>
  refine⟨_,rfl,_,rfl,_,rfl,.led x y,rfl,ho,_,rfl,fO,(Pt.led x y).inner.map Pt.told,rfl,_,ia (.led x y),fi (.led x y) hdm ho hb,of_lt (.led x y),?_⟩
  rw[ib]
  exact⟨_,rfl,.led x y,rfl,ho,_,rfl,aO ⟨_,rfl,_,rfl,(by decide),rfl,(by decide),false,congrArg D.bl (by decide +kernel),aO ⟨_,rfl,_,rfl,.led x y,rfl,rfl,rfl,ho,hb,hdN,q⟩⟩⟩
 |cS x s =>
  refine⟨_,rfl,_,rfl,_,rfl,.cS x s,rfl,ho,_,rfl,fO,(Pt.cS x s).inner.map Pt.told,rfl,_,ia (.cS x s),fi (.cS x s) hdm ho hb,of_lt (.cS x s),?_⟩
  rw[ib]
  exact⟨_,rfl,.cS x s,rfl,ho,_,rfl,aO ⟨_,rfl,_,rfl,(by decide),rfl,(by decide),false,congrArg D.bl (by decide +kernel),aO ⟨_,rfl,_,rfl,.cS x s,rfl,rfl,rfl,ho,hb,hdN,q⟩⟩⟩
 |held x s f =>
  refine⟨_,rfl,_,rfl,_,rfl,.held x s f,rfl,ho,_,rfl,fO,(Pt.held x s f).inner.map Pt.told,rfl,_,ia (.held x s f),fi (.held x s f) hdm ho hb,of_lt (.held x s f),?_⟩
  rw[ib]
  exact⟨_,rfl,.held x s f,rfl,ho,_,rfl,aO ⟨_,rfl,_,rfl,(by decide),rfl,(by decide),false,congrArg D.bl (by decide +kernel),aO ⟨_,rfl,_,rfl,.held x s f,rfl,rfl,rfl,ho,hb,hdN,q⟩⟩⟩
def au (acc:List Str)(n:Str):List Str:=if acc.contains n then acc else acc++[n]
def bf (ls:List (List Str)):List Str:=ls.foldl (λacc l=>l.foldl au acc) []
def ai (l:List Str):D:=.lst (l.map D.str)
def qo:rD:=λds Q=>∃ls:List (List Str),ds=[.lst (ls.map ai)]/\(ls.map List.length).sum<1000/\∀a,Q (.adr a) [(a,.lst ((bf ls).map D.str))]
theorem EJ (acc:List Str)(n:Str):(au acc n).length<=acc.length+1:=by
 unfold au
 split
 ·omega
 ·rw[List.length_append];exact Nat.le_refl _
theorem qH:∀(l acc:List Str),(l.foldl au acc).length<=acc.length+l.length
 |[],acc=>Nat.le_refl _
 |n::l,acc=>by
  have h1:=qH l (au acc n)
  have h2:=EJ acc n
  rw[List.foldl_cons,List.length_cons]
  omega
theorem ky:∀(ls:List (List Str)) (acc:List Str),(ls.foldl (λacc l=>l.foldl au acc) acc).length<=acc.length+(ls.map List.length).sum
 |[],acc=>Nat.le_refl _
 |l::ls,acc=>by
  have h1:=ky ls (l.foldl au acc)
  have h2:=qH l acc
  rw[List.foldl_cons,List.map_cons,List.sum_cons]
  omega
theorem pO (ls:List Nat):∀i,(ls.take i).sum<=ls.sum:=by
 induction ls with
 |nil=>intro i;simp
 |cons a ls ih =>
  intro i
  cases i with
  |zero=>simp
  |succ i=>rw[List.take_succ_cons,List.sum_cons,List.sum_cons];have:=ih i;omega
theorem He (d:Df K mg "once" yO ["lists"]):iN P w K mg base (j+1) "once" ["lists"] qo:=by
 refine d.rG zf (λds P P' g ⟨ls,e,h,q⟩=>⟨ls,e,h,λa=>g _ _ (q a)⟩) (λds Q ⟨ls,e,_⟩=>by rw[e];rfl) (λf cdv A outer s H E hr=>have hu:=hr.units;have hh:=hr.hd;have sc:=zf
  (aM (iX (i:=1) sc.nd rfl (Or.inl rfl) aB)
 (aM (cX PassesOwn.never rfl (bw (dv 0)) (bO (i:=2) sc.nd rfl (Or.inl rfl)) (aS (cX PassesOwn.never rfl (bw (dv 2)) (bO (i:=3) sc.nd rfl (Or.inl rfl)) (aS (fc (gn (dv 3) (dv 1) (by rfl)) (aS (hW (i:=1) rfl (Or.inl rfl) (dv 3))) dH)))))
 (aS (cb (aQ (dv 1))))))) ?_
 rintro ds Q ⟨ls,rfl,hz,q⟩
 refine⟨(by decide),λa _=>?_⟩
 refine⟨_,rfl,ls.map ai,rfl,λi δ μ=>(∃x y,δ=[some (.lst (ls.map ai)),some (.adr a),x,y])/\μ=[(a,.lst ((bf (ls.take i)).map D.str))],⟨⟨none,none,rfl⟩,rfl⟩,?_,?_⟩
 ·rintro i d δ μ hd ⟨⟨x,y,rfl⟩,rfl⟩
  rw[List.getElem?_map] at hd
  cases hl:ls[i]? with
  |none=>rw[hl] at hd;cases hd
  |some l =>
   rw[hl] at hd
   obtain rfl:ai l=d:=by simpa using hd
   have e1:bf (ls.take (i+1))=l.foldl au (bf (ls.take i)):=by
    unfold bf
    rw[List.take_succ,hl,List.foldl_append]
    rfl
   have hsum:(bf (ls.take i)).length+l.length<1000:=by
    have h1:=ky (ls.take i) []
    have h2:=pO (ls.map List.length) (i+1)
    rw[<- List.map_take,List.take_succ,hl] at h2
    simp only[Option.toList_some,List.map_append,List.map_cons,List.map_nil,List.sum_append,List.sum_cons,List.sum_nil] at h2
    simp only[List.length_nil] at h1
    unfold bf
    omega
   refine⟨_,rfl,l.map D.str,rfl,λk δ μ=>(∃y,δ=[some (.lst (ls.map ai)),some (.adr a),some (ai l),y])/\μ=[(a,.lst (((l.take k).foldl au (bf (ls.take i))).map D.str))],⟨⟨y,rfl⟩,rfl⟩,?_,?_⟩
   ·rintro k d δ μ hd ⟨⟨y,rfl⟩,rfl⟩
    rw[List.getElem?_map] at hd
    cases hn:l[k]? with
    |none=>rw[hn] at hd;cases hd
    |some n =>
     rw[hn] at hd
     obtain rfl:D.str n=d:=by simpa using hd
     have hk:k<l.length:=(List.getElem?_eq_some_iff.mp hn).1
     have e2:(l.take (k+1)).foldl au (bf (ls.take i))=au ((l.take k).foldl au (bf (ls.take i))) n:=by
      rw[List.take_succ,hn,List.foldl_append]
      rfl
     have hlen:((l.take k).foldl au (bf (ls.take i))).length<1000:=by
      have h1:=qH (l.take k) (bf (ls.take i))
      rw[List.length_take] at h1
      omega
     generalize hacc:(l.take k).foldl au (bf (ls.take i))=acc at e2 hlen
     have hview:ay [(a,MD.lst (acc.map D.str))] (.adr a)=.lst (acc.map D.str):=by simp[ay,MD.d,List.lookup]
     refine⟨_,rfl,_,congrArg (λz=>some (some z)) hview,rfl,b_ acc,!acc.contains n,by rw[<- d7];rfl,?_⟩
     cases hc:acc.contains n with
     |true =>
      refine aO ?_
      refine⟨⟨_,rfl⟩,?_⟩
      rw[e2]
      unfold au
      rw[hc]
      rfl
     |false =>
      refine ae ?_
      refine⟨a,acc.map D.str,rfl,by simp[List.lookup],?_,_,rfl,⟨_,rfl⟩,?_⟩
      ·rw[List.length_map];exact Nat.lt_trans hlen (by decide)
      ·rw[e2]
       unfold au
       rw[hc]
       simp[fR]
   ·rintro δ μ ⟨⟨y,rfl⟩,rfl⟩
    refine⟨⟨_,_,rfl⟩,?_⟩
    rw[List.length_map,List.take_length,e1]
 ·rintro δ μ ⟨⟨x,y,rfl⟩,rfl⟩
  refine⟨_,rfl,?_⟩
  rw[List.length_map,List.take_length]
  exact q a
def Pt.own:Pt->List Str
 |.named n=>[n]|.cS _ n=>[n]|.held _ n _=>[n]|_=>[]
def Pt.names:Pt->List Str
 |.given _=>bf [[]]
 |.named n=>bf [[n]]
 |.turned p=>bf [p.names,[]]
 |.pair _ a b=>bf [a.names,b.names,[]]
 |.choice t a b=>bf [t.names,a.names,b.names,[]]
 |.before p _=>bf [p.names,[]]
 |.led h r=>bf [h.names,r.names,[]]
 |.cS p n=>bf [p.names,[n]]
 |.held p n _=>bf [p.names,[n]]
theorem Pt.gZ (p:Pt):p.names=bf (p.inner.map Pt.names++[p.own]):=by cases p<;>rfl
theorem bo (ls:List (List Str)):(bf ls).length<=(ls.map List.length).sum:=by
 have:=ky ls []
 simpa [bf] using this
theorem Pt.aq:∀p:Pt,p.names.length<=p.size
 |.given _=>by have:=bo [[]];simp only[Pt.names,Pt.size,List.map_cons,List.map_nil,List.sum_cons,List.sum_nil,List.length_nil] at *;omega
 |.named n=>by have:=bo [[n]];simp only[Pt.names,Pt.size,List.map_cons,List.map_nil,List.sum_cons,List.sum_nil,List.length_cons,List.length_nil] at *;omega
 |.turned p=>by have:=bo [p.names,[]];have h1:=p.aq;simp only[Pt.names,Pt.size,List.map_cons,List.map_nil,List.sum_cons,List.sum_nil,List.length_nil] at *;omega
 |.pair _ a b=>by have:=bo [a.names,b.names,[]];have h1:=a.aq;have h2:=b.aq;simp only[Pt.names,Pt.size,List.map_cons,List.map_nil,List.sum_cons,List.sum_nil,List.length_nil] at *;omega
 |.choice t a b=>by have:=bo [t.names,a.names,b.names,[]];have h0:=t.aq;have h1:=a.aq;have h2:=b.aq;simp only[Pt.names,Pt.size,List.map_cons,List.map_nil,List.sum_cons,List.sum_nil,List.length_nil] at *;omega
 |.before p _=>by have:=bo [p.names,[]];have h1:=p.aq;simp only[Pt.names,Pt.size,List.map_cons,List.map_nil,List.sum_cons,List.sum_nil,List.length_nil] at *;omega
 |.led h r=>by have:=bo [h.names,r.names,[]];have h1:=h.aq;have h2:=r.aq;simp only[Pt.names,Pt.size,List.map_cons,List.map_nil,List.sum_cons,List.sum_nil,List.length_nil] at *;omega
 |.cS p n=>by have:=bo [p.names,[n]];have h1:=p.aq;simp only[Pt.names,Pt.size,List.map_cons,List.map_nil,List.sum_cons,List.sum_nil,List.length_cons,List.length_nil] at *;omega
 |.held p n _=>by have:=bo [p.names,[n]];have h1:=p.aq;simp only[Pt.names,Pt.size,List.map_cons,List.map_nil,List.sum_cons,List.sum_nil,List.length_cons,List.length_nil] at *;omega
theorem Pt.A9 (p:Pt):((p.inner.map Pt.names++[p.own]).map List.length).sum<=p.size:=by
 cases p<;>simp only[Pt.inner,Pt.own,Pt.size,List.map_cons,List.map_nil,List.cons_append,List.nil_append,List.sum_cons,List.sum_nil,List.length_cons,List.length_nil]
 case turned a=>have:=a.aq;omega
 case pair a b=>have:=a.aq;have:=b.aq;omega
 case choice t a b=>have:=t.aq;have:=a.aq;have:=b.aq;omega
 case before a _=>have:=a.aq;omega
 case led a b=>have:=a.aq;have:=b.aq;omega
 case cS a _=>have:=a.aq;omega
 case held a _ _=>have:=a.aq;omega
 all_goals omega
def okN (p:Pt):Prop:=p.size<=900
theorem sD:wH "names":=by unfold wH;decide +kernel
theorem zT:wH "own_names":=by unfold wH;decide +kernel
def DX (A:bR)(n:Nat)(ok:Pt->Prop)(g:Pt->List Str)(C:Addr):rD:=λds Q=>∃p:Pt,ds=[p.d A]/\p.cls A=C/\p.depth<=n/\ok p/\∀a,Q (.adr a) [(a,.lst ((g p).map D.str))]
theorem xg {A:bR}{n:Nat}{ok:Pt->Prop}{g:Pt->List Str}{C:Addr}:iO (DX A n ok g C):=λds P P' f ⟨p,e,c,h,o,q⟩=>⟨p,e,c,h,o,λa=>f _ _ (q a)⟩
abbrev MF (P:Program)(w:World)(K:PySem.W.Frag)(mg:Str->Option Value)(base:Heap)(A:bR)(j:Nat)(m:Str)(n:Nat)(ok:Pt->Prop)(g:Pt->List Str):Prop:=∀C,ur A C->jH P w K mg base j C m (DX A n ok g C)
theorem MF.q {m:Str}{ok:Pt->Prop}{g:Pt->List Str}(h:MF P w K mg base A j m n ok g):MQ P w K mg base A j m n ok λp=>ai (g p):=λC hC=>by
 obtain⟨f,fd,ps,c,M,F,b⟩:=(h C hC).ex
 refine⟨⟨f,fd,ps,[],[],c,M,F.imp (yU xg λds Q ⟨p,e,e2,hd,ho,q⟩=>⟨p,e,e2,hd,ho,λa=>?_⟩),b,.nil,λ_=>.nil⟩,Ni⟩
 have hview:ay [(a,MD.lst ((g p).map D.str))] (.adr a)=ai (g p):=by simp[ay,MD.d,List.lookup,ai]
 show Q (ay [(a,MD.lst ((g p).map D.str))] (.adr a))
 rw[hview]
 exact q
theorem Cq (d:∀C,ur A C->Dm K C "names" "Part.names" bH ["self"])(cf_once:iN P w K mg base j "once" ["lists"] qo)(m_inner:MP P w K mg base A j "inner" (n+1) (d0 A))(m_own_names:MP P w K mg base A j "own_names" (n+1) λp=>ai p.own)
  (m_names:MQ P w K mg base A j "names" n okN λp=>ai p.names):MF P w K mg base A (j+1) "names" (n+1) okN Pt.names:=by
 intro C hC
 refine(d C hC).rG lP xg (λds Q ⟨p,e,_⟩=>by rw[e];rfl) (λf cdv A outer s H E hr=>have hu:=hr.units;have hh:=hr.hd;have sc:=lP
  (aS (gY (y_ cf_once hr (by omega) (by rfl) (aA (bp (l9 (x:="part") (caps:=[]) (cn:=[]) (cl:=[]) (lI (by rfl) (by rfl) (by decide +kernel) (by decide +kernel) (by decide +kernel)) rfl (bw (dh m_inner hr (by omega) (dv 0))) (λC fp s₂ H₂=>bF (i:=0) (show(["part"]:List Str).Nodup by decide +kernel) rfl (Or.inl rfl) (.inr rfl)) (λC fp s₂ H₂=>eU) (λC fp s₂ H₂=>(dh m_names hr (by omega) (dv 0)))) (bb (aA (dh m_own_names hr (by omega) (dv 0)) aB))) aB))))) ?_
 rintro ds Q ⟨p,rfl,hc,hd,ho,q⟩
 refine dR b7 kx ⟨_,rfl,rfl⟩ hd ?_
 refine⟨p.inner.map (Pt.d A),rfl,p.inner.map λq=>some (ai q.names),by simp,λi d o hd' ho'=>?_,?_,?_⟩
 ·obtain⟨r,hr,e1,e2⟩:=mr hd' ho'
  subst e1 e2
  exact⟨rfl,λ_=>dB b7 sD ⟨_,rfl,rfl⟩ (p.d6 hr hd) (Nat.le_trans (Pt.tq hr) ho) rfl⟩
 ·rw[List.length_map];exact Nat.lt_of_le_of_lt p.df (by decide)
 ·refine dR (p:=p) b7 zT ⟨_,rfl,rfl⟩ hd ⟨zL1,?_⟩
  have e:(p.inner.map λq=>some (ai q.names)).filterMap id++[ai p.own]=(p.inner.map Pt.names++[p.own]).map ai:=by
   rw[List.filterMap_map,filterMap_some,List.map_append,List.map_map]
   rfl
  refine⟨?_,p.inner.map Pt.names++[p.own],?_,?_,λa=>?_⟩
  ·show((p.inner.map λq=>some (ai q.names)).filterMap id).length+1<=sizeLine
   rw[List.filterMap_map,filterMap_some,List.length_map]
   exact Nat.le_trans (Nat.add_le_add_right p.df 1) (by decide)
  ·exact congrArg (λz=>[D.lst z]) e
  ·exact Nat.lt_of_le_of_lt p.A9 (Nat.lt_of_le_of_lt ho (by decide))
  ·rw[<- Pt.gZ];exact q a
def Pt.aR:Pt->List Str
 |.given _=>bf [[]]
 |.named n=>bf [[n]]
 |.turned p=>bf [p.aR,[]]
 |.pair _ a b=>bf [a.aR,b.aR,[]]
 |.choice t a b=>bf [t.aR,a.aR,b.aR,[]]
 |.before _ _=>[]
 |.led h r=>bf [h.aR,r.aR,[]]
 |.cS p n=>bf [p.aR,[n]]
 |.held p n _=>bf [p.aR,[n]]
structure EA (K:PySem.W.Frag) (A:bR):Prop where
 given:Dm K A.given "own_names" "Part.own_names" aP ["self"]
 named:Dm K A.named "own_names" "Named.own_names" ck ["self"]
 turned:Dm K A.turned "own_names" "Part.own_names" aP ["self"]
 pair:Dm K A.pair "own_names" "Part.own_names" aP ["self"]
 choice:Dm K A.choice "own_names" "Part.own_names" aP ["self"]
 before:Dm K A.before "own_names" "Part.own_names" aP ["self"]
 led:Dm K A.led "own_names" "Part.own_names" aP ["self"]
 cS:Dm K A.cS "own_names" "When.own_names" dA ["self"]
 held:Dm K A.held "own_names" "Held.own_names" cz ["self"]
theorem Ar (hA:gT K A)(d:Dm K A.given "own_names" "Part.own_names" aP ["self"]):cA P w K mg base (j+1) A.given "own_names" (qp A n (λp=>ai p.own) A.given) []:=by
 refine d.dN aZ rL rh (λf cdv A outer s H E hr=>have hu:=hr.units;have hh:=hr.hd;have sc:=aZ
  (aF (aQ (bb aB)))) ?_
 rintro ds Q ⟨p,rfl,hc,hd,q⟩
 have c:=hA.cl _ (Pt.aW A p)
 have no:=hA.g7 _ (Pt.aW A p)
 obtain⟨v,rfl⟩:=vp hA hc
 exact⟨zL0,q⟩
theorem Au (hA:gT K A)(d:Dm K A.named "own_names" "Named.own_names" ck ["self"]):cA P w K mg base (j+1) A.named "own_names" (qp A n (λp=>ai p.own) A.named) []:=by
 refine d.dN gM rL rh (λf cdv A outer s H E hr=>have hu:=hr.units;have hh:=hr.hd;have sc:=gM
  (aF (aQ (bb (aA (bD K rfl (dv 0) (by rfl)) aB))))) ?_
 rintro ds Q ⟨p,rfl,hc,hd,q⟩
 have c:=hA.cl _ (Pt.aW A p)
 have no:=hA.g7 _ (Pt.aW A p)
 obtain⟨s,rfl⟩:=vq hA hc
 exact bI rfl c (no _ (by decide)) (by kernel_rfl) ⟨zL1,q⟩
theorem yB (hA:gT K A)(d:Dm K A.turned "own_names" "Part.own_names" aP ["self"]):cA P w K mg base (j+1) A.turned "own_names" (qp A n (λp=>ai p.own) A.turned) []:=by
 refine d.dN aZ rL rh (λf cdv A outer s H E hr=>have hu:=hr.units;have hh:=hr.hd;have sc:=aZ
  (aF (aQ (bb aB)))) ?_
 rintro ds Q ⟨p,rfl,hc,hd,q⟩
 have c:=hA.cl _ (Pt.aW A p)
 have no:=hA.g7 _ (Pt.aW A p)
 obtain⟨x,rfl⟩:=ra hA hc
 exact⟨zL0,q⟩
theorem C6 (hA:gT K A)(d:Dm K A.pair "own_names" "Part.own_names" aP ["self"]):cA P w K mg base (j+1) A.pair "own_names" (qp A n (λp=>ai p.own) A.pair) []:=by
 refine d.dN aZ rL rh (λf cdv A outer s H E hr=>have hu:=hr.units;have hh:=hr.hd;have sc:=aZ
  (aF (aQ (bb aB)))) ?_
 rintro ds Q ⟨p,rfl,hc,hd,q⟩
 have c:=hA.cl _ (Pt.aW A p)
 have no:=hA.g7 _ (Pt.aW A p)
 obtain⟨g,x,y,rfl⟩:=zF hA hc
 exact⟨zL0,q⟩
theorem x_ (hA:gT K A)(d:Dm K A.choice "own_names" "Part.own_names" aP ["self"]):cA P w K mg base (j+1) A.choice "own_names" (qp A n (λp=>ai p.own) A.choice) []:=by
 refine d.dN aZ rL rh (λf cdv A outer s H E hr=>have hu:=hr.units;have hh:=hr.hd;have sc:=aZ
  (aF (aQ (bb aB)))) ?_
 rintro ds Q ⟨p,rfl,hc,hd,q⟩
 have c:=hA.cl _ (Pt.aW A p)
 have no:=hA.g7 _ (Pt.aW A p)
 obtain⟨x,y,z,rfl⟩:=rZ hA hc
 exact⟨zL0,q⟩
theorem xy (hA:gT K A)(d:Dm K A.before "own_names" "Part.own_names" aP ["self"]):cA P w K mg base (j+1) A.before "own_names" (qp A n (λp=>ai p.own) A.before) []:=by
 refine d.dN aZ rL rh (λf cdv A outer s H E hr=>have hu:=hr.units;have hh:=hr.hd;have sc:=aZ
  (aF (aQ (bb aB)))) ?_
 rintro ds Q ⟨p,rfl,hc,hd,q⟩
 have c:=hA.cl _ (Pt.aW A p)
 have no:=hA.g7 _ (Pt.aW A p)
 obtain⟨x,f,rfl⟩:=oG hA hc
 exact⟨zL0,q⟩
theorem Fe (hA:gT K A)(d:Dm K A.led "own_names" "Part.own_names" aP ["self"]):cA P w K mg base (j+1) A.led "own_names" (qp A n (λp=>ai p.own) A.led) []:=by
 refine d.dN aZ rL rh (λf cdv A outer s H E hr=>have hu:=hr.units;have hh:=hr.hd;have sc:=aZ
  (aF (aQ (bb aB)))) ?_
 rintro ds Q ⟨p,rfl,hc,hd,q⟩
 have c:=hA.cl _ (Pt.aW A p)
 have no:=hA.g7 _ (Pt.aW A p)
 obtain⟨x,y,rfl⟩:=CH hA hc
 exact⟨zL0,q⟩
theorem Ff (hA:gT K A)(d:Dm K A.cS "own_names" "When.own_names" dA ["self"]):cA P w K mg base (j+1) A.cS "own_names" (qp A n (λp=>ai p.own) A.cS) []:=by
 refine d.dN gi rL rh (λf cdv A outer s H E hr=>have hu:=hr.units;have hh:=hr.hd;have sc:=gi
  (aF (aQ (bb (aA (bD K rfl (dv 0) (by rfl)) aB))))) ?_
 rintro ds Q ⟨p,rfl,hc,hd,q⟩
 have c:=hA.cl _ (Pt.aW A p)
 have no:=hA.g7 _ (Pt.aW A p)
 obtain⟨x,s,rfl⟩:=CI hA hc
 exact bI rfl c (no _ (by decide)) (by kernel_rfl) ⟨zL1,q⟩
theorem C5 (hA:gT K A)(d:Dm K A.held "own_names" "Held.own_names" cz ["self"]):cA P w K mg base (j+1) A.held "own_names" (qp A n (λp=>ai p.own) A.held) []:=by
 refine d.dN gd rL rh (λf cdv A outer s H E hr=>have hu:=hr.units;have hh:=hr.hd;have sc:=gd
  (aF (aQ (bb (aA (bD K rfl (dv 0) (by rfl)) aB))))) ?_
 rintro ds Q ⟨p,rfl,hc,hd,q⟩
 have c:=hA.cl _ (Pt.aW A p)
 have no:=hA.g7 _ (Pt.aW A p)
 obtain⟨x,s,f,rfl⟩:=zE hA hc
 exact bI rfl c (no _ (by decide)) (by kernel_rfl) ⟨zL1,q⟩
theorem zW (hA:gT K A)(d:EA K A)(n:Nat):MP P w K mg base A (j+1) "own_names" n λp=>ai p.own:=λC ⟨p,e⟩=>by
 subst e
 cases p
 ·exact Ar hA d.given
 ·exact Au hA d.named
 ·exact yB hA d.turned
 ·exact C6 hA d.pair
 ·exact x_ hA d.choice
 ·exact xy hA d.before
 ·exact Fe hA d.led
 ·exact Ff hA d.cS
 ·exact C5 hA d.held
theorem Dm.xp {C:Addr}{m qual:Str}{st:Stmt}{ps:List Str}{sd:rD}(d:Dm K C m qual st ps)(ms:iO sd)(h:∀ds Q,¬sd ds Q):jH P w K mg base j C m sd:=by
 obtain⟨f,fd,F,M,c,b⟩:=d.ex
 exact⟨⟨f,fd,ps,c,M,⟨λvs H Q E ⟨ds,_,q⟩=>(h _ _ q).elim,λA outer s H args us vs Q E _ _ _ _ ⟨ds,_,q⟩=>(h _ _ q).elim⟩,b⟩,ms⟩
theorem um {ok:Pt->Prop}{g:Pt->List Str}{C:Addr}(ds:List D)(Q:D->Mu->Prop):¬ DX A 0 ok g C ds Q:=fun⟨p,_,_,h,_⟩=>absurd p.fu (by omega)
theorem rz (hA:gT K A)(dI:nj K A)(dO:EA K A)(c1:iN P w K mg base 1 "once" ["lists"] qo)(d:∀C,ur A C->Dm K C "names" "Part.names" bH ["self"]):∀n,MF P w K mg base A (n+1) "names" n okN Pt.names
 | 0=>λC hC=>Dm.xp (d C hC) xg um
 |n+1=>Cq d (let ⟨f,fd,F,r⟩:=c1.ex;⟨⟨f,fd,F.mono (show 1<=n+1 by omega),r⟩,c1.ms⟩) (ko hA dI _) (zW hA dO _) (MF.q (rz hA dI dO c1 d n))
def Pt.hU:Pt->Bool
 |.before _ _=>true
 |_=>false
theorem Pt.jW (p:Pt)(h:p.hU=false):p.aR=bf (p.inner.map Pt.aR++[p.own]):=by cases p<;>first|rfl|cases h
theorem Pt.aj:∀p:Pt,p.aR.length<=p.size
 |.given _=>by have:=bo [[]];simp only[Pt.aR,Pt.size,List.map_cons,List.map_nil,List.sum_cons,List.sum_nil,List.length_nil] at *;omega
 |.named n=>by have:=bo [[n]];simp only[Pt.aR,Pt.size,List.map_cons,List.map_nil,List.sum_cons,List.sum_nil,List.length_cons,List.length_nil] at *;omega
 |.turned p=>by have:=bo [p.aR,[]];have h1:=p.aj;simp only[Pt.aR,Pt.size,List.map_cons,List.map_nil,List.sum_cons,List.sum_nil,List.length_nil] at *;omega
 |.pair _ a b=>by have:=bo [a.aR,b.aR,[]];have h1:=a.aj;have h2:=b.aj;simp only[Pt.aR,Pt.size,List.map_cons,List.map_nil,List.sum_cons,List.sum_nil,List.length_nil] at *;omega
 |.choice t a b=>by have:=bo [t.aR,a.aR,b.aR,[]];have h0:=t.aj;have h1:=a.aj;have h2:=b.aj;simp only[Pt.aR,Pt.size,List.map_cons,List.map_nil,List.sum_cons,List.sum_nil,List.length_nil] at *;omega
 |.before p _=>by simp only[Pt.aR,Pt.size,List.length_nil];omega
 |.led h r=>by have:=bo [h.aR,r.aR,[]];have h1:=h.aj;have h2:=r.aj;simp only[Pt.aR,Pt.size,List.map_cons,List.map_nil,List.sum_cons,List.sum_nil,List.length_nil] at *;omega
 |.cS p n=>by have:=bo [p.aR,[n]];have h1:=p.aj;simp only[Pt.aR,Pt.size,List.map_cons,List.map_nil,List.sum_cons,List.sum_nil,List.length_cons,List.length_nil] at *;omega
 |.held p n _=>by have:=bo [p.aR,[n]];have h1:=p.aj;simp only[Pt.aR,Pt.size,List.map_cons,List.map_nil,List.sum_cons,List.sum_nil,List.length_cons,List.length_nil] at *;omega
theorem Pt.sj (p:Pt):((p.inner.map Pt.aR++[p.own]).map List.length).sum<=p.size:=by
 cases p<;>simp only[Pt.inner,Pt.own,Pt.size,List.map_cons,List.map_nil,List.cons_append,List.nil_append,List.sum_cons,List.sum_nil,List.length_cons,List.length_nil]
 case turned a=>have:=a.aj;omega
 case pair a b=>have:=a.aj;have:=b.aj;omega
 case choice t a b=>have:=t.aj;have:=a.aj;have:=b.aj;omega
 case before a _=>have:=a.aj;omega
 case led a b=>have:=a.aj;have:=b.aj;omega
 case cS a _=>have:=a.aj;omega
 case held a _ _=>have:=a.aj;omega
 all_goals omega
theorem sE:wH "needs":=by unfold wH;decide +kernel
theorem Cr {C:Addr}(hB:∀p:Pt,p.cls A=C->p.hU=false)(d:Dm K C "needs" "Part.needs" ba ["self"])(cf_once:iN P w K mg base j "once" ["lists"] qo)(m_inner:MP P w K mg base A j "inner" (n+1) (d0 A))(m_own_names:MP P w K mg base A j "own_names" (n+1) λp=>ai p.own)
  (m_needs:MQ P w K mg base A j "needs" n okN λp=>ai p.aR):jH P w K mg base (j+1) C "needs" (DX A (n+1) okN Pt.aR C):=by
 refine d.rG lQ xg (λds Q ⟨p,e,_⟩=>by rw[e];rfl) (λf cdv A outer s H E hr=>have hu:=hr.units;have hh:=hr.hd;have sc:=lQ
  (aS (gY (y_ cf_once hr (by omega) (by rfl) (aA (bp (l9 (x:="part") (caps:=[]) (cn:=[]) (cl:=[]) (lI (by rfl) (by rfl) (by decide +kernel) (by decide +kernel) (by decide +kernel)) rfl (bw (dh m_inner hr (by omega) (dv 0))) (λC fp s₂ H₂=>bF (i:=0) (show(["part"]:List Str).Nodup by decide +kernel) rfl (Or.inl rfl) (.inr rfl)) (λC fp s₂ H₂=>eU) (λC fp s₂ H₂=>(dh m_needs hr (by omega) (dv 0)))) (bb (aA (dh m_own_names hr (by omega) (dv 0)) aB))) aB))))) ?_
 rintro ds Q ⟨p,rfl,hc,hd,ho,q⟩
 refine dR b7 kx ⟨_,rfl,rfl⟩ hd ?_
 refine⟨p.inner.map (Pt.d A),rfl,p.inner.map λq=>some (ai q.aR),by simp,λi d o hd' ho'=>?_,?_,?_⟩
 ·obtain⟨r,hr,e1,e2⟩:=mr hd' ho'
  subst e1 e2
  exact⟨rfl,λ_=>dB b7 sE ⟨_,rfl,rfl⟩ (p.d6 hr hd) (Nat.le_trans (Pt.tq hr) ho) rfl⟩
 ·rw[List.length_map];exact Nat.lt_of_le_of_lt p.df (by decide)
 ·refine dR (p:=p) b7 zT ⟨_,rfl,rfl⟩ hd ⟨zL1,?_⟩
  have e:(p.inner.map λq=>some (ai q.aR)).filterMap id++[ai p.own]=(p.inner.map Pt.aR++[p.own]).map ai:=by
   rw[List.filterMap_map,filterMap_some,List.map_append,List.map_map]
   rfl
  refine⟨?_,p.inner.map Pt.aR++[p.own],?_,?_,λa=>?_⟩
  ·show((p.inner.map λq=>some (ai q.aR)).filterMap id).length+1<=sizeLine
   rw[List.filterMap_map,filterMap_some,List.length_map]
   exact Nat.le_trans (Nat.add_le_add_right p.df 1) (by decide)
  ·exact congrArg (λz=>[D.lst z]) e
  ·exact Nat.lt_of_le_of_lt p.sj (Nat.lt_of_le_of_lt ho (by decide))
  ·rw[<- Pt.jW p (hB p hc)];exact q a
theorem uJ (hA:gT K A)(d:Dm K A.before "needs" "Before.needs" eD ["self"]):jH P w K mg base (j+1) A.before "needs" (DX A n okN Pt.aR A.before):=by
 refine d.rG i8 xg (λds Q ⟨p,e,_⟩=>by rw[e];rfl) (λf cdv A outer s H E hr=>have hu:=hr.units;have hh:=hr.hd;have sc:=i8
  (aS (gY (qG aB)))) ?_
 rintro ds Q ⟨p,rfl,hc,hd,ho,q⟩
 obtain⟨x,f,rfl⟩:=oG hA hc
 exact⟨zL0,λa=>q a⟩
structure BU (K:PySem.W.Frag) (A:bR):Prop where
 part:∀C,ur A C->C≠A.before->Dm K C "needs" "Part.needs" ba ["self"]
 before:Dm K A.before "needs" "Before.needs" eD ["self"]
theorem r0 (hA:gT K A)(dI:nj K A)(dO:EA K A)(c1:iN P w K mg base 1 "once" ["lists"] qo)(d:BU K A):∀n,MF P w K mg base A (n+1) "needs" n okN Pt.aR
 | 0=>λC hC=>by
  by_cases h:C=A.before
  ·subst h;exact Dm.xp d.before xg um
  ·exact Dm.xp (d.part C hC h) xg um
 |n+1=>λC hC=>by
  by_cases h:C=A.before
  ·subst h;exact uJ hA d.before
  ·refine Cr (λp hp=>?_) (d.part C hC h) (let ⟨f,fd,F,r⟩:=c1.ex;⟨⟨f,fd,F.mono (show 1<=n+1 by omega),r⟩,c1.ms⟩) (ko hA dI _) (zW hA dO _) (MF.q (r0 hA dI dO c1 d n))
   cases p<;>first|rfl|exact absurd hp.symm h
end
inductive Ln where
 |kq (n k:Str) (o:Option Str)|row (n k:Str) (p:Pt) (o:Option Str)
structure LA where
 kq:Addr
 row:Addr
 sh:Addr
def zV:Option Str->D
 |none=>.ak
 |some x=>.str x
def Ln.cls (L:LA):Ln->Addr
 |.kq _ _ _=>L.kq
 |.row _ _ _ _=>L.row
def Ln.d (A:bR)(L:LA):Ln->D
 |.kq n k o=>.obj L.kq [("name",.str n),("kind",.str k),("on",zV o)]
 |.row n k p o=>.obj L.row [("name",.str n),("kind",.str k),("part",p.d A),("on",zV o)]
def Ln.own:Ln->List Str
 |.kq n _ _=>[n]
 |.row n _ _ _=>[n]
def Ln.parts:Ln->List Pt
 |.kq _ _ _=>[]
 |.row _ _ p _=>[p]
def Ln.on:Ln->Option Str
 |.kq _ _ o=>o
 |.row _ _ _ o=>o
def Ln.qz:Ln->Bool
 |.kq _ k _=>k == "truth"
 |.row _ k _ _=>k == "truth"
def J0:List Str:=["name","kind","part","on","binds","module","parts","inputs","outputs","lines"]
structure tF (K:PySem.W.Frag) (L:LA):Prop where
 n1:L.kq≠L.row
 cl:∀C∈[L.kq,L.row,L.sh],rE K C
 g7:∀C∈[L.kq,L.row,L.sh],∀f∈J0,dE K C f
theorem Ln.aW (L:LA)(x:Ln):x.cls L∈[L.kq,L.row,L.sh]:=by cases x<;>simp[Ln.cls]
theorem xV {K:PySem.W.Frag}{L:LA}(hL:tF K L){x:Ln}(h:x.cls L=L.kq):∃n k o,x=.kq n k o:=by
 cases x with
 |kq n k o=>exact⟨n,k,o,rfl⟩
 |row n k p o=>exact absurd h.symm hL.n1
theorem xW {K:PySem.W.Frag}{L:LA}(hL:tF K L){x:Ln}(h:x.cls L=L.row):∃n k p o,x=.row n k p o:=by
 cases x with
 |kq n k o=>exact absurd h hL.n1
 |row n k p o=>exact⟨n,k,p,o,rfl⟩
def CF (L:LA)(C:Addr):Prop:=∃x:Ln,x.cls L=C
def pV (x:Ln):Prop:=x.own.length<=8/\x.parts.length<=8/\∀p∈x.parts,p.depth<=4/\p.size<=40
def D_ (A:bR)(L:LA)(g:Ln->D)(C:Addr):cF:=λds Q=>∃x:Ln,ds=[x.d A L]/\x.cls L=C/\pV x/\Q (g x)
theorem Ko {A:bR}{L:LA}{g:Ln->D}{C:Addr}:cK (D_ A L g C):=λds P P' f ⟨x,e,c,o,q⟩=>⟨x,e,c,o,f _ q⟩
theorem L3 {A:bR}{L:LA}{g:Ln->D}{C:Addr}(ds:List D)(Q:D->Prop)(h:D_ A L g C ds Q):ds.length=1:=by obtain⟨x,e,_⟩:=h;rw[e];rfl
def F4 (A:bR)(L:LA)(g:Ln->List Str)(C:Addr):rD:=λds Q=>∃x:Ln,ds=[x.d A L]/\x.cls L=C/\pV x/\∀a,Q (.adr a) [(a,.lst ((g x).map D.str))]
theorem Kp {A:bR}{L:LA}{g:Ln->List Str}{C:Addr}:iO (F4 A L g C):=λds P P' f ⟨x,e,c,o,q⟩=>⟨x,e,c,o,λa=>f _ _ (q a)⟩
def wG (m:Str):Prop:=∀f∈J0,(m == f)=false
theorem wJ (A:bR)(L:LA){m:Str}(h:wG m)(x:Ln):∃gs,x.d A L=.obj (x.cls L) gs/\gs.lookup m=none:=by
 have l:∀{f:Str} {d:D} {r:List (Str × D)},f∈J0->r.lookup m=none->((f,d)::r).lookup m=none:=λhf hr=>by
  rw[List.lookup_cons,h _ hf]
  exact hr
 cases x<;>refine⟨_,rfl,?_⟩<;>repeat (first|rfl|refine l (by decide) ?_)
theorem mx {A:bR}{L:LA}{g:Ln->D}{m:Str}{ta:ED}{δ:SD}{x:Ln}{Q:D->Prop}(mt:bX ta)(hm:wG m)(h:ta δ λd=>d=x.d A L)(ho:pV x)(q:Q (g x)) :
  pP (CF L) m (D_ A L g) [] ta tI δ Q:=mt _ _ _ (λd e=>by
 obtain⟨gs,e1,e2⟩:=wJ A L hm x
 exact⟨x.cls L,gs,e.trans e1,e2,⟨x,rfl⟩,x,by rw[List.append_nil,e],rfl,ho,q⟩) h
theorem Ag {A:bR}{L:LA}{g:Ln->List Str}{m:Str}{ta:ED}{δ:SD}{x:Ln}{Q:D->Mu->Prop}(mt:bX ta)(hm:wG m)(h:ta δ λd=>d=x.d A L)(ho:pV x)(q:∀a,Q (.adr a) [(a,.lst ((g x).map D.str))]) :
  Gn (CF L) m (F4 A L g) ta δ Q:=mt _ _ _ (λd e=>by
 obtain⟨gs,e1,e2⟩:=wJ A L hm x
 exact⟨x.cls L,gs,e.trans e1,e2,⟨x,rfl⟩,x,by rw[e],rfl,ho,q⟩) h
theorem zS:wG "own_names":=by unfold wG;decide +kernel
theorem r8:wG "own_parts":=by unfold wG;decide +kernel
theorem xr:wG "is_truths":=by unfold wG;decide +kernel
section
seal wpAny
variable {P:Program}{w:World}{K:PySem.W.Frag}{mg:Str->Option Value}{base:Heap}{A:bR}{L:LA}{n j:Nat}
structure tE (K:PySem.W.Frag) (L:LA):Prop where
 o1:Dm K L.kq "own_names" "Input.own_names" eI ["self"]
 o2:Dm K L.row "own_names" "Row.own_names" fU ["self"]
 p1:Dm K L.kq "own_parts" "Input.own_parts" eJ ["self"]
 p2:Dm K L.row "own_parts" "Row.own_parts" fV ["self"]
 t1:Dm K L.kq "is_truths" "Input.is_truths" eG ["self"]
 t2:Dm K L.row "is_truths" "Row.is_truths" fT ["self"]
theorem As (hL:tF K L)(d:tE K L)(n_list:mg "list"=none):∀C,CF L C->jH P w K mg base (j+1) C "own_names" (F4 A L Ln.own C):=λC ⟨x,e⟩=>by
 subst e
 have one:1<=sizeLine:=by decide
 cases x with
 |kq n k o =>
  refine d.o1.rG gK Kp (λds Q ⟨x,e,_⟩=>by rw[e];rfl) (λf cdv A outer s H E hr=>have hu:=hr.units;have hh:=hr.hd;have sc:=gK
  (aS (gY (qG (aA (bD K rfl (dv 0) (by rfl)) aB))))) ?_
  rintro ds Q ⟨x,rfl,hc,ho,q⟩
  have c:=hL.cl _ (Ln.aW L x)
  have no:=hL.g7 _ (Ln.aW L x)
  obtain⟨n,k,o,rfl⟩:=xV hL hc
  exact bI rfl c (no _ (by decide)) (by kernel_rfl) ⟨one,q⟩
 |row n k p o =>
  refine d.o2.rG iD Kp (λds Q ⟨x,e,_⟩=>by rw[e];rfl) (λf cdv A outer s H E hr=>have hu:=hr.units;have hh:=hr.hd;have sc:=iD
  (aS (gY (qG (aA (bD K rfl (dv 0) (by rfl)) aB))))) ?_
  rintro ds Q ⟨x,rfl,hc,ho,q⟩
  have c:=hL.cl _ (Ln.aW L x)
  have no:=hL.g7 _ (Ln.aW L x)
  obtain⟨n,k,p,o,rfl⟩:=xW hL hc
  exact bI rfl c (no _ (by decide)) (by kernel_rfl) ⟨one,q⟩
theorem wQ (hL:tF K L)(d:tE K L):∀C,CF L C->cA P w K mg base (j+1) C "own_parts" (D_ A L (λx=>.tup (x.parts.map (Pt.d A))) C) []:=λC ⟨x,e⟩=>by
 subst e
 cases x with
 |kq n k o =>
  refine d.p1.dN gL Ko L3 (λf cdv A outer s H E hr=>have hu:=hr.units;have hh:=hr.hd;have sc:=gL
  (aF (aQ (cB aB)))) ?_
  rintro ds Q ⟨x,rfl,hc,ho,q⟩
  obtain⟨n,k,o,rfl⟩:=xV hL hc
  exact⟨zL0,q⟩
 |row n k p o =>
  refine d.p2.dN iE Ko L3 (λf cdv A outer s H E hr=>have hu:=hr.units;have hh:=hr.hd;have sc:=iE
  (aF (aQ (cB (aA (bD K rfl (dv 0) (by rfl)) aB))))) ?_
  rintro ds Q ⟨x,rfl,hc,ho,q⟩
  have c:=hL.cl _ (Ln.aW L x)
  have no:=hL.g7 _ (Ln.aW L x)
  obtain⟨n,k,p,o,rfl⟩:=xW hL hc
  exact bI rfl c (no _ (by decide)) (by kernel_rfl) ⟨zL1,q⟩
theorem uj (hL:tF K L)(d:tE K L):∀C,CF L C->cA P w K mg base (j+1) C "is_truths" (D_ A L (λx=>.bl x.qz) C) []:=λC ⟨x,e⟩=>by
 subst e
 cases x with
 |kq n k o =>
  refine d.t1.dN gJ Ko L3 (λf cdv A outer s H E hr=>have hu:=hr.units;have hh:=hr.hd;have sc:=gJ
  (aF (aQ (xH hu (bD K rfl (dv 0) (by rfl)) ah)))) ?_
  rintro ds Q ⟨x,rfl,hc,ho,q⟩
  have c:=hL.cl _ (Ln.aW L x)
  have no:=hL.g7 _ (Ln.aW L x)
  obtain⟨n,k,o,rfl⟩:=xV hL hc
  exact bI (r:=.str k) rfl c (no _ (by decide)) (by kernel_rfl) q
 |row n k p o =>
  refine d.t2.dN iC Ko L3 (λf cdv A outer s H E hr=>have hu:=hr.units;have hh:=hr.hd;have sc:=iC
  (aF (aQ (xH hu (bD K rfl (dv 0) (by rfl)) ah)))) ?_
  rintro ds Q ⟨x,rfl,hc,ho,q⟩
  have c:=hL.cl _ (Ln.aW L x)
  have no:=hL.g7 _ (Ln.aW L x)
  obtain⟨n,k,p,o,rfl⟩:=xW hL hc
  exact bI (r:=.str k) rfl c (no _ (by decide)) (by kernel_rfl) q
structure Sh where
 nm:Str
 ins:List Ln
 outs:List Str
 ls:List Ln
def Sh.all (s:Sh):List Ln:=s.ins++s.ls
def Sh.d (A:bR)(L:LA)(s:Sh):D:=.obj L.sh [("name",.str s.nm),("inputs",.tup (s.ins.map (Ln.d A L))),("outputs",.tup (s.outs.map D.str)),("lines",.tup (s.ls.map (Ln.d A L)))]
def Sh.names (s:Sh):List Str:=s.all.flatMap Ln.own
def tabOf (A:bR)(L:LA)(xs:List Ln):List (Key × D):=xs.flatMap λx=>x.own.map λn=>((Sum.inr n:Key),x.d A L)
def Sh.tab (A:bR)(L:LA)(s:Sh):List (Key × D):=tabOf A L s.all
structure Sh.Ok (s:Sh):Prop where
 len:s.ins.length<=8/\s.ls.length<=10
 ln:∀x∈s.all,pV x
theorem Sh.Ok.mU {s:Sh}(h:s.Ok):s.all.length<=18:=by
 unfold Sh.all
 rw[List.length_append]
 have:=h.len
 omega
theorem mj:∀{xs:List Ln},(∀x∈xs,pV x)->(xs.flatMap Ln.own).length<=8*xs.length
 |[],_=>Nat.le_refl _
 |x::xs,h=>by
  rw[List.flatMap_cons,List.length_append,List.length_cons]
  have h1:=(h x List.mem_cons_self).1
  have h2:=mj (xs:=xs) λy hy=>h y (List.mem_cons_of_mem _ hy)
  omega
theorem oq {xs:List Ln}{i:Nat}{x:Ln}{f:Ln->List Str}(h:xs[i]?=some x):(xs.take (i+1)).flatMap f=(xs.take i).flatMap f++f x:=by
 rw[List.take_succ,h,List.flatMap_append]
 simp
def oh (A:bR)(L:LA)(ok:Sh->Prop)(g:Sh->D)(C:Addr):cF:=λds Q=>∃s:Sh,ds=[s.d A L]/\L.sh=C/\s.Ok/\ok s/\Q (g s)
theorem IY {A:bR}{L:LA}{ok:Sh->Prop}{g:Sh->D}{C:Addr}:cK (oh A L ok g C):=λds P P' f ⟨s,e,c,o,k,q⟩=>⟨s,e,c,o,k,f _ q⟩
theorem Kh {A:bR}{L:LA}{ok:Sh->Prop}{g:Sh->D}{C:Addr}(ds:List D)(Q:D->Prop)(h:oh A L ok g C ds Q):ds.length=1:=by obtain⟨x,e,_⟩:=h;rw[e];rfl
def LV (A:bR)(L:LA)(C:Addr):rD:=λds Q=>∃s:Sh,ds=[s.d A L]/\L.sh=C/\s.Ok/\∀a,Q (.adr a) [(a,.lst (s.names.map D.str))]
theorem Mr {A:bR}{L:LA}{C:Addr}:iO (LV A L C):=λds P P' f ⟨s,e,c,o,q⟩=>⟨s,e,c,o,λa=>f _ _ (q a)⟩
def BM (L:LA)(C:Addr):Prop:=L.sh=C
theorem Cu (A:bR)(L:LA){m:Str}(h:wG m)(s:Sh):∃gs,s.d A L=.obj L.sh gs/\gs.lookup m=none:=by
 have l:∀{f:Str} {d:D} {r:List (Str × D)},f∈J0->r.lookup m=none->((f,d)::r).lookup m=none:=λhf hr=>by
  rw[List.lookup_cons,h _ hf]
  exact hr
 refine⟨_,rfl,?_⟩
 repeat (first|rfl|refine l (by decide) ?_)
theorem gF {A:bR}{L:LA}{ok:Sh->Prop}{g:Sh->D}{m:Str}{ta:ED}{δ:SD}{s:Sh}{Q:D->Prop}(mt:bX ta)(hm:wG m)(h:ta δ λd=>d=s.d A L)(ho:s.Ok)(hk:ok s)(q:Q (g s)) :
  pP (BM L) m (oh A L ok g) [] ta tI δ Q:=mt _ _ _ (λd e=>by
 obtain⟨gs,e1,e2⟩:=Cu A L hm s
 exact⟨L.sh,gs,e.trans e1,e2,rfl,s,by rw[List.append_nil,e],rfl,ho,hk,q⟩) h
theorem m_:wG "all_lines":=by unfold wG;decide +kernel
theorem Ap:wG "names":=by unfold wG;decide +kernel
theorem xq:wG "lines_by_name":=by unfold wG;decide +kernel
def AS (A:bR)(L:LA)(s:Sh):D:=.tup (s.all.map (Ln.d A L))
theorem sQ {kvs:List (Key × D)}{k:Key}{v:D}(h:∀p∈kvs,p.1≠k):h_ kvs k v=kvs++[(k,v)]:=by
 unfold h_
 rw[if_neg]
 intro z
 obtain⟨p,hp,e⟩:=List.any_eq_true.mp z
 exact h p hp (of_decide_eq_true e)
theorem qx {A:bR}{L:LA}:∀(xs:List Ln),(tabOf A L xs).map (·.1)=(xs.flatMap Ln.own).map Sum.inr
 |[]=>rfl
 |x::xs=>by
  unfold tabOf
  rw[List.flatMap_cons,List.map_append,List.flatMap_cons,List.map_append,List.map_map]
  have ih:=qx (A:=A) (L:=L) xs
  unfold tabOf at ih
  rw[ih]
  rfl
theorem GH {A:bR}{L:LA}(xs:List Ln):(tabOf A L xs).length=(xs.flatMap Ln.own).length:=by
 have:=congrArg List.length (qx (A:=A) (L:=L) xs)
 simpa using this
def qw (A:bR)(L:LA)(xs:List Ln)(x:Ln)(ns:List Str):List (Key × D):=tabOf A L xs++ns.map λn=>((Sum.inr n:Key),x.d A L)
theorem Dt {A:bR}{L:LA}{xs:List Ln}{x:Ln}{ns:List Str}{n:Str}(h:n∉xs.flatMap Ln.own++ns):h_ (qw A L xs x ns) (.inr n) (x.d A L)=qw A L xs x (ns++[n]):=by
 unfold qw
 rw[sQ,List.map_append,List.append_assoc]
 ·rfl
 ·intro p hp e
  apply h
  have:p.1∈(tabOf A L xs++ns.map λn=>((Sum.inr n:Key),x.d A L)).map (·.1):=List.mem_map.mpr ⟨p,hp,rfl⟩
  rw[List.map_append,qx,List.map_map,e] at this
  rcases List.mem_append.mp this with q|q
  ·obtain⟨m,hm,em⟩:=List.mem_map.mp q
   cases em
   exact List.mem_append_left _ hm
  ·obtain⟨m,hm,em⟩:=List.mem_map.mp q
   cases em
   exact List.mem_append_right _ hm
theorem o9 {a b:List (Key × D)}{k:Key}(h:∀p∈a,p.1≠k):eV (a++b) k=eV b k:=by
 unfold eV
 rw[List.find?_append,List.find?_eq_none.mpr]
 ·rfl
 ·intro p hp z
  exact h p hp (of_decide_eq_true z)
theorem ug {A:bR}{L:LA}{x:Ln}{n:Str}:∀{xs:List Ln},(xs.flatMap Ln.own).Nodup->x∈xs->n∈x.own->eV (tabOf A L xs) (.inr n)=some (x.d A L)
 |[],_,h,_=>(nomatch h)
 |y::xs,nd,h,hn=>by
  rw[List.flatMap_cons] at nd
  obtain⟨d1,d2,d3⟩:=List.nodup_append.mp nd
  show eV ((y.own.map λn=>((Sum.inr n:Key),y.d A L))++tabOf A L xs) (.inr n)=_
  by_cases hy:n∈y.own
  ·have e:x=y:=by
    rcases List.mem_cons.mp h with e|h
    ·exact e
    ·exact absurd rfl (d3 n hy n (List.mem_flatMap.mpr ⟨x,h,hn⟩))
   subst e
   have z:∀(l:List Str),n∈l->eV ((l.map λn=>((Sum.inr n:Key),x.d A L))++tabOf A L xs) (.inr n)=some (x.d A L):=λl=>by
    induction l with
    |nil=>intro q;cases q
    |cons m l ih =>
     intro q
     by_cases em:m=n
     ·subst em
      unfold eV
      rw[List.map_cons,List.cons_append,List.find?_cons]
      simp
     ·have ih':=ih ((List.mem_cons.mp q).resolve_left λz=>em z.symm)
      unfold eV at ih' ⊢
      rw[List.map_cons,List.cons_append,List.find?_cons,show decide (((Sum.inr m:Key),x.d A L).1=Sum.inr n)=false from decide_eq_false λz=>em (Sum.inr.inj z)]
      exact ih'
   exact z _ hy
  ·have hx:x∈xs:=by
    rcases List.mem_cons.mp h with e|h
    ·rw[e] at hn;exact absurd hn hy
    ·exact h
   rw[o9]
   ·exact ug d2 hx hn
   ·intro p hp e
    obtain⟨m,hm,em⟩:=List.mem_map.mp hp
    rw[<- em] at e
    cases e
    exact hy hm
theorem z_ (hL:tF K L)(d:Dm K L.sh "all_lines" "Sheet.all_lines" eM ["self"]):∀C,BM L C->cA P w K mg base (j+1) C "all_lines" (oh A L (λ_=>True) (AS A L) C) []:=λC e=>by
 cases e
 refine d.dN gN IY Kh (λf cdv A outer s H E hr=>have hu:=hr.units;have hh:=hr.hd;have sc:=gN
  (aF (aQ (bp (bD K rfl (dv 0) (by rfl)) (bD K rfl (dv 0) (by rfl)))))) ?_
 rintro ds Q ⟨s,rfl,_,ho,_,q⟩
 have c:=hL.cl L.sh (by simp)
 have no:=hL.g7 L.sh (by simp)
 refine bI (r:=.tup (s.ins.map (Ln.d A L))) rfl c (no _ (by decide)) (by kernel_rfl) (bI (r:=.tup (s.ls.map (Ln.d A L))) rfl c (no _ (by decide)) (by kernel_rfl) ⟨?_,?_⟩)
 ·rw[List.length_map,List.length_map]
  exact Nat.le_trans (show s.ins.length+s.ls.length<=18 by have:=ho.len;omega) (by decide)
 ·rw[<- List.map_append]
  exact q
theorem wC (d:Dm K L.sh "names" "Sheet.names" gy ["self"])(m_all_lines:∀C,BM L C->cA P w K mg base j C "all_lines" (oh A L (λ_=>True) (AS A L) C) [])(mf_own_names:∀C,CF L C->jH P w K mg base j C "own_names" (F4 A L Ln.own C)) :
  ∀C,BM L C->jH P w K mg base (j+1) C "names" (LV A L C):=λC e=>by
 cases e
 refine d.rG kP Mr (λds Q ⟨s,e,_⟩=>by rw[e];rfl) (λf cdv A outer s H E hr=>have hu:=hr.units;have hh:=hr.hd;have sc:=kP
  (aM (iX (i:=1) sc.nd rfl (Or.inl rfl) aB)
 (aM (cX PassesOwn.never rfl (bw (dh m_all_lines hr (by omega) (dv 0))) (bO (i:=2) sc.nd rfl (Or.inl rfl)) (aS (ku (i:=1) rfl (Or.inl rfl) (Hz mf_own_names hr (by omega) (dv 2)))))
 (aS (cb (aQ (dv 1))))))) ?_
 rintro ds Q ⟨s,rfl,_,ho,q⟩
 refine⟨zL0,λa _=>?_⟩
 refine gF b7 m_ ⟨_,rfl,rfl⟩ ho True.intro ⟨s.all.map (Ln.d A L),rfl,λi δ μ=>(∃x2,δ=[some (s.d A L),some (.adr a),x2])/\μ=[(a,.lst (((s.all.take i).flatMap Ln.own).map D.str))],⟨⟨none,rfl⟩,rfl⟩,?_,?_⟩
 ·rintro i dd δ μ hd ⟨⟨x2,rfl⟩,rfl⟩
  rw[List.getElem?_map] at hd
  cases hx:s.all[i]? with
  |none=>rw[hx] at hd;cases hd
  |some x =>
   rw[hx] at hd
   obtain rfl:x.d A L=dd:=by simpa using hd
   have hox:=ho.ln x (List.mem_of_getElem? hx)
   refine⟨a,_,rfl,bg,Ag b7 zS ⟨_,rfl,rfl⟩ hox λb=>⟨b,_,rfl,bg,?_,⟨_,rfl⟩,?_⟩⟩
   ·rw[List.length_map,List.length_map]
    have h1:=mj (xs:=s.all.take i) λy hy=>ho.ln y (List.mem_of_mem_take hy)
    have h2:(s.all.take i).length<=18:=Nat.le_trans (by rw[List.length_take];exact Nat.min_le_right _ _) ho.mU
    exact Nat.le_trans (show((s.all.take i).flatMap Ln.own).length+x.own.length<=200 by have:=hox.1;omega) (by decide)
   ·rw[gD,<- List.map_append,<- oq hx]
 ·rintro δ μ ⟨⟨x2,rfl⟩,rfl⟩
  rw[List.length_map,List.take_length]
  exact⟨_,rfl,q a⟩
theorem EN (d:Dm K L.sh "lines_by_name" "Sheet.lines_by_name" cY ["self"])(m_all_lines:∀C,BM L C->cA P w K mg base j C "all_lines" (oh A L (λ_=>True) (AS A L) C) [])(m_own_names:∀C,CF L C->cA P w K mg base j C "own_names" (D_ A L (λx=>.lst (x.own.map D.str)) C) []) :
  ∀C,BM L C->cA P w K mg base (j+1) C "lines_by_name" (oh A L (λs=>s.names.Nodup) (λs=>.dK (s.tab A L)) C) []:=λC e=>by
 cases e
 refine d.l7 eT IY Kh (λf cdv A outer s H E hr=>have hu:=hr.units;have hh:=hr.hd;have sc:=eT
  (aM (d8 (i:=1) sc.nd rfl (Or.inl rfl) iV)
 (aM (cX PassesOwn.never rfl (bw (dh m_all_lines hr (by omega) (dv 0))) (bO (i:=2) sc.nd rfl (Or.inl rfl)) (aS (cX PassesOwn.never rfl (bw (dh m_own_names hr (by omega) (dv 2))) (bO (i:=3) sc.nd rfl (Or.inl rfl)) (aS (fh (i:=1) hu rfl (Or.inl rfl) (dv 3) (dv 2))))))
 (aS (fM (dv 1)))))) ?_
 rintro ds Q ⟨s,rfl,_,ho,nd,q⟩
 intro a _
 refine gF b7 m_ ⟨_,rfl,rfl⟩ ho True.intro ⟨s.all.map (Ln.d A L),rfl,λi δ μ=>(∃x2 x3,δ=[some (s.d A L),some (.adr a),x2,x3])/\μ=[(a,.dK (tabOf A L (s.all.take i)))],⟨⟨none,none,rfl⟩,rfl⟩,?_,?_⟩
 ·rintro i dd δ μ hd ⟨⟨x2,x3,rfl⟩,rfl⟩
  rw[List.getElem?_map] at hd
  cases hx:s.all[i]? with
  |none=>rw[hx] at hd;cases hd
  |some x =>
   rw[hx] at hd
   obtain rfl:x.d A L=dd:=by simpa using hd
   have hox:=ho.ln x (List.mem_of_getElem? hx)
   have hlt:(s.all.take i).length<=18:=Nat.le_trans (by rw[List.length_take];exact Nat.min_le_right _ _) ho.mU
   have hfl:=mj (xs:=s.all.take i) λy hy=>ho.ln y (List.mem_of_mem_take hy)
   have ndi:((s.all.take i).flatMap Ln.own++x.own).Nodup:=by
    rw[<- oq hx]
    have e:s.names=(s.all.take (i+1)).flatMap Ln.own++(s.all.drop (i+1)).flatMap Ln.own:=by rw[<- List.flatMap_append,List.take_append_drop];rfl
    rw[e] at nd
    exact(List.nodup_append.mp nd).1
   refine mx b7 zS ⟨_,rfl,rfl⟩ hox ⟨x.own.map D.str,rfl,λk δ μ=>(∃x3,δ=[some (s.d A L),some (.adr a),some (x.d A L),x3])/\μ=[(a,.dK (qw A L (s.all.take i) x (x.own.take k)))],⟨⟨x3,rfl⟩,?_⟩,?_,?_⟩
   ·unfold qw
    rw[List.take_zero,List.map_nil,List.append_nil]
   ·rintro k dn δ μ hd ⟨⟨y3,rfl⟩,rfl⟩
    rw[List.getElem?_map] at hd
    cases hn:x.own[k]? with
    |none=>rw[hn] at hd;cases hd
    |some n =>
     rw[hn] at hd
     obtain rfl:D.str n=dn:=by simpa using hd
     refine⟨_,rfl,a,_,rfl,bg,?_,_,rfl,.inr n,rfl,⟨_,rfl⟩,?_⟩
     ·unfold qw
      rw[List.length_append,List.length_map,GH,List.length_take]
      exact Nat.lt_of_le_of_lt (show _+min k x.own.length<=160 by have:=hox.1;omega) (by decide)
     ·rw[gD,Dt,List.take_succ,hn]
      ·rfl
      ·intro z
       have hk:k<x.own.length:=(List.getElem?_eq_some_iff.mp hn).1
       have e:x.own=x.own.take k++x.own.drop k:=(List.take_append_drop k x.own).symm
       have hin:n∈x.own.drop k:=by
        rw[List.mem_iff_getElem?]
        exact⟨0,by rw[List.getElem?_drop];exact hn⟩
       rw[e,<- List.append_assoc] at ndi
       exact(List.nodup_append.mp ndi).2.2 n z n hin rfl
   ·rintro δ μ ⟨⟨y3,rfl⟩,rfl⟩
    refine⟨⟨_,_,rfl⟩,?_⟩
    rw[List.length_map,List.take_length]
    unfold qw tabOf
    rw[List.take_succ,hx,List.flatMap_append]
    simp
 ·rintro δ μ ⟨⟨x2,x3,rfl⟩,rfl⟩
  rw[List.length_map,List.take_length]
  refine⟨.dK (s.tab A L),?_,q⟩
  show some (some (ay [(a,_)] (.adr a)))=_
  rw[fK]
  rfl
def wc:cF:=λds Q=>∃z:Str,ds=[.bl true,.str z]/\Q .ak
def LW:cF:=λds Q=>∃x:Str,ds=[.str x]/\x.length<=100000/\jC x=true/\Q .ak
def FU:Option Str->Prop
 |none=>True
 |some x=>x.length<=100000/\gA x=true
def Jc:cF:=λds Q=>∃o:Option Str,ds=[zV o]/\FU o/\Q .ak
def Jd:cF:=λds Q=>∃k:Str,ds=[.str k]/\k∈(["truth","number"]:List Str)/\Q (.bl true)
def wa (A:bR)(L:LA):cF:=λds Q=>∃s:Sh,ds=[s.d A L]/\s.Ok/\1<=s.outs.length/\s.outs.length<=8/\1<=s.ls.length/\Q .ak
def zo:cF:=λds Q=>∃(ss:List Str) (z:Str),(ds=[.lst (ss.map D.str),.str z]\/ds=[.tup (ss.map D.str),.str z])/\ss.Nodup/\ss.length<=200/\Q .ak
def K2:Option Str->List Str
 |none=>[]
 |some x=>[x]
def Ln.gX (x:Ln):List Str:=K2 x.on++x.parts.flatMap Pt.names
def zl (A:bR)(L:LA):rD:=λds Q=>∃x:Ln,ds=[x.d A L]/\pV x/\∀a,Q (.adr a) [(a,.lst (x.gX.map D.str))]
theorem oO {x:Ln}(h:pV x):x.gX.length<=330:=by
 unfold Ln.gX
 rw[List.length_append]
 have h1:(K2 x.on).length<=1:=by cases x.on<;>simp[K2]
 have h2:∀(ps:List Pt),(∀p∈ps,p.depth<=4/\p.size<=40)->(ps.flatMap Pt.names).length<=40*ps.length:=λps=>by
  induction ps with
  |nil=>intro _;exact Nat.le_refl _
  |cons p ps ih =>
   intro hp
   rw[List.flatMap_cons,List.length_append,List.length_cons]
   have:=ih λq hq=>hp q (List.mem_cons_of_mem _ hq)
   have:=(hp p List.mem_cons_self).2
   have:=p.aq
   omega
 have:=h2 x.parts h.2.2
 have:=h.2.1
 omega
def zj (A:bR)(L:LA):cF:=λds Q=>∃s:Sh,ds=[s.d A L,.dK (s.tab A L)]/\s.Ok/\s.names.Nodup/\s.outs.length<=8/\(∀n∈s.outs++s.all.flatMap Ln.gX,n∈s.names)/\Q .ak
def G4 (s:Sh):Prop:=∃r:Str->Nat,(∀n,r n<=100)/\∀x∈s.all,∀n,x.on=some n->∃y∈s.all,n∈y.own/\y.qz=true/\∀m,y.on=some m->r m<r n
def HE (A:bR)(L:LA):cF:=λds Q=>∃s:Sh,ds=[s.d A L,.dK (s.tab A L)]/\s.Ok/\s.names.Nodup/\G4 s/\Q .ak
theorem ag (d:Df K mg "need_sheet" i3 ["holds","words"]):av P w K mg base (j+1) "need_sheet" ["holds","words"] wc:=by
 refine d.dN lr (λds P P' f ⟨z,e,q⟩=>⟨z,e,f _ q⟩) (λds Q ⟨z,e,_⟩=>by rw[e];rfl) (λf cdv A outer s H E hr=>have hu:=hr.units;have hh:=hr.hd;have sc:=lr
  (aF (bx (ng (kZ (dv 0))) (aF i4) aY))) ?_
 rintro ds Q ⟨z,rfl,q⟩
 exact⟨_,rfl,true,rfl,aO q⟩
theorem jM (d:Df K mg "need_word" kO ["word"])(g9:av P w K mg base j "is_word" ["thing"] (BP λx=>.bl (jC x))):av P w K mg base (j+1) "need_word" ["word"] LW:=by
 refine d.dN nR (λds P P' f ⟨z,e,h1,h2,q⟩=>⟨z,e,h1,h2,f _ q⟩) (λds Q ⟨z,e,_⟩=>by rw[e];rfl) (λf cdv A outer s H E hr=>have hu:=hr.units;have hh:=hr.hd;have sc:=nR
  (aF (bx (ng (kZ (aH g9 hr (by omega) (by rfl) (aA (dv 0) aB)))) (aF i4) aY))) ?_
 rintro ds Q ⟨x,rfl,hx,hw,q⟩
 exact⟨_,rfl,x,rfl,hx,true,congrArg some hw,aO q⟩
theorem g_ (d:Df K mg "need_on" oa ["on"])(bS:av P w K mg base j "need_name" ["name"] yS):av P w K mg base (j+1) "need_on" ["on"] Jc:=by
 refine d.dN qk (λds P P' f ⟨z,e,h1,q⟩=>⟨z,e,h1,f _ q⟩) (λds Q ⟨z,e,_⟩=>by rw[e];rfl) (λf cdv A outer s H E hr=>have hu:=hr.units;have hh:=hr.hd;have sc:=qk
  (aF (bx (nZ (dv 0) lJ) (aF (bP (aH bS hr (by omega) (by rfl) (aA (dv 0) aB)))) aY))) ?_
 rintro ds Q ⟨o,rfl,ho,q⟩
 cases o with
 |none=>exact⟨_,rfl,false,rfl,aO q⟩
 |some x=>exact⟨_,rfl,true,rfl,ae ⟨_,rfl,x,rfl,ho.1,ho.2,q⟩⟩
theorem cU (d:Df K mg "is_plain_kind" fZ ["kind"]):av P w K mg base (j+1) "is_plain_kind" ["kind"] Jd:=by
 refine d.dN iI (λds P P' f ⟨z,e,h1,q⟩=>⟨z,e,h1,f _ q⟩) (λds Q ⟨z,e,_⟩=>by rw[e];rfl) (λf cdv A outer s H E hr=>have hu:=hr.units;have hh:=hr.hd;have sc:=iI
  (aF (aQ (Bq (dv 0) (cB (jI (by rfl))) (by rfl))))) ?_
 rintro ds Q ⟨k,rfl,hk,q⟩
 refine⟨_,rfl,zL2,rfl,rfl,?_⟩
 simp only[List.mem_cons,List.not_mem_nil,or_false] at hk
 rcases hk with rfl|rfl<;>exact q
theorem gv (hL:tF K L)(d:Df K mg "need_counts" g6 ["sheet"])(n_len:mg "len"=none)(g1:GI mg "MOST_INPUTS" 8)(g2:GI mg "MOST_OUTPUTS" 8)(g3:GI mg "MOST_LINES" 80)(ag:av P w K mg base j "need_sheet" ["holds","words"] wc):av P w K mg base (j+1) "need_counts" ["sheet"] (wa A L):=by
 obtain⟨t1,q_MOST_INPUTS⟩:=g1.ex
 obtain⟨t2,q_MOST_OUTPUTS⟩:=g2.ex
 obtain⟨t3,q_MOST_LINES⟩:=g3.ex
 have r_MOST_INPUTS:RelV (.int 8) (.int 8 t1):=⟨_,rfl⟩
 have r_MOST_OUTPUTS:RelV (.int 8) (.int 8 t2):=⟨_,rfl⟩
 have r_MOST_LINES:RelV (.int 80) (.int 80 t3):=⟨_,rfl⟩
 have v_MOST_INPUTS:∀H,Dv K H (.int 8) (.int 8):=λ_=>.int _
 have v_MOST_OUTPUTS:∀H,Dv K H (.int 8) (.int 8):=λ_=>.int _
 have v_MOST_LINES:∀H,Dv K H (.int 80) (.int 80):=λ_=>.int _
 refine d.dN kX (λds P P' f ⟨s,e,h1,h2,h3,h4,q⟩=>⟨s,e,h1,h2,h3,h4,f _ q⟩) (λds Q ⟨z,e,_⟩=>by rw[e];rfl) (λf cdv A outer s H E hr=>have hu:=hr.units;have hh:=hr.hd;have sc:=kX
  (aG (bP (aH ag hr (by omega) (by rfl) (aA (Ho (cO (by rfl) n_len (aA (bD K rfl (dv 0) (by rfl)) aB)) (dq (by rfl) q_MOST_INPUTS r_MOST_INPUTS v_MOST_INPUTS)) (aA ah aB))))
 (aG (bP (aH ag hr (by omega) (by rfl) (aA (xI aD (cO (by rfl) n_len (aA (bD K rfl (dv 0) (by rfl)) aB)) (dq (by rfl) q_MOST_OUTPUTS r_MOST_OUTPUTS v_MOST_OUTPUTS)) (aA ah aB))))
 (aF (bP (aH ag hr (by omega) (by rfl) (aA (xI aD (cO (by rfl) n_len (aA (bD K rfl (dv 0) (by rfl)) aB)) (dq (by rfl) q_MOST_LINES r_MOST_LINES v_MOST_LINES)) (aA ah aB)))))))) ?_
 rintro ds Q ⟨s,rfl,ho,h1,h2,h3,q⟩
 have c:=hL.cl L.sh (by simp)
 have no:=hL.g7 L.sh (by simp)
 have e1:decide (((s.ins.map (Ln.d A L)).length:Int)<=8)=true:=decide_eq_true (by rw[List.length_map];have:=ho.len;omega)
 have e2:decide ((1:Int)<=((s.outs.map D.str).length:Int))=true:=decide_eq_true (by rw[List.length_map];omega)
 have e3:decide (((s.outs.map D.str).length:Int)<=8)=true:=decide_eq_true (by rw[List.length_map];omega)
 have e4:decide ((1:Int)<=((s.ls.map (Ln.d A L)).length:Int))=true:=decide_eq_true (by rw[List.length_map];omega)
 have e5:decide (((s.ls.map (Ln.d A L)).length:Int)<=80)=true:=decide_eq_true (by rw[List.length_map];have:=ho.len;omega)
 refine bI (r:=.tup (s.ins.map (Ln.d A L))) rfl c (no _ (by decide)) (by kernel_rfl) ⟨_,_,rfl,rfl,_,congrArg (λb=>[D.bl b,D.str _]) e1,?_⟩
 refine bI (r:=.tup (s.outs.map D.str)) rfl c (no _ (by decide)) (by kernel_rfl) ⟨_,_,rfl,rfl,true,congrArg D.bl e2,ae ⟨_,congrArg (λb=>[D.bl b,D.str _]) e3,?_⟩⟩
 exact bI (r:=.tup (s.ls.map (Ln.d A L))) rfl c (no _ (by decide)) (by kernel_rfl) ⟨_,_,rfl,rfl,true,congrArg D.bl e4,ae ⟨_,congrArg (λb=>[D.bl b,D.str _]) e5,q⟩⟩
theorem gW (d:Df K mg "need_once" kL ["names","words"])(n_len:mg "len"=none)(n_set:mg "set"=none)(ag:av P w K mg base j "need_sheet" ["holds","words"] wc):av P w K mg base (j+1) "need_once" ["names","words"] zo:=by
 refine d.dN nP (λds P P' f ⟨s,z,e,h1,h2,q⟩=>⟨s,z,e,h1,h2,f _ q⟩) (λds Q ⟨s,z,e,_⟩=>by rcases e with e|e<;>rw[e]<;>rfl) (λf cdv A outer s H E hr=>have hu:=hr.units;have hh:=hr.hd;have sc:=nP
  (aF (bP (aH ag hr (by omega) (by rfl) (aA (xH hu (Bt hh (by rfl) n_len (by rfl) n_set (dv 0)) (cO (by rfl) n_len (aA (dv 0) aB))) (aA (dv 1) aB)))))) ?_
 rintro ds Q ⟨ss,z,e,nd,hl,q⟩
 rcases e with rfl|rfl
 ·refine⟨_,rfl,ss,.inl rfl,nd,hl,_,rfl,_,_,rfl,rfl,?_⟩
  show yz false (.int (ss.length:Int)) (.int ((ss.map D.str).length:Int)) _
  rw[List.length_map]
  exact⟨.str z,rfl,z,congrArg (λb=>[D.bl b,D.str z]) (decide_eq_true rfl),q⟩
 ·refine⟨_,rfl,ss,.inr rfl,nd,hl,_,rfl,_,_,rfl,rfl,?_⟩
  show yz false (.int (ss.length:Int)) (.int ((ss.map D.str).length:Int)) _
  rw[List.length_map]
  exact⟨.str z,rfl,z,congrArg (λb=>[D.bl b,D.str z]) (decide_eq_true rfl),q⟩
theorem mD {x:Ln}{Q:D->Prop}(hL:tF K L)(q:Q (zV x.on)):∃C gs r,x.d A L=.obj C gs/\rE K C/\dE K C "on"/\gs.lookup ("on":Str)=some r/\Q r:=by
 have c:=hL.cl _ (Ln.aW L x)
 have no:=hL.g7 _ (Ln.aW L x)
 cases x<;>exact⟨_,_,_,rfl,c,no _ (by decide),(by kernel_rfl),q⟩
theorem Bk (hL:tF K L)(d:Df K mg "names_looked_at" eR ["line"])(m_own_parts:∀C,CF L C->cA P w K mg base j C "own_parts" (D_ A L (λx=>.tup (x.parts.map (Pt.d A))) C) [])(mf_names:MF P w K mg base A j "names" 4 okN Pt.names):iN P w K mg base (j+1) "names_looked_at" ["line"] (zl A L):=by
 refine d.rG gQ (λds P P' f ⟨x,e,h,q⟩=>⟨x,e,h,λa=>f _ _ (q a)⟩) (λds Q ⟨x,e,_⟩=>by rw[e];rfl) (λf cdv A outer s H E hr=>have hu:=hr.units;have hh:=hr.hd;have sc:=gQ
  (aM (d8 (i:=1) sc.nd rfl (Or.inl rfl) (Ma (NK (bD K rfl (dv 0) (by rfl)) lJ) (qG aB) (qG (aA (bD K rfl (dv 0) (by rfl)) aB))))
 (aM (cX PassesOwn.never rfl (bw (dh m_own_parts hr (by omega) (dv 0))) (bO (i:=2) sc.nd rfl (Or.inl rfl)) (aS (ku (i:=1) rfl (Or.inl rfl) (Hz mf_names hr (by omega) (dv 2)))))
 (aS (cb (aQ (dv 1))))))) ?_
 rintro ds Q ⟨x,rfl,ho,q⟩
 refine GA (λδ μ=>∃a,δ=[some (x.d A L),some (.adr a),none]/\μ=[(a,.lst ((K2 x.on).map D.str))]) ?_ λN hN=>?_
 rotate_left
 ·refine⟨x.d A L,rfl,mD hL ?_⟩
  cases hon:x.on with
  |none=>exact⟨true,rfl,ae ⟨zL0,λa _=>hN _ _ ⟨a,rfl,by rw[hon];rfl⟩⟩⟩
  |some y=>exact⟨false,rfl,aO ⟨x.d A L,rfl,mD hL (by rw[hon];exact⟨zL1,λa _=>hN _ _ ⟨a,rfl,by rw[hon];rfl⟩⟩)⟩⟩
 ·rintro δ μ ⟨a,rfl,rfl⟩
  refine mx b7 r8 ⟨_,rfl,rfl⟩ ho ⟨x.parts.map (Pt.d A),rfl,λi δ μ=>(∃x2,δ=[some (x.d A L),some (.adr a),x2])/\μ=[(a,.lst ((K2 x.on++(x.parts.take i).flatMap Pt.names).map D.str))],⟨⟨none,rfl⟩,?_⟩,?_,?_⟩
  ·rw[List.take_zero,List.flatMap_nil,List.append_nil]
  ·rintro i dd δ μ hd ⟨⟨x2,rfl⟩,rfl⟩
   rw[List.getElem?_map] at hd
   cases hp:x.parts[i]? with
   |none=>rw[hp] at hd;cases hd
   |some p =>
    rw[hp] at hd
    obtain rfl:p.d A=dd:=by simpa using hd
    have hop:=ho.2.2 p (List.mem_of_getElem? hp)
    obtain⟨gs,e1,e2⟩:=pZ A sD p
    refine⟨a,_,rfl,bg,p.d A,rfl,p.cls A,gs,e1,e2,⟨p,rfl⟩,p,rfl,rfl,hop.1,Nat.le_trans hop.2 (by decide),λb=>⟨b,_,rfl,bg,?_,⟨_,rfl⟩,?_⟩⟩
    ·have h1:=oO ho
     rw[List.length_map,List.length_map]
     have h2:((x.parts.take i).flatMap Pt.names).length<=(x.parts.flatMap Pt.names).length:=by
      have e:x.parts.flatMap Pt.names=(x.parts.take i).flatMap Pt.names++(x.parts.drop i).flatMap Pt.names:=by rw[<- List.flatMap_append,List.take_append_drop]
      rw[e,List.length_append]
      omega
     unfold Ln.gX at h1
     rw[List.length_append] at h1 ⊢
     have h3:=p.aq
     exact Nat.le_trans (show _+p.names.length<=400 by omega) (by decide)
    ·rw[gD,<- List.map_append,List.append_assoc,List.take_succ,hp,List.flatMap_append]
     simp
  ·rintro δ μ ⟨⟨x2,rfl⟩,rfl⟩
   rw[List.length_map,List.take_length]
   exact⟨_,rfl,q a⟩
theorem qT:∀{xs:List Ln},(∀x∈xs,pV x)->(xs.flatMap Ln.gX).length<=330*xs.length
 |[],_=>Nat.le_refl _
 |x::xs,h=>by
  rw[List.flatMap_cons,List.length_append,List.length_cons]
  have h1:=oO (h x List.mem_cons_self)
  have h2:=qT (xs:=xs) λy hy=>h y (List.mem_cons_of_mem _ hy)
  omega
theorem Sh.has {A:bR}{L:LA}{s:Sh}(nd:s.names.Nodup){n:Str}(h:n∈s.names):∃x∈s.all,n∈x.own/\eV (s.tab A L) (.inr n)=some (x.d A L):=by
 obtain⟨x,hx,hn⟩:=List.mem_flatMap.mp h
 exact⟨x,hx,hn,ug nd hx hn⟩
theorem IZ {td ty:ED}(h1:bX td)(h2:bX ty):bX (HL td ty):=λδ P P' g h=>h1 _ _ _ (λd h'=>h2 _ _ _ (λe ⟨kvs,k,z,a,b,c,q⟩=>⟨kvs,k,z,a,b,c,g _ q⟩) h') h
theorem iR (hL:tF K L)(d:Df K mg "need_known" iz ["sheet","found"])(n_list:mg "list"=none)(m_all_lines:∀C,BM L C->cA P w K mg base j C "all_lines" (oh A L (λ_=>True) (AS A L) C) [])(cf_names_looked_at:iN P w K mg base j "names_looked_at" ["line"] (zl A L))
  (ag:av P w K mg base j "need_sheet" ["holds","words"] wc):av P w K mg base (j+1) "need_known" ["sheet","found"] (zj A L):=by
 refine d.l7 lq (λds P P' f ⟨s,e,h1,h2,h3,h4,q⟩=>⟨s,e,h1,h2,h3,h4,f _ q⟩) (λds Q ⟨s,e,_⟩=>by rw[e];rfl) (λf cdv A outer s H E hr=>have hu:=hr.units;have hh:=hr.hd;have sc:=lq
  (aM (d8 (i:=2) sc.nd rfl (Or.inl rfl) (n6 (by rfl) n_list (aA (bD K rfl (dv 0) (by rfl)) aB)))
 (aM (cX PassesOwn.never rfl (bw (dh m_all_lines hr (by omega) (dv 0))) (bO (i:=3) sc.nd rfl (Or.inl rfl)) (aS (ku (i:=2) rfl (Or.inl rfl) (y_ cf_names_looked_at hr (by omega) (by rfl) (aA (dv 3) aB)))))
 (qX (qY (aF (wX PassesOwn.never rfl (bw (dv 2)) (bO (i:=4) sc.nd rfl (Or.inl rfl)) (aF (bP (aH ag hr (by omega) (by rfl) (aA (KG hu (dv 4) (dv 1) (by rfl)) (aA ah aB)))))))))))) ?_
 rintro ds Q ⟨s,rfl,ho,nd,hou,hin,q⟩
 have c:=hL.cl L.sh (by simp)
 have no:=hL.g7 L.sh (by simp)
 refine bI (r:=.tup (s.outs.map D.str)) rfl c (no _ (by decide)) (by kernel_rfl) ⟨s.outs.map D.str,.inr rfl,λa _=>?_⟩
 refine gF b7 m_ ⟨_,rfl,rfl⟩ ho True.intro ⟨s.all.map (Ln.d A L),rfl,λi δ μ=>(∃x3,δ=[some (s.d A L),some (.dK (s.tab A L)),some (.adr a),x3,none])/\μ=[(a,.lst ((s.outs++(s.all.take i).flatMap Ln.gX).map D.str))],⟨⟨none,rfl⟩,?_⟩,?_,?_⟩
 ·simp only[List.take_zero,List.flatMap_nil,List.append_nil]
 ·rintro i dd δ μ hd ⟨⟨x3,rfl⟩,rfl⟩
  rw[List.getElem?_map] at hd
  cases hx:s.all[i]? with
  |none=>rw[hx] at hd;cases hd
  |some x =>
   rw[hx] at hd
   obtain rfl:x.d A L=dd:=by simpa using hd
   have hox:=ho.ln x (List.mem_of_getElem? hx)
   refine⟨a,_,rfl,bg,x.d A L,rfl,x,rfl,hox,λb=>⟨b,_,rfl,bg,?_,⟨_,rfl⟩,?_⟩⟩
   ·rw[List.length_map,List.length_map,List.length_append]
    have h1:=qT (xs:=s.all.take i) λy hy=>ho.ln y (List.mem_of_mem_take hy)
    have h2:(s.all.take i).length<=18:=Nat.le_trans (by rw[List.length_take];exact Nat.min_le_right _ _) ho.mU
    have h3:=oO hox
    exact Nat.le_trans (show _+x.gX.length<=7000 by omega) (by decide)
   ·rw[gD,<- List.map_append,List.append_assoc,<- oq hx]
 ·rintro δ μ ⟨⟨x3,rfl⟩,rfl⟩
  rw[List.length_map,List.take_length]
  dsimp only
  refine hG (δ':=[some (s.d A L),some (.dK (s.tab A L)),some (.lst ((s.outs++s.all.flatMap Ln.gX).map D.str)),x3.map (ay [(a,.lst ((s.outs++s.all.flatMap Ln.gX).map D.str))]),none]) ?_ ?_
  ·show[some (s.d A L),some (.dK (s.tab A L)),some (ay [(a,_)] (.adr a)),_,none]=_
   rw[fK]
   rfl
  generalize x3.map (ay [(a,.lst ((s.outs++s.all.flatMap Ln.gX).map D.str))])=y3
  refine⟨_,rfl,_,rfl,λi δ=>∃x4,δ=[some (s.d A L),some (.dK (s.tab A L)),some (.lst ((s.outs++s.all.flatMap Ln.gX).map D.str)),y3,x4],⟨none,rfl⟩,?_,?_⟩
  ·rintro i dd δ hd ⟨x4,rfl⟩
   rw[List.getElem?_map] at hd
   cases hn:(s.outs++s.all.flatMap Ln.gX)[i]? with
   |none=>rw[hn] at hd;cases hd
   |some m =>
    rw[hn] at hd
    obtain rfl:D.str m=dd:=by simpa using hd
    obtain⟨x,hx,hm,hg⟩:=Sh.has (A:=A) (L:=L) nd (hin m (List.mem_of_getElem? hn))
    have e:(eV (s.tab A L) (.inr m)).isSome=true:=by rw[hg];rfl
    exact⟨.str m,rfl,.dK (s.tab A L),rfl,s.tab A L,.inr m,rfl,rfl,_,congrArg (λb=>[D.bl b,D.str _]) e,_,rfl⟩
  ·rintro δ ⟨x4,rfl⟩
   exact q
def yn (s:Sh)(r:Str->Nat)(ks:List Str)(m:Nat):Option Str->Prop
 |none=>True
 |some n=>m=r n+1/\ks.length+r n<=100/\(∀k∈ks,r n<r k)/\∃y∈s.all,n∈y.own/\y.qz=true/\∀m',y.on=some m'->r m'<r n
def eX (ks:List Str):List (Key × D):=ks.map λk=>((Sum.inr k:Key),D.bl true)
theorem sJ {ks:List Str}{n:Str}(h:n∉ks):∀p∈eX ks,p.1≠Sum.inr n:=λp hp e=>by
 obtain⟨k,hk,rfl⟩:=List.mem_map.mp hp
 exact h (Sum.inr.inj e ▸ hk)
theorem yC {ks:List Str}{n:Str}(h:n∉ks):(eV (eX ks) (.inr n)).isSome=false:=by
 have:=o9 (b:=[]) (sJ h)
 rw[List.append_nil] at this
 rw[this]
 rfl
theorem yD {ks:List Str}{n:Str}(h:n∉ks):h_ (eX ks) (.inr n) (.bl true)=eX (ks++[n]):=by
 rw[sQ (sJ h)]
 unfold eX
 rw[List.map_append]
 rfl
theorem l0 (hL:tF K L)(d:Df K mg "need_ons" mP ["sheet","found"])(m_all_lines:∀C,BM L C->cA P w K mg base j C "all_lines" (oh A L (λ_=>True) (AS A L) C) [])(m_is_truths:∀C,CF L C->cA P w K mg base j C "is_truths" (D_ A L (λx=>.bl x.qz) C) [])
  (ag:av P w K mg base j "need_sheet" ["holds","words"] wc):av P w K mg base (j+1) "need_ons" ["sheet","found"] (HE A L):=by
 refine d.l7 pJ (λds P P' f ⟨s,e,h1,h2,h3,q⟩=>⟨s,e,h1,h2,h3,f _ q⟩) (λds Q ⟨s,e,_⟩=>by rw[e];rfl) (λf cdv A outer s H E hr=>have hu:=hr.units;have hh:=hr.hd;have sc:=pJ
  (aS (cX PassesOwn.never rfl (bw (dh m_all_lines hr (by omega) (dv 0))) (bO (i:=2) sc.nd rfl (Or.inl rfl)) (aM (d8 (i:=3) sc.nd rfl (Or.inl rfl) iV)
 (aM (cb (ar (i:=4) sc.nd rfl (Or.inl rfl) (bD K rfl (dv 2) (by rfl))))
 (aS (Cm PassesOwn.never (nZ (dv 4) lJ) (aM (wB (aH ag hr (by omega) (by rfl) (aA (dh m_is_truths hr (by omega) (cM hu (dv 1) (dv 4) (λ_ _=>rfl))) (aA ah aB))))
 (aM (wB (aH ag hr (by omega) (by rfl) (aA (Bu hu (dv 4) (dv 3) (by rfl)) (aA ah aB))))
 (aM (fh (i:=3) hu rfl (Or.inl rfl) (dv 4) tN)
 (aS (cb (ar (i:=4) sc.nd rfl (Or.inl rfl) (bD K rfl (cM hu (dv 1) (dv 4) (λ_ _=>rfl)) (by rfl))))))))))))))) ?_
 rintro ds Q ⟨s,rfl,ho,nd,⟨r,hr,hons⟩,q⟩
 have first:∀x∈s.all,∃m,yn s r [] m x.on:=λx hx=>by
  cases e:x.on with
  |none=>exact⟨0,True.intro⟩
  |some n=>exact⟨_,rfl,by have:=hr n;simpa using this,(λk hk=>nomatch hk),hons x hx n e⟩
 refine gF b7 m_ ⟨_,rfl,rfl⟩ ho True.intro ⟨s.all.map (Ln.d A L),rfl,λi δ μ=>∃x2 x3 x4,δ=[some (s.d A L),some (.dK (s.tab A L)),x2,x3,x4],⟨none,none,none,rfl⟩,?_,?_⟩
 ·rintro i dd δ μ hd ⟨x2,x3,x4,rfl⟩
  rw[List.getElem?_map] at hd
  cases hx:s.all[i]? with
  |none=>rw[hx] at hd;cases hd
  |some x =>
   rw[hx] at hd
   obtain rfl:x.d A L=dd:=by simpa using hd
   have hxa:=List.mem_of_getElem? hx
   intro a _
   refine⟨x.d A L,rfl,mD hL ?_⟩
   obtain⟨m0,h0⟩:=first x hxa
   refine⟨λm δ μ=>∃(o:Option Str) (ks:List Str) (μ0:Mu),δ=[some (s.d A L),some (.dK (s.tab A L)),some (x.d A L),some (.adr a),some (zV o)]/\μ=(a,.dK (eX ks))::μ0/\yn s r ks m o,⟨m0,x.on,[],μ,rfl,rfl,h0⟩,?_⟩
   rintro m δ μ ⟨o,ks,μ0,rfl,rfl,hm⟩
   cases o with
   |none=>exact⟨.ak,rfl,false,rfl,aO ⟨_,_,_,rfl⟩⟩
   |some k =>
    obtain⟨rfl,hk1,hk2,y,hy,hk,ht,hyo⟩:=hm
    have hg:eV (s.tab A L) (.inr k)=some (y.d A L):=ug nd hy hk
    have hkk:k∉ks:=λz=>absurd (hk2 k z) (Nat.lt_irrefl _)
    refine⟨.str k,rfl,true,rfl,ae ?_⟩
    refine mx (x:=y) (IZ b7 b7) xr ⟨.dK (s.tab A L),rfl,.str k,rfl,s.tab A L,.inr k,y.d A L,rfl,rfl,hg,rfl⟩ (ho.ln y hy) ⟨_,congrArg (λb=>[D.bl b,D.str _]) ht,?_⟩
    have hv:some (some (ay ((a,.dK (eX ks))::μ0) (.adr a)))=some (some (D.dK (eX ks))):=by simp[ay,List.lookup,MD.d]
    refine⟨.str k,rfl,.dK (eX ks),hv,eX ks,.inr k,rfl,rfl,_,congrArg (λb=>[D.bl (!b),D.str _]) (yC hkk),?_⟩
    refine⟨a,eX ks,rfl,(by simp[List.lookup]),?_,.str k,rfl,.inr k,rfl,?_⟩
    ·unfold eX
     rw[List.length_map]
     exact Nat.lt_of_le_of_lt (show ks.length<=100 by omega) (by decide)
    refine⟨.dK (s.tab A L),rfl,.str k,rfl,s.tab A L,.inr k,y.d A L,rfl,rfl,hg,mD hL ?_⟩
    have hput:∀v,fR a v ((a,.dK (eX ks))::μ0)=(a,v)::fR a v μ0:=λv=>by simp[fR]
    rw[hput,yD hkk]
    cases e:y.on with
    |none=>exact⟨0,by omega,none,ks++[k],_,rfl,rfl,True.intro⟩
    |some m' =>
     have hlt:=hyo m' e
     refine⟨r m'+1,by omega,some m',ks++[k],_,rfl,rfl,rfl,?_,?_,hons y hy m' e⟩
     ·rw[List.length_append]
      show ks.length+1+_<=_
      omega
     ·intro z hz
      rcases List.mem_append.mp hz with hz|hz
      ·exact Nat.lt_trans hlt (hk2 z hz)
      ·rw[List.mem_singleton.mp hz];exact hlt
 ·rintro δ μ ⟨x2,x3,x4,rfl⟩
  exact q
end
theorem Nn {f g h:Str}{d e i:D}:(putD f d (putD g e (putD h i []))).length<1000:=Nat.lt_of_le_of_lt (Nat.le_trans (gE f d _) (Nat.succ_le_succ (Nat.le_trans (gE g e _) (Nat.succ_le_succ (gE h i []))))) (by decide)
def oJ:List Str:=["truth","number"]
def F5:cF:=λ_ _=>False
def LY:List D->(List (Str × D)->Prop)->Prop:=λds Q=>∃(n k:Str) (o:Option Str),ds=[.str n,.str k,zV o]/\n.length<=100000/\gA n=true/\FU o/\k∈oJ/\Q [("name",.str n),("kind",.str k),("on",zV o)]
def HG:List D->(List (Str × D)->Prop)->Prop:=λds Q=>∃(n k:Str) (p:D) (o:Option Str),ds=[.str n,.str k,p,zV o]/\n.length<=100000/\gA n=true/\FU o/\k∈oJ/\Q [("name",.str n),("kind",.str k),("part",p),("on",zV o)]
structure Sh.Good (s:Sh):Prop where
 ok:s.Ok
 wd:s.nm.length<=100000/\jC s.nm=true
 cnt:1<=s.outs.length/\s.outs.length<=8/\1<=s.ls.length
 nd:s.names.Nodup
 OB:s.outs.Nodup
 N_:∀n∈s.outs++s.all.flatMap Ln.gX,n∈s.names
 OE:G4 s
def LZ (A:bR)(L:LA):List D->(List (Str × D)->Prop)->Prop:=λds Q=>∃s:Sh,ds=[.str s.nm,.lst (s.ins.map (Ln.d A L)),.lst (s.outs.map D.str),.lst (s.ls.map (Ln.d A L))]/\s.Good/\Q [("name",.str s.nm),("inputs",.tup (s.ins.map (Ln.d A L))),("outputs",.tup (s.outs.map D.str)),("lines",.tup (s.ls.map (Ln.d A L)))]
section
seal wpAny
variable {P:Program}{w:World}{K:PySem.W.Frag}{mg:Str->Option Value}{base:Heap}{A:bR}{L:LA}{n j:Nat}{dd:List D}
theorem Df.never {x:Str}{st:Stmt}{ps:List Str}{sd:cF}(d:Df K mg x st ps)(h:∀ds Q,¬sd ds Q):av P w K mg base j x ps sd:=by
 obtain⟨f,fd,F,m,b⟩:=d.ex
 exact⟨⟨f,fd,⟨λvs H Q E ⟨ds,_,q⟩=>(h _ _ q).elim,λA outer s H args us vs Q E _ _ _ _ ⟨ds,_,q⟩=>(h _ _ q).elim⟩,m,F.kp,b⟩,λds P P' g q=>(h _ _ q).elim⟩
theorem Ey (hL:tF K L)(d:Di K mg "Input" L.kq "Input.__init__" c_ ["self","name","kind","on"] dd)(bS:av P w K mg base j "need_name" ["name"] yS)(g_:av P w K mg base j "need_on" ["on"] Jc)(ag:av P w K mg base j "need_sheet" ["holds","words"] wc)(cU:av P w K mg base j "is_plain_kind" ["kind"] Jd)(c_is_stretch:av P w K mg base j "is_stretch" ["kind"] F5) :
  nq P w K mg base (j+1) "Input" L.kq LY dd:=by
 have hc:=hL.cl L.kq (by simp)
 have hn:=hL.g7 L.kq (by simp)
 refine d.BN gf (λds P P' g ⟨n,k,o,e,h1,h2,h3,h4,q⟩=>⟨n,k,o,e,h1,h2,h3,h4,g _ q⟩) (λds Q ⟨n,k,o,e,_⟩=>by rw[e];rfl) (λf cdv A outer s H E hr=>have hu:=hr.units;have hh:=hr.hd;have sc:=gf
  (ao (d5 (bP (aH bS hr (by omega) (by rfl) (aA (dv 1) aB))))
 (ao (d5 (bP (aH g_ hr (by omega) (by rfl) (aA (dv 3) aB))))
 (ao (d5 (bP (aH ag hr (by omega) (by rfl) (aA (KI (aH cU hr (by omega) (by rfl) (aA (dv 2) aB)) (qC (aH c_is_stretch hr (by omega) (by rfl) (aA (dv 2) aB)))) (aA ah aB)))))
 (ao (bZ K rfl rfl (Or.inl rfl) (dv 1))
 (ao (bZ K rfl rfl (Or.inl rfl) (dv 2))
 (ao (bZ K rfl rfl (Or.inl rfl) (dv 3))
 zC))))))) ?_
 rintro a ds Q ⟨n,k,o,rfl,h1,h2,h3,h4,q⟩
 exact⟨_,rfl,n,rfl,h1,h2,_,rfl,o,rfl,h3,_,rfl,k,rfl,h4,true,rfl,ae ⟨_,rfl,_,rfl,rfl,hc,hn _ (by decide),sN,_,rfl,rfl,hc,hn _ (by decide),sO,_,rfl,rfl,hc,hn _ (by decide),sP,q⟩⟩
theorem Kg (hL:tF K L)(d:Di K mg "Row" L.row "Row.__init__" eK ["self","name","kind","part","on"] dd)(bS:av P w K mg base j "need_name" ["name"] yS)(g_:av P w K mg base j "need_on" ["on"] Jc)(ag:av P w K mg base j "need_sheet" ["holds","words"] wc)(cU:av P w K mg base j "is_plain_kind" ["kind"] Jd) :
  nq P w K mg base (j+1) "Row" L.row HG dd:=by
 have hc:=hL.cl L.row (by simp)
 have hn:=hL.g7 L.row (by simp)
 refine d.BN jA (λds P P' g ⟨n,k,p,o,e,h1,h2,h3,h4,q⟩=>⟨n,k,p,o,e,h1,h2,h3,h4,g _ q⟩) (λds Q ⟨n,k,p,o,e,_⟩=>by rw[e];rfl) (λf cdv A outer s H E hr=>have hu:=hr.units;have hh:=hr.hd;have sc:=jA
  (ao (d5 (bP (aH bS hr (by omega) (by rfl) (aA (dv 1) aB))))
 (ao (d5 (bP (aH g_ hr (by omega) (by rfl) (aA (dv 4) aB))))
 (ao (d5 (bP (aH ag hr (by omega) (by rfl) (aA (aH cU hr (by omega) (by rfl) (aA (dv 2) aB)) (aA ah aB)))))
 (ao (bZ K rfl rfl (Or.inl rfl) (dv 1))
 (ao (bZ K rfl rfl (Or.inl rfl) (dv 2))
 (ao (bZ K rfl rfl (Or.inl rfl) (dv 3))
 (ao (bZ K rfl rfl (Or.inl rfl) (dv 4))
 zC)))))))) ?_
 rintro a ds Q ⟨n,k,p,o,rfl,h1,h2,h3,h4,q⟩
 exact⟨_,rfl,n,rfl,h1,h2,_,rfl,o,rfl,h3,_,rfl,k,rfl,h4,_,rfl,_,rfl,rfl,hc,hn _ (by decide),sN,_,rfl,rfl,hc,hn _ (by decide),sO,_,rfl,rfl,hc,hn _ (by decide),sP,_,rfl,rfl,hc,hn _ (by decide),Nn,q⟩
theorem Ez (hL:tF K L)(d:Di K mg "Sheet" L.sh "Sheet.__init__" ee ["self","name","inputs","outputs","lines"] [])(n_tuple:mg "tuple"=none)(jM:av P w K mg base j "need_word" ["word"] LW)(gv:av P w K mg base j "need_counts" ["sheet"] (wa A L))(gW:av P w K mg base j "need_once" ["names","words"] zo)
  (m_names:∀C,BM L C->cA P w K mg base j C "names" (oh A L (λ_=>True) (λs=>.lst (s.names.map D.str)) C) [])(m_lines_by_name:∀C,BM L C->cA P w K mg base j C "lines_by_name" (oh A L (λs=>s.names.Nodup) (λs=>.dK (s.tab A L)) C) [])
  (iR:av P w K mg base j "need_known" ["sheet","found"] (zj A L))(l0:av P w K mg base j "need_ons" ["sheet","found"] (HE A L)):nq P w K mg base (j+1) "Sheet" L.sh (LZ A L) []:=by
 have hc:=hL.cl L.sh (by simp)
 have hn:=hL.g7 L.sh (by simp)
 refine d.BN gh (λds P P' g ⟨s,e,h,q⟩=>⟨s,e,h,g _ q⟩) (λds Q ⟨s,e,_⟩=>by rw[e];rfl) (λf cdv A outer s H E hr=>have hu:=hr.units;have hh:=hr.hd;have sc:=gh
  (ao (d5 (bP (aH jM hr (by omega) (by rfl) (aA (dv 1) aB))))
 (ao (bZ K rfl rfl (Or.inl rfl) (dv 1))
 (ao (bZ K rfl rfl (Or.inl rfl) (fz (by rfl) n_tuple (aA (dv 2) aB)))
 (ao (bZ K rfl rfl (Or.inl rfl) (fz (by rfl) n_tuple (aA (dv 3) aB)))
 (ao (bZ K rfl rfl (Or.inl rfl) (fz (by rfl) n_tuple (aA (dv 4) aB)))
 (jP (aG (bP (aH gv hr (by omega) (by rfl) (aA (dv 0) aB)))
 (aG (bP (aH gW hr (by omega) (by rfl) (aA (dh m_names hr (by omega) (dv 0)) (aA ah aB))))
 (aG (bP (aH gW hr (by omega) (by rfl) (aA (bD K rfl (dv 0) (by rfl)) (aA ah aB))))
 (aG (ar (i:=5) sc.nd rfl (Or.inl rfl) (dh m_lines_by_name hr (by omega) (dv 0)))
 (aG (bP (aH iR hr (by omega) (by rfl) (aA (dv 0) (aA (dv 5) aB))))
 (aF (bP (aH l0 hr (by omega) (by rfl) (aA (dv 0) (aA (dv 5) aB))))))))))))))))) ?_
 rintro a ds Q ⟨s,rfl,hg,q⟩
 have hnl:s.names.length<=200:=by
  have h1:=mj (xs:=s.all) hg.ok.ln
  have h2:=hg.ok.mU
  unfold Sh.names
  omega
 refine⟨_,rfl,s.nm,rfl,hg.wd.1,hg.wd.2,_,rfl,rfl,hc,hn _ (by decide),sN,_,rfl,_,.inl rfl,rfl,hc,hn _ (by decide),sO,_,rfl,_,.inl rfl,rfl,hc,hn _ (by decide),sP,_,rfl,_,.inl rfl,rfl,hc,hn _ (by decide),Nn,rfl,?_⟩
 refine⟨s.d A L,rfl,s,rfl,hg.ok,hg.cnt.1,hg.cnt.2.1,hg.cnt.2.2,?_⟩
 refine gF (s:=s) b7 Ap ⟨_,rfl,rfl⟩ hg.ok True.intro ⟨s.names,_,.inl rfl,hg.nd,hnl,?_⟩
 refine bI (r:=.tup (s.outs.map D.str)) rfl hc (hn _ (by decide)) (by kernel_rfl) ⟨s.outs,_,.inr rfl,hg.OB,by have:=hg.cnt;omega,?_⟩
 refine gF (s:=s) b7 xq ⟨_,rfl,rfl⟩ hg.ok hg.nd ?_
 refine⟨s.d A L,rfl,.dK (s.tab A L),rfl,s,rfl,hg.ok,hg.nd,hg.cnt.2.1,hg.N_,?_⟩
 exact⟨s.d A L,rfl,.dK (s.tab A L),rfl,s,rfl,hg.ok,hg.nd,hg.OE,q⟩
theorem jJ {α:Type}{xs:List α}{i:Int}(h0:0<=i)(h1:i<xs.length):∃r,r∈xs/\L2.rF xs i=some r:=by
 unfold L2.rF L2.zG
 rw[if_pos h0,if_pos h1]
 have h:i.toNat<xs.length:=by omega
 exact⟨xs[i.toNat],List.getElem_mem h,by simp[List.getElem?_eq_getElem h]⟩
theorem fg {α:Type}{xs:List α}{i:Nat}{x:α}(h:xs[i]?=some x):L2.rF xs (i:Int)=some x:=by
 unfold L2.rF L2.zG
 have hl:i<xs.length:=(List.getElem?_eq_some_iff.mp h).1
 rw[if_pos (by omega),if_pos (by omega),Int.toNat_natCast]
 exact h
theorem EK (x y:Str):(x++y).cps.toList=x.cps.toList++y.cps.toList:=by
 show(x.cps++y.cps).toList=_
 exact Array.toList_append
theorem uG (x:Str):x.length=x.cps.toList.length:=by
 show x.cps.size=_
 exact Array.length_toList.symm
theorem EL (x y:Str):(x++y).length=x.length+y.length:=by rw[uG,EK,List.length_append,<- uG,<- uG]
theorem cd {i j:Int}(h:0<j)(h2:j<1073741824):HP i j:=⟨h,h2⟩
theorem cC (a:Int){b:Int}(h:0<b):0<=a%b:=Int.emod_nonneg _ (by omega)
theorem b5 (a:Int){b:Int}(h:0<b):a%b<b:=Int.emod_lt_of_pos _ h
def FL (c k:Int):Int:=(c+7919*k+11)*48271%2147483647
theorem FN (c k:Int):0<=FL c k/\FL c k<2147483647:=⟨Int.emod_nonneg _ (by decide),Int.emod_lt_of_pos _ (by decide)⟩
def fJ:cF:=λds Q=>∃c k:Int,ds=[.int c,.int k]/\∀m:Int,Q (.int m)
def uU:cF:=λds Q=>∃(ns:List Int) (k:Nat),ds=[.lst (ns.map D.int),.int (k:Int)]/\∀c:Int,Q (.int c)
structure BV (ns:List Str):Prop where
 len:ns.length=8
 nd:ns.Nodup
 ok:∀x∈ns,mI x
def zm:cF:=λds Q=>∃c:Int,ds=[.int c]/\∀ns:List Str,BV ns->Q (.lst (ns.map D.str))
def G3 (x:Str):Bool:=gA x&&(decide (x.length<=100)&&PyData.strOk x)
def xw (ns:List Str):Bool:=decide (ns.length=8)&&decide ns.Nodup&&ns.all G3
theorem pd {ns:List Str}(h:xw ns=true):BV ns:=by
 unfold xw at h
 rw[Bool.and_eq_true,Bool.and_eq_true] at h
 refine⟨of_decide_eq_true h.1.1,of_decide_eq_true h.1.2,λx hx=>?_⟩
 have z:=List.all_eq_true.mp h.2 x hx
 unfold G3 at z
 rw[Bool.and_eq_true,Bool.and_eq_true] at z
 exact⟨z.1,of_decide_eq_true z.2.1,z.2.2⟩
def MR:Str:="abcdefghijklm"
def Mz (ch:Nat):List Str:=(List.range 8).map λi:Nat=>Cp ⟨#[ch]⟩ (0+(i:Int)+1)
theorem Io:(MR.cps.toList.all λch=>xw (Mz ch))=true:=by decide +kernel
def l1:List Str:=["in","not","row","use","end","on","yes","held"]
def Nj:List Str:=l1.map (·++"z")
theorem Ip:xw Nj=true:=by decide +kernel
def l2:List Str:=["row","no","z","zz","if","abcdefgh","or","in"]
def Nk:List Str:=l2.map λx=>"in."++x++".q"
theorem Iq:xw Nk=true:=by decide +kernel
def zq:Str:="zqzqzqzq"
def bc:Str:="bcdfghjk"
def wd (sz:Int):Str:=Txt.slice zq none (some sz)
def K0 (sz sp:Int)(ch:Nat):Str:=Txt.slice (wd sz) none (some sp)++⟨#[ch]⟩++Txt.slice (wd sz) (some (sp+1)) none
def L7 (sz sp:Int):List Str:=(List.range 8).map λi:Nat=>K0 sz sp ((L2.rF bc.cps.toList (0+(i:Int))).getD 0)
theorem Ir:((List.range 7).all λa:Nat=>(List.range 8).all λb:Nat=>xw (L7 (2+(a:Int)) (b:Int)))=true:=by decide +kernel
def IP (sz sp:Int):Bool:=decide ((wd sz).length<=8)&&(decide ((Txt.slice (wd sz) none (some sp)).length<=8)&&decide ((Txt.slice (wd sz) (some (sp+1)) none).length<=8))
theorem E5:((List.range 7).all λa:Nat=>(List.range 8).all λb:Nat=>IP (2+(a:Int)) (b:Int))=true:=by decide +kernel
def g0 (ch:Nat):D->D
 |.int i=>.str (Cp ⟨#[ch]⟩ (i+1))
 |_=>.ak
def g1:D->D
 |.str x=>.str (x++"z")
 |_=>.ak
def g2:D->D
 |.str x=>.str ("in."++x++".q")
 |_=>.ak
def g3 (sz sp:Int):D->D
 |.int i=>.str (K0 sz sp ((L2.rF bc.cps.toList i).getD 0))
 |_=>.ak
theorem LM {d:D}(h:d∈(List.range (8:Int).toNat).map λi:Nat=>D.int (0+(i:Int))):∃i:Nat,i<8/\d=.int (0+(i:Int)):=by
 obtain⟨i,hi,rfl⟩:=List.mem_map.mp h
 exact⟨i,List.mem_range.mp hi,rfl⟩
theorem EV (d:Df K mg "_law_mixed" iq ["_law_cell_here","_law_k"]):av P w K mg base (j+1) "_law_mixed" ["_law_cell_here","_law_k"] fJ:=by
 refine d.dN lW (λds P P' f ⟨c,k,e,q⟩=>⟨c,k,e,λm=>f _ (q m)⟩) (λds Q ⟨c,k,e,_⟩=>by rw[e];rfl) (λf cdv A outer s H E hr=>have hu:=hr.units;have hh:=hr.hd;have sc:=lW
  (aG (ar (i:=2) sc.nd rfl (Or.inl rfl) (bQ (vN (bp (bp (dv 0) (vN aD (dv 1))) aD) aD) aD))
 (aF (aQ (bQ (bp (vN (dv 2) (dv 2)) (vN aD (dv 2))) aD))))) ?_
 rintro ds Q ⟨c,k,rfl,q⟩
 have hb:=FN c k
 refine⟨_,rfl,_,rfl,w6.ok (.inl ⟨by decide,by decide⟩),w6.ok (.inr ⟨by decide,by decide⟩),iP2147483647,?_⟩
 exact⟨_,rfl,_,rfl,w6.ok (i:=FL c k) (j:=FL c k) (.inl ⟨by omega,by omega⟩),_,rfl,w6.ok (.inl ⟨by decide,by decide⟩),iP2147483399,q _⟩
theorem Hc (d:Df K mg "_law_cell" kE ["_law_script","_law_k"])(n_len:mg "len"=none):av P w K mg base (j+1) "_law_cell" ["_law_script","_law_k"] uU:=by
 refine d.dN nJ (λds P P' f ⟨c,k,e,q⟩=>⟨c,k,e,λc=>f _ (q c)⟩) (λds Q ⟨c,k,e,_⟩=>by rw[e];rfl) (λf cdv A outer s H E hr=>have hu:=hr.units;have hh:=hr.hd;have sc:=nJ
  (aG (bx (A_ (dv 1) (cO (by rfl) n_len (aA (dv 0) aB))) (aF (aQ (bT (dv 0) (dv 1) (λ_ _=>rfl)))) aY)
 (aF (aQ aD)))) ?_
 rintro ds Q ⟨ns,k,rfl,q⟩
 refine⟨_,rfl,_,rfl,_,_,rfl,rfl,_,rfl,?_⟩
 show if decide ((k:Int)<((ns.map D.int).length:Int))=true then _ else _
 rw[List.length_map]
 cases h:decide ((k:Int)<(ns.length:Int)) with
 |true =>
  have hk':k<ns.length:=by have:=of_decide_eq_true h;omega
  exact ae ⟨_,rfl,_,rfl,.int ns[k],fg (by rw[List.getElem?_map,List.getElem?_eq_getElem hk'];rfl),q _⟩
 |false=>exact aO (q _)
theorem EW (d:Df K mg "_law_names" ir ["_law_cell_here"])(n_range:mg "range"=none):av P w K mg base (j+1) "_law_names" ["_law_cell_here"] zm:=by
 refine d.dN lX (λds P P' f ⟨c,e,q⟩=>⟨c,e,λl h=>f _ (q l h)⟩) (λds Q ⟨c,e,_⟩=>by rw[e];rfl) (λf cdv A outer s H E hr=>have hu:=hr.units;have hh:=hr.hd;have sc:=lX
  (aG (ar (i:=1) sc.nd rfl (Or.inl rfl) (bQ (dv 0) aD))
 (aG (bx (cD hu (dv 1) aD) (aF (aQ (l9 (x:="_law_k") (caps:=[0]) (cn:=["_law_cell_here"]) (cl:=[("_law_cell_here",s.heap.objs.size+1)]) (i5 (by rfl) (by rfl) (by decide +kernel) (dS ["_law_cell_here"] rfl (by decide +kernel)) (by decide +kernel) (bC (by rfl) cG) (.cons ⟨rfl,.inl rfl,rfl⟩ .nil)) rfl (jO (by rfl) n_range (aA aD aB)) (λC fp s₂ H₂=>bF (i:=0) (show(["_law_k","_law_cell_here"]:List Str).Nodup by decide +kernel) rfl (Or.inl rfl) (.inr rfl)) (λC fp s₂ H₂=>eU) (λC fp s₂ H₂=>(Hs (bT ah (bQ (Bo (dv 1) aD) aD) (λ_ _=>rfl)) (bp (dv 0) aD)))))) aY)
 (aG (bx (cD hu (dv 1) aD) (aF (aQ (l9 (x:="_law_word") (caps:=[]) (cn:=[]) (cl:=[]) (lI (by rfl) (by rfl) (by decide +kernel) (by decide +kernel) (by decide +kernel)) rfl (bw (bb (jI (by rfl)))) (λC fp s₂ H₂=>bF (i:=0) (show(["_law_word"]:List Str).Nodup by decide +kernel) rfl (Or.inl rfl) (.inr rfl)) (λC fp s₂ H₂=>eU) (λC fp s₂ H₂=>(bp (dv 0) ah))))) aY)
 (aG (bx (cD hu (dv 1) aD) (aF (aQ (l9 (x:="_law_word") (caps:=[]) (cn:=[]) (cl:=[]) (lI (by rfl) (by rfl) (by decide +kernel) (by decide +kernel) (by decide +kernel)) rfl (bw (bb (jI (by rfl)))) (λC fp s₂ H₂=>bF (i:=0) (show(["_law_word"]:List Str).Nodup by decide +kernel) rfl (Or.inl rfl) (.inr rfl)) (λC fp s₂ H₂=>eU) (λC fp s₂ H₂=>(bp (bp ah (dv 0)) ah))))) aY)
 (aG (ar (i:=2) sc.nd rfl (Or.inl rfl) (bp aD (bQ (Bo (dv 0) aD) aD)))
 (aG (ar (i:=3) sc.nd rfl (Or.inr rfl) (bQ (Bo (dv 0) aD) (dv 2)))
 (aG (ar (i:=4) sc.nd rfl (Or.inr rfl) (cv ah fP (d9 (dv 2))))
 (aF (aQ (l9 (x:="_law_k") (caps:=[4,3]) (cn:=["_law_word","_law_spot"]) (cl:=[("_law_word",s.heap.objs.size+2),("_law_spot",s.heap.objs.size+3)]) (i5 (by rfl) (by rfl) (by decide +kernel) (dS ["_law_word","_law_spot"] rfl (by decide +kernel)) (by decide +kernel) (bC (by rfl) (bC (by rfl) cG)) (.cons ⟨rfl,.inl rfl,rfl⟩ (.cons ⟨rfl,.inl rfl,rfl⟩ .nil))) rfl (jO (by rfl) n_range (aA aD aB)) (λC fp s₂ H₂=>bF (i:=0) (show(["_law_k","_law_word","_law_spot"]:List Str).Nodup by decide +kernel) rfl (Or.inl rfl) (.inr rfl)) (λC fp s₂ H₂=>eU) (λC fp s₂ H₂=>(bp (bp (cv (dv 1) fP (d9 (dv 2))) (bT ah (dv 0) (λ_ _=>rfl))) (cv (dv 1) (d9 (bp (dv 2) aD)) fP)))))))))))))) ?_
 rintro ds Q ⟨c,rfl,q⟩
 refine⟨_,rfl,iP5,_,rfl,_,rfl,?_⟩
 cases h0:decide (c%5=0) with
 |true =>
  obtain⟨ch,hch,ech⟩:=jJ (xs:=MR.cps.toList) (cC (c / 5) iP13) (by rw[show((MR.cps.toList.length:Nat):Int)=13 by decide +kernel];exact b5 _ (by decide))
  refine ae ⟨8,rfl,(by decide),(by decide),mO (g0 ch) _,oQ,?_,(by decide),?_⟩
  ·intro i d o a1 a2
   obtain⟨hd,rfl⟩:=rm a1 a2
   obtain⟨i,hi,rfl⟩:=LM hd
   exact⟨rfl,λ_=>⟨_,rfl,cd (by decide) (by decide),iP13,(by decide +kernel),ch,ech,_,rfl,_,_,rfl,rfl,(by omega),(by omega),(show(0:Nat)<1 by decide),(show(1:Nat)<1000 by decide),rfl⟩⟩
  ·rw[mF,show((List.range (8:Int).toNat).map λi:Nat=>D.int (0+(i:Int))).map (g0 ch)=(Mz ch).map D.str by unfold Mz;rw[List.map_map,List.map_map];rfl]
   exact q _ (pd (List.all_eq_true.mp Io ch hch))
 |false =>
  refine aO ⟨_,rfl,_,rfl,?_⟩
  cases h1:decide (c%5=1) with
  |true =>
   refine ae ⟨zL8,_,rfl,mO g1 _,oQ,?_,(by decide),?_⟩
   ·intro i d o a1 a2
    obtain⟨hd,rfl⟩:=rm a1 a2
    have hd':d∈l1.map D.str:=hd
    obtain⟨x,hx,rfl⟩:=List.mem_map.mp hd'
    have hl:x.length+1<=sizeLine:=Nat.le_trans (show x.length+1<=9 from(show ∀x∈l1,x.length+1<=9 by decide +kernel) x hx) (by decide)
    exact⟨rfl,λ_=>⟨_,rfl,hl,rfl⟩⟩
   ·rw[mF]
    exact q Nj (pd Ip)
  |false =>
   refine aO ⟨_,rfl,_,rfl,?_⟩
   cases h2:decide (c%5=2) with
   |true =>
    refine ae ⟨zL8,_,rfl,mO g2 _,oQ,?_,(by decide),?_⟩
    ·intro i d o a1 a2
     obtain⟨hd,rfl⟩:=rm a1 a2
     have hd':d∈l2.map D.str:=hd
     obtain⟨x,hx,rfl⟩:=List.mem_map.mp hd'
     have hl:(Str.length "in."+x.length<=sizeLine)/\(("in."++x:Str).length+Str.length ".q"<=sizeLine):=by
      have z:∀x∈l2,Str.length "in."+x.length<=20/\("in."++x:Str).length+Str.length ".q"<=20:=by decide +kernel
      exact⟨Nat.le_trans (z x hx).1 (by decide),Nat.le_trans (z x hx).2 (by decide)⟩
     exact⟨rfl,λ_=>⟨_,rfl,hl.1,hl.2,rfl⟩⟩
    ·rw[mF]
     exact q Nk (pd Iq)
   |false =>
    have a0:=cC (c / 5) iP7
    have a7:=b5 (c / 5) iP7
    refine aO ⟨_,rfl,cd (by decide) (by decide),iP7,?_⟩
    have hs:(0:Int)<2+c / 5%7:=by omega
    have b0:=cC (c / 40) hs
    have b8:=b5 (c / 40) hs
    refine⟨_,rfl,cd (by decide) (by decide),_,rfl,hs,?_⟩
    dsimp only
    obtain⟨a,ea,ha⟩:∃a:Nat,c / 5%7=(a:Int)/\a<7:=⟨(c / 5%7).toNat,by omega,by omega⟩
    rw[ea] at b0 b8 ⊢
    obtain⟨b,eb,hb⟩:∃b:Nat,c / 40%(2+(a:Int))=(b:Int)/\b<8:=⟨(c / 40%(2+(a:Int))).toNat,by omega,by omega⟩
    rw[eb]
    have ok3:xw (L7 (2+(a:Int)) (b:Int))=true:=List.all_eq_true.mp (List.all_eq_true.mp Ir a (List.mem_range.mpr ha)) b (List.mem_range.mpr hb)
    refine⟨_,rfl,_,rfl,(by decide +kernel),?_⟩
    have z3:IP (2+(a:Int)) (b:Int)=true:=List.all_eq_true.mp (List.all_eq_true.mp E5 a (List.mem_range.mpr ha)) b (List.mem_range.mpr hb)
    unfold IP at z3
    rw[Bool.and_eq_true,Bool.and_eq_true] at z3
    have hw:(wd (2+(a:Int))).length<=8:=of_decide_eq_true z3.1
    have e1:(Txt.slice (wd (2+(a:Int))) none (some (b:Int))).length<=8:=of_decide_eq_true z3.2.1
    have e2:(Txt.slice (wd (2+(a:Int))) (some ((b:Int)+1)) none).length<=8:=of_decide_eq_true z3.2.2
    refine⟨8,rfl,(by decide),(by decide),mO (g3 (2+(a:Int)) (b:Int)) _,oQ,?_,(by decide),?_⟩
    ·intro i d o a1 a2
     obtain⟨hd,rfl⟩:=rm a1 a2
     obtain⟨i,hi,rfl⟩:=LM hd
     obtain⟨ch,hch,ech⟩:=jJ (xs:=bc.cps.toList) (i:=0+(i:Int)) (by omega) (by rw[show((bc.cps.toList.length:Nat):Int)=8 by decide +kernel];omega)
     have eg:g3 (2+(a:Int)) (b:Int) (.int (0+(i:Int)))=.str (K0 (2+(a:Int)) (b:Int) ch):=by unfold g3;dsimp only;rw[ech];rfl
     refine⟨rfl,λ_=>⟨_,rfl,_,rfl,_,rfl,Nat.le_trans hw (by decide),_,rfl,(by decide +kernel),ch,ech,Nat.le_trans (show(Txt.slice (wd (2+(a:Int))) none (some (b:Int))).length+1<=9 by omega) (by decide),_,rfl,_,rfl,_,rfl,Nat.le_trans hw (by decide),?_,?_⟩⟩
     ·show(Txt.slice (wd (2+(a:Int))) none (some (b:Int))++⟨#[ch]⟩).length+(Txt.slice (wd (2+(a:Int))) (some ((b:Int)+1)) none).length<=sizeLine
      rw[EL]
      exact Nat.le_trans (show _+1+_<=17 by omega) (by decide)
     ·rw[eg];rfl
    ·rw[mF,show((List.range (8:Int).toNat).map λi:Nat=>D.int (0+(i:Int))).map (g3 (2+(a:Int)) (b:Int))=(L7 (2+(a:Int)) (b:Int)).map D.str by unfold L7;rw[List.map_map,List.map_map];rfl]
     exact q _ (pd ok3)
def Ln.aR (x:Ln):List Str:=match x.on with
 |none=>x.parts.flatMap Pt.aR
 |some o=>if o∈x.parts.flatMap Pt.aR then x.parts.flatMap Pt.aR else x.parts.flatMap Pt.aR++[o]
theorem iW:∀{ps:List Pt},(∀p∈ps,p.depth<=4/\p.size<=40)->(ps.flatMap Pt.aR).length<=40*ps.length
 |[],_=>Nat.le_refl _
 |p::ps,h=>by
  rw[List.flatMap_cons,List.length_append,List.length_cons]
  have h1:=iW (ps:=ps) λq hq=>h q (List.mem_cons_of_mem _ hq)
  have h2:=(h p List.mem_cons_self).2
  have h3:=p.aj
  omega
theorem GW {A:bR}{L:LA}{μ:Mu}(x:Ln):ay μ (x.d A L)=x.d A L:=by cases x<;>rfl
def LR (A:bR)(L:LA):cF:=λds Q=>∃x:Ln,ds=[x.d A L]/\pV x/\Q (.lst (x.aR.map D.str))
theorem iQ (hL:tF K L)(d:Df K mg "line_needs" iw ["line"])(m_own_parts:∀C,CF L C->cA P w K mg base j C "own_parts" (D_ A L (λx=>.tup (x.parts.map (Pt.d A))) C) [])(mf_needs:MF P w K mg base A j "needs" 4 okN Pt.aR):av P w K mg base (j+1) "line_needs" ["line"] (LR A L):=by
 refine d.l7 lh (λds P P' f ⟨x,e,h,q⟩=>⟨x,e,h,f _ q⟩) (λds Q ⟨x,e,_⟩=>by rw[e];rfl) (λf cdv A outer s H E hr=>have hu:=hr.units;have hh:=hr.hd;have sc:=lh
  (aM (iX (i:=1) sc.nd rfl (Or.inl rfl) aB)
 (aM (cX PassesOwn.never rfl (bw (dh m_own_parts hr (by omega) (dv 0))) (bO (i:=2) sc.nd rfl (Or.inl rfl)) (aS (ku (i:=1) rfl (Or.inl rfl) (Hz mf_needs hr (by omega) (dv 2)))))
 (aM (fc (ow.td (w_and (nZ (bD K rfl (dv 0) (by rfl)) lJ) (kh (gn (bD K rfl (dv 0) (by rfl)) (dv 1) (by rfl))))) (aS (hW (i:=1) rfl (Or.inl rfl) (bD K rfl (dv 0) (by rfl)))) dH)
 (qX (qY (aF (aQ (dv 1))))))))) ?_
 rintro ds Q ⟨x,rfl,ho,q⟩
 refine⟨zL0,λa _=>?_⟩
 refine mx b7 r8 ⟨_,rfl,rfl⟩ ho ⟨x.parts.map (Pt.d A),rfl,λi δ μ=>(∃x2,δ=[some (x.d A L),some (.adr a),x2])/\μ=[(a,.lst (((x.parts.take i).flatMap Pt.aR).map D.str))],⟨⟨none,rfl⟩,rfl⟩,?_,?_⟩
 ·rintro i dd δ μ hd ⟨⟨x2,rfl⟩,rfl⟩
  rw[List.getElem?_map] at hd
  cases hp:x.parts[i]? with
  |none=>rw[hp] at hd;cases hd
  |some p =>
   rw[hp] at hd
   obtain rfl:p.d A=dd:=by simpa using hd
   have hop:=ho.2.2 p (List.mem_of_getElem? hp)
   obtain⟨gs,e1,e2⟩:=pZ A sE p
   refine⟨a,_,rfl,bg,p.d A,rfl,p.cls A,gs,e1,e2,⟨p,rfl⟩,p,rfl,rfl,hop.1,Nat.le_trans hop.2 (by decide),λb=>⟨b,_,rfl,bg,?_,⟨_,rfl⟩,?_⟩⟩
   ·rw[List.length_map,List.length_map]
    have h1:=iW (ps:=x.parts.take i) λq hq=>ho.2.2 q (List.mem_of_mem_take hq)
    have h2:(x.parts.take i).length<=8:=Nat.le_trans (by rw[List.length_take];exact Nat.min_le_right _ _) ho.2.1
    have h3:=p.aj
    exact Nat.le_trans (show _+p.aR.length<=400 by omega) (by decide)
   ·rw[gD,<- List.map_append,List.take_succ,hp,List.flatMap_append]
    simp
 ·rintro δ μ ⟨⟨x2,rfl⟩,rfl⟩
  rw[List.length_map,List.take_length]
  have hl:=iW (ps:=x.parts) λq hq=>ho.2.2 q hq
  have hl8:=ho.2.1
  have vw:∀l:List Str,bB [(a,.lst (l.map D.str))] [some (x.d A L),some (.adr a),x2]=[some (x.d A L),some (.lst (l.map D.str)),x2.map (ay [(a,.lst (l.map D.str))])]:=λl=>by
   show[some (ay [(a,MD.lst (l.map D.str))] (x.d A L)),some (ay [(a,MD.lst (l.map D.str))] (.adr a)),_]=_
   rw[fK,GW]
   rfl
  dsimp only
  refine zD (vw _) ?_
  ·refine⟨x.d A L,rfl,mD hL ?_⟩
   cases hon:x.on with
   |none =>
    refine⟨false,rfl,aO (aO ?_)⟩
    have e:x.aR=x.parts.flatMap Pt.aR:=by unfold Ln.aR;rw[hon]
    rw[e] at q
    unfold v7
    dsimp only
    refine hG (vw _) ?_
    exact⟨_,rfl,q⟩
   |some y =>
    refine⟨true,rfl,ae ⟨x.d A L,rfl,mD hL ?_⟩⟩
    rw[hon]
    refine⟨_,rfl,rfl,b_ _,_,rfl,?_⟩
    show if(!inD (.str y) ((x.parts.flatMap Pt.aR).map D.str))=true then _ else _
    rw[d7]
    cases hin:(x.parts.flatMap Pt.aR).contains y with
    |true =>
     have e:x.aR=x.parts.flatMap Pt.aR:=by
      unfold Ln.aR
      rw[hon]
      exact if_pos (List.contains_iff_mem.mp hin)
     rw[e] at q
     refine aO ?_
     unfold v7
     dsimp only
     refine hG (vw _) ?_
     exact⟨_,rfl,q⟩
    |false =>
     have e:x.aR=x.parts.flatMap Pt.aR++[y]:=by
      unfold Ln.aR
      rw[hon]
      exact if_neg (λh=>by rw[List.contains_iff_mem.mpr h] at hin;cases hin)
     rw[e,List.map_append] at q
     refine ae ⟨a,_,rfl,bg,?_,x.d A L,rfl,mD hL ?_⟩
     ·rw[List.length_map]
      exact Nat.lt_of_le_of_lt (show _<=400 by omega) (by decide)
     ·rw[hon,gD]
      have v2:=vw (x.parts.flatMap Pt.aR++[y])
      rw[List.map_append] at v2
      dsimp only
      refine hG v2 ?_
      exact⟨_,rfl,q⟩
def Ln.nm:Ln->Str
 |.kq n _ _=>n
 |.row n _ _ _=>n
theorem Ln.yA (x:Ln):x.own=[x.nm]:=by cases x<;>rfl
theorem zX:∀xs:List Ln,xs.flatMap Ln.own=xs.map Ln.nm
 |[]=>rfl
 |x::xs=>by rw[List.flatMap_cons,List.map_cons,zX xs,Ln.yA];rfl
theorem Sh.jV (s:Sh):s.names=s.all.map Ln.nm:=zX s.all
def Sh.Rows (s:Sh):Prop:=∀x∈s.ls,∃n k p o,x=.row n k p o
def Sh.i6 (s:Sh)(n:Str):List Str:=((s.all.find? λx=>x.nm == n).map Ln.aR).getD []
theorem zA {n:Str}{x:Ln}:∀{xs:List Ln},(xs.map Ln.nm).Nodup->x∈xs->x.nm=n->(xs.find? λx=>x.nm == n)=some x
 |y::xs,nd,h,e=>by
  rw[List.map_cons,List.nodup_cons] at nd
  rw[List.find?_cons]
  rcases List.mem_cons.mp h with h|h
  ·subst h;rw[e];simp
  ·have:(y.nm == n)=false:=by
    rw[beq_eq_false_iff_ne]
    intro z
    exact nd.1 (List.mem_map.mpr ⟨x,h,e.trans z.symm⟩)
   rw[this]
   exact zA nd.2 h e
theorem Sh.qZ {s:Sh}(nd:s.names.Nodup){x:Ln}(h:x∈s.all):s.i6 x.nm=x.aR:=by
 unfold Sh.i6
 rw[zA (by rw[<- s.jV];exact nd) h rfl]
 rfl
structure Nb (K:PySem.W.Frag) (L:LA):Prop where
 o2:fv K L.row
 k2:kitOne K (.ref L.row) (.ref L.row)=some true
def DZ (A:bR)(L:LA):cF:=λds Q=>∃s:Sh,ds=[s.d A L]/\s.Rows/\Q .ak
def Sh.gw (s:Sh):List (Key × D):=dF s.names λn=>ai (s.i6 n)
def LU (A:bR)(L:LA):cF:=λds Q=>∃s:Sh,ds=[s.d A L]/\s.Ok/\s.names.Nodup/\s.Rows/\Q (.dK s.gw)
def zg:cF:=λds Q=>∃l m:List Str,ds=[.lst (l.map D.str),.lst (m.map D.str)]/\l.length<1000/\Q (.bl (l.all m.contains))
def HR (ks:List Str)(nf:Str->List Str)(l:List Str)(k:Nat)(n:Str):Prop:=n∈ks/\n∉l.take k/\∀x∈nf n,x∈l.take k
def GZ (ks:List Str)(nf:Str->List Str)(l:List Str):Prop:=(∀k n,l[k]?=some n->HR ks nf l k n)/\l.length=ks.length
def HF (A:bR)(L:LA):cF:=λds Q=>∃(s:Sh) (l:List Str),(ds=[s.d A L,.lst (l.map D.str)]\/ds=[s.d A L,.tup (l.map D.str)])/\s.Ok/\s.names.Nodup/\s.Rows/\l.length<=100/\∀b:Bool,(b=true ↔ GZ s.names s.i6 l)->Q (.bl b)
theorem gR {μ:Mu}{δ:SD}{i:Nat}{d:D}{Q:D->Prop}(h:δ[i]?=some (some d))(q:Q (ay μ d)):lE i (bB μ δ) Q:=⟨ay μ d,by unfold bB;rw[List.getElem?_map,h];rfl,q⟩
theorem bz {α:Type}{l:List α}{i:Nat}{x:α}(h:l[i]?=some x):l.take (i+1)=l.take i++[x]:=by rw[List.take_succ,h];rfl
theorem wD {x:Ln}(h:pV x):x.aR.length<=400:=by
 have h1:=iW (ps:=x.parts) h.2.2
 have h2:=h.2.1
 unfold Ln.aR
 split
 ·omega
 ·split
  ·omega
  ·rw[List.length_append]
   show _+1<=_
   omega
theorem H_ {x:Ln}{Q:D->Prop}(hL:tF K L)(q:Q (.str x.nm)):∃C gs r,x.d A L=.obj C gs/\rE K C/\dE K C "name"/\gs.lookup ("name":Str)=some r/\Q r:=by
 have c:=hL.cl _ (Ln.aW L x)
 have no:=hL.g7 _ (Ln.aW L x)
 cases x<;>exact⟨_,_,_,rfl,c,no _ (by decide),(by kernel_rfl),q⟩
theorem jL (hL:tF K L)(hR:Nb K L)(d:Df K mg "need_rows" kN ["sheet"])(n_isinstance:mg "isinstance"=none)(i_Row:mg "Row"=some (.ref L.row))(ag:av P w K mg base j "need_sheet" ["holds","words"] wc):av P w K mg base (j+1) "need_rows" ["sheet"] (DZ A L):=by
 refine d.dN nQ (λds P P' f ⟨s,e,h,q⟩=>⟨s,e,h,f _ q⟩) (λds Q ⟨s,e,_⟩=>by rw[e];rfl) (λf cdv A outer s H E hr=>have hu:=hr.units;have hh:=hr.hd;have sc:=nQ
  (aF (wX PassesOwn.never rfl (bw (bD K rfl (dv 0) (by rfl))) (bO (i:=1) sc.nd rfl (Or.inl rfl)) (aF (bP (aH ag hr (by omega) (by rfl) (aA (Hn K rfl (dv 1) (by rfl) n_isinstance (by rfl) i_Row) (aA ah aB)))))))) ?_
 rintro ds Q ⟨s,rfl,hr,q⟩
 have c:=hL.cl L.sh (by simp)
 have no:=hL.g7 L.sh (by simp)
 refine bI (r:=.tup (s.ls.map (Ln.d A L))) rfl c (no _ (by decide)) (by kernel_rfl) ⟨s.ls.map (Ln.d A L),rfl,λi δ=>∃x1,δ=[some (s.d A L),x1],⟨none,rfl⟩,?_,?_⟩
 ·rintro i dd δ hd ⟨x1,rfl⟩
  obtain⟨x,hx,rfl⟩:=jS hd
  obtain⟨m,k,p,o,rfl⟩:=hr x (List.mem_of_getElem? hx)
  exact⟨_,rfl,_,_,.o hR.o2,hR.k2,_,rfl,_,rfl⟩
 ·rintro δ ⟨x1,rfl⟩
  exact q
theorem l4 (hL:tF K L)(d:Df K mg "needs_of" mQ ["sheet"])(jL:av P w K mg base j "need_rows" ["sheet"] (DZ A L))(m_all_lines:∀C,BM L C->cA P w K mg base j C "all_lines" (oh A L (λ_=>True) (AS A L) C) [])(iQ:av P w K mg base j "line_needs" ["line"] (LR A L)):av P w K mg base (j+1) "needs_of" ["sheet"] (LU A L):=by
 refine d.l7 pK (λds P P' f ⟨s,e,h1,h2,h3,q⟩=>⟨s,e,h1,h2,h3,f _ q⟩) (λds Q ⟨s,e,_⟩=>by rw[e];rfl) (λf cdv A outer s H E hr=>have hu:=hr.units;have hh:=hr.hd;have sc:=pK
  (aM (cb (bP (aH jL hr (by omega) (by rfl) (aA (dv 0) aB))))
 (aM (d8 (i:=1) sc.nd rfl (Or.inl rfl) iV)
 (aM (cX PassesOwn.never rfl (bw (dh m_all_lines hr (by omega) (dv 0))) (bO (i:=2) sc.nd rfl (Or.inl rfl)) (aS (fh (i:=1) hu rfl (Or.inl rfl) (bD K rfl (dv 2) (by rfl)) (aH iQ hr (by omega) (by rfl) (aA (dv 2) aB)))))
 (aS (fM (dv 1))))))) ?_
 rintro ds Q ⟨s,rfl,ho,nd,hr,q⟩
 refine⟨_,rfl,s,rfl,hr,λa _=>?_⟩
 refine gF b7 m_ ⟨_,rfl,rfl⟩ ho True.intro ⟨s.all.map (Ln.d A L),rfl,λi δ μ=>(∃x2,δ=[some (s.d A L),some (.adr a),x2])/\μ=[(a,.dK (dF ((s.all.take i).map Ln.nm) λn=>ai (s.i6 n)))],⟨⟨none,rfl⟩,rfl⟩,?_,?_⟩
 ·rintro i dd δ μ hd ⟨⟨x2,rfl⟩,rfl⟩
  obtain⟨x,hx,rfl⟩:=jS hd
  have hxa:=List.mem_of_getElem? hx
  refine⟨x.d A L,rfl,x,rfl,ho.ln x hxa,a,_,rfl,bg,?_,x.d A L,rfl,H_ hL ⟨.inr x.nm,rfl,⟨_,rfl⟩,?_⟩⟩
  ·rw[iT,List.length_map,List.length_take]
   have:=ho.mU
   exact Nat.lt_of_le_of_lt (show _<=18 by omega) (by decide)
  ·have hn:x.nm∉(s.all.take i).map Ln.nm:=λz=>by
    have nd':(s.all.map Ln.nm).Nodup:=by rw[<- s.jV];exact nd
    obtain⟨y,hy,e⟩:=List.mem_map.mp z
    obtain⟨k,hk⟩:=List.mem_iff_getElem?.mp hy
    rw[List.getElem?_take] at hk
    split at hk
    ·have e1:(s.all.map Ln.nm)[k]?=some x.nm:=by rw[List.getElem?_map,hk,<- e];rfl
     have e2:(s.all.map Ln.nm)[i]?=some x.nm:=by rw[List.getElem?_map,hx];rfl
     have:=jX nd' e1 e2
     omega
    ·cases hk
   rw[gD,j_ hn,bz hx,List.map_append]
   refine congrArg (λt=>[(a,MD.dK t)]) (dP λm hm=>?_)
   unfold ou
   split
   ·rename_i e
    rw[e,Sh.qZ nd hxa]
    rfl
   ·rfl
 ·rintro δ μ ⟨⟨x2,rfl⟩,rfl⟩
  refine gR rfl ?_
  rw[fK,List.length_map,List.take_length,<- s.jV]
  exact q
theorem iP (d:Df K mg "are_all_in" iu ["names","others"])(n_all:mg "all"=none):av P w K mg base (j+1) "are_all_in" ["names","others"] zg:=by
 refine d.dN lg (λds P P' f ⟨l,m,e,h,q⟩=>⟨l,m,e,h,f _ q⟩) (λds Q ⟨l,m,e,_⟩=>by rw[e];rfl) (λf cdv A outer s H E hr=>have hu:=hr.units;have hh:=hr.hd;have sc:=lg
  (aF (aQ (Bn hh (by rfl) n_all (aA (l9 (x:="name") (caps:=[1]) (cn:=["others"]) (cl:=[("others",s.heap.objs.size+1)]) (i5 (by rfl) (by rfl) (by decide +kernel) (dS ["others"] rfl (by decide +kernel)) (by decide +kernel) (bC (by rfl) cG) (.cons ⟨rfl,.inl rfl,rfl⟩ .nil)) rfl (bw (dv 0)) (λC fp s₂ H₂=>bF (i:=0) (show(["name","others"]:List Str).Nodup by decide +kernel) rfl (Or.inl rfl) (.inr rfl)) (λC fp s₂ H₂=>eU) (λC fp s₂ H₂=>(Bq (dv 0) (dv 1) (by rfl)))) aB))))) ?_
 rintro ds Q ⟨l,m,rfl,hl,q⟩
 refine⟨_,rfl,l.map D.str,rfl,?_⟩
 refine⟨wN (λx=>.bl (m.contains x)) l,qb,oV λx hx=>⟨rfl,λ_=>?_⟩,qW (Nat.lt_trans hl (by decide)),?_⟩
 ·refine⟨_,rfl,_,rfl,rfl,b_ _,?_⟩
  show some (D.bl (m.contains x))=some (D.bl (inD (.str x) (m.map D.str)))
  rw[d7]
 ·rw[qc]
  refine⟨l.map m.contains,by rw[List.map_map];rfl,?_⟩
  rw[List.all_map]
  exact q
theorem lz (d:Df K mg "is_order" mM ["sheet","names"])(n_len:mg "len"=none)(l4:av P w K mg base j "needs_of" ["sheet"] (LU A L))(iP:av P w K mg base j "are_all_in" ["names","others"] zg):av P w K mg base (j+1) "is_order" ["sheet","names"] (HF A L):=by
 refine d.l7 pH (λds P P' f ⟨s,l,e,h1,h2,h3,h4,q⟩=>⟨s,l,e,h1,h2,h3,h4,λb hb=>f _ (q b hb)⟩) (λds Q ⟨s,l,e,_⟩=>by rcases e with e|e<;>rw[e]<;>rfl) (λf cdv A outer s H E hr=>have hu:=hr.units;have hh:=hr.hd;have sc:=pH
  (aM (cb (ar (i:=2) sc.nd rfl (Or.inl rfl) (aH l4 hr (by omega) (by rfl) (aA (dv 0) aB))))
 (aM (iX (i:=3) sc.nd rfl (Or.inl rfl) aB)
 (aM (cX PassesOwn.never rfl (bw (dv 1)) (bO (i:=4) sc.nd rfl (Or.inl rfl)) (aM (fc (ow.td (w_or (Dr hu (dv 4) (dv 2) (by rfl)) (w_or (yX (dv 4) (dv 3) (by rfl)) (lu (ng (kZ (aH iP hr (by omega) (by rfl) (aA (cM hu (dv 2) (dv 4) (λ_ _=>rfl)) (aA (dv 3) aB))))))))) (aS (fM tN)) dH)
 (aS (hW (i:=3) rfl (Or.inl rfl) (dv 4)))))
 (aS (fM (xH hu (cO (by rfl) n_len (aA (dv 3) aB)) (Bs (by rfl) n_len (aA (dv 2) aB))))))))) ?_
 rintro ds Q ⟨s,l,e,ho,nd,hr,hl,q⟩
 obtain⟨nmD,rfl,hv,hit⟩:∃nmD,ds=[s.d A L,nmD]/\(∀ μ,ay μ nmD=nmD)/\CL nmD=some (l.map D.str):=by
  rcases e with e|e
  ·exact⟨_,e,λ_=>rfl,rfl⟩
  ·exact⟨_,e,λ_=>rfl,rfl⟩
 refine⟨_,rfl,s,rfl,ho,nd,hr,zL0,λa _=>?_⟩
 have vw:∀(M:List D) (x4:Option D),bB [(a,.lst M)] [some (s.d A L),some nmD,some (.dK s.gw),some (.adr a),x4]=[some (s.d A L),some nmD,some (.dK s.gw),some (.lst M),x4.map (ay [(a,.lst M)])]:=λM x4=>by
  show[some (ay _ (s.d A L)),some (ay _ nmD),some (ay _ (.dK s.gw)),some (ay _ (.adr a)),_]=_
  rw[fK,hv]
  rfl
 refine⟨nmD,rfl,l.map D.str,hit,λi δ μ=>(∃x4,δ=[some (s.d A L),some nmD,some (.dK s.gw),some (.adr a),x4])/\μ=[(a,.lst ((l.take i).map D.str))]/\∀k n,k<i->l[k]?=some n->HR s.names s.i6 l k n,⟨⟨none,rfl⟩,rfl,λk n hk=>absurd hk (by omega)⟩,?_,?_⟩
 ·rintro i dd δ μ hd ⟨⟨x4,rfl⟩,rfl,hpre⟩
  obtain⟨n,hn,rfl⟩:=jS hd
  dsimp only
  have qf:¬ HR s.names s.i6 l i n->Q (.bl false):=λh=>q false ⟨(λz=>nomatch z),λz=>absurd (z.1 i n hn) h⟩
  refine zD (vw _ _) ?_
  by_cases h1:n∈s.names
  ·have g1:eV s.gw (.inr n)=some (ai (s.i6 n)):=cE h1
   refine⟨.str n,rfl,_,rfl,_,.inr n,rfl,rfl,_,rfl,?_⟩
   rw[g1]
   refine aO ⟨.str n,rfl,_,rfl,rfl,b_ _,_,rfl,?_⟩
   show if(inD (.str n) ((l.take i).map D.str))=true then _ else _
   rw[d7]
   cases h2:(l.take i).contains n with
   |true=>exact ae (ae (qf λz=>z.2.1 (List.contains_iff_mem.mp h2)))
   |false =>
    have hn2:n∉l.take i:=λz=>by rw[List.contains_iff_mem.mpr z] at h2;cases h2
    obtain⟨x,hx,ex⟩:∃x∈s.all,x.nm=n:=by
     rw[s.jV] at h1
     exact List.mem_map.mp h1
    have hlen:(s.i6 n).length<1000:=by
     rw[<- ex,Sh.qZ nd hx]
     exact Nat.lt_of_le_of_lt (wD (ho.ln x hx)) (by decide)
    refine aO ⟨_,rfl,.str n,rfl,_,.inr n,_,rfl,rfl,g1,_,rfl,s.i6 n,l.take i,rfl,hlen,_,rfl,?_⟩
    cases h3:(s.i6 n).all (l.take i).contains with
    |false =>
     refine ae (qf λz=>?_)
     rw[List.all_eq_true.mpr λy hy=>List.contains_iff_mem.mpr (z.2.2 y hy)] at h3
     cases h3
    |true =>
     have hl1:(l.take i).length<=100:=by rw[List.length_take];omega
     refine aO ⟨a,_,rfl,bg,by rw[List.length_map];exact Nat.lt_of_le_of_lt hl1 (by decide),.str n,rfl,⟨_,rfl⟩,?_,λk m hk hm=>?_⟩
     ·rw[gD,bz hn,List.map_append];rfl
     ·by_cases e:k=i
      ·subst e
       rw[hn] at hm
       cases hm
       exact⟨h1,hn2,λy hy=>List.contains_iff_mem.mp (List.all_eq_true.mp h3 y hy)⟩
      ·exact hpre k m (by omega) hm
  ·have g0:eV s.gw (.inr n)=none:=va h1
   refine⟨.str n,rfl,_,rfl,_,.inr n,rfl,rfl,_,rfl,?_⟩
   rw[g0]
   exact ae (ae (qf λz=>h1 z.1))
 ·rintro δ μ ⟨⟨x4,rfl⟩,rfl,hpre⟩
  dsimp only
  unfold FA
  rw[vw]
  refine⟨_,rfl,_,_,rfl,rfl,.dK s.gw,rfl,_,rfl,?_⟩
  refine q _ ⟨λh=>?_,λh=>?_⟩
  ·have h':=of_decide_eq_true h
   rw[List.length_map,List.length_map,List.take_length,Sh.gw,iT] at h'
   exact⟨λk n hk=>hpre k n (by rw[List.length_map];exact(List.getElem?_eq_some_iff.mp hk).1) hk,by omega⟩
  ·refine decide_eq_true ?_
   rw[List.length_map,List.length_map,List.take_length,Sh.gw,iT,h.2]
theorem FJ {acc:List Str}{n m:Str}(h:m∈au acc n):m∈acc\/m=n:=by
 unfold au at h
 split at h
 ·exact .inl h
 ·rcases List.mem_append.mp h with h|h
  ·exact .inl h
  ·exact .inr (List.mem_singleton.mp h)
theorem v8 {m:Str}:∀{l acc:List Str},m∈l.foldl au acc->m∈acc\/m∈l
 |[],_,h=>.inl h
 |n::l,acc,h=>by
  rcases v8 (l:=l) h with h|h
  ·rcases FJ h with h|h
   ·exact .inl h
   ·exact .inr (h ▸ List.mem_cons_self)
  ·exact .inr (List.mem_cons_of_mem _ h)
theorem rn {m:Str}:∀{ls:List (List Str)} {acc:List Str},m∈ls.foldl (λacc l=>l.foldl au acc) acc->m∈acc\/∃l∈ls,m∈l
 |[],_,h=>.inl h
 |k::ls,acc,h=>by
  rcases rn (ls:=ls) h with h|⟨l,hl,h⟩
  ·rcases v8 h with h|h
   ·exact .inl h
   ·exact .inr ⟨k,List.mem_cons_self,h⟩
  ·exact .inr ⟨l,List.mem_cons_of_mem _ hl,h⟩
theorem f9 {m:Str}{ls:List (List Str)}(h:m∈bf ls):∃l∈ls,m∈l:=(rn h).resolve_left λz=>nomatch z
theorem Pt.dQ {p:Pt}{ns:List Str}(h1:∀q∈p.inner,∀n∈q.names,n∈ns)(h2:∀n∈p.own,n∈ns):∀n∈p.names,n∈ns:=λn hn=>by
 rw[Pt.gZ] at hn
 obtain⟨l,hl,hn⟩:=f9 hn
 rcases List.mem_append.mp hl with hl|hl
 ·obtain⟨q,hq,rfl⟩:=List.mem_map.mp hl
  exact h1 q hq n hn
 ·rw[List.mem_singleton.mp hl] at hn
  exact h2 n hn
structure Tr (ns:List Str) (dp sz:Nat) (p:Pt):Prop where
 ok:p.ok
 nm:∀n∈p.names,n∈ns
 dp:p.depth<=dp
 sz:p.size<=sz
def pq:Nat->Nat
 | 0=>1
 |d+1=>3*pq d+1
theorem lD:∀d,1<=pq d
 | 0=>Nat.le_refl _
 |d+1=>by unfold pq;omega
theorem Tr.up {ns ms:List Str}{d e s t:Nat}{p:Pt}(h:Tr ns d s p)(hn:∀n∈ns,n∈ms)(hd:d<=e)(hs:s<=t):Tr ms e t p:=⟨h.ok,λn hn'=>hn n (h.nm n hn'),Nat.le_trans h.dp hd,Nat.le_trans h.sz hs⟩
section
variable {ns:List Str}{d e f a b c:Nat}{p q r:Pt}
theorem wt {v:D}(h:isVal v):Tr ns 1 1 (.given v):=⟨h,Pt.dQ (λq hq=>nomatch hq) (λn hn=>nomatch hn),Nat.le_refl _,Nat.le_refl _⟩
theorem Dy {n:Str}(h:n∈ns)(o:mI n):Tr ns 1 1 (.named n):=⟨o,Pt.dQ (λq hq=>nomatch hq) (λm hm=>by rw[List.mem_singleton.mp hm];exact h),Nat.le_refl _,Nat.le_refl _⟩
theorem BB (h:Tr ns d a p):Tr ns (d+1) (a+1) (.turned p):=⟨h.ok,Pt.dQ (λq hq=>by rw[List.mem_singleton.mp hq];exact h.nm) (λn hn=>nomatch hn),Nat.succ_le_succ h.dp,Nat.succ_le_succ h.sz⟩
theorem sq {v:D}(h:Tr ns d a p)(hv:dW v):Tr ns (d+1) (a+1) (.before p v):=⟨⟨h.ok,hv⟩,Pt.dQ (λq hq=>by rw[List.mem_singleton.mp hq];exact h.nm) (λn hn=>nomatch hn),Nat.succ_le_succ h.dp,Nat.succ_le_succ h.sz⟩
theorem Jl {n:Str}(h:Tr ns d a p)(hn:n∈ns)(o:mI n):Tr ns (d+1) (a+1) (.cS p n):=⟨⟨h.ok,o⟩,Pt.dQ (λq hq=>by rw[List.mem_singleton.mp hq];exact h.nm) (λm hm=>by rw[List.mem_singleton.mp hm];exact hn),Nat.succ_le_succ h.dp,Nat.succ_le_succ h.sz⟩
theorem GN {n:Str}{v:D}(h:Tr ns d a p)(hn:n∈ns)(o:mI n)(hv:dW v):Tr ns (d+1) (a+1) (.held p n v):=⟨⟨h.ok,o,hv⟩,Pt.dQ (λq hq=>by rw[List.mem_singleton.mp hq];exact h.nm) (λm hm=>by rw[List.mem_singleton.mp hm];exact hn),Nat.succ_le_succ h.dp,Nat.succ_le_succ h.sz⟩
theorem IE {α:Type}{P:α->Prop}{x y:α}(hx:P x)(hy:P y):∀z∈[x,y],P z:=λz hz=>by
 rcases List.mem_cons.mp hz with rfl|hz
 ·exact hx
 ·rw[List.mem_singleton.mp hz];exact hy
theorem Ep {α:Type}{P:α->Prop}{x y w:α}(hx:P x)(hy:P y)(hw:P w):∀z∈[x,y,w],P z:=λz hz=>by
 rcases List.mem_cons.mp hz with rfl|hz
 ·exact hx
 ·exact IE hy hw z hz
theorem GO {g:Str}(hg:g∈gm)(h:Tr ns d a p)(k:Tr ns d b q):Tr ns (d+1) (a+b+1) (.pair g p q):=⟨⟨hg,h.ok,k.ok⟩,Pt.dQ (IE h.nm k.nm) (λn hn=>nomatch hn),Nat.succ_le_succ (Nat.max_le.mpr ⟨h.dp,k.dp⟩),by have:=h.sz;have:=k.sz;show p.size+q.size+1<=_;omega⟩
theorem Dx (h:Tr ns d a p)(k:Tr ns d b q):Tr ns (d+1) (a+b+1) (.led p q):=⟨⟨h.ok,k.ok⟩,Pt.dQ (IE h.nm k.nm) (λn hn=>nomatch hn),Nat.succ_le_succ (Nat.max_le.mpr ⟨h.dp,k.dp⟩),by have:=h.sz;have:=k.sz;show p.size+q.size+1<=_;omega⟩
theorem BA (h:Tr ns d a p)(k:Tr ns d b q)(l:Tr ns d c r):Tr ns (d+1) (a+b+c+1) (.choice p q r):=⟨⟨h.ok,k.ok,l.ok⟩,Pt.dQ (Ep h.nm k.nm l.nm) (λn hn=>nomatch hn),Nat.succ_le_succ (Nat.max_le.mpr ⟨h.dp,Nat.max_le.mpr ⟨k.dp,l.dp⟩⟩),by have:=h.sz;have:=k.sz;have:=l.sz;show p.size+q.size+r.size+1<=_;omega⟩
end
structure BO (ks:List Str) (kf:Str->Str):Prop where
 nm:∀n∈ks,mI n
 kd:∀n∈ks,kf n∈oJ
 len:ks.length<=8
def xY (ks:List Str)(kf:Str->Str):D:=.dK (dF ks λn=>.str (kf n))
def og:cF:=λds Q=>∃(k:Str) (c:Int) (ks:List Str) (kf:Str->Str),ds=[.str k,.int c,xY ks kf]/\BO ks kf/\∀p,Tr ks 1 1 p->Q p.told
def DV:cF:=λds Q=>∃(k:Str) (c:Int),ds=[.str k,.int c]/\∀v,dW v->Q v
def oi (d:Nat):cF:=λds Q=>∃(k:Str) (c:Int) (ks:List Str) (kf:Str->Str) (e:Nat),ds=[.str k,.int c,.int (e:Int),xY ks kf]/\e<=d/\BO ks kf/\∀p,Tr ks (e+1) (pq e) p->Q p.told
def zr (d:Nat):cF:=λds Q=>∃(k:Str) (c w:Int) (ks:List Str) (kf:Str->Str) (e:Nat),ds=[.str k,.int c,.int ((e+1:Nat):Int),xY ks kf,.int w]/\e<=d/\BO ks kf/\∀p,Tr ks (e+2) (pq (e+1)) p->Q p.told
theorem ID {tA tB:TD}{T R:jE}{E:lF}{δ:SD}(r:R E δ)(h:R E δ->tA δ λb1=>if b1=true then tB δ λb2=>(if b2=true then T { E with nx:=R E } δ else R E δ) else R E δ):A1 (L8 (GS tA tB) T zd) R E δ:=h r
theorem Gu {tA tB:TD}{T R:jE}{E:lF}{δ:SD}(t:T { E with nx:=R E } δ)(h:T { E with nx:=R E } δ->tA δ λb1=>if b1=true then T { E with nx:=R E } δ else tB δ λb2=>(if b2=true then T { E with nx:=R E } δ else R E δ)):A1 (L8 (MG tA tB) T zd) R E δ:=h t
theorem MY (e:Nat):(((e+1:Nat)):Int) - 1=(e:Int):=by omega
theorem et {k:Str}{m:Int}{e:Nat}{d:D}:[D.str k,.int m,.int ((((e+1:Nat)):Int) - 1),d]=[.str k,.int m,.int (e:Int),d]:=by rw[MY]
theorem mW {α:Type}{xs:List α}(f:α->D){i:Int}(h0:0<=i)(h1:i<xs.length):∃x∈xs,L2.rF (xs.map f) i=some (f x):=by
 obtain⟨r,hr,er⟩:=jJ (xs:=xs.map f) h0 (by rw[List.length_map];exact h1)
 obtain⟨x,hx,rfl⟩:=List.mem_map.mp hr
 exact⟨x,hx,er⟩
theorem ue {t u:jE}{E:lF}{δ:SD}(I:SD->Prop)(hI:∀ δ,I δ->u E δ)(hA:∀N:SD->Prop,(∀ δ,I δ->N δ)->t { E with nx:=N } δ):A1 t u E δ:=hA (u E) hI
theorem LX {i:Nat}{d:D}{u:jE}{E:lF}{δ:SD}(h:u E (δ.set i (some d))):A1 (yK i (vC d)) u E δ:=h
theorem mw {c:Bool}{A B:Prop}(a:A)(b:B):if c=true then A else B:=by cases c;exact b;exact a
def Nt:List Str:=["+","-","*"]
def Nu:List Str:=["not","<","<=","=","=","and","or"]
theorem Je:∀g∈Nt,g="not"\/g∈gm:=by decide +kernel
theorem Dh:∀g∈Nu,g="not"\/g∈gm:=by decide +kernel
theorem len_str {F:List Str}(h:F.length<=8):F.length<sizeLine:=Nat.lt_of_le_of_lt h (by decide)
theorem Hd (d:Df K mg "_law_leaf" kG ["_law_kind","_law_seed","_law_kinds_here"])(n_len:mg "len"=none)(c__law_mixed:av P w K mg base j "_law_mixed" ["_law_cell_here","_law_k"] fJ):av P w K mg base (j+1) "_law_leaf" ["_law_kind","_law_seed","_law_kinds_here"] og:=by
 refine d.dN nK (λds P P' f ⟨k,c,ks,kf,e,h2,q⟩=>⟨k,c,ks,kf,e,h2,λp hp=>f _ (q p hp)⟩) (λds Q ⟨k,c,ks,kf,e,_⟩=>by rw[e];rfl) (λf cdv A outer s H E hr=>have hu:=hr.units;have hh:=hr.hd;have sc:=nK
  (aG (HC (k:=3) sc.nd rfl (Or.inl rfl) (i:=2) (x:="_law_name") (caps:=[0,2]) (cn:=["_law_kind","_law_kinds_here"]) (cl:=[("_law_kinds_here",s.heap.objs.size+2),("_law_kind",s.heap.objs.size+1)]) rfl (Or.inr (Or.inl rfl)) (i5 (by rfl) (by rfl) (by decide +kernel) (dS ["_law_kinds_here","_law_kind"] rfl (by decide +kernel)) (by decide +kernel) (bC (by rfl) (bC (by rfl) cG)) (.cons ⟨rfl,.inl rfl,rfl⟩ (.cons ⟨rfl,.inl rfl,rfl⟩ .nil))) rfl (λC fp s₂ H₂=>bF (i:=0) (show(["_law_name","_law_kind","_law_kinds_here"]:List Str).Nodup by decide +kernel) rfl (Or.inl rfl) (.inr rfl)) (λC fp s₂ H₂=>(ka (cD hu (cM hu (dv 2) (dv 0) (λ_ _=>rfl)) (dv 1)))) (λC fp s₂ H₂=>(dv 0)))
 (aG (bx (ow.td (w_and (Dp (cO (by rfl) n_len (aA (dv 3) aB)) aD) (kh (Dp (bQ (aH c__law_mixed hr (by omega) (by rfl) (aA (dv 1) (aA aD aB))) aD) aD)))) (aF (aQ (cB (aA ah (aA (bT (dv 3) (bQ (aH c__law_mixed hr (by omega) (by rfl) (aA (dv 1) (aA aD aB))) (cO (by rfl) n_len (aA (dv 3) aB))) (λ_ _=>rfl)) aB))))) aY)
 (aG (bx (cD hu (dv 0) ah) (aF (aQ (cB (aA ah (aA (xH hu (bQ (aH c__law_mixed hr (by omega) (by rfl) (aA (dv 1) (aA aD aB))) aD) aD) aB))))) aY)
 (aF (aQ (cB (aA ah (aA (bT (bb (aA (Gh aD) (aA aD (aA aD (aA (e_ (bQ (aH c__law_mixed hr (by omega) (by rfl) (aA (dv 1) (aA aD aB))) aD) aD) aB))))) (bQ (aH c__law_mixed hr (by omega) (by rfl) (aA (dv 1) (aA aD aB))) aD) (λ_ _=>rfl)) aB))))))))) ?_
 rintro ds Q ⟨k,c,ks,kf,rfl,hks,q⟩
 refine⟨_,rfl,?_⟩
 rw[md]
 refine⟨outF (λn=>decide (kf n=k)) D.str ks,fD,dg λn hn=>?_,qW (len_str hks.len),?_⟩
 ·refine⟨_,rfl,_,rfl,_,.inr n,_,rfl,rfl,cE hn,_,rfl,_,rfl,?_⟩
  show decide (kf n=k)=_/\_
  cases decide (kf n=k) with
  |true=>exact⟨rfl,λ_=>⟨_,rfl,rfl⟩⟩
  |false=>exact⟨rfl,λz=>nomatch z⟩
 rw[d_]
 have hin:∀n∈ks.filter λn=>decide (kf n=k),n∈ks:=λn hn=>(List.mem_filter.mp hn).1
 generalize (ks.filter λn=>decide (kf n=k))=F at hin ⊢
 dsimp only
 refine ID ?_ λrest=>?_
 ·refine⟨_,rfl,_,rfl,?_⟩
  show if decide (k="truth")=true then _ else _
  cases decide (k="truth") with
  |true=>exact ae ⟨_,rfl,c,4,rfl,λm=>⟨iP2,zL2,q (.given (.bl _)) (wt (.inl ⟨_,rfl⟩))⟩⟩
  |false =>
   refine aO ⟨_,rfl,_,rfl,c,5,rfl,λm5=>⟨iP256,zL4,_,rfl,c,4,rfl,λm4=>⟨iP4,?_⟩⟩⟩
   obtain⟨r,hr,er⟩:=jJ (xs:=[D.int (-128),.int 127,.int 0,.int (m5%256 - 128)]) (cC m4 iP4) (b5 m4 iP4)
   refine⟨r,er,zL2,q (.given r) (wt ?_)⟩
   have h1:=cC m5 iP256
   have h2:=b5 m5 iP256
   simp only[List.mem_cons,List.not_mem_nil,or_false] at hr
   rcases hr with rfl|rfl|rfl|rfl
   ·exact .inr ⟨_,rfl,by omega,by omega⟩
   ·exact .inr ⟨_,rfl,by omega,by omega⟩
   ·exact .inr ⟨_,rfl,by omega,by omega⟩
   ·exact .inr ⟨_,rfl,by omega,by omega⟩
 ·refine⟨_,rfl,_,_,rfl,rfl,_,rfl,?_⟩
  cases h0:decide ((0:Int)<((F.map D.str).length:Int)) with
  |false=>exact aO rest
  |true =>
   have h0':=of_decide_eq_true h0
   refine ae ⟨_,rfl,c,2,rfl,λm=>⟨iP3,_,rfl,?_⟩⟩
   cases decide ((0:Int)<m%3) with
   |false=>exact aO rest
   |true =>
    refine ae ⟨_,rfl,_,rfl,c,3,rfl,λm3=>⟨_,rfl,_,_,rfl,rfl,h0',?_⟩⟩
    obtain⟨r,hr,er⟩:=jJ (xs:=F.map D.str) (cC m3 h0') (b5 m3 h0')
    obtain⟨n,hn,rfl⟩:=List.mem_map.mp hr
    exact⟨_,er,zL2,q (.named n) (Dy (hin n hn) (hks.nm n (hin n hn)))⟩
theorem ER (d:Df K mg "_law_first" ik ["_law_kind","_law_seed"])(c__law_mixed:av P w K mg base j "_law_mixed" ["_law_cell_here","_law_k"] fJ):av P w K mg base (j+1) "_law_first" ["_law_kind","_law_seed"] DV:=by
 refine d.dN lT (λds P P' f ⟨k,c,e,q⟩=>⟨k,c,e,λp hp=>f _ (q p hp)⟩) (λds Q ⟨k,c,e,_⟩=>by rw[e];rfl) (λf cdv A outer s H E hr=>have hu:=hr.units;have hh:=hr.hd;have sc:=lT
  (aG (bx (cD hu (bQ (aH c__law_mixed hr (by omega) (by rfl) (aA (dv 1) (aA aD aB))) aD) aD) (aF (aQ lJ)) aY)
 (aG (bx (cD hu (dv 0) ah) (aF (aQ (xH hu (bQ (aH c__law_mixed hr (by omega) (by rfl) (aA (dv 1) (aA aD aB))) aD) aD))) aY)
 (aF (aQ (e_ (bQ (aH c__law_mixed hr (by omega) (by rfl) (aA (dv 1) (aA aD aB))) aD) aD)))))) ?_
 rintro ds Q ⟨k,c,rfl,q⟩
 refine⟨_,rfl,c,6,rfl,λm=>⟨iP2,_,rfl,?_⟩⟩
 show if decide (m%2=0)=true then _ else _
 cases decide (m%2=0) with
 |true=>exact ae (q _ (.inl rfl))
 |false =>
  refine aO ⟨_,rfl,_,rfl,?_⟩
  show if decide (k="truth")=true then _ else _
  cases decide (k="truth") with
  |true=>exact ae ⟨_,rfl,c,7,rfl,λm=>⟨iP2,q _ (.inr (.inl ⟨_,rfl⟩))⟩⟩
  |false =>
   refine aO ⟨_,rfl,c,7,rfl,λm=>⟨iP256,q _ (.inr (.inr ⟨_,rfl,?_,?_⟩))⟩⟩
   ·have h1:=cC m iP256
    omega
   ·have h2:=b5 m iP256
    omega
theorem EY {N0:Nat}(d:Df K mg "_law_timed" eQ ["_law_kind","_law_seed","_law_deep","_law_kinds_here","_law_way"])(n_len:mg "len"=none)(c__law_mixed:av P w K mg base j "_law_mixed" ["_law_cell_here","_law_k"] fJ)(c__law_first:av P w K mg base j "_law_first" ["_law_kind","_law_seed"] DV)(c__law_tree:av P w K mg base j "_law_tree" ["_law_kind","_law_seed","_law_deep","_law_kinds_here"] (oi N0)) :
  av P w K mg base (j+1) "_law_timed" ["_law_kind","_law_seed","_law_deep","_law_kinds_here","_law_way"] (zr N0):=by
 refine d.dN lZ (λds P P' f ⟨k,c,w,ks,kf,e,e1,h1,h2,q⟩=>⟨k,c,w,ks,kf,e,e1,h1,h2,λp hp=>f _ (q p hp)⟩) (λds Q ⟨k,c,w,ks,kf,e,e1,_⟩=>by rw[e1];rfl) (λf cdv A outer s H E hr=>have hu:=hr.units;have hh:=hr.hd;have sc:=lZ
  (aG (ar (i:=5) sc.nd rfl (Or.inl rfl) (aH c__law_tree hr (by omega) (by rfl) (aA (dv 0) (aA (aH c__law_mixed hr (by omega) (by rfl) (aA (dv 1) (aA aD aB))) (aA (e_ (dv 2) aD) (aA (dv 3) aB))))))
 (aG (HC (k:=6) sc.nd rfl (Or.inl rfl) (i:=3) (x:="_law_name") (caps:=[3]) (cn:=["_law_kinds_here"]) (cl:=[("_law_kinds_here",s.heap.objs.size+1)]) rfl (Or.inr (Or.inl rfl)) (i5 (by rfl) (by rfl) (by decide +kernel) (dS ["_law_kinds_here"] rfl (by decide +kernel)) (by decide +kernel) (bC (by rfl) cG) (.cons ⟨rfl,.inl rfl,rfl⟩ .nil)) rfl (λC fp s₂ H₂=>bF (i:=0) (show(["_law_name","_law_kinds_here"]:List Str).Nodup by decide +kernel) rfl (Or.inl rfl) (.inr rfl)) (λC fp s₂ H₂=>(ka (cD hu (cM hu (dv 1) (dv 0) (λ_ _=>rfl)) ah))) (λC fp s₂ H₂=>(dv 0)))
 (aG (bx (ow.td (w_or (cD hu (dv 4) aD) (lu (cD hu (cO (by rfl) n_len (aA (dv 6) aB)) aD)))) (aF (aQ (cB (aA ah (aA (dv 5) (aA (aH c__law_first hr (by omega) (by rfl) (aA (dv 0) (aA (dv 1) aB))) aB)))))) aY)
 (aG (bx (cD hu (dv 4) aD) (aF (aQ (cB (aA ah (aA (dv 5) (aA (aH c__law_tree hr (by omega) (by rfl) (aA (dv 0) (aA (aH c__law_mixed hr (by omega) (by rfl) (aA (dv 1) (aA aD aB))) (aA (e_ (dv 2) aD) (aA (dv 3) aB))))) aB)))))) aY)
 (aG (ar (i:=7) sc.nd rfl (Or.inl rfl) (bT (dv 6) (bQ (aH c__law_mixed hr (by omega) (by rfl) (aA (dv 1) (aA aD aB))) (cO (by rfl) n_len (aA (dv 6) aB))) (λ_ _=>rfl)))
 (aG (bx (cD hu (dv 4) aD) (aF (aQ (cB (aA ah (aA (dv 5) (aA (dv 7) aB)))))) aY)
 (aF (aQ (cB (aA ah (aA (dv 5) (aA (dv 7) (aA (aH c__law_first hr (by omega) (by rfl) (aA (dv 0) (aA (dv 1) aB))) aB)))))))))))))) ?_
 rintro ds Q ⟨k,c,w,ks,kf,e,rfl,he,hks,q⟩
 refine⟨_,rfl,_,rfl,c,11,rfl,λm1=>⟨_,rfl,_,rfl,k,m1,ks,kf,e,et,he,hks,λp1 h1=>?_⟩⟩
 refine⟨_,rfl,?_⟩
 rw[md]
 refine⟨outF (λn=>decide (kf n="truth")) D.str ks,fD,dg λn hn=>?_,qW (len_str hks.len),?_⟩
 ·refine⟨_,rfl,_,rfl,_,.inr n,_,rfl,rfl,cE hn,_,rfl,?_⟩
  show decide (kf n="truth")=_/\_
  cases decide (kf n="truth") with
  |true=>exact⟨rfl,λ_=>⟨_,rfl,rfl⟩⟩
  |false=>exact⟨rfl,λz=>nomatch z⟩
 rw[d_]
 have hin:∀n∈ks.filter λn=>decide (kf n="truth"),n∈ks:=λn hn=>(List.mem_filter.mp hn).1
 generalize (ks.filter λn=>decide (kf n="truth"))=F at hin ⊢
 have sz1:pq e+1<=pq (e+1):=by have:=lD e;show _<=3*pq e+1;omega
 have sz2:pq e+pq e+1<=pq (e+1):=by have:=lD e;show _<=3*pq e+1;omega
 dsimp only
 refine Gu ?_ λt=>?_
 ·exact⟨_,rfl,_,rfl,_,rfl,k,c,rfl,λv hv=>⟨zL3,q (.before p1 v) ((sq h1 hv).up (λn h=>h) (Nat.le_refl _) sz1)⟩⟩
 ·refine⟨_,rfl,_,rfl,?_⟩
  show if decide (w=0)=true then _ else _
  cases decide (w=0) with
  |true=>exact ae t
  |false =>
   refine aO ⟨_,rfl,_,_,rfl,rfl,_,rfl,?_⟩
   show if decide (((F.map D.str).length:Int)=0)=true then _ else _
   cases h0:decide (((F.map D.str).length:Int)=0) with
   |true=>exact ae t
   |false =>
    have h0':(0:Int)<((F.map D.str).length:Int):=by have:=of_decide_eq_false h0;omega
    refine aO ⟨_,rfl,_,rfl,?_⟩
    show if decide (w=1)=true then _ else _
    cases decide (w=1) with
    |true=>exact ae ⟨_,rfl,_,rfl,_,rfl,c,12,rfl,λm2=>⟨_,rfl,_,rfl,k,m2,ks,kf,e,et,he,hks,λp2 h2=>⟨zL3,q (.led p1 p2) ((Dx h1 h2).up (λn h=>h) (Nat.le_refl _) sz2)⟩⟩⟩
    |false =>
     refine aO ⟨_,rfl,_,rfl,c,8,rfl,λm3=>⟨_,rfl,_,_,rfl,rfl,h0',?_⟩⟩
     obtain⟨r,hr,er⟩:=jJ (xs:=F.map D.str) (cC m3 h0') (b5 m3 h0')
     obtain⟨n,hn,rfl⟩:=List.mem_map.mp hr
     refine⟨_,er,_,rfl,_,rfl,?_⟩
     show if decide (w=2)=true then _ else _
     cases decide (w=2) with
     |true=>exact ae ⟨_,rfl,_,rfl,zL3,q (.cS p1 n) ((Jl h1 (hin n hn) (hks.nm n (hin n hn))).up (λn h=>h) (Nat.le_refl _) sz1)⟩
     |false=>exact aO ⟨_,rfl,_,rfl,_,rfl,_,rfl,k,c,rfl,λv hv=>⟨zL4,q (.held p1 n v) ((GN h1 (hin n hn) (hks.nm n (hin n hn)) hv).up (λn h=>h) (Nat.le_refl _) sz1)⟩⟩
theorem BC (d:Df K mg "_law_tree" fF ["_law_kind","_law_seed","_law_deep","_law_kinds_here"])(c__law_mixed:av P w K mg base j "_law_mixed" ["_law_cell_here","_law_k"] fJ)(c__law_leaf:av P w K mg base j "_law_leaf" ["_law_kind","_law_seed","_law_kinds_here"] og)
  (d2:Df K mg "_law_timed" eQ ["_law_kind","_law_seed","_law_deep","_law_kinds_here","_law_way"]):av P w K mg base (j+1) "_law_tree" ["_law_kind","_law_seed","_law_deep","_law_kinds_here"] (oi 0):=by
 have c__law_timed:av P w K mg base j "_law_timed" ["_law_kind","_law_seed","_law_deep","_law_kinds_here","_law_way"] F5:=Df.never d2 λds Q h=>h
 have c__law_tree:av P w K mg base j "_law_tree" ["_law_kind","_law_seed","_law_deep","_law_kinds_here"] F5:=Df.never d λds Q h=>h
 refine d.dN ft (λds P P' f ⟨k,c,ks,kf,e,e1,h1,h2,q⟩=>⟨k,c,ks,kf,e,e1,h1,h2,λp hp=>f _ (q p hp)⟩) (λds Q ⟨k,c,ks,kf,e,e1,_⟩=>by rw[e1];rfl) (λf cdv A outer s H E hr=>have hu:=hr.units;have hh:=hr.hd;have sc:=ft
  (aG (ar (i:=4) sc.nd rfl (Or.inl rfl) (bQ (aH c__law_mixed hr (by omega) (by rfl) (aA (dv 1) (aA aD aB))) aD))
 (aG (bx (ow.td (w_or (cD hu (dv 2) aD) (lu (A_ (dv 4) aD)))) (aF (aQ (aH c__law_leaf hr (by omega) (by rfl) (aA (dv 0) (aA (dv 1) (aA (dv 3) aB)))))) aY)
 (aG (bx (A_ (dv 4) aD) (aF (aQ (aH c__law_timed hr (by omega) (by rfl) (aA (dv 0) (aA (dv 1) (aA (dv 2) (aA (dv 3) (aA (e_ (dv 4) aD) aB)))))))) aY)
 (aG (bx (cD hu (dv 4) aD) (aG (ar (i:=8) sc.nd rfl (Or.inl rfl) (aH c__law_tree hr (by omega) (by rfl) (aA ah (aA (aH c__law_mixed hr (by omega) (by rfl) (aA (dv 1) (aA aD aB))) (aA (e_ (dv 2) aD) (aA (dv 3) aB))))))
 (aG (ar (i:=7) sc.nd rfl (Or.inl rfl) (aH c__law_tree hr (by omega) (by rfl) (aA (dv 0) (aA (aH c__law_mixed hr (by omega) (by rfl) (aA (dv 1) (aA aD aB))) (aA (e_ (dv 2) aD) (aA (dv 3) aB))))))
 (aF (aQ (cB (aA ah (aA (dv 8) (aA (dv 7) (aA (aH c__law_tree hr (by omega) (by rfl) (aA (dv 0) (aA (aH c__law_mixed hr (by omega) (by rfl) (aA (dv 1) (aA aD aB))) (aA (e_ (dv 2) aD) (aA (dv 3) aB))))) aB))))))))) aY)
 (aG (ar (i:=5) sc.nd rfl (Or.inl rfl) (bT (bb (jI (by rfl))) (bQ (aH c__law_mixed hr (by omega) (by rfl) (aA (dv 1) (aA aD aB))) aD) (λ_ _=>rfl)))
 (aG (ar (i:=6) sc.nd rfl (Or.inl rfl) ah)
 (aG (bx (cD hu (dv 0) ah) (aG (ar (i:=5) sc.nd rfl (Or.inl rfl) (bT (bb (jI (by rfl))) (bQ (aH c__law_mixed hr (by omega) (by rfl) (aA (dv 1) (aA aD aB))) aD) (λ_ _=>rfl)))
 (aF (bx (ow.td (w_or (yX (dv 5) (bb (jI (by rfl))) (by rfl)) (lu (ow.td (w_and (cD hu (dv 5) ah) (kh (cD hu (bQ (aH c__law_mixed hr (by omega) (by rfl) (aA (dv 1) (aA aD aB))) aD) aD))))))) (aF (ar (i:=6) sc.nd rfl (Or.inl rfl) ah)) aY))) aY)
 (aG (ar (i:=7) sc.nd rfl (Or.inl rfl) (aH c__law_tree hr (by omega) (by rfl) (aA (dv 6) (aA (aH c__law_mixed hr (by omega) (by rfl) (aA (dv 1) (aA aD aB))) (aA (e_ (dv 2) aD) (aA (dv 3) aB))))))
 (aG (bx (cD hu (dv 5) ah) (aF (aQ (cB (aA ah (aA (dv 7) aB))))) aY)
 (aF (aQ (cB (aA (dv 5) (aA (dv 7) (aA (aH c__law_tree hr (by omega) (by rfl) (aA (dv 6) (aA (aH c__law_mixed hr (by omega) (by rfl) (aA (dv 1) (aA aD aB))) (aA (e_ (dv 2) aD) (aA (dv 3) aB))))) aB)))))))))))))))) ?_
 rintro ds Q ⟨k,c,ks,kf,e,rfl,he,hks,q⟩
 obtain rfl:e=0:=Nat.le_zero.mp he
 refine⟨_,rfl,c,1,rfl,λm=>⟨iP9,_,rfl,_,rfl,ae (ae ?_)⟩⟩
 exact⟨_,rfl,_,rfl,_,rfl,k,c,ks,kf,rfl,hks,λp hp=>q p hp⟩
theorem Hg {N0:Nat}(d:Df K mg "_law_tree" fF ["_law_kind","_law_seed","_law_deep","_law_kinds_here"])(c__law_mixed:av P w K mg base j "_law_mixed" ["_law_cell_here","_law_k"] fJ)(c__law_leaf:av P w K mg base j "_law_leaf" ["_law_kind","_law_seed","_law_kinds_here"] og)
  (c__law_timed:av P w K mg base j "_law_timed" ["_law_kind","_law_seed","_law_deep","_law_kinds_here","_law_way"] (zr N0))(c__law_tree:av P w K mg base j "_law_tree" ["_law_kind","_law_seed","_law_deep","_law_kinds_here"] (oi N0)):av P w K mg base (j+1) "_law_tree" ["_law_kind","_law_seed","_law_deep","_law_kinds_here"] (oi (N0+1)):=by
 refine d.dN ft (λds P P' f ⟨k,c,ks,kf,e,e1,h1,h2,q⟩=>⟨k,c,ks,kf,e,e1,h1,h2,λp hp=>f _ (q p hp)⟩) (λds Q ⟨k,c,ks,kf,e,e1,_⟩=>by rw[e1];rfl) (λf cdv A outer s H E hr=>have hu:=hr.units;have hh:=hr.hd;have sc:=ft
  (aG (ar (i:=4) sc.nd rfl (Or.inl rfl) (bQ (aH c__law_mixed hr (by omega) (by rfl) (aA (dv 1) (aA aD aB))) aD))
 (aG (bx (ow.td (w_or (cD hu (dv 2) aD) (lu (A_ (dv 4) aD)))) (aF (aQ (aH c__law_leaf hr (by omega) (by rfl) (aA (dv 0) (aA (dv 1) (aA (dv 3) aB)))))) aY)
 (aG (bx (A_ (dv 4) aD) (aF (aQ (aH c__law_timed hr (by omega) (by rfl) (aA (dv 0) (aA (dv 1) (aA (dv 2) (aA (dv 3) (aA (e_ (dv 4) aD) aB)))))))) aY)
 (aG (bx (cD hu (dv 4) aD) (aG (ar (i:=8) sc.nd rfl (Or.inl rfl) (aH c__law_tree hr (by omega) (by rfl) (aA ah (aA (aH c__law_mixed hr (by omega) (by rfl) (aA (dv 1) (aA aD aB))) (aA (e_ (dv 2) aD) (aA (dv 3) aB))))))
 (aG (ar (i:=7) sc.nd rfl (Or.inl rfl) (aH c__law_tree hr (by omega) (by rfl) (aA (dv 0) (aA (aH c__law_mixed hr (by omega) (by rfl) (aA (dv 1) (aA aD aB))) (aA (e_ (dv 2) aD) (aA (dv 3) aB))))))
 (aF (aQ (cB (aA ah (aA (dv 8) (aA (dv 7) (aA (aH c__law_tree hr (by omega) (by rfl) (aA (dv 0) (aA (aH c__law_mixed hr (by omega) (by rfl) (aA (dv 1) (aA aD aB))) (aA (e_ (dv 2) aD) (aA (dv 3) aB))))) aB))))))))) aY)
 (aG (ar (i:=5) sc.nd rfl (Or.inl rfl) (bT (bb (jI (by rfl))) (bQ (aH c__law_mixed hr (by omega) (by rfl) (aA (dv 1) (aA aD aB))) aD) (λ_ _=>rfl)))
 (aG (ar (i:=6) sc.nd rfl (Or.inl rfl) ah)
 (aG (bx (cD hu (dv 0) ah) (aG (ar (i:=5) sc.nd rfl (Or.inl rfl) (bT (bb (jI (by rfl))) (bQ (aH c__law_mixed hr (by omega) (by rfl) (aA (dv 1) (aA aD aB))) aD) (λ_ _=>rfl)))
 (aF (bx (ow.td (w_or (yX (dv 5) (bb (jI (by rfl))) (by rfl)) (lu (ow.td (w_and (cD hu (dv 5) ah) (kh (cD hu (bQ (aH c__law_mixed hr (by omega) (by rfl) (aA (dv 1) (aA aD aB))) aD) aD))))))) (aF (ar (i:=6) sc.nd rfl (Or.inl rfl) ah)) aY))) aY)
 (aG (ar (i:=7) sc.nd rfl (Or.inl rfl) (aH c__law_tree hr (by omega) (by rfl) (aA (dv 6) (aA (aH c__law_mixed hr (by omega) (by rfl) (aA (dv 1) (aA aD aB))) (aA (e_ (dv 2) aD) (aA (dv 3) aB))))))
 (aG (bx (cD hu (dv 5) ah) (aF (aQ (cB (aA ah (aA (dv 7) aB))))) aY)
 (aF (aQ (cB (aA (dv 5) (aA (dv 7) (aA (aH c__law_tree hr (by omega) (by rfl) (aA (dv 6) (aA (aH c__law_mixed hr (by omega) (by rfl) (aA (dv 1) (aA aD aB))) (aA (e_ (dv 2) aD) (aA (dv 3) aB))))) aB)))))))))))))))) ?_
 rintro ds Q ⟨k,c,ks,kf,e,rfl,he,hks,q⟩
 refine⟨_,rfl,c,1,rfl,λm=>⟨iP9,?_⟩⟩
 dsimp only
 generalize m%9=way
 have leaf:∀p,Tr ks 1 1 p->Q p.told:=λp hp=>q p (hp.up (λn h=>h) (by omega) (lD e))
 refine Gu ?_ λt=>?_
 ·exact⟨_,rfl,_,rfl,_,rfl,k,c,ks,kf,rfl,hks,leaf⟩
 ·refine⟨_,rfl,_,rfl,?_⟩
  show if decide ((e:Int)=0)=true then _ else _
  cases h0:decide ((e:Int)=0) with
  |true=>exact ae t
  |false =>
   obtain⟨e',rfl⟩:∃e',e=e'+1:=⟨e - 1,by have:=of_decide_eq_false h0;omega⟩
   have he':e'<=N0:=by omega
   have sz1:pq e'+1<=pq (e'+1):=by have:=lD e';show _<=3*pq e'+1;omega
   have sz2:pq e'+pq e'+1<=pq (e'+1):=by have:=lD e';show _<=3*pq e'+1;omega
   have sz3:pq e'+pq e'+pq e'+1<=pq (e'+1):=by have:=lD e';show _<=3*pq e'+1;omega
   refine aO ⟨_,rfl,_,rfl,?_⟩
   show if decide (way<2)=true then _ else _
   cases decide (way<2) with
   |true=>exact ae t
   |false =>
    refine aO ⟨_,rfl,_,rfl,?_⟩
    show if decide (way<6)=true then _ else _
    cases decide (way<6) with
    |true=>exact ae ⟨_,rfl,_,rfl,_,rfl,_,rfl,_,rfl,k,c,way - 2,ks,kf,e',rfl,he',hks,λp hp=>q p hp⟩
    |false =>
     refine aO ⟨_,rfl,_,rfl,?_⟩
     show if decide (way=6)=true then _ else _
     cases decide (way=6) with
     |true =>
      refine ae ⟨_,rfl,c,13,rfl,λm1=>⟨_,rfl,_,rfl,"truth",m1,ks,kf,e',et,he',hks,λp1 h1=>?_⟩⟩
      refine⟨_,rfl,_,rfl,c,14,rfl,λm2=>⟨_,rfl,_,rfl,k,m2,ks,kf,e',et,he',hks,λp2 h2=>?_⟩⟩
      exact⟨_,rfl,_,rfl,_,rfl,_,rfl,c,15,rfl,λm3=>⟨_,rfl,_,rfl,k,m3,ks,kf,e',et,he',hks,λp3 h3=>⟨zL4,q (.choice p1 p2 p3) ((BA h1 h2 h3).up (λn h=>h) (Nat.le_refl _) sz3)⟩⟩⟩
     |false =>
      refine aO ⟨zL3,_,rfl,c,9,rfl,λm1=>⟨iP3,?_⟩⟩
      obtain⟨g,hg,eg⟩:=mW (xs:=Nt) D.str (cC m1 iP3) (b5 m1 iP3)
      refine⟨_,eg,?_⟩
      dsimp only
      refine LX (ue (λδ=>∃sg bt:Str,δ=[some (.str k),some (.int c),some (.int ((e'+1:Nat):Int)),some (xY ks kf),some (.int way),some (.str sg),some (.str bt),none,none]/\(sg="not"\/sg∈gm)) ?_ λN hN=>?_)
      ·rintro δ ⟨sg,bt,rfl,hs⟩
       refine⟨_,rfl,_,rfl,c,16,rfl,λm2=>⟨_,rfl,_,rfl,bt,m2,ks,kf,e',et,he',hks,λp1 h1=>?_⟩⟩
       refine⟨_,rfl,_,rfl,?_⟩
       show if decide (sg="not")=true then _ else _
       cases hn:decide (sg="not") with
       |true=>exact ae ⟨_,rfl,zL2,q (.turned p1) ((BB h1).up (λn h=>h) (Nat.le_refl _) sz1)⟩
       |false=>exact aO ⟨_,rfl,_,rfl,_,rfl,_,rfl,c,17,rfl,λm3=>⟨_,rfl,_,rfl,bt,m3,ks,kf,e',et,he',hks,λp2 h2=>⟨zL3,q (.pair sg p1 p2) ((GO (hs.resolve_left (of_decide_eq_false hn)) h1 h2).up (λn h=>h) (Nat.le_refl _) sz2)⟩⟩⟩
      ·refine⟨_,rfl,_,rfl,?_⟩
       show if decide (k="truth")=true then _ else _
       cases decide (k="truth") with
       |false=>exact aO (hN _ ⟨g,"number",rfl,Je g hg⟩)
       |true =>
        refine ae ⟨zL7,_,rfl,c,9,rfl,λm1=>⟨iP7,?_⟩⟩
        obtain⟨g,hg,eg⟩:=mW (xs:=Nu) D.str (cC m1 iP7) (b5 m1 iP7)
        refine⟨_,eg,?_⟩
        dsimp only
        have hT:=hN _ ⟨g,"truth",rfl,Dh g hg⟩
        have hF:=hN _ ⟨g,"number",rfl,Dh g hg⟩
        refine⟨_,rfl,zL3,rfl,(by decide +kernel),_,rfl,?_⟩
        refine mw hT ⟨_,rfl,_,rfl,mw ⟨_,rfl,c,10,rfl,λm=>⟨iP2,_,rfl,mw hT hF⟩⟩ hF⟩
theorem wu (d1:Df K mg "_law_tree" fF ["_law_kind","_law_seed","_law_deep","_law_kinds_here"])(d2:Df K mg "_law_timed" eQ ["_law_kind","_law_seed","_law_deep","_law_kinds_here","_law_way"])(n_len:mg "len"=none)(cm:∀j,av P w K mg base (j+1) "_law_mixed" ["_law_cell_here","_law_k"] fJ)(cl:∀j,av P w K mg base (j+2) "_law_leaf" ["_law_kind","_law_seed","_law_kinds_here"] og)(cf:∀j,av P w K mg base (j+2) "_law_first" ["_law_kind","_law_seed"] DV) :
  ∀n j,av P w K mg base (2*n+3+j) "_law_tree" ["_law_kind","_law_seed","_law_deep","_law_kinds_here"] (oi n)
 | 0,j=>by
  have h:=BC (j:=j+2) d1 (cm (j+1)) (cl j) d2
  exact h.up (by omega)
 |n+1,j=>by
  have ih:=wu d1 d2 n_len cm cl cf n
  have t:=EY (j:=2*n+3+j) (N0:=n) d2 n_len ((cm 0).up (by omega)) ((cf 0).up (by omega)) (ih j)
  have h:=Hg (j:=2*n+3+j+1) (N0:=n) d1 ((cm 0).up (by omega)) ((cl 0).up (by omega)) t ((ih j).up (by omega))
  exact h.up (by omega)
def Pt.word:Pt->Str
 |.given _=>"given"|.named _=>"named"|.turned _=>"not"|.pair g _ _=>g|.choice _ _ _=>"if"|.before _ _=>"before"|.led _ _=>"then"|.cS _ _=>"when"|.held _ _ _=>"held"
def Pt.tail:Pt->List D
 |.given v=>[v]|.named n=>[.str n]|.before _ f=>[f]|.cS _ n=>[.str n]|.held _ n f=>[.str n,f]|_=>[]
theorem Pt.ui (p:Pt):p.told=.tup (.str p.word::(p.inner.map Pt.told++p.tail)):=by cases p<;>rfl
def Pt.rep:Pt->Nat->Pt->Pt
 |.turned _,_,q=>.turned q
 |.pair g _ b,0,q=>.pair g q b
 |.pair g a _,_+1,q=>.pair g a q
 |.choice _ a b,0,q=>.choice q a b
 |.choice t _ b,1,q=>.choice t q b
 |.choice t a _,_+2,q=>.choice t a q
 |.before _ f,_,q=>.before q f
 |.led _ b,0,q=>.led q b
 |.led a _,_+1,q=>.led a q
 |.cS _ n,_,q=>.cS q n
 |.held _ n f,_,q=>.held q n f
 |p,_,_=>p
theorem gB {α:Type}{P:Prop}{x:α}{i:Nat}(h:([]:List α)[i]?=some x):P:=by rw[List.getElem?_nil] at h;cases h
theorem sS {p q x:Pt}{i:Nat}(h:p.inner[i]?=some x):(p.rep i q).inner=p.inner.set i q/\(p.rep i q).own=p.own/\(p.rep i q).word=p.word/\(p.rep i q).tail=p.tail:=by
 cases p with
 |given v=>exact gB h
 |named n=>exact gB h
 |pair g a b =>
  match i,h with
  | 0,h=>exact⟨rfl,rfl,rfl,rfl⟩
  | 1,h=>exact⟨rfl,rfl,rfl,rfl⟩
  |k+2,h=>exact gB (i:=k) h
 |choice t a b =>
  match i,h with
  | 0,h=>exact⟨rfl,rfl,rfl,rfl⟩
  | 1,h=>exact⟨rfl,rfl,rfl,rfl⟩
  | 2,h=>exact⟨rfl,rfl,rfl,rfl⟩
  |k+3,h=>exact gB (i:=k) h
 |led a b =>
  match i,h with
  | 0,h=>exact⟨rfl,rfl,rfl,rfl⟩
  | 1,h=>exact⟨rfl,rfl,rfl,rfl⟩
  |k+2,h=>exact gB (i:=k) h
 |_ =>
  match i,h with
  | 0,h=>exact⟨rfl,rfl,rfl,rfl⟩
  |k+1,h=>exact gB (i:=k) h
theorem DO {p q x:Pt}{i:Nat}(h:p.inner[i]?=some x):(p.rep i q).told=.tup (.str p.word::((p.inner.map Pt.told).set i q.told++p.tail)):=by
 obtain⟨h1,_,h3,h4⟩:=sS (q:=q) h
 rw[Pt.ui,h1,h3,h4,List.map_set]
theorem qU {acc:List Str}{n m:Str}(h:m∈acc\/m=n):m∈au acc n:=by
 unfold au
 split
 ·rename_i hc
  rcases h with h|h
  ·exact h
  ·rw[h];exact List.contains_iff_mem.mp hc
 ·rcases h with h|h
  ·exact List.mem_append_left _ h
  ·exact List.mem_append_right _ (List.mem_singleton.mpr h)
theorem jU {m:Str}:∀{l acc:List Str},m∈acc\/m∈l->m∈l.foldl au acc
 |[],_,h=>h.resolve_right λz=>nomatch z
 |n::l,acc,h=>by
  refine jU (l:=l) ?_
  rcases h with h|h
  ·exact .inl (qU (.inl h))
  ·rcases List.mem_cons.mp h with h|h
   ·exact .inl (qU (.inr h))
   ·exact .inr h
theorem mz {m:Str}:∀{ls:List (List Str)} {acc:List Str},(m∈acc\/∃l∈ls,m∈l)->m∈ls.foldl (λacc l=>l.foldl au acc) acc
 |[],_,h=>h.resolve_right fun⟨l,hl,_⟩=>nomatch hl
 |k::ls,acc,h=>by
  refine mz (ls:=ls) ?_
  rcases h with h|⟨l,hl,h⟩
  ·exact .inl (jU (.inl h))
  ·rcases List.mem_cons.mp hl with rfl|hl
   ·exact .inl (jU (.inr h))
   ·exact .inr ⟨l,hl,h⟩
theorem cg {m:Str}{ls:List (List Str)}{l:List Str}(hl:l∈ls)(h:m∈l):m∈bf ls:=mz (.inr ⟨l,hl,h⟩)
theorem Pt.vh {p q:Pt}(h:q∈p.inner){n:Str}(hn:n∈q.names):n∈p.names:=by
 rw[Pt.gZ]
 exact cg (List.mem_append_left _ (List.mem_map.mpr ⟨q,h,rfl⟩)) hn
theorem Pt.Av {p:Pt}{n:Str}(hn:n∈p.own):n∈p.names:=by
 rw[Pt.gZ]
 exact cg (List.mem_append_right _ (List.mem_singleton.mpr rfl)) hn
theorem JW {p q x:Pt}{i:Nat}(h:p.inner[i]?=some x)(ho:p.ok)(hq:q.ok)(hd:q.depth<=x.depth)(hs:q.size<=x.size):(p.rep i q).ok/\(p.rep i q).depth<=p.depth/\(p.rep i q).size<=p.size:=by
 cases p with
 |given v=>exact gB h
 |named n=>exact gB h
 |turned a =>
  match i,h with
  | 0,h=>cases h;exact⟨hq,Nat.succ_le_succ hd,Nat.succ_le_succ hs⟩
  |k+1,h=>exact gB (i:=k) h
 |before a f =>
  match i,h with
  | 0,h=>cases h;exact⟨⟨hq,ho.2⟩,Nat.succ_le_succ hd,Nat.succ_le_succ hs⟩
  |k+1,h=>exact gB (i:=k) h
 |cS a f =>
  match i,h with
  | 0,h=>cases h;exact⟨⟨hq,ho.2⟩,Nat.succ_le_succ hd,Nat.succ_le_succ hs⟩
  |k+1,h=>exact gB (i:=k) h
 |held a f g =>
  match i,h with
  | 0,h=>cases h;exact⟨⟨hq,ho.2⟩,Nat.succ_le_succ hd,Nat.succ_le_succ hs⟩
  |k+1,h=>exact gB (i:=k) h
 |pair g a b =>
  match i,h with
  | 0,h=>cases h;exact⟨⟨ho.1,hq,ho.2.2⟩,by simp only[Pt.rep,Pt.depth];omega,by simp only[Pt.rep,Pt.size];omega⟩
  | 1,h=>cases h;exact⟨⟨ho.1,ho.2.1,hq⟩,by simp only[Pt.rep,Pt.depth];omega,by simp only[Pt.rep,Pt.size];omega⟩
  |k+2,h=>exact gB (i:=k) h
 |led a b =>
  match i,h with
  | 0,h=>cases h;exact⟨⟨hq,ho.2⟩,by simp only[Pt.rep,Pt.depth];omega,by simp only[Pt.rep,Pt.size];omega⟩
  | 1,h=>cases h;exact⟨⟨ho.1,hq⟩,by simp only[Pt.rep,Pt.depth];omega,by simp only[Pt.rep,Pt.size];omega⟩
  |k+2,h=>exact gB (i:=k) h
 |choice t a b =>
  match i,h with
  | 0,h=>cases h;exact⟨⟨hq,ho.2⟩,by simp only[Pt.rep,Pt.depth];omega,by simp only[Pt.rep,Pt.size];omega⟩
  | 1,h=>cases h;exact⟨⟨ho.1,hq,ho.2.2⟩,by simp only[Pt.rep,Pt.depth];omega,by simp only[Pt.rep,Pt.size];omega⟩
  | 2,h=>cases h;exact⟨⟨ho.1,ho.2.1,hq⟩,by simp only[Pt.rep,Pt.depth];omega,by simp only[Pt.rep,Pt.size];omega⟩
  |k+3,h=>exact gB (i:=k) h
theorem JX {ns:List Str}{p q x:Pt}{i:Nat}(h:p.inner[i]?=some x)(ho:p.ok)(hn:∀n∈p.names,n∈ns)(t:Tr ns x.depth x.size q):Tr ns p.depth p.size (p.rep i q):=by
 obtain⟨h1,h2,_,_⟩:=sS (q:=q) h
 obtain⟨g1,g2,g3⟩:=JW h ho t.ok t.dp t.sz
 refine⟨g1,Pt.dQ (λy hy n hny=>?_) (λn hno=>?_),g2,g3⟩
 ·rw[h1] at hy
  rcases List.mem_or_eq_of_mem_set hy with hy|rfl
  ·exact hn n (Pt.vh hy hny)
  ·exact t.nm n hny
 ·rw[h2] at hno
  exact hn n (Pt.Av hno)
theorem Dj:∀g∈gm,PyData.strOk g=true:=by decide +kernel
theorem zL {v:D}(h:isVal v):Lay 0 v:=by
 rcases h with⟨b,rfl⟩|⟨i,rfl,_⟩
 ·exact IM b
 ·exact E2 i
theorem rj {v:D}(h:dW v):Lay 0 v:=by
 rcases h with rfl|h
 ·exact E3
 ·exact zL h
theorem uE {k:Nat}{x y:D}(hx:Lay k x)(hy:Lay k y):Lay (k+1) (.tup [x,y]):=uD (IE hx hy)
theorem kr {k:Nat}{x y z:D}(hx:Lay k x)(hy:Lay k y)(hz:Lay k z):Lay (k+1) (.tup [x,y,z]):=uD (Ep hx hy hz)
theorem vv {k:Nat}{x y z u:D}(hx:Lay k x)(hy:Lay k y)(hz:Lay k z)(hu:Lay k u):Lay (k+1) (.tup [x,y,z,u]):=uD λd hd=>by
 rcases List.mem_cons.mp hd with rfl|hd
 ·exact hx
 ·exact Ep hy hz hu d hd
theorem Pt.lay:∀{p:Pt},p.ok->Lay p.depth p.told
 |.given v,h=>uE (cy (by decide +kernel)) (zL h)
 |.named n,h=>uE (cy (by decide +kernel)) (cy h.2.2)
 |.turned p,h=>uE ((cy (by decide +kernel)).up (Nat.zero_le _)) (Pt.lay (p:=p) h)
 |.pair g a b,h=>kr ((cy (Dj g h.1)).up (Nat.zero_le _)) ((Pt.lay (p:=a) h.2.1).up (Nat.le_max_left _ _)) ((Pt.lay (p:=b) h.2.2).up (Nat.le_max_right _ _))
 |.choice t a b,h=>vv ((cy (by decide +kernel)).up (Nat.zero_le _)) ((Pt.lay (p:=t) h.1).up (Nat.le_max_left _ _)) ((Pt.lay (p:=a) h.2.1).up (Nat.le_trans (Nat.le_max_left _ _) (Nat.le_max_right _ _))) ((Pt.lay (p:=b) h.2.2).up (Nat.le_trans (Nat.le_max_right _ _) (Nat.le_max_right _ _)))
 |.before p f,h=>kr ((cy (by decide +kernel)).up (Nat.zero_le _)) (Pt.lay (p:=p) h.1) ((rj h.2).up (Nat.zero_le _))
 |.led a b,h=>kr ((cy (by decide +kernel)).up (Nat.zero_le _)) ((Pt.lay (p:=a) h.1).up (Nat.le_max_left _ _)) ((Pt.lay (p:=b) h.2).up (Nat.le_max_right _ _))
 |.cS p n,h=>kr ((cy (by decide +kernel)).up (Nat.zero_le _)) (Pt.lay (p:=p) h.1) ((cy h.2.2.2).up (Nat.zero_le _))
 |.held p n f,h=>vv ((cy (by decide +kernel)).up (Nat.zero_le _)) (Pt.lay (p:=p) h.1) ((cy h.2.1.2.2).up (Nat.zero_le _)) ((rj h.2.2).up (Nat.zero_le _))
theorem vQ {v:D}(h:isVal v):cN v=true:=by
 rcases h with⟨b,rfl⟩|⟨i,rfl,_⟩<;>rw[cN]
theorem qE {v:D}(h:dW v):cN v=true:=by
 rcases h with rfl|h
 ·rw[cN]
 ·exact vQ h
theorem cV (x:Str):cN (.str x)=true:=by rw[cN]
theorem vP:∀{ds:List D},(∀d∈ds,cN d=true)->jN ds=true
 |[],_=>by rw[jN]
 |d::ds,h=>by
  rw[jN,h d List.mem_cons_self,vP λe he=>h e (List.mem_cons_of_mem _ he)]
  rfl
theorem dt {ds:List D}(h:∀d∈ds,cN d=true):cN (.tup ds)=true:=by rw[cN];exact vP h
theorem Pt.deep:∀{p:Pt},p.ok->cN p.told=true
 |.given v,h=>dt (IE (cV _) (vQ h))
 |.named n,h=>dt (IE (cV _) (cV _))
 |.turned p,h=>dt (IE (cV _) (Pt.deep (p:=p) h))
 |.pair g a b,h=>dt (Ep (cV _) (Pt.deep (p:=a) h.2.1) (Pt.deep (p:=b) h.2.2))
 |.choice t a b,h=>dt λd hd=>by
  rcases List.mem_cons.mp hd with rfl|hd
  ·exact cV _
  ·exact Ep (P:=λd=>cN d=true) (Pt.deep (p:=t) h.1) (Pt.deep (p:=a) h.2.1) (Pt.deep (p:=b) h.2.2) d hd
 |.before p f,h=>dt (Ep (cV _) (Pt.deep (p:=p) h.1) (qE h.2))
 |.led a b,h=>dt (Ep (cV _) (Pt.deep (p:=a) h.1) (Pt.deep (p:=b) h.2))
 |.cS p n,h=>dt (Ep (cV _) (Pt.deep (p:=p) h.1) (cV _))
 |.held p n f,h=>dt λd hd=>by
  rcases List.mem_cons.mp hd with rfl|hd
  ·exact cV _
  ·exact Ep (P:=λd=>cN d=true) (Pt.deep (p:=p) h.1) (cV _) (qE h.2.2) d hd
theorem FE {tA tB:TD}{T R:fL}{E:fb}{δ δ':SD}{μ:Mu}(e:bB μ δ=δ')(t:T { E with nx:=R E } δ μ)(h:T { E with nx:=R E } δ μ->tA δ' λb1=>if b1=true then T { E with nx:=R E } δ μ else tB δ' λb2=>(if b2=true then T { E with nx:=R E } δ μ else R E δ μ)):oR (IU (MG tA tB) T v7) R E δ μ:=by
 unfold oR IU
 rw[e]
 exact h t
theorem A5 {i:Nat}{te:ED}{R:fL}{E:fb}{δ δ':SD}{μ:Mu}(e:bB μ δ=δ')(h:te δ' λd=>cN d=true/\R E (δ.set i (some d)) μ):oR (CV i te) R E δ μ:=by
 unfold oR CV
 rw[e]
 exact h
theorem xb {i:Nat}{te tk:ED}{R:fL}{E:fb}{δ δ':SD}{μ:Mu}(e:bB μ δ=δ')(h:te δ' λd=>cN d=true/\∃a ds,δ[i]?=some (some (.adr a))/\μ.lookup a=some (.lst ds)/\tk δ' λy=>∃k j,y=.int k/\zG ds.length k=some j/\R E δ (fR a (.lst (ds.set j d)) μ)):oR (xc i tk te) R E δ μ:=by
 unfold oR xc
 rw[e]
 exact h
theorem wV {te:ED}{E:fb}{δ δ':SD}{μ:Mu}(e:bB μ δ=δ')(h:te δ' λd=>E.rt d []):FA te E δ μ:=by
 unfold FA
 rw[e]
 exact h
theorem pY {n i:Nat}(h:i<n):L2.zG n (i:Int)=some i:=by
 unfold L2.zG
 rw[if_pos (by omega),if_pos (by omega),Int.toNat_natCast]
theorem tD {μ:Mu}(p:Pt):ay μ p.told=p.told:=by cases p<;>rfl
def Mj:List D:=[.str "given",.str "named"]
def Ml:List D:=[.str "not",.str "before",.str "when",.str "held"]
theorem nX:∀g∈gm,inD (.str g) Mj=false/\inD (.str g) Ml=false/\g≠"before"/\g≠"named"/\inD (.str g) [.str "when",.str "held"]=false:=by decide +kernel
def nS:rD:=λds Q=>∃p:Pt,ds=[p.told]/\p.ok/\∀a,Q (.adr a) [(a,.lst (p.inner.map Pt.told))]
def wb:cF:=λds Q=>∃p:Pt,ds=[p.told]/\p.ok/\Q (.lst (p.inner.map Pt.told))
def nU (n:Nat):cF:=λds Q=>∃(p:Pt) (c:Int) (ks:List Str) (kf:Str->Str),ds=[p.told,.int c,xY ks kf]/\p.depth<=n/\n<=10/\BO ks kf/\p.ok/\(∀m∈p.names,m∈ks)/\∀p',Tr ks p.depth p.size p'->Q p'.told
def pk (n:Nat):cF:=λds Q=>∃p:Pt,ds=[p.told]/\p.depth<=n/\p.size<=900/\p.ok/\Q (ai p.aR)
theorem Bj (d:Df K mg "_law_inner" il ["_law_told"])(n_list:mg "list"=none):iN P w K mg base (j+1) "_law_inner" ["_law_told"] nS:=by
 refine d.rG lU (λds P P' f ⟨p,e,h,q⟩=>⟨p,e,h,λa=>f _ _ (q a)⟩) (λds Q ⟨p,e,_⟩=>by rw[e];rfl) (λf cdv A outer s H E hr=>have hu:=hr.units;have hh:=hr.hd;have sc:=lU
  (aM (fc (yX (bT (dv 0) aD (λ_ _=>rfl)) (bb (jI (by rfl))) (by rfl)) (aS (gY (qG aB))) dH)
 (aM (fc (yX (bT (dv 0) aD (λ_ _=>rfl)) (bb (jI (by rfl))) (by rfl)) (aS (gY (qG (aA (bT (dv 0) aD (λ_ _=>rfl)) aB)))) dH)
 (aS (gY (n6 (by rfl) n_list (aA (cv (dv 0) (d9 aD) fP) aB))))))) ?_
 rintro ds Q ⟨p,rfl,ho,q⟩
 have z1:1<=sizeLine:=by decide
 cases p with
 |given v=>exact⟨_,rfl,_,rfl,(by decide),rfl,(by decide +kernel),true,congrArg D.bl (by decide +kernel),ae ⟨zL0,λa=>q a⟩⟩
 |named v=>exact⟨_,rfl,_,rfl,(by decide),rfl,(by decide +kernel),true,congrArg D.bl (by decide +kernel),ae ⟨zL0,λa=>q a⟩⟩
 |turned v=>exact⟨_,rfl,_,rfl,(by decide),rfl,(by decide +kernel),false,congrArg D.bl (by decide +kernel),aO ⟨_,rfl,_,rfl,(by decide),rfl,(by decide +kernel),true,congrArg D.bl (by decide +kernel),ae ⟨_,rfl,_,rfl,z1,λa=>q a⟩⟩⟩
 |before v f=>exact⟨_,rfl,_,rfl,(by decide),rfl,(by decide +kernel),false,congrArg D.bl (by decide +kernel),aO ⟨_,rfl,_,rfl,(by decide),rfl,(by decide +kernel),true,congrArg D.bl (by decide +kernel),ae ⟨_,rfl,_,rfl,z1,λa=>q a⟩⟩⟩
 |cS v f=>exact⟨_,rfl,_,rfl,(by decide),rfl,(by decide +kernel),false,congrArg D.bl (by decide +kernel),aO ⟨_,rfl,_,rfl,(by decide),rfl,(by decide +kernel),true,congrArg D.bl (by decide +kernel),ae ⟨_,rfl,_,rfl,z1,λa=>q a⟩⟩⟩
 |held v m f=>exact⟨_,rfl,_,rfl,(by decide),rfl,(by decide +kernel),false,congrArg D.bl (by decide +kernel),aO ⟨_,rfl,_,rfl,(by decide),rfl,(by decide +kernel),true,congrArg D.bl (by decide +kernel),ae ⟨_,rfl,_,rfl,z1,λa=>q a⟩⟩⟩
 |pair g a b=>exact⟨_,rfl,_,rfl,(by decide),rfl,(by decide +kernel),false,congrArg D.bl (nX g ho.1).1,aO ⟨_,rfl,_,rfl,(by decide),rfl,(by decide +kernel),false,congrArg D.bl (nX g ho.1).2.1,aO ⟨_,rfl,_,rfl,fO,[a.told,b.told],.inr rfl,λa=>q a⟩⟩⟩
 |choice t a b=>exact⟨_,rfl,_,rfl,(by decide),rfl,(by decide +kernel),false,congrArg D.bl (by decide +kernel),aO ⟨_,rfl,_,rfl,(by decide),rfl,(by decide +kernel),false,congrArg D.bl (by decide +kernel),aO ⟨_,rfl,_,rfl,fO,[t.told,a.told,b.told],.inr rfl,λa=>q a⟩⟩⟩
 |led a b=>exact⟨_,rfl,_,rfl,(by decide),rfl,(by decide +kernel),false,congrArg D.bl (by decide +kernel),aO ⟨_,rfl,_,rfl,(by decide),rfl,(by decide +kernel),false,congrArg D.bl (by decide +kernel),aO ⟨_,rfl,_,rfl,fO,[a.told,b.told],.inr rfl,λa=>q a⟩⟩⟩
theorem ES {j:Nat}(c:iN P w K mg base j "_law_inner" ["_law_told"] nS):av P w K mg base j "_law_inner" ["_law_told"] wb:=c.dN (λds P P' f ⟨p,e,h,q⟩=>⟨p,e,h,f _ q⟩) λds Q ⟨p,e,h,q⟩=>⟨p,e,h,λa=>by show Q (ay _ _);rw[fK];exact q⟩
theorem wm (d:Df K mg "_law_spoilt" eu ["_law_told","_law_seed","_law_kinds_here"])(n_len:mg "len"=none)(n_tuple:mg "tuple"=none)(c__law_mixed:av P w K mg base j "_law_mixed" ["_law_cell_here","_law_k"] fJ)(c__law_leaf:av P w K mg base j "_law_leaf" ["_law_kind","_law_seed","_law_kinds_here"] og)
  (cf__law_inner:iN P w K mg base j "_law_inner" ["_law_told"] nS)(c__law_spoilt:av P w K mg base j "_law_spoilt" ["_law_told","_law_seed","_law_kinds_here"] (nU n)):av P w K mg base (j+1) "_law_spoilt" ["_law_told","_law_seed","_law_kinds_here"] (nU (n+1)):=by
 refine d.l7 kT (λds P P' f ⟨p,c,ks,kf,e,h1,h2,h3,h4,h5,q⟩=>⟨p,c,ks,kf,e,h1,h2,h3,h4,h5,λp hp=>f _ (q p hp)⟩) (λds Q ⟨p,c,ks,kf,e,_⟩=>by rw[e];rfl) (λf cdv A outer s H E hr=>have hu:=hr.units;have hh:=hr.hd;have sc:=kT
  (aM (d8 (i:=3) sc.nd rfl (Or.inl rfl) (y_ cf__law_inner hr (by omega) (by rfl) (aA (dv 0) aB)))
 (aM (fc (ow.td (w_or (cD hu (dv 3) (bb aB)) (lu (cD hu (bQ (aH c__law_mixed hr (by omega) (by rfl) (aA (dv 1) (aA aD aB))) aD) aD)))) (aS (fM (aH c__law_leaf hr (by omega) (by rfl) (aA (bT (bb (jI (by rfl))) (bQ (aH c__law_mixed hr (by omega) (by rfl) (aA (dv 1) (aA aD aB))) aD) (λ_ _=>rfl)) (aA (aH c__law_mixed hr (by omega) (by rfl) (aA (dv 1) (aA aD aB))) (aA (dv 2) aB)))))) dH)
 (aM (zR (i:=4) sc.nd rfl (Or.inl rfl) (bQ (aH c__law_mixed hr (by omega) (by rfl) (aA (dv 1) (aA aD aB))) (cO (by rfl) n_len (aA (dv 3) aB))))
 (aM (Cj (i:=3) rfl (Or.inl rfl) (dv 4) (aH c__law_spoilt hr (by omega) (by rfl) (aA (bT (dv 3) (dv 4) (λ_ _=>rfl)) (aA (aH c__law_mixed hr (by omega) (by rfl) (aA (dv 1) (aA aD aB))) (aA (dv 2) aB)))))
 (aS (fM (bp (bp (cB (aA (bT (dv 0) aD (λ_ _=>rfl)) aB)) (fz (by rfl) n_tuple (aA (dv 3) aB))) (cv (dv 0) (d9 (bp aD (cO (by rfl) n_len (aA (dv 3) aB)))) fP))))))))) ?_
 rintro ds Q ⟨p,c,ks,kf,rfl,hd,hn,hks,ho,hnm,q⟩
 refine⟨_,rfl,p,rfl,ho,λa _=>?_⟩
 have vw:∀(M:List D) (x4:Option D),bB [(a,.lst M)] [some p.told,some (.int c),some (xY ks kf),some (.adr a),x4]=[some p.told,some (.int c),some (xY ks kf),some (.lst M),x4.map (ay [(a,.lst M)])]:=λM x4=>by
  show[some (ay _ p.told),some (ay _ (.int c)),some (ay _ (xY ks kf)),some (ay _ (.adr a)),_]=_
  rw[fK,tD]
  rfl
 dsimp only
 refine FE (vw _ _) ?_ λt=>?_
 ·refine wV (vw _ _) ?_
  refine⟨zL2,_,rfl,c,22,rfl,λm=>⟨iP2,?_⟩⟩
  obtain⟨k,hk,ek⟩:=mW (xs:=oJ) D.str (cC m iP2) (b5 m iP2)
  exact⟨_,ek,_,rfl,c,23,rfl,λm2=>⟨_,rfl,k,m2,ks,kf,rfl,hks,λp' hp'=>by show Q (ay [] p'.told);rw[tD];exact q p' (hp'.up (λn h=>h) p.fu (by cases p<;>simp only[Pt.size]<;>omega))⟩⟩
 ·have lay:Lay (n+1) (.lst (p.inner.map Pt.told)):=zK λd hd'=>by
   obtain⟨x,hx,rfl⟩:=List.mem_map.mp hd'
   exact(Pt.lay (Pt.zU hx ho)).up (Pt.d6 hx hd)
  refine⟨_,rfl,zL0,yx lay (by omega) ⟨_,rfl,?_⟩⟩
  cases hem:(p.inner.map Pt.told).isEmpty with
  |true=>exact ae t
  |false =>
   refine aO ⟨_,rfl,c,21,rfl,λm=>⟨iP7,_,rfl,?_⟩⟩
   refine mw t ?_
   have hpos:(0:Int)<((p.inner.map Pt.told).length:Int):=by
    cases hi:p.inner.map Pt.told with
    |nil=>rw[hi] at hem;cases hem
    |cons x l=>rw[List.length_cons];omega
   refine A5 (vw _ _) ⟨_,rfl,c,24,rfl,λm4=>⟨_,rfl,_,_,rfl,rfl,hpos,(by rw[cN]),?_⟩⟩
   have hlo:=cC m4 hpos
   have hhi:=b5 m4 hpos
   obtain⟨i,ei⟩:∃i:Nat,m4%((p.inner.map Pt.told).length:Int)=(i:Int):=⟨(m4%((p.inner.map Pt.told).length:Int)).toNat,by omega⟩
   dsimp only
   rw[ei] at hlo hhi ⊢
   have hi:i<(p.inner.map Pt.told).length:=by omega
   obtain⟨x,hx⟩:∃x,p.inner[i]?=some x:=⟨_,List.getElem?_eq_getElem (by rw[List.length_map] at hi;exact hi)⟩
   have hxm:=List.mem_of_getElem? hx
   have ex:(p.inner.map Pt.told)[i]?=some x.told:=by rw[List.getElem?_map,hx];rfl
   refine xb (vw _ _) ⟨_,rfl,_,rfl,x.told,fg ex,_,rfl,c,25,rfl,λm5=>⟨_,rfl,x,m5,ks,kf,rfl,Pt.d6 hxm hd,by omega,hks,Pt.zU hxm ho,λm hm=>hnm m (Pt.vh hxm hm),λq' hq'=>⟨Pt.deep hq'.ok,a,_,rfl,bg,_,rfl,(i:Int),i,rfl,pY hi,?_⟩⟩⟩
   rw[List.append_nil,gD]
   refine wV (vw _ _) ?_
   have hl:((p.inner.map Pt.told).set i q'.told).length=p.inner.length:=by rw[List.length_set,List.length_map]
   have h3:=p.df
   have ht:p.tail.length<=2:=by cases p<;>simp[Pt.tail]
   rw[Pt.ui]
   refine⟨_,rfl,_,fg (i:=0) rfl,zL1,_,rfl,_,.inl rfl,?_,_,rfl,_,rfl,_,_,rfl,rfl,_,rfl,?_⟩
   ·rw[hl]
    exact Nat.le_trans (show 1+p.inner.length<=4 by omega) (by decide)
   rw[show(1:Int)+((((p.inner.map Pt.told).set i q'.told).length:Nat):Int)=((1+p.inner.length:Nat):Int) by rw[hl];omega]
   have hle:1+p.inner.length<=(D.str p.word::(p.inner.map Pt.told++p.tail)).length:=by rw[List.length_cons,List.length_append,List.length_map];omega
   have hc:DC.cutD (D.str p.word::(p.inner.map Pt.told++p.tail)) (some ((1+p.inner.length:Nat):Int)) none=p.tail:=by
    rw[vG hle,Nat.add_comm,List.drop_succ_cons,List.drop_left' (by rw[List.length_map])]
   refine⟨wL (by omega) hle,?_,?_⟩
   ·rw[hc,List.length_append,hl]
    exact Nat.le_trans (show 1+p.inner.length+p.tail.length<=6 by omega) (by decide)
   ·rw[hc]
    have z:=q _ (JX hx ho hnm hq')
    rw[DO hx] at z
    exact z
theorem qv (d:Df K mg "_law_spoilt" eu ["_law_told","_law_seed","_law_kinds_here"])(n_len:mg "len"=none)(n_tuple:mg "tuple"=none)(cm:∀j,av P w K mg base (j+1) "_law_mixed" ["_law_cell_here","_law_k"] fJ)(cl:∀j,av P w K mg base (j+2) "_law_leaf" ["_law_kind","_law_seed","_law_kinds_here"] og)(ci:∀j,iN P w K mg base (j+1) "_law_inner" ["_law_told"] nS) :
  ∀n,av P w K mg base (n+3) "_law_spoilt" ["_law_told","_law_seed","_law_kinds_here"] (nU n)
 | 0=>Df.never d λds Q ⟨p,c,ks,kf,_,h,_⟩=>absurd p.fu (by omega)
 |n+1=>(wm (j:=n+3) d n_len n_tuple ((cm 0).up (by omega)) ((cl 0).up (by omega)) ((ci 0).up (by omega)) (qv d n_len n_tuple cm cl ci n)).up (by omega)
theorem z9 {acc:List Str}{n:Str}(h:acc.Nodup):(au acc n).Nodup:=by
 unfold au
 split
 ·exact h
 ·rename_i hc
  refine List.nodup_append.mpr ⟨h,by simp,λa ha b hb=>?_⟩
  rw[List.mem_singleton.mp hb]
  intro e
  exact hc (List.contains_iff_mem.mpr (e ▸ ha))
theorem o7:∀{l acc:List Str},acc.Nodup->(l.foldl au acc).Nodup
 |[],_,h=>h
 |_::l,_,h=>o7 (l:=l) (z9 h)
theorem o8:∀{ls:List (List Str)} {acc:List Str},acc.Nodup->(ls.foldl (λacc l=>l.foldl au acc) acc).Nodup
 |[],_,h=>h
 |_::ls,_,h=>o8 (ls:=ls) (o7 h)
theorem Pt.pD (p:Pt):p.aR.Nodup:=by
 by_cases h:p.hU=true
 ·cases p with
  |before x f=>exact List.nodup_nil
  |_=>cases h
 ·rw[Pt.jW p (by simpa using h)]
  exact o8 List.nodup_nil
theorem fold_filter:∀{l acc:List Str},l.Nodup->l.foldl au acc=acc++l.filter λn=>!acc.contains n
 |[],acc,_=>by simp
 |n::l,acc,h=>by
  rw[List.nodup_cons] at h
  rw[List.foldl_cons,fold_filter h.2,List.filter_cons]
  unfold au
  cases hc:acc.contains n with
  |true=>rw[if_pos rfl];simp
  |false =>
   rw[if_neg Bool.false_ne_true]
   simp only[Bool.not_false,if_true,List.append_assoc,List.singleton_append]
   congr 2
   refine List.filter_congr λm hm=>?_
   have e:m≠n:=λe=>h.1 (e ▸ hm)
   rw[List.contains_eq_mem,List.contains_eq_mem]
   simp[e]
theorem Aw (p:Pt):p.own.Nodup:=by cases p<;>simp[Pt.own]
theorem Pt.Kf {p q:Pt}(h:q∈p.inner):q.size<=p.size:=by
 cases p<;>simp only[Pt.inner,Pt.size,List.mem_cons,List.not_mem_nil,or_false] at h ⊢
 case turned=>subst h;omega
 case pair=>rcases h with rfl|rfl<;>omega
 case choice=>rcases h with rfl|rfl|rfl<;>omega
 case before=>subst h;omega
 case led=>rcases h with rfl|rfl<;>omega
 case cS=>subst h;omega
 case held=>subst h;omega
def accN (p:Pt)(i:Nat):List Str:=((p.inner.take i).map Pt.aR).foldl (λacc l=>l.foldl au acc) []
theorem yl (p:Pt)(i:Nat):(accN p i).length+p.own.length<=p.size:=by
 have h1:=ky ((p.inner.take i).map Pt.aR) []
 have h2:=p.sj
 have h3:=pO ((p.inner.map Pt.aR).map List.length) i
 rw[List.map_append,List.sum_append] at h2
 have h4:([p.own].map List.length).sum=p.own.length:=by simp
 rw[h4] at h2
 rw[<- List.map_take,<- List.map_take] at h3
 unfold accN
 simp only[List.length_nil,Nat.zero_add] at h1
 omega
theorem acc_step {p q:Pt}{i:Nat}(h:p.inner[i]?=some q):accN p (i+1)=q.aR.foldl au (accN p i):=by
 unfold accN
 rw[bz h,List.map_append,List.foldl_append]
 rfl
theorem EI {p:Pt}(h:p.hU=false):p.aR=p.own.foldl au (accN p p.inner.length):=by
 rw[Pt.jW p h]
 unfold accN bf
 rw[List.take_length,List.foldl_append]
 rfl
theorem nA {acc:List Str}{x:Str}{T:Prop}(h:(!acc.contains x)=true->T){o:Option D}(ho:o=if(!acc.contains x)=true then some (.str x) else none):(!acc.contains x)=o.isSome/\((!acc.contains x)=true->T):=by
 subst ho
 cases hc:acc.contains x with
 |true=>exact⟨rfl,λz=>nomatch z⟩
 |false=>exact⟨rfl,λ_=>h (by rw[hc];rfl)⟩
theorem xo (d:Df K mg "_law_needs" fq ["_law_told"])(c__law_inner:av P w K mg base j "_law_inner" ["_law_told"] wb)(c__law_needs:av P w K mg base j "_law_needs" ["_law_told"] (pk n)):av P w K mg base (j+1) "_law_needs" ["_law_told"] (pk (n+1)):=by
 refine d.dN lY (λds P P' f ⟨p,e,h1,h2,h3,q⟩=>⟨p,e,h1,h2,h3,f _ q⟩) (λds Q ⟨p,e,_⟩=>by rw[e];rfl) (λf cdv A outer s H E hr=>have hu:=hr.units;have hh:=hr.hd;have sc:=lY
  (aG (bx (cD hu (bT (dv 0) aD (λ_ _=>rfl)) ah) (aF (aQ (bb aB))) aY)
 (aG (ar (i:=1) sc.nd rfl (Or.inr rfl) (bb aB))
 (aG (wX PassesOwn.never rfl (bw (aH c__law_inner hr (by omega) (by rfl) (aA (dv 0) aB))) (bO (i:=2) sc.nd rfl (Or.inl rfl)) (aF (ar (i:=1) sc.nd rfl (Or.inr rfl) (bp (dv 1) (l9 (x:="_law_name") (caps:=[1]) (cn:=["_law_found"]) (cl:=[("_law_found",s.heap.objs.size+1)]) (i5 (by rfl) (by rfl) (by decide +kernel) (dS ["_law_found"] rfl (by decide +kernel)) (by decide +kernel) (bC (by rfl) cG) (.cons ⟨rfl,.inl rfl,rfl⟩ .nil)) rfl (bw (aH c__law_needs hr (by omega) (by rfl) (aA (dv 2) aB))) (λC fp s₂ H₂=>bF (i:=0) (show(["_law_name","_law_found"]:List Str).Nodup by decide +kernel) rfl (Or.inl rfl) (.inr rfl)) (λC fp s₂ H₂=>(ka (gn (dv 0) (dv 1) (by rfl)))) (λC fp s₂ H₂=>(dv 0)))))))
 (aG (ar (i:=3) sc.nd rfl (Or.inl rfl) (bb aB))
 (aG (bx (cD hu (bT (dv 0) aD (λ_ _=>rfl)) ah) (aF (ar (i:=3) sc.nd rfl (Or.inl rfl) (bb (aA (bT (dv 0) aD (λ_ _=>rfl)) aB)))) aY)
 (aG (bx (yX (bT (dv 0) aD (λ_ _=>rfl)) (bb (jI (by rfl))) (by rfl)) (aF (ar (i:=3) sc.nd rfl (Or.inl rfl) (bb (aA (bT (dv 0) aD (λ_ _=>rfl)) aB)))) aY)
 (aF (aQ (bp (dv 1) (l9 (x:="_law_name") (caps:=[1]) (cn:=["_law_found"]) (cl:=[("_law_found",s.heap.objs.size+1)]) (i5 (by rfl) (by rfl) (by decide +kernel) (dS ["_law_found"] rfl (by decide +kernel)) (by decide +kernel) (bC (by rfl) cG) (.cons ⟨rfl,.inl rfl,rfl⟩ .nil)) rfl (bw (dv 3)) (λC fp s₂ H₂=>bF (i:=0) (show(["_law_name","_law_found"]:List Str).Nodup by decide +kernel) rfl (Or.inl rfl) (.inr rfl)) (λC fp s₂ H₂=>(ka (gn (dv 0) (dv 1) (by rfl)))) (λC fp s₂ H₂=>(dv 0))))))))))))) ?_
 rintro ds Q ⟨p,rfl,hd,hs,ho,q⟩
 have hw:∀{R:D->Prop},R (.str p.word)->Nx (lE 0) (vC (.int 0)) [some p.told,none,none,none] R:=fun{R} r=>by
  rw[Pt.ui]
  exact⟨_,rfl,_,fg (i:=0) rfl,r⟩
 by_cases hb:p.hU=true
 ·cases p with
  |before x f=>exact⟨_,rfl,_,rfl,_,rfl,ae ⟨zL0,q⟩⟩
  |_=>cases hb
 ·have hb':p.hU=false:=by simpa using hb
  have hwb:p.word≠"before":=by
   cases p with
   |pair g a b=>exact(nX g ho.1).2.2.1
   |before=>cases hb'
   |given=>exact(show("given":Str)≠"before" by decide)
   |named=>exact(show("named":Str)≠"before" by decide)
   |turned=>exact(show("not":Str)≠"before" by decide)
   |choice=>exact(show("if":Str)≠"before" by decide)
   |led=>exact(show("then":Str)≠"before" by decide)
   |cS=>exact(show("when":Str)≠"before" by decide)
   |held=>exact(show("held":Str)≠"before" by decide)
  refine hw ⟨_,rfl,?_⟩
  show if decide (p.word="before")=true then _ else _
  rw[decide_eq_false hwb]
  refine aO ⟨zL0,?_⟩
  refine⟨_,rfl,p,rfl,ho,_,rfl,λi δ=>∃x2,δ=[some p.told,some (ai (accN p i)),x2,none],⟨none,rfl⟩,?_,?_⟩
  ·rintro i dd δ hdd ⟨x2,rfl⟩
   obtain⟨x,hx,rfl⟩:=jS hdd
   have hxm:=List.mem_of_getElem? hx
   have hxs:x.size<=900:=Nat.le_trans (Pt.Kf hxm) hs
   refine⟨_,rfl,_,rfl,x,rfl,Pt.d6 hxm hd,hxs,Pt.zU hxm ho,x.aR.map D.str,rfl,?_⟩
   refine⟨outF (λm=>!(accN p i).contains m) D.str x.aR,fD,dg λm hm=>?_,qW (Nat.lt_of_le_of_lt (Nat.le_trans x.aj hxs) (by decide)),?_⟩
   ·refine⟨_,rfl,_,rfl,rfl,b_ _,_,rfl,?_⟩
    show(!inD (.str m) ((accN p i).map D.str))=_/\_
    rw[d7]
    exact nA (λh=>⟨_,rfl,if_pos h⟩) rfl
   ·rw[d_]
    have hl:=yl p (i+1)
    rw[acc_step hx,fold_filter x.pD,List.length_append] at hl
    refine⟨?_,x.told,?_⟩
    ·rw[List.length_map,List.length_map]
     exact Nat.le_trans (show _<=900 by omega) (by decide)
    ·rw[acc_step hx,fold_filter x.pD]
     unfold ai
     rw[List.map_append]
     rfl
  ·rintro δ ⟨x2,rfl⟩
   rw[List.length_map]
   have he:=EI hb'
   rw[fold_filter (Aw p)] at he
   have hl:=yl p p.inner.length
   generalize accN p p.inner.length=acc at he hl ⊢
   refine⟨zL0,?_⟩
   have fin:∀(R:D->Prop) (td:D),R (ai p.aR)->Lo (lE 1) (iL [1] (Ba (lE 3)) (ff (yf (lE 0) (lE 1))) (lE 0)) [some td,some (ai acc),x2,some (ai p.own)] R:=λR td r=>by
    have ho8:p.own.length<sizeLine:=Nat.lt_of_le_of_lt (show p.own.length<=900 by omega) (by decide)
    refine⟨_,rfl,_,rfl,p.own.map D.str,rfl,?_⟩
    refine⟨outF (λm=>!acc.contains m) D.str p.own,fD,dg λm hm=>?_,qW ho8,?_⟩
    ·refine⟨_,rfl,_,rfl,rfl,b_ _,_,rfl,?_⟩
     show(!inD (.str m) (acc.map D.str))=_/\_
     rw[d7]
     exact nA (λh=>⟨_,rfl,if_pos h⟩) rfl
    ·rw[d_]
     have hf:=List.length_filter_le (λm=>!acc.contains m) p.own
     refine⟨?_,?_⟩
     ·rw[List.length_map,List.length_map]
      exact Nat.le_trans (show _<=900 by omega) (by decide)
     ·rw[he] at r
      unfold ai at r
      rw[List.map_append] at r
      exact r
   have z1:1<=sizeLine:=by decide
   have z2:2<=sizeLine:=by decide
   have q':Q (ai p.aR):=q
   clear q hwb hw
   cases p with
   |given v=>exact⟨_,rfl,_,rfl,_,rfl,aO ⟨_,rfl,_,rfl,z2,rfl,(by decide +kernel),false,congrArg D.bl (by decide +kernel),aO (fin _ _ q')⟩⟩
   |named v=>exact⟨_,rfl,_,rfl,_,rfl,ae ⟨_,rfl,_,rfl,z1,_,rfl,_,rfl,z2,rfl,(by decide +kernel),false,congrArg D.bl (by decide +kernel),aO (fin _ _ q')⟩⟩
   |turned v=>exact⟨_,rfl,_,rfl,_,rfl,aO ⟨_,rfl,_,rfl,z2,rfl,(by decide +kernel),false,congrArg D.bl (by decide +kernel),aO (fin _ _ q')⟩⟩
   |choice t a b=>exact⟨_,rfl,_,rfl,_,rfl,aO ⟨_,rfl,_,rfl,z2,rfl,(by decide +kernel),false,congrArg D.bl (by decide +kernel),aO (fin _ _ q')⟩⟩
   |led a b=>exact⟨_,rfl,_,rfl,_,rfl,aO ⟨_,rfl,_,rfl,z2,rfl,(by decide +kernel),false,congrArg D.bl (by decide +kernel),aO (fin _ _ q')⟩⟩
   |pair g a b=>exact⟨_,rfl,_,rfl,false,congrArg D.bl (decide_eq_false (nX g ho.1).2.2.2.1),aO ⟨_,rfl,_,rfl,z2,rfl,(by decide +kernel),false,congrArg D.bl (nX g ho.1).2.2.2.2,aO (fin _ _ q')⟩⟩
   |cS v f=>exact⟨_,rfl,_,rfl,_,rfl,aO ⟨_,rfl,_,rfl,z2,rfl,(by decide +kernel),true,congrArg D.bl (by decide +kernel),ae ⟨_,rfl,_,rfl,z1,fin _ _ q'⟩⟩⟩
   |held v f g=>exact⟨_,rfl,_,rfl,_,rfl,aO ⟨_,rfl,_,rfl,z2,rfl,(by decide +kernel),true,congrArg D.bl (by decide +kernel),ae ⟨_,rfl,_,rfl,z1,fin _ _ q'⟩⟩⟩
   |before v f=>cases hb'
theorem qa (d:Df K mg "_law_needs" fq ["_law_told"])(ci:∀j,iN P w K mg base (j+1) "_law_inner" ["_law_told"] nS):∀n,av P w K mg base (n+1) "_law_needs" ["_law_told"] (pk n)
 | 0=>Df.never d λds Q ⟨p,_,h,_⟩=>absurd p.fu (by omega)
 |n+1=>xo (j:=n+1) d (ES (ci n)) (qa d ci n)
structure Jt (l:List Str):Prop where
 lo:4<=l.length
 hi:l.length<=8
 nd:l.Nodup
 ok:∀x∈l,mI x
def zi:cF:=λds Q=>∃(l:List Str) (c:Int),ds=[.lst (l.map D.str),.int c,.int ((l.length:Int) - 3)]/\Jt l/\∀kf,BO l kf->Q (xY l kf)
def we:cF:=λds Q=>∃(l:List Str) (c:Int),ds=[.lst (l.map D.str),.int c]/\l.length<=8/\∀r:List Str,r.Perm l->Q (.lst (r.map D.str))
def jY (l:List Str)(of:Str->Option Str):List (Key × D):=dF l λn=>zV (of n)
def FT (ks l r:List Str)(kf:Str->Str)(of:Str->Option Str):Prop:=∀n∈ks,∀m,of n=some m->m∈l/\kf m="truth"/\∃i j:Nat,i<j/\r[i]?=some m/\r[j]?=some n
def DY:cF:=λds Q=>∃(l r:List Str) (kf:Str->Str) (c:Int),ds=[.lst (l.map D.str),xY l kf,.lst (r.map D.str),.int c]/\Jt l/\BO l kf/\r.Perm l/\∀of,FT l l r kf of->Q (.dK (jY l of))
theorem cQ {α:Type}{l:List α}{i:Nat}{x:α}(nd:l.Nodup)(h:l[i]?=some x):x∉l.take i:=λz=>by
 obtain⟨k,hk⟩:=List.mem_iff_getElem?.mp z
 rw[List.getElem?_take] at hk
 split at hk
 ·have:=jX nd hk h
  omega
 ·cases hk
theorem uL {l:List Str}(h:l.length<=8):l.length<sizeLine:=Nat.lt_of_le_of_lt h (by decide)
theorem ym {α:Type}{l:List α}{i:Nat}{x:α}(h:l[i]?=some x):i<l.length:=(List.getElem?_eq_some_iff.mp h).1
theorem CZ {tA tB:TD}{T:fL}{E:fb}{δ δ':SD}{μ:Mu}(e:bB μ δ=δ')(r:E.nx δ μ)(h:E.nx δ μ->tA δ' λb1=>if b1=true then tB δ' λb2=>(if b2=true then T E δ μ else E.nx δ μ) else E.nx δ μ):IU (GS tA tB) T v7 E δ μ:=by
 unfold IU
 rw[e]
 exact h r
theorem ET (d:Df K mg "_law_kinds" ip ["_law_names_here","_law_cell_here","_law_many"])(n_range:mg "range"=none)(c__law_mixed:av P w K mg base j "_law_mixed" ["_law_cell_here","_law_k"] fJ):av P w K mg base (j+1) "_law_kinds" ["_law_names_here","_law_cell_here","_law_many"] zi:=by
 refine d.l7 lV (λds P P' f ⟨l,c,e,h,q⟩=>⟨l,c,e,h,λkf hk=>f _ (q kf hk)⟩) (λds Q ⟨l,c,e,_⟩=>by rw[e];rfl) (λf cdv A outer s H E hr=>have hu:=hr.units;have hh:=hr.hd;have sc:=lV
  (aM (d8 (i:=3) sc.nd rfl (Or.inl rfl) iV)
 (aM (cX PassesOwn.never rfl (jO (by rfl) n_range (aA (bp aD (dv 2)) aB)) (bO (i:=4) sc.nd rfl (Or.inl rfl)) (aS (fh (i:=3) hu rfl (Or.inl rfl) (bT (dv 0) (dv 4) (λ_ _=>rfl)) (bT (bb (jI (by rfl))) (bQ (aH c__law_mixed hr (by omega) (by rfl) (aA (dv 1) (aA (bp aD (dv 4)) aB))) aD) (λ_ _=>rfl)))))
 (aS (fM (dv 3)))))) ?_
 rintro ds Q ⟨l,c,rfl,hl,q⟩
 intro a _
 have h8:=hl.hi
 have h4:=hl.lo
 have en:(3+((l.length:Int) - 3)).toNat=l.length:=by omega
 refine⟨_,rfl,3+((l.length:Int) - 3),rfl,(by omega),(by omega),λi δ μ=>(∃x4,δ=[some (.lst (l.map D.str)),some (.int c),some (.int ((l.length:Int) - 3)),some (.adr a),x4])/\∃kf:Str->Str,μ=[(a,.dK (dF (l.take i) λn=>.str (kf n)))]/\∀n∈l.take i,kf n∈oJ,⟨⟨none,rfl⟩,λ_=>"truth",rfl,λn hn=>nomatch hn⟩,?_,?_⟩
 ·rintro i dd δ μ hd ⟨⟨x4,rfl⟩,kf,rfl,hk⟩
  rw[en] at hd
  obtain⟨hi,rfl⟩:=yM hd
  obtain⟨n,hn⟩:∃n,l[i]?=some n:=⟨_,List.getElem?_eq_getElem hi⟩
  refine⟨zL2,_,rfl,_,rfl,c,_,rfl,λm=>⟨iP2,?_⟩⟩
  obtain⟨k,hk2,ek⟩:=mW (xs:=oJ) D.str (cC m iP2) (b5 m iP2)
  refine⟨_,ek,a,_,rfl,bg,?_,_,rfl,_,rfl,.str n,fg (by rw[List.getElem?_map,hn];rfl),.inr n,rfl,⟨_,rfl⟩,BQ kf n k,?_,?_⟩
  ·rw[iT,List.length_take]
   exact Nat.lt_of_le_of_lt (show _<=8 by omega) (by decide)
  ·rw[gD,j_ (cQ hl.nd hn),bz hn]
   rw[zz kf D.str]
  ·intro m hm
   by_cases e:m=n
   ·rw[e,kg];exact hk2
   ·rw[ot e]
    rw[bz hn] at hm
    rcases List.mem_append.mp hm with hm|hm
    ·exact hk m hm
    ·exact absurd (List.mem_singleton.mp hm) e
 ·rintro δ μ ⟨⟨x4,rfl⟩,kf,rfl,hk⟩
  refine gR rfl ?_
  rw[fK]
  rw[List.length_map,List.length_range,en,List.take_length] at hk ⊢
  exact q kf ⟨hl.ok,hk,hl.hi⟩
theorem Bb (d:Df K mg "_law_ranked" gz ["_law_names_here","_law_cell_here"])(n_enumerate:mg "enumerate"=none)(c__law_mixed:av P w K mg base j "_law_mixed" ["_law_cell_here","_law_k"] fJ):av P w K mg base (j+1) "_law_ranked" ["_law_names_here","_law_cell_here"] we:=by
 refine d.l7 kQ (λds P P' f ⟨l,c,e,h,q⟩=>⟨l,c,e,h,λkf hk=>f _ (q kf hk)⟩) (λds Q ⟨l,c,e,_⟩=>by rw[e];rfl) (λf cdv A outer s H E hr=>have hu:=hr.units;have hh:=hr.hd;have sc:=kQ
  (aM (iX (i:=2) sc.nd rfl (Or.inl rfl) aB)
 (aM (cX PassesOwn.never rfl (tZ (by rfl) n_enumerate (aA (dv 0) aB)) (vZ (n:=2) rfl (dU (bO (i:=3) sc.nd rfl (Or.inl rfl)) (dU (bO (i:=4) sc.nd rfl (Or.inl rfl)) qJ))) (aS (rp (i:=2) rfl (Or.inl rfl) (aA (bQ (aH c__law_mixed hr (by omega) (by rfl) (aA (dv 1) (aA (bp aD (dv 3)) aB))) (bp (dv 3) aD)) (aA (dv 4) aB)))))
 (aS (fM (dv 2)))))) ?_
 rintro ds Q ⟨l,c,rfl,hl,q⟩
 refine⟨zL0,λa _=>?_⟩
 refine⟨_,rfl,_,rfl,λi δ μ=>(∃x3 x4,δ=[some (.lst (l.map D.str)),some (.int c),some (.adr a),x3,x4])/\∃r:List Str,μ=[(a,.lst (r.map D.str))]/\r.Perm (l.take i),⟨⟨none,none,rfl⟩,[],rfl,List.Perm.refl _⟩,?_,?_⟩
 ·rintro i dd δ μ hd ⟨⟨x3,x4,rfl⟩,r,rfl,hr⟩
  obtain⟨n,hn,rfl⟩:=yw hd
  have hi:=ym hn
  have hrl:r.length=i:=by rw[hr.length_eq,List.length_take];omega
  refine⟨_,rfl,rfl,_,_,rfl,_,_,rfl,rfl,a,_,rfl,bg,_,rfl,_,rfl,c,_,rfl,λm=>⟨_,rfl,(show(0:Int)<(i:Int)+1 by omega),_,rfl,?_⟩⟩
  have hlo:=cC m (show(0:Int)<(i:Int)+1 by omega)
  have hhi:=b5 m (show(0:Int)<(i:Int)+1 by omega)
  refine⟨(m%((i:Int)+1)).toNat,.str n,?_,?_,?_,?_,⟨_,_,rfl⟩,r.take (m%((i:Int)+1)).toNat++n::r.drop (m%((i:Int)+1)).toNat,?_,?_⟩
  ·rw[Int.toNat_of_nonneg hlo]
  ·rw[List.length_map];omega
  ·rw[List.length_map,hrl];exact Nat.lt_of_le_of_lt (show i<=8 by omega) (by decide)
  ·omega
  ·rw[gD,List.map_append,List.map_cons,List.map_take,List.map_drop]
  ·rw[bz hn]
   refine List.perm_middle.trans ?_
   rw[List.take_append_drop]
   exact(List.Perm.cons n hr).trans (List.perm_append_singleton n _).symm
 ·rintro δ μ ⟨⟨x3,x4,rfl⟩,r,rfl,hr⟩
  refine gR rfl ?_
  rw[fK]
  rw[kl,List.length_map,List.take_length] at hr
  exact q r hr
theorem J9 (d:Df K mg "_law_ons" mL ["_law_names_here","_law_kinds_here","_law_ranked_here","_law_cell_here"])(n_enumerate:mg "enumerate"=none)(n_len:mg "len"=none)(c__law_mixed:av P w K mg base j "_law_mixed" ["_law_cell_here","_law_k"] fJ):av P w K mg base (j+1) "_law_ons" ["_law_names_here","_law_kinds_here","_law_ranked_here","_law_cell_here"] DY:=by
 refine d.l7 pG (λds P P' f ⟨l,r,kf,c,e,h1,h2,h3,q⟩=>⟨l,r,kf,c,e,h1,h2,h3,λof ho=>f _ (q of ho)⟩) (λds Q ⟨l,r,kf,c,e,_⟩=>by rw[e];rfl) (λf cdv A outer s H E hr=>have hu:=hr.units;have hh:=hr.hd;have sc:=pG
  (aM (d8 (i:=4) sc.nd rfl (Or.inl rfl) iV)
 (aM (cX PassesOwn.never rfl (tZ (by rfl) n_enumerate (aA (dv 0) aB)) (vZ (n:=2) rfl (dU (bO (i:=5) sc.nd rfl (Or.inl rfl)) (dU (bO (i:=6) sc.nd rfl (Or.inl rfl)) qJ))) (aM (cb (Jb (i:=7) sc.nd rfl (Or.inl rfl) (x:="_law_one") (caps:=[1]) (cn:=["_law_kinds_here"]) (cl:=[("_law_kinds_here",s.heap.objs.size+1)]) (i5 (by rfl) (by rfl) (by decide +kernel) (dS ["_law_kinds_here"] rfl (by decide +kernel)) (by decide +kernel) (bC (by rfl) cG) (.cons ⟨rfl,.inl rfl,rfl⟩ .nil)) rfl (bw (cv (dv 2) fP (d9 (vL (dv 2) (aA (dv 6) aB))))) (λC fp s₂ H₂=>bF (i:=0) (show(["_law_one","_law_kinds_here"]:List Str).Nodup by decide +kernel) rfl (Or.inl rfl) (.inr rfl)) (λC fp s₂ H₂=>(ka (cD hu (cM hu (dv 1) (dv 0) (λ_ _=>rfl)) ah))) (λC fp s₂ H₂=>(dv 0))))
 (aM (fh (i:=4) hu rfl (Or.inl rfl) (dv 6) lJ)
 (aS (fc (ow.td (w_and (Dp (cO (by rfl) n_len (aA (dv 7) aB)) aD) (kh (cD hu (bQ (aH c__law_mixed hr (by omega) (by rfl) (aA (dv 3) (aA (bp aD (dv 5)) aB))) aD) aD)))) (aS (fh (i:=4) hu rfl (Or.inl rfl) (dv 6) (bT (dv 7) (bQ (aH c__law_mixed hr (by omega) (by rfl) (aA (dv 3) (aA (bp aD (dv 5)) aB))) (cO (by rfl) n_len (aA (dv 7) aB))) (λ_ _=>rfl)))) dH)))))
 (aS (fM (dv 4)))))) ?_
 rintro ds Q ⟨l,r,kf,c,rfl,hl,hk,hr,q⟩
 intro a _
 have ndr:r.Nodup:=hr.nodup_iff.mpr hl.nd
 have hrl:r.length<=8:=by rw[hr.length_eq];exact hl.hi
 have h8:=hl.hi
 refine⟨_,rfl,_,rfl,λi δ μ=>(∃x5 x6 x7,δ=[some (.lst (l.map D.str)),some (xY l kf),some (.lst (r.map D.str)),some (.int c),some (.adr a),x5,x6,x7])/\∃of,μ=[(a,.dK (jY (l.take i) of))]/\FT (l.take i) l r kf of,⟨⟨none,none,none,rfl⟩,λ_=>none,rfl,λn hn=>nomatch hn⟩,?_,?_⟩
 ·rintro i dd δ μ hd ⟨⟨x5,x6,x7,rfl⟩,of,rfl,ho⟩
  obtain⟨n,hn,rfl⟩:=yw hd
  have hnl:=List.mem_of_getElem? hn
  obtain⟨t,ht⟩:=List.mem_iff_getElem?.mp (hr.mem_iff.mpr hnl)
  have htl:=ym ht
  refine⟨_,rfl,rfl,_,_,rfl,_,_,rfl,rfl,?_⟩
  refine⟨_,rfl,_,rfl,r,rfl,_,rfl,n,rfl,t,ht,λm y hm hy e=>?_,by omega,_,rfl,(r.take t).map D.str,?_,?_⟩
  ·subst e
   have:=jX ndr hy ht
   omega
  ·show some (DC.cutD _ none _)=_
   rw[n5,List.map_take]
  have hin:∀m∈r.take t,m∈l:=λm hm=>hr.mem_iff.mp (List.mem_of_mem_take hm)
  refine⟨outF (λm=>decide (kf m="truth")) D.str (r.take t),fD,dg λm hm=>?_,qW (Nat.lt_of_le_of_lt (show(r.take t).length<=8 by rw[List.length_take];omega) (by decide)),?_⟩
  ·refine⟨_,rfl,_,rfl,_,.inr m,_,rfl,rfl,cE (hin m hm),_,rfl,?_⟩
   show decide (kf m="truth")=_/\_
   cases decide (kf m="truth") with
   |true=>exact⟨rfl,λ_=>⟨_,rfl,rfl⟩⟩
   |false=>exact⟨rfl,λz=>nomatch z⟩
  rw[d_]
  have hF:∀m∈(r.take t).filter λm=>decide (kf m="truth"),m∈l/\kf m="truth"/\∃i j:Nat,i<j/\r[i]?=some m/\r[j]?=some n:=λm hm=>by
   obtain⟨h1,h2⟩:=List.mem_filter.mp hm
   obtain⟨k,hk⟩:=List.mem_iff_getElem?.mp h1
   rw[List.getElem?_take] at hk
   split at hk
   ·exact⟨hin m h1,of_decide_eq_true h2,k,t,by assumption,hk,ht⟩
   ·cases hk
  generalize ((r.take t).filter λm=>decide (kf m="truth"))=F at hF ⊢
  have hlen:∀of,(jY (l.take i) of).length<sizeLine:=λof=>by
   unfold jY
   rw[iT,List.length_take]
   exact Nat.lt_of_le_of_lt (show _<=8 by omega) (by decide)
  have hlen':∀of,(jY (l.take (i+1)) of).length<sizeLine:=λof=>by
   unfold jY
   rw[iT,List.length_take]
   exact Nat.lt_of_le_of_lt (show _<=8 by omega) (by decide)
  refine⟨a,_,rfl,bg,hlen _,_,rfl,.inr n,rfl,?_⟩
  have e1:h_ (jY (l.take i) of) (.inr n) .ak=jY (l.take (i+1)) (BQ of n none):=by
   unfold jY
   rw[j_ (cQ hl.nd hn),bz hn]
   exact congrArg (dF _) (zz of zV n none)
  have hup:∀v,(∀m,v=some m->m∈l/\kf m="truth"/\∃i j:Nat,i<j/\r[i]?=some m/\r[j]?=some n)->FT (l.take (i+1)) l r kf (BQ of n v):=λv hv m hm x hx=>by
   by_cases e:m=n
   ·rw[e,kg] at hx
    rw[e]
    exact hv x hx
   ·rw[ot e] at hx
    rw[bz hn] at hm
    rcases List.mem_append.mp hm with hm|hm
    ·exact ho m hm x hx
    ·exact absurd (List.mem_singleton.mp hm) e
  rw[gD,e1]
  dsimp only
  refine CZ rfl ⟨⟨_,_,_,rfl⟩,BQ of n none,rfl,hup none λm z=>nomatch z⟩ λrest=>?_
  refine⟨_,rfl,_,_,rfl,rfl,_,rfl,?_⟩
  show if decide ((0:Int)<((F.map D.str).length:Int))=true then _ else _
  cases h0:decide ((0:Int)<((F.map D.str).length:Int)) with
  |false=>exact aO rest
  |true =>
   have h0':=of_decide_eq_true h0
   refine ae ⟨_,rfl,_,rfl,c,_,rfl,λm=>⟨iP3,_,rfl,mw ?_ rest⟩⟩
   refine⟨_,rfl,_,rfl,_,rfl,c,_,rfl,λm3=>⟨_,rfl,_,_,rfl,rfl,h0',?_⟩⟩
   obtain⟨x,hx,er⟩:=jJ (xs:=F.map D.str) (cC m3 h0') (b5 m3 h0')
   obtain⟨y,hy,rfl⟩:=List.mem_map.mp hx
   refine⟨_,er,a,_,rfl,bg,hlen' _,_,rfl,.inr n,rfl,⟨_,_,_,rfl⟩,BQ of n (some y),?_,hup (some y) λm e=>by cases e;exact hF y hy⟩
   rw[gD]
   unfold jY
   rw[qg (by rw[bz hn];exact List.mem_append_right _ (List.mem_singleton.mpr rfl))]
   refine congrArg (λt=>[(a,MD.dK t)]) (dP λm hm=>?_)
   unfold ou
   by_cases e:m=n
   ·rw[if_pos e,e,kg];rfl
   ·rw[if_neg e]
    show zV (BQ of n none m)=zV (BQ of n (some y) m)
    rw[ot e,ot e]
 ·rintro δ μ ⟨⟨x5,x6,x7,rfl⟩,of,rfl,ho⟩
  refine gR rfl ?_
  rw[fK]
  rw[kl,List.length_map,List.take_length] at ho ⊢
  exact q of ho
def Ah (kf:Str->Str)(of:Str->Option Str)(pf:Str->Pt)(n:Str):D:=.tup [.str n,.str (kf n),(pf n).told,zV (of n)]
def zk:cF:=λds Q=>∃(l r:List Str) (kf:Str->Str) (of:Str->Option Str) (ns:List Int) (sp:Int),ds=[.lst (l.map D.str),xY l kf,.lst (r.map D.str),.dK (jY l of),.lst (ns.map D.int),.int sp]/\Jt l/\BO l kf/\r.Perm l /\
 ∀pf:Str->Pt,(∀n∈l.drop 3,Tr l 4 19 (pf n))->Q (.lst ((l.drop 3).map (Ah kf of pf)))
theorem tQ {α:Type}{l:List α}{k:Nat}{x:α}(h:x∈l.drop k):x∈l:=List.mem_of_mem_drop h
theorem BO.sub {ks ls:List Str}{kf:Str->Str}(h:BO ls kf)(hs:∀n∈ks,n∈ls)(hl:ks.length<=8):BO ks kf:=⟨λn hn=>h.nm n (hs n hn),λn hn=>h.kd n (hs n hn),hl⟩
theorem wk {t u:fL}{E:fb}{δ:SD}{μ:Mu}(I:SD->Mu->Prop)(hA:∀N:SD->Mu->Prop,(∀ δ μ,I δ μ->N δ μ)->t { E with nx:=N } δ μ)(hI:∀ δ μ,I δ μ->u E δ μ):oR t u E δ μ:=hA (u E) hI
theorem EU (d:Df K mg "_law_ranked_lines" dJ ["_law_names_here","_law_kinds_here","_law_ranked_here","_law_ons_here","_law_script","_law_spoilt_here"])(n_enumerate:mg "enumerate"=none)(c__law_mixed:av P w K mg base j "_law_mixed" ["_law_cell_here","_law_k"] fJ)(c__law_cell:av P w K mg base j "_law_cell" ["_law_script","_law_k"] uU)
  (c__law_tree:av P w K mg base j "_law_tree" ["_law_kind","_law_seed","_law_deep","_law_kinds_here"] (oi 2))(c__law_spoilt:av P w K mg base j "_law_spoilt" ["_law_told","_law_seed","_law_kinds_here"] (nU 4)) :
  av P w K mg base (j+1) "_law_ranked_lines" ["_law_names_here","_law_kinds_here","_law_ranked_here","_law_ons_here","_law_script","_law_spoilt_here"] zk:=by
 refine d.l7 fG (λds P P' f ⟨l,r,kf,of,ns,sp,e,h1,h2,h3,q⟩=>⟨l,r,kf,of,ns,sp,e,h1,h2,h3,λpf hp=>f _ (q pf hp)⟩) (λds Q ⟨l,r,kf,of,ns,sp,e,_⟩=>by rw[e];rfl) (λf cdv A outer s H E hr=>have hu:=hr.units;have hh:=hr.hd;have sc:=fG
  (aM (iX (i:=6) sc.nd rfl (Or.inl rfl) aB)
 (aM (cX PassesOwn.never rfl (tZ (by rfl) n_enumerate (aA (cv (dv 0) (d9 aD) fP) aB)) (vZ (n:=2) rfl (dU (bO (i:=7) sc.nd rfl (Or.inl rfl)) (dU (bO (i:=8) sc.nd rfl (Or.inl rfl)) qJ))) (aM (cb (ar (i:=9) sc.nd rfl (Or.inl rfl) (aH c__law_cell hr (by omega) (by rfl) (aA (dv 4) (aA (bp aD (dv 7)) aB)))))
 (aM (d8 (i:=10) sc.nd rfl (Or.inl rfl) iV)
 (aM (cX PassesOwn.never rfl (bw (cv (dv 2) fP (d9 (vL (dv 2) (aA (dv 8) aB))))) (bO (i:=11) sc.nd rfl (Or.inl rfl)) (aS (fh (i:=10) hu rfl (Or.inl rfl) (dv 11) (cM hu (dv 1) (dv 11) (λ_ _=>rfl)))))
 (aM (zR (i:=12) sc.nd rfl (Or.inl rfl) (aH c__law_tree hr (by omega) (by rfl) (aA (cM hu (dv 1) (dv 8) (λ_ _=>rfl)) (aA (aH c__law_mixed hr (by omega) (by rfl) (aA (dv 9) (aA aD aB))) (aA (bQ (aH c__law_mixed hr (by omega) (by rfl) (aA (dv 9) (aA aD aB))) aD) (aA (dv 10) aB))))))
 (aM (fc (cD hu (bQ (aH c__law_mixed hr (by omega) (by rfl) (aA (dv 9) (aA aD aB))) aD) aD) (aS (cb (ar (i:=12) sc.nd rfl (Or.inl rfl) (cB (aA ah (aA (dv 12) (aA (cB (aA ah (aA (aH c__law_tree hr (by omega) (by rfl) (aA (cM hu (dv 1) (dv 8) (λ_ _=>rfl)) (aA (aH c__law_mixed hr (by omega) (by rfl) (aA (dv 9) (aA aD aB))) (aA aD (aA (dv 1) aB))))) (aA lJ aB)))) aB))))))) dH)
 (aM (fc (A_ (bQ (aH c__law_mixed hr (by omega) (by rfl) (aA (dv 9) (aA aD aB))) aD) (dv 5)) (aS (cb (ar (i:=12) sc.nd rfl (Or.inl rfl) (aH c__law_spoilt hr (by omega) (by rfl) (aA (dv 12) (aA (aH c__law_mixed hr (by omega) (by rfl) (aA (dv 9) (aA aD aB))) (aA (dv 1) aB))))))) dH)
 (aS (hW (i:=6) rfl (Or.inl rfl) (cB (aA (dv 8) (aA (cM hu (dv 1) (dv 8) (λ_ _=>rfl)) (aA (dv 12) (aA (cM hu (dv 3) (dv 8) (λ_ _=>rfl)) aB))))))))))))))
 (aS (fM (dv 6)))))) ?_
 rintro ds Q ⟨l,r,kf,of,ns,sp,rfl,hl,hk,hr,q⟩
 refine⟨zL0,λa _=>?_⟩
 have ndr:r.Nodup:=hr.nodup_iff.mpr hl.nd
 have hrl:r.length<=8:=by rw[hr.length_eq];exact hl.hi
 have h8:=hl.hi
 have h4:=hl.lo
 let δ0:Option D->Option D->Option D->Option D->Option D->Option D->SD:=λx7 x8 x9 x10 x11 x12=>[some (.lst (l.map D.str)),some (xY l kf),some (.lst (r.map D.str)),some (.dK (jY l of)),some (.lst (ns.map D.int)),some (.int sp),some (.adr a),x7,x8,x9,x10,x11,x12]
 have ec:DC.cutD (l.map D.str) (some 3) none=(l.drop 3).map D.str:=by
  rw[show(some (3:Int))=some ((3:Nat):Int) from rfl,vG (by rw[List.length_map];omega),List.map_drop]
 refine⟨_,rfl,_,rfl,(l.drop 3).map D.str,congrArg (λt=>[D.lst t]) ec,λi δ μ=>(∃x7 x8 x9 x10 x11 x12,δ=δ0 x7 x8 x9 x10 x11 x12)/\∃pf:Str->Pt,μ.lookup a=some (.lst (((l.drop 3).take i).map (Ah kf of pf)))/\∀n∈(l.drop 3).take i,Tr l 4 19 (pf n),⟨⟨none,none,none,none,none,none,rfl⟩,λ_=>.named "z",bg,λn hn=>nomatch hn⟩,?_,?_⟩
 ·rintro i dd δ μ hd ⟨⟨x7,x8,x9,x10,x11,x12,rfl⟩,pf,hla,hpf⟩
  obtain⟨n,hn,rfl⟩:=yw hd
  have hnl:n∈l:=tQ (List.mem_of_getElem? hn)
  obtain⟨t,ht⟩:=List.mem_iff_getElem?.mp (hr.mem_iff.mpr hnl)
  have htl:=ym ht
  refine⟨_,rfl,rfl,_,_,rfl,_,_,rfl,rfl,?_⟩
  refine⟨_,rfl,_,rfl,ns,3+i,?_,λc=>?_⟩
  ·show[D.lst (ns.map D.int),D.int (3+(i:Int))]=_
   rw[show(3:Int)+(i:Int)=((3+i:Nat):Int) by omega]
  intro b hnd
  have hab:a≠b:=λe=>by
   rw[List.map_append,List.map_cons,List.map_nil,List.singleton_append,List.nodup_cons] at hnd
   exact hnd.1 (e ▸ mem_keys hla)
  have z3:3<=sizeLine:=by decide
  refine⟨_,rfl,_,rfl,r,rfl,_,rfl,n,rfl,t,ht,λm y hm hy e=>?_,by omega,_,rfl,(r.take t).map D.str,?_,λk δ μ=>(∃x11,δ=δ0 (some (.int i)) (some (.str n)) (some (.int c)) (some (.adr b)) x11 x12)/\μ.lookup a=some (.lst (((l.drop 3).take i).map (Ah kf of pf)))/\μ.lookup b=some (.dK (dF ((r.take t).take k) λm=>.str (kf m))),⟨⟨x11,rfl⟩,?_,look_same⟩,?_,?_⟩
  ·subst e
   have:=jX ndr hy ht
   omega
  ·show some (DC.cutD _ none _)=_
   rw[n5,List.map_take]
  ·exact(CQ hab).trans hla
  ·rintro k dd δ μ hd ⟨⟨x11,rfl⟩,hla,hlb⟩
   obtain⟨m,hm,rfl⟩:=jS hd
   have hml:m∈l:=hr.mem_iff.mp (List.mem_of_mem_take (List.mem_of_getElem? hm))
   refine⟨_,rfl,_,rfl,_,.inr m,_,rfl,rfl,cE hml,b,_,rfl,hlb,?_,_,rfl,.inr m,rfl,⟨_,rfl⟩,(jR hab).trans hla,(qS hlb).trans ?_⟩
   ·rw[iT,List.length_take,List.length_take]
    exact Nat.lt_of_le_of_lt (show _<=8 by omega) (by decide)
   ·rw[j_ (cQ (List.Sublist.nodup (List.take_sublist _ _) ndr) hm),bz hm]
    refine congrArg (λt=>some (MD.dK t)) (dP λx hx=>?_)
    unfold ou
    split
    ·rename_i e;rw[e]
    ·rfl
  ·rintro δ μ ⟨⟨x11,rfl⟩,hla,hlb⟩
   rw[List.length_map,List.take_length] at hlb
   have hin:∀m∈r.take t,m∈l:=λm hm=>hr.mem_iff.mp (List.mem_of_mem_take hm)
   have hks:BO (r.take t) kf:=hk.sub hin (by rw[List.length_take];omega)
   refine⟨_,rfl,_,rfl,_,.inr n,_,rfl,rfl,cE hnl,_,rfl,c,31,rfl,λm1=>⟨_,rfl,c,32,rfl,λm2=>⟨iP3,_,congrArg (λd=>some (some d)) (z6 hlb),kf n,m1,r.take t,kf,(m2%3).toNat,?_,?_,hks,λp1 h1=>⟨Pt.deep h1.ok,?_⟩⟩⟩⟩
   ·have:=cC m2 iP3
    rw[Int.toNat_of_nonneg this]
    rfl
   ·have:=b5 m2 iP3
    omega
   have he2:(m2%3).toNat<=2:=by have:=b5 m2 iP3;omega
   have h1':Tr l 3 13 p1:=h1.up hin (by omega) (by
    generalize (m2%3).toNat=e at he2
    match e,he2 with
    | 0,_=>decide
    | 1,_=>decide
    | 2,_=>decide)
   dsimp only
   have bef:∀{p2:Pt},Tr l 2 4 p2->Tr l 4 19 (.led p1 (.before p2 .ak)):=λh2=>Dx h1' (sq h2 (.inl rfl))
   refine wk (λδ μ=>(∃p:Pt,δ=δ0 (some (.int i)) (some (.str n)) (some (.int c)) (some (.adr b)) x11 (some p.told)/\Tr l 4 19 p)/\μ.lookup a=some (.lst (((l.drop 3).take i).map (Ah kf of pf)))) (λN hN=>?_) ?_
   ·refine⟨_,rfl,c,35,rfl,λm=>⟨iP3,_,rfl,mw ?_ (hN _ _ ⟨⟨p1,rfl,h1'.up (λn h=>h) (by decide) (by decide)⟩,hla⟩)⟩⟩
    exact⟨_,rfl,_,rfl,_,rfl,_,.inr n,_,rfl,rfl,cE hnl,_,rfl,c,36,rfl,λm=>⟨_,rfl,kf n,m,l,kf,1,rfl,by decide,hk,λp2 h2=>⟨z3,z3,hN _ _ ⟨⟨.led p1 (.before p2 .ak),rfl,bef h2⟩,hla⟩⟩⟩⟩
   rintro δ μ ⟨⟨p,rfl,hp⟩,hla⟩
   refine wk (λδ μ=>(∃p:Pt,δ=δ0 (some (.int i)) (some (.str n)) (some (.int c)) (some (.adr b)) x11 (some p.told)/\Tr l 4 19 p)/\μ.lookup a=some (.lst (((l.drop 3).take i).map (Ah kf of pf)))) (λN hN=>?_) ?_
   ·refine⟨_,rfl,c,33,rfl,λm=>⟨iP6,_,rfl,_,rfl,mw ?_ (hN _ _ ⟨⟨p,rfl,hp⟩,hla⟩)⟩⟩
    exact⟨_,rfl,_,rfl,c,34,rfl,λm=>⟨_,rfl,p,m,l,kf,rfl,hp.dp,by decide,hk,hp.ok,hp.nm,λp' hp'=>hN _ _ ⟨⟨p',rfl,hp'.up (λn h=>h) hp.dp hp.sz⟩,hla⟩⟩⟩
   rintro δ μ ⟨⟨p,rfl,hp⟩,hla⟩
   refine⟨a,_,rfl,hla,?_,_,rfl,_,rfl,_,rfl,_,.inr n,_,rfl,rfl,cE hnl,_,rfl,_,rfl,_,rfl,_,.inr n,_,rfl,rfl,cE hnl,zL4,⟨_,_,_,_,_,_,rfl⟩,BQ pf n p,(qS hla).trans ?_,?_⟩
   ·rw[List.length_map,List.length_take,List.length_drop]
    exact Nat.lt_of_le_of_lt (show _<=8 by omega) (by decide)
   ·have hnn:=cQ (List.Sublist.nodup (List.drop_sublist _ _) hl.nd) hn
    rw[bz hn,List.map_append]
    refine congrArg (λt=>some (MD.lst t)) ?_
    refine congr (congrArg _ (List.map_congr_left λm hm=>?_)) ?_
    ·unfold Ah
     rw[ot (λe:m=n=>hnn (e ▸ hm))]
    ·rw[List.map_cons,List.map_nil]
     unfold Ah
     rw[kg]
   ·intro m hm
    by_cases e:m=n
    ·rw[e,kg];exact hp
    ·rw[ot e]
     rw[bz hn] at hm
     rcases List.mem_append.mp hm with hm|hm
     ·exact hpf m hm
     ·exact absurd (List.mem_singleton.mp hm) e
 ·rintro δ μ ⟨⟨x7,x8,x9,x10,x11,x12,rfl⟩,pf,hla,hpf⟩
  refine gR rfl ?_
  rw[z6 hla]
  rw[kl,List.length_map,List.take_length] at hpf ⊢
  exact q pf hpf
def C1:Option Str->List Str->List Str
 |none,b=>b
 |some o,b=>if o∈b then b else b++[o]
theorem Ln.Cs (x:Ln):x.aR=C1 x.on (x.parts.flatMap Pt.aR):=by
 unfold Ln.aR
 cases x.on<;>rfl
def baseOf (l:List Str)(pf:Str->Pt)(n:Str):List Str:=if n∈l.drop 3 then(pf n).aR else[]
def fN (l:List Str)(of:Str->Option Str)(pf:Str->Pt)(n:Str):List Str:=C1 (of n) (baseOf l pf n)
def qm:cF:=λds Q=>∃(l:List Str) (kf:Str->Str) (of:Str->Option Str) (pf:Str->Pt),ds=[.dK (jY l of),.lst ((l.drop 3).map (Ah kf of pf))]/\Jt l/\(∀n∈l.drop 3,Tr l 4 19 (pf n))/\Q (.dK (dF l λn=>ai (fN l of pf n)))
theorem vA {l:List Str}{pf:Str->Pt}(h:∀n∈l.drop 3,Tr l 4 19 (pf n))(n:Str):(baseOf l pf n).length<=19:=by
 unfold baseOf
 split
 ·rename_i hn
  exact Nat.le_trans (pf n).aj (h n hn).sz
 ·exact Nat.zero_le _
theorem vD (d:Df K mg "_law_all_needs" ef ["_law_ons_here","_law_lines"])(c__law_needs:av P w K mg base j "_law_needs" ["_law_told"] (pk 4)):av P w K mg base (j+1) "_law_all_needs" ["_law_ons_here","_law_lines"] qm:=by
 refine d.l7 gj (λds P P' f ⟨l,kf,of,pf,e,h1,h2,q⟩=>⟨l,kf,of,pf,e,h1,h2,f _ q⟩) (λds Q ⟨l,kf,of,pf,e,_⟩=>by rw[e];rfl) (λf cdv A outer s H E hr=>have hu:=hr.units;have hh:=hr.hd;have sc:=gj
  (aM (d8 (i:=2) sc.nd rfl (Or.inl rfl) iV)
 (aM (zQ PassesOwn.never rfl (i:=0) rfl (Or.inl rfl) (bO (i:=3) sc.nd rfl (Or.inl rfl)) (aS (fh (i:=2) hu rfl (Or.inl rfl) (dv 3) (bb aB))))
 (aM (cX PassesOwn.never rfl (bw (dv 1)) (vZ (n:=4) rfl (dU (bO (i:=3) sc.nd rfl (Or.inl rfl)) (dU (bO (i:=4) sc.nd rfl (Or.inl rfl)) (dU (bO (i:=5) sc.nd rfl (Or.inl rfl)) (dU (bO (i:=6) sc.nd rfl (Or.inl rfl)) qJ))))) (aS (fh (i:=2) hu rfl (Or.inl rfl) (dv 3) (aH c__law_needs hr (by omega) (by rfl) (aA (dv 5) aB)))))
 (aM (zQ PassesOwn.never rfl (i:=0) rfl (Or.inl rfl) (bO (i:=3) sc.nd rfl (Or.inl rfl)) (aS (fc (ow.td (w_and (nZ (cM hu (dv 0) (dv 3) (λ_ _=>rfl)) lJ) (kh (gn (cM hu (dv 0) (dv 3) (λ_ _=>rfl)) (cM hu (dv 2) (dv 3) (λ_ _=>rfl)) (by rfl))))) (aS (Ci (i:=2) hu rfl (Or.inl rfl) (dv 3) (bp (cM hu (dv 2) (dv 3) (λ_ _=>rfl)) (bb (aA (cM hu (dv 0) (dv 3) (λ_ _=>rfl)) aB))))) dH)))
 (aS (fM (dv 2)))))))) ?_
 rintro ds Q ⟨l,kf,of,pf,rfl,hl,hp,q⟩
 intro a _
 have h8:=hl.hi
 have ek:((jY l of).map λkv=>keyOf kv.1)=l.map D.str:=md
 have hlen:∀(m:List Str) (f:Str->D),m.length<=8->(dF m f).length<sizeLine:=λm f h=>by
  rw[iT]
  exact Nat.lt_of_le_of_lt h (by decide)
 let δ0:Option D->Option D->Option D->Option D->SD:=λx3 x4 x5 x6=>[some (.dK (jY l of)),some (.lst ((l.drop 3).map (Ah kf of pf))),some (.adr a),x3,x4,x5,x6]
 refine⟨_,rfl,?_⟩
 rw[ek]
 refine⟨λi δ μ=>(∃x3,δ=δ0 x3 none none none)/\μ=[(a,.dK (dF (l.take i) λ_=>ai []))],⟨⟨none,rfl⟩,rfl⟩,?_,?_⟩
 ·rintro i dd δ μ hd ⟨⟨x3,rfl⟩,rfl⟩
  obtain⟨n,hn,rfl⟩:=jS hd
  refine⟨zL0,a,_,rfl,bg,hlen _ _ (by rw[List.length_take];omega),_,rfl,.inr n,rfl,⟨_,rfl⟩,?_⟩
  rw[gD,j_ (cQ hl.nd hn),bz hn]
  refine congrArg (λt=>[(a,MD.dK t)]) (dP λm hm=>?_)
  unfold ou
  split<;>rfl
 rintro δ μ ⟨⟨x3,rfl⟩,rfl⟩
 rw[List.length_map,List.take_length]
 refine⟨_,rfl,(l.drop 3).map (Ah kf of pf),rfl,λi δ μ=>(∃x3 x4 x5 x6,δ=δ0 x3 x4 x5 x6)/\μ=[(a,.dK (dF l λn=>ai (if n∈(l.drop 3).take i then(pf n).aR else[])))],⟨⟨_,_,_,_,rfl⟩,?_⟩,?_,?_⟩
 ·refine congrArg (λt=>[(a,MD.dK t)]) (dP λm hm=>?_)
  rw[List.take_zero,if_neg (λz=>nomatch z)]
 ·rintro i dd δ μ hd ⟨⟨x3,x4,x5,x6,rfl⟩,rfl⟩
  obtain⟨n,hn,rfl⟩:=jS hd
  have hnd:=List.mem_of_getElem? hn
  have ht:=hp n hnd
  refine⟨_,rfl,rfl,_,_,rfl,_,_,rfl,_,_,rfl,_,_,rfl,rfl,?_⟩
  refine⟨_,rfl,pf n,rfl,ht.dp,Nat.le_trans ht.sz (by decide),ht.ok,a,_,rfl,bg,hlen _ _ h8,_,rfl,.inr n,rfl,⟨_,_,_,_,rfl⟩,?_⟩
  rw[gD,qg (tQ hnd)]
  refine congrArg (λt=>[(a,MD.dK t)]) (dP λm hm=>?_)
  unfold ou
  rw[bz hn]
  by_cases e:m=n
  ·rw[if_pos e,e,if_pos (List.mem_append_right _ (List.mem_singleton.mpr rfl))]
  ·rw[if_neg e]
   have:(m∈(l.drop 3).take i++[n]) ↔ m∈(l.drop 3).take i:=by simp[e]
   simp only[this]
 rintro δ μ ⟨⟨x3,x4,x5,x6,rfl⟩,rfl⟩
 rw[List.length_map,List.take_length]
 refine⟨_,rfl,?_⟩
 rw[ek]
 refine⟨λi δ μ=>(∃x3,δ=δ0 x3 x4 x5 x6)/\μ=[(a,.dK (dF l λn=>ai (if n∈l.take i then fN l of pf n else baseOf l pf n)))],⟨⟨_,rfl⟩,?_⟩,?_,?_⟩
 ·refine congrArg (λt=>[(a,MD.dK t)]) (dP λm hm=>?_)
  refine congrArg ai ?_
  exact(if_neg (show¬m∈l.take 0 by rw[List.take_zero];exact λz=>nomatch z)).symm
 ·rintro i dd δ μ hd ⟨⟨x3,rfl⟩,rfl⟩
  obtain⟨n,hn,rfl⟩:=jS hd
  have hnl:=List.mem_of_getElem? hn
  have hno:=cQ hl.nd hn
  have hg:eV (dF l λn=>ai (if n∈l.take i then fN l of pf n else baseOf l pf n)) (.inr n)=some (ai (baseOf l pf n)):=by
   rw[cE hnl,if_neg hno]
  have om:fN l of pf n=baseOf l pf n->(dF l λn=>ai (if n∈l.take i then fN l of pf n else baseOf l pf n))=dF l λn=>ai (if n∈l.take (i+1) then fN l of pf n else baseOf l pf n):=λh=>dP λm hm=>by
   rw[bz hn]
   by_cases e:m=n
   ·rw[e,if_neg hno,if_pos (List.mem_append_right _ (List.mem_singleton.mpr rfl)),h]
   ·have:(m∈l.take i++[n]) ↔ m∈l.take i:=by simp[e]
    simp only[this]
  have vf:∀x3,(bB [(a,.dK (dF l λn=>ai (if n∈l.take i then fN l of pf n else baseOf l pf n)))] (δ0 x3 x4 x5 x6))[2]?=some (some (.dK (dF l λn=>ai (if n∈l.take i then fN l of pf n else baseOf l pf n)))):=λx3=>congrArg (λd=>some (some d)) fK
  refine⟨_,rfl,_,rfl,_,.inr n,_,rfl,rfl,cE hnl,?_⟩
  cases ho:of n with
  |none =>
   have e:fN l of pf n=baseOf l pf n:=by unfold fN;rw[ho];rfl
   exact⟨false,rfl,aO (aO ⟨⟨_,rfl⟩,congrArg (λt=>[(a,MD.dK t)]) (om e)⟩)⟩
  |some o =>
   refine⟨true,rfl,ae ⟨_,rfl,_,rfl,_,.inr n,_,rfl,rfl,cE hnl,?_⟩⟩
   rw[ho]
   refine⟨_,vf _,_,rfl,_,.inr n,_,rfl,rfl,hg,rfl,b_ _,_,rfl,?_⟩
   show if(!inD (.str o) ((baseOf l pf n).map D.str))=true then _ else _
   rw[d7]
   cases hin:(baseOf l pf n).contains o with
   |true =>
    have e:fN l of pf n=baseOf l pf n:=by unfold fN;rw[ho];exact if_pos (List.contains_iff_mem.mp hin)
    exact aO ⟨⟨_,rfl⟩,congrArg (λt=>[(a,MD.dK t)]) (om e)⟩
   |false =>
    have e:fN l of pf n=baseOf l pf n++[o]:=by
     unfold fN
     rw[ho]
     exact if_neg λz=>by rw[List.contains_iff_mem.mpr z] at hin;cases hin
    refine ae ⟨_,vf _,_,rfl,_,.inr n,_,rfl,rfl,hg,_,rfl,_,rfl,_,.inr n,_,rfl,rfl,cE hnl,zL1,?_⟩
    rw[ho]
    refine⟨?_,_,rfl,?_,λp hp=>?_,a,_,rfl,bg,hlen _ _ h8,_,rfl,.inr n,rfl,⟨_,rfl⟩,?_⟩
    ·rw[List.length_map]
     exact Nat.le_trans (show _+1<=20 by have:=vA hp n;omega) (by decide)
    ·rw[List.all_append,b_];rfl
    ·rw[List.mem_singleton.mp hp];exact⟨_,rfl⟩
    ·rw[gD,qg hnl]
     refine congrArg (λt=>[(a,MD.dK t)]) (dP λm hm=>?_)
     unfold ou
     rw[bz hn]
     by_cases em:m=n
     ·rw[if_pos em,em,if_pos (List.mem_append_right _ (List.mem_singleton.mpr rfl)),e]
      unfold ai
      rw[List.map_append]
      rfl
     ·rw[if_neg em]
      have:(m∈l.take i++[n]) ↔ m∈l.take i:=by simp[em]
      simp only[this]
 ·rintro δ μ ⟨⟨x3,rfl⟩,rfl⟩
  refine gR rfl ?_
  rw[fK,List.length_map,List.take_length]
  have e:(dF l λn=>ai (if n∈l then fN l of pf n else baseOf l pf n))=dF l λn=>ai (fN l of pf n):=dP λm hm=>by rw[if_pos hm]
  rw[e]
  exact q
structure Bd (l:List Str) (kf:Str->Str) (of:Str->Option Str) (pf:Str->Pt):Prop where
 wF:Jt l
 kd:BO l kf
 on:∃r:List Str,r.Perm l/\FT l l r kf of
 tr:∀n∈l.drop 3,Tr l 4 19 (pf n)
def pU (l:List Str)(n3:Str)(kf:Str->Str)(of:Str->Option Str)(pf:Str->Pt):Sh:=⟨"z",(l.take 3).map λn=>.kq n (kf n) (of n),[n3],(l.drop 3).map λn=>.row n (kf n) (pf n) (of n)⟩
def jQ (l:List Str)(kf:Str->Str)(of:Str->Option Str)(pf:Str->Pt)(n:Str):Ln:=if n∈l.drop 3 then .row n (kf n) (pf n) (of n) else .kq n (kf n) (of n)
def rk:List Str->Str->Nat
 |[],_=>0
 |x::r,n=>if x=n then 0 else rk r n+1
theorem HB:∀(r:List Str) (n:Str),rk r n<=r.length
 |[],_=>Nat.le_refl _
 |x::r,n=>by
  unfold rk
  rw[List.length_cons]
  split
  ·omega
  ·have:=HB r n
   omega
theorem DP {n:Str}:∀{r:List Str} {i:Nat},r.Nodup->r[i]?=some n->rk r n=i
 |[],i,_,h=>by rw[List.getElem?_nil] at h;cases h
 |x::r,0,_,h=>by
  rw[List.getElem?_cons_zero] at h
  cases h
  exact if_pos rfl
 |x::r,i+1,nd,h=>by
  rw[List.getElem?_cons_succ] at h
  rw[List.nodup_cons] at nd
  unfold rk
  rw[if_neg (λe:x=n=>nd.1 (e ▸ List.mem_of_getElem? h)),DP nd.2 h]
section
variable {l:List Str}{n3:Str}{kf:Str->Str}{of:Str->Option Str}{pf:Str->Pt}
theorem CP (n:Str):(jQ l kf of pf n).nm=n:=by unfold jQ;split<;>rfl
theorem zN (n:Str):(jQ l kf of pf n).on=of n:=by unfold jQ;split<;>rfl
theorem Ai (n:Str):(jQ l kf of pf n).qz=(kf n == "truth"):=by unfold jQ;split<;>rfl
theorem my (n:Str):(jQ l kf of pf n).parts=if n∈l.drop 3 then[pf n] else[]:=by unfold jQ;split<;>rfl
theorem uh {α:Type}{l:List α}(nd:l.Nodup){k:Nat}{x:α}(h:x∈l.take k):x∉l.drop k:=λz=>by
 have e:=List.take_append_drop k l
 rw[<- e] at nd
 exact(List.nodup_append.mp nd).2.2 x h x z rfl
theorem qV (nd:l.Nodup):(pU l n3 kf of pf).all=l.map (jQ l kf of pf):=by
 have e1:(l.take 3).map (λn=>Ln.kq n (kf n) (of n))=(l.take 3).map (jQ l kf of pf):=List.map_congr_left λn hn=>by unfold jQ;rw[if_neg (uh nd hn)]
 have e2:(l.drop 3).map (λn=>Ln.row n (kf n) (pf n) (of n))=(l.drop 3).map (jQ l kf of pf):=List.map_congr_left λn hn=>by unfold jQ;rw[if_pos hn]
 show(l.take 3).map (λn=>Ln.kq n (kf n) (of n))++(l.drop 3).map (λn=>Ln.row n (kf n) (pf n) (of n))=_
 rw[e1,e2,<- List.map_append,List.take_append_drop]
theorem m8 (nd:l.Nodup):(pU l n3 kf of pf).names=l:=by
 rw[Sh.jV,qV nd,List.map_map]
 have:(Ln.nm∘jQ l kf of pf)=id:=by funext n;exact CP n
 rw[this,List.map_id]
theorem FO:(pU l n3 kf of pf).Rows:=λx hx=>by
 obtain⟨n,_,rfl⟩:=List.mem_map.mp hx
 exact⟨_,_,_,_,rfl⟩
theorem Ky (b:Bd l kf of pf)(n:Str):pV (jQ l kf of pf n):=by
 refine⟨?_,?_,?_⟩
 ·rw[Ln.yA];exact(by decide:(1:Nat)<=8)
 ·rw[my];split
  ·exact(by decide:(1:Nat)<=8)
  ·exact Nat.zero_le _
 ·rw[my]
  split
  ·rename_i h
   intro p hp
   rw[List.mem_singleton.mp hp]
   exact⟨(b.tr n h).dp,Nat.le_trans (b.tr n h).sz (by decide)⟩
  ·intro p hp;cases hp
theorem Cg (b:Bd l kf of pf){n:Str}(hn:n∈l):(pU l n3 kf of pf).i6 n=fN l of pf n:=by
 have nd:=b.wF.nd
 have h:=Sh.qZ (s:=pU l n3 kf of pf) (by rw[m8 nd];exact nd) (x:=jQ l kf of pf n) (by rw[qV nd];exact List.mem_map.mpr ⟨n,hn,rfl⟩)
 rw[CP] at h
 rw[h,Ln.Cs,zN,my]
 unfold fN baseOf
 split<;>simp
theorem zP (b:Bd l kf of pf)(h3:l[3]?=some n3):(pU l n3 kf of pf).Good:=by
 have nd:=b.wF.nd
 have h4:=b.wF.lo
 have h8:=b.wF.hi
 obtain⟨r,hr,hof⟩:=b.on
 have ndr:r.Nodup:=hr.nodup_iff.mpr nd
 have hrl:r.length<=8:=by rw[hr.length_eq];exact h8
 refine⟨⟨⟨?_,?_⟩,λx hx=>?_⟩,⟨by show("z":Str).length<=100000;decide,by show jC "z"=true;decide +kernel⟩,⟨Nat.le_refl 1,by show 1<=8;decide,?_⟩,by rw[m8 nd];exact nd,by show[n3].Nodup;simp,λn hn=>?_,rk r,λn=>Nat.le_trans (HB r n) (by omega),λx hx n hn=>?_⟩
 ·show((l.take 3).map _).length<=8
  rw[List.length_map,List.length_take];omega
 ·show((l.drop 3).map _).length<=10
  rw[List.length_map,List.length_drop];omega
 ·rw[qV nd] at hx
  obtain⟨n,hn,rfl⟩:=List.mem_map.mp hx
  exact Ky b n
 ·show 1<=((l.drop 3).map _).length
  rw[List.length_map,List.length_drop];omega
 ·rw[m8 nd]
  rcases List.mem_append.mp hn with hn|hn
  ·rw[List.mem_singleton.mp hn];exact List.mem_of_getElem? h3
  ·obtain⟨x,hx,hn⟩:=List.mem_flatMap.mp hn
   rw[qV nd] at hx
   obtain⟨m,hm,rfl⟩:=List.mem_map.mp hx
   rcases List.mem_append.mp hn with hn|hn
   ·rw[zN] at hn
    cases ho:of m with
    |none=>rw[ho] at hn;cases hn
    |some o =>
     rw[ho] at hn
     rw[List.mem_singleton.mp hn]
     exact(hof m hm o ho).1
   ·obtain⟨p,hp,hn⟩:=List.mem_flatMap.mp hn
    rw[my] at hp
    split at hp
    ·rename_i h
     rw[List.mem_singleton.mp hp] at hn
     exact(b.tr m h).nm n hn
    ·cases hp
 ·rw[qV nd] at hx ⊢
  obtain⟨m,hm,rfl⟩:=List.mem_map.mp hx
  rw[zN] at hn
  obtain⟨g1,g2,i,j,hij,hi,hj⟩:=hof m hm n hn
  refine⟨jQ l kf of pf n,List.mem_map.mpr ⟨n,g1,rfl⟩,by rw[Ln.yA,CP];exact List.mem_singleton.mpr rfl,by rw[Ai,g2];simp,λm' hm'=>?_⟩
  rw[zN] at hm'
  obtain⟨_,_,i',j',hij',hi',hj'⟩:=hof n g1 m' hm'
  rw[DP ndr hi',DP ndr hj']
  exact hij'
end
def zp (A:bR)(L:LA):cF:=λds Q=>∃(l:List Str) (kf:Str->Str) (of:Str->Option Str) (pf:Str->Pt),ds=[.lst (l.map D.str),xY l kf,.dK (jY l of),.lst ((l.drop 3).map (Ah kf of pf))]/\Bd l kf of pf/\∀n3,l[3]?=some n3->Q ((pU l n3 kf of pf).d A L)
theorem EX {N i:Nat}(hN:4<=N)(hi:i+1<=j)(d:Df K mg "_law_ranked_sheet" dM ["_law_names_here","_law_kinds_here","_law_ons_here","_law_lines"])(c_part_of:av P w K mg base j "part_of" ["told"] (A4 A N))(k_Input_3:nq P w K mg base i "Input" L.kq LY [])(k_Row_4:nq P w K mg base i "Row" L.row HG [])(k_Sheet_4:nq P w K mg base i "Sheet" L.sh (LZ A L) []) :
  av P w K mg base (j+1) "_law_ranked_sheet" ["_law_names_here","_law_kinds_here","_law_ons_here","_law_lines"] (zp A L):=by
 refine d.dN fH (λds P P' f ⟨l,kf,of,pf,e,h1,q⟩=>⟨l,kf,of,pf,e,h1,λn3 h=>f _ (q n3 h)⟩) (λds Q ⟨l,kf,of,pf,e,_⟩=>by rw[e];rfl) (λf cdv A outer s H E hr=>have hu:=hr.units;have hh:=hr.hd;have sc:=fH
  (aG (Jb (i:=4) sc.nd rfl (Or.inl rfl) (x:="_law_name") (caps:=[1,2]) (cn:=["_law_kinds_here","_law_ons_here"]) (cl:=[("_law_ons_here",s.heap.objs.size+2),("_law_kinds_here",s.heap.objs.size+1)]) (i5 (by rfl) (by rfl) (by decide +kernel) (dS ["_law_ons_here","_law_kinds_here"] rfl (by decide +kernel)) (by decide +kernel) (bC (by rfl) (bC (by rfl) cG)) (.cons ⟨rfl,.inl rfl,rfl⟩ (.cons ⟨rfl,.inl rfl,rfl⟩ .nil))) rfl (bw (cv (dv 0) fP (d9 aD))) (λC fp s₂ H₂=>bF (i:=0) (show(["_law_name","_law_kinds_here","_law_ons_here"]:List Str).Nodup by decide +kernel) rfl (Or.inl rfl) (.inr rfl)) (λC fp s₂ H₂=>eU) (λC fp s₂ H₂=>(pS k_Input_3 hr (by omega) (by rfl) (aA (dv 0) (aA (cM hu (dv 1) (dv 0) (λ_ _=>rfl)) (aA (cM hu (dv 2) (dv 0) (λ_ _=>rfl)) aB))))))
 (aG (LO (k:=5) sc.nd rfl (Or.inl rfl) (x:="_law_name") (y:="_law_kind") (z:="_law_told") (u:="_law_on") (caps:=[]) (cn:=[]) (cl:=[]) (lI (by rfl) (by rfl) (by decide +kernel) (by decide +kernel) (by decide +kernel)) rfl (bw (dv 3)) (λC fp s₂ H₂=>DD rfl (jZ (bF (i:=0) (show(["_law_name","_law_kind","_law_told","_law_on"]:List Str).Nodup by decide +kernel) rfl (Or.inl rfl) (.inr rfl)) (jZ (bF (i:=1) (show(["_law_name","_law_kind","_law_told","_law_on"]:List Str).Nodup by decide +kernel) rfl (Or.inl rfl) (.inr rfl)) (jZ (bF (i:=2) (show(["_law_name","_law_kind","_law_told","_law_on"]:List Str).Nodup by decide +kernel) rfl (Or.inl rfl) (.inr rfl)) (jZ (bF (i:=3) (show(["_law_name","_law_kind","_law_told","_law_on"]:List Str).Nodup by decide +kernel) rfl (Or.inl rfl) (.inr rfl)) za))))) (λC fp s₂ H₂=>eU) (λC fp s₂ H₂=>(pS k_Row_4 hr (by omega) (by rfl) (aA (dv 0) (aA (dv 1) (aA (aH c_part_of hr (by omega) (by rfl) (aA (dv 2) aB)) (aA (dv 3) aB)))))))
 (aF (aQ (pS k_Sheet_4 hr (by omega) (by rfl) (aA ah (aA (dv 4) (aA (bb (aA (bT (dv 0) aD (λ_ _=>rfl)) aB)) (aA (dv 5) aB)))))))))) ?_
 rintro ds Q ⟨l,kf,of,pf,rfl,b,q⟩
 have h4:=b.wF.lo
 have h8:=b.wF.hi
 obtain⟨r,hr,hof⟩:=b.on
 obtain⟨n3,h3⟩:∃n3,l[3]?=some n3:=⟨_,List.getElem?_eq_getElem (by omega)⟩
 have nmok:∀n∈l,n.length<=100000/\gA n=true:=λn hn=>⟨Nat.le_trans (b.wF.ok n hn).2.1 (by decide),(b.wF.ok n hn).1⟩
 have onok:∀n∈l,FU (of n):=λn hn=>by
  cases ho:of n with
  |none=>exact True.intro
  |some o=>exact nmok o (hof n hn o ho).1
 have ht:∀n∈l.take 3,n∈l:=λn hn=>List.mem_of_mem_take hn
 refine⟨_,rfl,_,rfl,(l.take 3).map D.str,?_,wN (λn=>(Ln.kq n (kf n) (of n)).d A L) (l.take 3),qb,oV λn hn=>⟨rfl,λ_=>?_⟩,qW (uL (by rw[List.length_take];omega)),?_⟩
 ·show some (DC.cutD (l.map D.str) none (some ((3:Nat):Int)))=_
  rw[n5,List.map_take]
 ·exact⟨_,rfl,_,rfl,_,rfl,_,.inr n,_,rfl,rfl,cE (ht n hn),_,rfl,_,rfl,_,.inr n,_,rfl,rfl,cE (ht n hn),n,kf n,of n,rfl,(nmok n (ht n hn)).1,(nmok n (ht n hn)).2,onok n (ht n hn),b.kd.kd n (ht n hn),rfl⟩
 rw[qc]
 refine⟨_,rfl,(l.drop 3).map (Ah kf of pf),rfl,wN (λn=>(Ln.row n (kf n) (pf n) (of n)).d A L) (l.drop 3),qb,oV λn hn=>⟨_,_,_,_,rfl,rfl,λ_=>?_⟩,qW (uL (by rw[List.length_drop];omega)),?_⟩
 ·have hnl:=tQ hn
  have t:=b.tr n hn
  exact⟨_,rfl,_,rfl,_,rfl,pf n,rfl,Nat.le_trans t.dp hN,t.ok,⟨Nat.le_trans t.dp (by decide),Nat.le_trans t.sz (by decide)⟩,_,rfl,n,kf n,(pf n).d A,of n,rfl,(nmok n hnl).1,(nmok n hnl).2,onok n hnl,b.kd.kd n hnl,rfl⟩
 rw[qc]
 refine⟨_,rfl,_,rfl,.str n3,fg (i:=3) (by rw[List.getElem?_map,h3];rfl),zL1,_,rfl,pU l n3 kf of pf,?_,zP b h3,q n3 h3⟩
 show[D.str "z",_,_,_]=[D.str "z",_,_,_]
 unfold pU
 rw[List.map_map,List.map_map]
 rfl
theorem zZ {α:Type} [DecidableEq α]:∀{l m:List α},l.Nodup->(∀x∈l,x∈m)->l.length=m.length->l.Perm m
 |[],m,_,_,e=>by
  have:m=[]:=List.length_eq_zero_iff.mp e.symm
  rw[this]
 |x::l,m,nd,hs,e=>by
  rw[List.nodup_cons] at nd
  obtain⟨s,t,rfl⟩:=List.append_of_mem (hs x List.mem_cons_self)
  have ih:=zZ (l:=l) (m:=s++t) nd.2 (λy hy=>by
   have:=hs y (List.mem_cons_of_mem _ hy)
   rcases List.mem_append.mp this with h|h
   ·exact List.mem_append_left _ h
   ·rcases List.mem_cons.mp h with h|h
    ·exact absurd (h ▸ hy) nd.1
    ·exact List.mem_append_right _ h) (by simp only[List.length_append,List.length_cons] at e ⊢;omega)
  exact(List.Perm.cons x ih).trans List.perm_middle.symm
def IsL (ks:List Str)(nf:Str->List Str)(m:List Str):Prop:=m.Perm ks/\∀k n,m[k]?=some n->∀x∈nf n,x∈m.take k
theorem xu {l:List Str}(h:∀k n,l[k]?=some n->n∉l.take k):l.Nodup:=by
 refine List.pairwise_iff_getElem.mpr λi j hi hj hij e=>?_
 refine h j l[j] (List.getElem?_eq_getElem hj) ?_
 exact List.mem_iff_getElem?.mpr ⟨i,by rw[List.getElem?_take,if_pos hij,List.getElem?_eq_getElem hi,e]⟩
theorem JC {ks:List Str}{nf:Str->List Str}{m:List Str}(nd:ks.Nodup):GZ ks nf m ↔ IsL ks nf m:=by
 constructor
 ·rintro⟨h1,h2⟩
  refine⟨zZ (xu λk n hk=>(h1 k n hk).2.1) (λx hx=>?_) h2,λk n hk=>(h1 k n hk).2.2⟩
  obtain⟨k,hk⟩:=List.mem_iff_getElem?.mp hx
  exact(h1 k x hk).1
 ·rintro⟨h1,h2⟩
  exact⟨λk n hk=>⟨h1.mem_iff.mp (List.mem_of_getElem? hk),cQ (h1.nodup_iff.mpr nd) hk,h2 k n hk⟩,h1.length_eq⟩
theorem CG {ks:List Str}{f g:Str->List Str}{m:List Str}(h:∀n∈ks,f n=g n):IsL ks f m ↔ IsL ks g m:=by
 constructor
 ·rintro⟨h1,h2⟩
  exact⟨h1,λk n hk x hx=>h2 k n hk x (by rw[h n (h1.mem_iff.mp (List.mem_of_getElem? hk))];exact hx)⟩
 ·rintro⟨h1,h2⟩
  exact⟨h1,λk n hk x hx=>h2 k n hk x (by rw[<- h n (h1.mem_iff.mp (List.mem_of_getElem? hk))];exact hx)⟩
def MT (l:List Str)(kf:Str->Str)(of:Str->Option Str)(pf:Str->Pt):List D:=[.lst (l.map D.str),xY l kf,.dK (jY l of),.lst ((l.drop 3).map (Ah kf of pf))]
def zh:cF:=λds Q=>∃ns:List Int,ds=[.lst (ns.map D.int),.lst [.int 0,.int 0,.int 2]]/\∀l kf of pf,Bd l kf of pf->Q (.tup (MT l kf of pf))
def sT (A:bR)(L:LA):cF:=λds Q=>∃(l:List Str) (kf:Str->Str) (of:Str->Option Str) (pf:Str->Pt),ds=[.tup (MT l kf of pf)]/\Bd l kf of pf/\∀n3,l[3]?=some n3->Q ((pU l n3 kf of pf).d A L)
structure Nd (l:List Str) (nf:Str->List Str):Prop where
 nd:l.Nodup
 len:l.length<=8
 ok:∀n∈l,PyData.strOk n=true
 nl:∀n∈l,(nf n).length<1000
 no:∀n∈l,∀x∈nf n,PyData.strOk x=true
def Gz (l:List Str)(nf:Str->List Str):D:=.dK (dF l λn=>ai (nf n))
def Dc:cF:=λds Q=>∃(l:List Str) (nf:Str->List Str) (c:Int),ds=[Gz l nf,.int c]/\Nd l nf/\∀m:List Str,(∀x∈m,x∈l)->m.length<=l.length->Q (.lst (m.map D.str))
def DU:cF:=λds Q=>∃(l:List Str) (c:Int),ds=[.lst (l.map D.str),.int c]/\0<l.length/\l.length<=8/\(∀x∈l,PyData.strOk x=true)/\∀m:List Str,m.length<=9->(∀x∈m,PyData.strOk x=true)->Q (.lst (m.map D.str))
def LQ:cF:=λds Q=>∃(l:List Str) (nf:Str->List Str) (m:List Str),ds=[Gz l nf,.lst (m.map D.str)]/\Nd l nf/\m.length<=9/\(∀x∈m,PyData.strOk x=true)/\∀b:Bool,(b=true ↔ IsL l nf m)->Q (.bl b)
theorem Dw {l:List Str}(h:BV l){k:Nat}(h1:4<=k)(h2:k<=8):Jt (l.take k):=by
 have hl:=h.len
 refine⟨?_,?_,List.Sublist.nodup (List.take_sublist _ _) h.nd,λx hx=>h.ok x (List.mem_of_mem_take hx)⟩
 ·rw[List.length_take];omega
 ·rw[List.length_take];omega
theorem EO (d:Df K mg "_law_built" ij ["_law_script","_law_most"])(n_len:mg "len"=none)(c__law_mixed:av P w K mg base j "_law_mixed" ["_law_cell_here","_law_k"] fJ)(c__law_cell:av P w K mg base j "_law_cell" ["_law_script","_law_k"] uU)(c__law_names:av P w K mg base j "_law_names" ["_law_cell_here"] zm)
  (c__law_kinds:av P w K mg base j "_law_kinds" ["_law_names_here","_law_cell_here","_law_many"] zi)(c__law_ranked:av P w K mg base j "_law_ranked" ["_law_names_here","_law_cell_here"] we)(c__law_ons:av P w K mg base j "_law_ons" ["_law_names_here","_law_kinds_here","_law_ranked_here","_law_cell_here"] DY)
  (c__law_ranked_lines:av P w K mg base j "_law_ranked_lines" ["_law_names_here","_law_kinds_here","_law_ranked_here","_law_ons_here","_law_script","_law_spoilt_here"] zk):av P w K mg base (j+1) "_law_built" ["_law_script","_law_most"] zh:=by
 refine d.dN lS (λds P P' f ⟨ns,e,q⟩=>⟨ns,e,λl kf of pf h=>f _ (q l kf of pf h)⟩) (λds Q ⟨ns,e,_⟩=>by rw[e];rfl) (λf cdv A outer s H E hr=>have hu:=hr.units;have hh:=hr.hd;have sc:=lS
  (aG (ar (i:=2) sc.nd rfl (Or.inl rfl) (cv (aH c__law_names hr (by omega) (by rfl) (aA (aH c__law_mixed hr (by omega) (by rfl) (aA (aH c__law_cell hr (by omega) (by rfl) (aA (dv 0) (aA aD aB))) (aA aD aB))) aB)) fP (d9 (bp aD (bQ (aH c__law_mixed hr (by omega) (by rfl) (aA (aH c__law_cell hr (by omega) (by rfl) (aA (dv 0) (aA aD aB))) (aA aD aB))) aD)))))
 (aG (ar (i:=3) sc.nd rfl (Or.inl rfl) (aH c__law_kinds hr (by omega) (by rfl) (aA (dv 2) (aA (aH c__law_cell hr (by omega) (by rfl) (aA (dv 0) (aA aD aB))) (aA (e_ (cO (by rfl) n_len (aA (dv 2) aB)) aD) aB)))))
 (aG (ar (i:=4) sc.nd rfl (Or.inl rfl) (aH c__law_ranked hr (by omega) (by rfl) (aA (dv 2) (aA (aH c__law_cell hr (by omega) (by rfl) (aA (dv 0) (aA aD aB))) aB))))
 (aG (ar (i:=5) sc.nd rfl (Or.inl rfl) (aH c__law_ons hr (by omega) (by rfl) (aA (dv 2) (aA (dv 3) (aA (dv 4) (aA (aH c__law_cell hr (by omega) (by rfl) (aA (dv 0) (aA aD aB))) aB))))))
 (aG (ar (i:=6) sc.nd rfl (Or.inl rfl) (aH c__law_ranked_lines hr (by omega) (by rfl) (aA (dv 2) (aA (dv 3) (aA (dv 4) (aA (dv 5) (aA (dv 0) (aA (bT (dv 1) (bQ (aH c__law_mixed hr (by omega) (by rfl) (aA (aH c__law_cell hr (by omega) (by rfl) (aA (dv 0) (aA aD aB))) (aA aD aB))) aD) (λ_ _=>rfl)) aB))))))))
 (aF (aQ (cB (aA (dv 2) (aA (dv 3) (aA (dv 5) (aA (dv 6) aB))))))))))))) ?_
 rintro ds Q ⟨ns,rfl,q⟩
 refine⟨_,rfl,ns,0,rfl,λc0=>⟨c0,1,rfl,λm0=>⟨m0,rfl,λl8 h8=>⟨_,rfl,ns,1,rfl,λc1=>⟨c1,2,rfl,λm1=>⟨iP5,_,rfl,?_⟩⟩⟩⟩⟩⟩
 have lo:=cC m1 iP5
 have hi:=b5 m1 iP5
 have hl:=Dw h8 (k:=4+(m1%5).toNat) (by omega) (by omega)
 have ec:DC.cutD (l8.map D.str) none (some (4+m1%5))=(l8.take (4+(m1%5).toNat)).map D.str:=by
  rw[show(4:Int)+m1%5=((4+(m1%5).toNat:Nat):Int) by omega,n5,List.map_take]
 dsimp only[Jz]
 rw[ec]
 generalize l8.take (4+(m1%5).toNat)=l at hl
 refine⟨_,rfl,_,rfl,ns,2,rfl,λc2=>⟨_,rfl,_,_,rfl,rfl,l,c2,?_,hl,λkf hk=>?_⟩⟩
 ·show[_,_,D.int (((l.map D.str).length:Int) - 3)]=_
  rw[List.length_map]
 refine⟨_,rfl,_,rfl,ns,1,rfl,λc3=>⟨l,c3,rfl,hl.hi,λr hr=>?_⟩⟩
 refine⟨_,rfl,_,rfl,_,rfl,_,rfl,ns,2,rfl,λc4=>⟨l,r,kf,c4,rfl,hl,hk,hr,λof ho=>?_⟩⟩
 refine⟨_,rfl,_,rfl,_,rfl,_,rfl,_,rfl,_,rfl,_,rfl,ns,1,rfl,λc5=>⟨c5,3,rfl,λm5=>⟨iP3,?_⟩⟩⟩
 obtain⟨sp,_,es⟩:=mW (xs:=[(0:Int),0,2]) D.int (cC m5 iP3) (b5 m5 iP3)
 refine⟨_,es,l,r,kf,of,ns,sp,rfl,hl,hk,hr,λpf hp=>?_⟩
 exact⟨_,rfl,_,rfl,_,rfl,_,rfl,zL4,q l kf of pf ⟨hl,hk,⟨r,hr,ho⟩,hp⟩⟩
theorem xF (d:Df K mg "_law_sheet_of" fX ["_law_built_here"])(c__law_ranked_sheet:av P w K mg base j "_law_ranked_sheet" ["_law_names_here","_law_kinds_here","_law_ons_here","_law_lines"] (zp A L)):av P w K mg base (j+1) "_law_sheet_of" ["_law_built_here"] (sT A L):=by
 refine d.dN iG (λds P P' f ⟨l,kf,of,pf,e,h,q⟩=>⟨l,kf,of,pf,e,h,λn3 h3=>f _ (q n3 h3)⟩) (λds Q ⟨l,kf,of,pf,e,_⟩=>by rw[e];rfl) (λf cdv A outer s H E hr=>have hu:=hr.units;have hh:=hr.hd;have sc:=iG
  (aF (aQ (aH c__law_ranked_sheet hr (by omega) (by rfl) (aA (bT (dv 0) aD (λ_ _=>rfl)) (aA (bT (dv 0) aD (λ_ _=>rfl)) (aA (bT (dv 0) aD (λ_ _=>rfl)) (aA (bT (dv 0) aD (λ_ _=>rfl)) aB)))))))) ?_
 rintro ds Q ⟨l,kf,of,pf,rfl,b,q⟩
 exact⟨_,rfl,_,rfl,_,rfl,_,rfl,_,rfl,_,rfl,_,rfl,_,rfl,l,kf,of,pf,rfl,b,q⟩
theorem CN {k:Nat}{caps:List Nat}{ti:AD}{tt:TD}{te:ED}{R:fL}{E:fb}{δ δ':SD}{μ:Mu}(e:bB μ δ=δ')(h:iL caps ti tt te δ' λd=>∃ds,d=.lst ds/\ds.all dz=true/\R E (δ.set k (some d)) μ):oR (IV k caps ti tt te) R E δ μ:=by
 unfold oR IV
 rw[e]
 exact h
theorem Hf (d:Df K mg "_law_some_order" eP ["_law_needs_here","_law_cell_here"])(n_range:mg "range"=none)(n_len:mg "len"=none)(c__law_mixed:av P w K mg base j "_law_mixed" ["_law_cell_here","_law_k"] fJ):av P w K mg base (j+1) "_law_some_order" ["_law_needs_here","_law_cell_here"] Dc:=by
 refine d.l7 gP (λds P P' f ⟨l,nf,c,e,h,q⟩=>⟨l,nf,c,e,h,λm h1 h2=>f _ (q m h1 h2)⟩) (λds Q ⟨l,nf,c,e,_⟩=>by rw[e];rfl) (λf cdv A outer s H E hr=>have hu:=hr.units;have hh:=hr.hd;have sc:=gP
  (aM (iX (i:=2) sc.nd rfl (Or.inr rfl) aB)
 (aM (cX PassesOwn.never rfl (jO (by rfl) n_range (aA (Bs (by rfl) n_len (aA (dv 0) aB)) aB)) (bO (i:=3) sc.nd rfl (Or.inl rfl)) (aM (FP (k:=4) sc.nd rfl (Or.inl rfl) (i:=0) (x:="_law_name") (caps:=[2,0]) (cn:=["_law_found","_law_needs_here"]) (cl:=[("_law_needs_here",s.heap.objs.size+1),("_law_found",s.heap.objs.size+2)]) rfl (Or.inr (Or.inl rfl)) (i5 (by rfl) (by rfl) (by decide +kernel) (dS ["_law_needs_here","_law_found"] rfl (by decide +kernel)) (by decide +kernel) (bC (by rfl) (bC (by rfl) cG)) (.cons ⟨rfl,.inl rfl,rfl⟩ (.cons ⟨rfl,.inl rfl,rfl⟩ .nil))) rfl (λC fp s₂ H₂=>bF (i:=0) (show(["_law_name","_law_found","_law_needs_here"]:List Str).Nodup by decide +kernel) rfl (Or.inl rfl) (.inr rfl)) (λC fp s₂ H₂=>(ka (ow.td (w_and (gn (dv 0) (dv 1) (by rfl)) (kh (cD hu (l9 (x:="_law_one") (caps:=[1]) (cn:=["_law_found"]) (cl:=[("_law_found",s.heap.objs.size+2)]) (i5 (by rfl) (by rfl) (by decide +kernel) (dS ["_law_found"] rfl (by decide +kernel)) (by decide +kernel) (bC (by rfl) cG) (.cons ⟨rfl,.inl rfl,rfl⟩ .nil)) rfl (bw (cM hu (dv 2) (dv 0) (λ_ _=>rfl))) (λC fp s₂ H₂=>bF (i:=0) (show(["_law_one","_law_found"]:List Str).Nodup by decide +kernel) rfl (Or.inl rfl) (.inr rfl)) (λC fp s₂ H₂=>(ka (gn (dv 0) (dv 1) (by rfl)))) (λC fp s₂ H₂=>(dv 0))) (bb aB))))))) (λC fp s₂ H₂=>(dv 0)))
 (aS (fc (Dq hu (dv 4) (bb aB)) (aS (hW (i:=2) rfl (Or.inr (Or.inl rfl)) (bT (dv 4) (bQ (aH c__law_mixed hr (by omega) (by rfl) (aA (dv 1) (aA (bp aD (dv 3)) aB))) (cO (by rfl) n_len (aA (dv 4) aB))) (λ_ _=>rfl)))) dH))))
 (aS (fM (dv 2)))))) ?_
 rintro ds Q ⟨l,nf,c,rfl,h,q⟩
 refine⟨zL0,λa _=>?_⟩
 have h8:=h.len
 have vw:∀(M:List D) (x3 x4:Option D),bB [(a,.lst M)] [some (Gz l nf),some (.int c),some (.adr a),x3,x4]=[some (Gz l nf),some (.int c),some (.lst M),x3.map (ay [(a,.lst M)]),x4.map (ay [(a,.lst M)])]:=λM x3 x4=>by
  show[some (ay _ (Gz l nf)),some (ay _ (.int c)),some (ay _ (.adr a)),_,_]=_
  rw[fK]
  rfl
 have en:(((dF l λn=>ai (nf n)).length:Nat):Int)=(l.length:Int):=by rw[iT]
 refine⟨_,rfl,_,rfl,_,congrArg (λi=>[D.int i]) en,by omega,by omega,λi δ μ=>(∃x3 x4,δ=[some (Gz l nf),some (.int c),some (.adr a),x3,x4])/\∃fd:List Str,μ=[(a,.lst (fd.map D.str))]/\(∀x∈fd,x∈l)/\fd.length<=i,⟨⟨none,none,rfl⟩,[],rfl,(λx hx=>nomatch hx),Nat.le_refl _⟩,?_,?_⟩
 ·rintro i dd δ μ hd ⟨⟨x3,x4,rfl⟩,fd,rfl,hf,hfl⟩
  obtain⟨hi,rfl⟩:=yM hd
  have hi':i<l.length:=by omega
  dsimp only
  refine CN (vw _ _ _) ?_
  refine⟨_,rfl,?_⟩
  rw[md]
  refine⟨outF (λn=>!fd.contains n&&((nf n).filter λx=>!fd.contains x).isEmpty) D.str l,fD,dg λn hn=>?_,qW (uL h8),_,rfl,?_,?_⟩
  ·refine⟨_,rfl,_,rfl,rfl,b_ _,_,rfl,?_⟩
   show if(!inD (.str n) (fd.map D.str))=true then _ else _
   rw[d7]
   cases hc:fd.contains n with
   |true=>exact aO ⟨rfl,λz=>nomatch z⟩
   |false =>
    refine ae ⟨_,rfl,_,rfl,_,.inr n,_,rfl,rfl,cE hn,(nf n).map D.str,rfl,outF (λx=>!fd.contains x) D.str (nf n),fD,dg λm hm=>?_,qW (Nat.lt_trans (h.nl n hn) (by decide)),zL0,?_⟩
    ·refine⟨_,rfl,_,rfl,rfl,b_ _,_,rfl,?_⟩
     show(!inD (.str m) (fd.map D.str))=_/\_
     rw[d7]
     exact nA (λh=>⟨_,rfl,if_pos h⟩) rfl
    ·rw[d_]
     refine yx (f7 λx hx=>h.no n hn x (List.mem_filter.mp hx).1) (by decide) ⟨_,rfl,?_⟩
     show(((nf n).filter λx=>!fd.contains x).map D.str).isEmpty=_/\_
     rw[List.isEmpty_map]
     cases((nf n).filter λx=>!fd.contains x).isEmpty with
     |true=>exact⟨rfl,λ_=>⟨_,rfl,rfl⟩⟩
     |false=>exact⟨rfl,λz=>nomatch z⟩
  ·rw[d_];exact b_ _
  ·rw[d_]
   have hF:∀x∈l.filter λn=>!fd.contains n&&((nf n).filter λx=>!fd.contains x).isEmpty,x∈l:=λx hx=>(List.mem_filter.mp hx).1
   generalize (l.filter λn=>!fd.contains n&&((nf n).filter λx=>!fd.contains x).isEmpty)=F at hF ⊢
   refine⟨_,rfl,zL0,yx (f7 λx hx=>h.ok x (hF x hx)) (by decide) ⟨_,rfl,?_⟩⟩
   show if(!(F.map D.str).isEmpty)=true then _ else _
   cases he:(F.map D.str).isEmpty with
   |true=>exact aO ⟨⟨_,_,rfl⟩,fd,rfl,hf,by omega⟩
   |false =>
    have h0:(0:Int)<((F.map D.str).length:Int):=by
     cases hi:F.map D.str with
     |nil=>rw[hi] at he;cases he
     |cons x l=>rw[List.length_cons];omega
    refine ae ⟨a,_,rfl,bg,?_,_,rfl,_,rfl,_,rfl,c,_,rfl,λm3=>⟨_,rfl,_,_,rfl,rfl,h0,?_⟩⟩
    ·rw[List.length_map]
     exact Nat.lt_of_le_of_lt (show _<=8 by omega) (by decide)
    obtain⟨x,hx,er⟩:=jJ (xs:=F.map D.str) (cC m3 h0) (b5 m3 h0)
    obtain⟨y,hy,rfl⟩:=List.mem_map.mp hx
    refine⟨_,er,⟨_,_,rfl⟩,fd++[y],?_,λz hz=>?_,?_⟩
    ·rw[gD,List.map_append];rfl
    ·rcases List.mem_append.mp hz with hz|hz
     ·exact hf z hz
     ·rw[List.mem_singleton.mp hz];exact hF y hy
    ·rw[List.length_append]
     show _+1<=_
     omega
 ·rintro δ μ ⟨⟨x3,x4,rfl⟩,fd,rfl,hf,hfl⟩
  refine gR rfl ?_
  rw[fK]
  refine q fd hf ?_
  rw[List.length_map,List.length_range] at hfl
  omega
theorem oP {i:Nat}{te tk:ED}{E:fb}{δ δ':SD}{μ:Mu}(e:bB μ δ=δ')(h:te δ' λd=>dz d=true/\∃a ds,δ[i]?=some (some (.adr a))/\μ.lookup a=some (.lst ds)/\tk δ' λy=>∃k j,y=.int k/\zG ds.length k=some j/\E.nx δ (fR a (.lst (ds.set j d)) μ)):CT i tk te E δ μ:=by
 unfold CT
 rw[e]
 exact h
theorem mH {α:Type}{l:List α}{i:Nat}{x y:α}{P:α->Prop}(h:∀z∈l,P z)(hx:P x)(hy:y∈l.set i x):P y:=by
 rcases List.mem_or_eq_of_mem_set hy with hy|rfl
 ·exact h y hy
 ·exact hx
theorem yy {α β:Type}(f:α->β):∀(l:List α) (i:Nat),(l.map f).eraseIdx i=(l.eraseIdx i).map f
 |[],_=>rfl
 |_::_,0=>rfl
 |x::l,i+1=>by
  show f x::(l.map f).eraseIdx i=f x::(l.eraseIdx i).map f
  rw[yy f l i]
theorem Hb (d:Df K mg "_law_bent" kC ["_law_names_here","_law_cell_here"])(n_len:mg "len"=none)(n_list:mg "list"=none)(c__law_mixed:av P w K mg base j "_law_mixed" ["_law_cell_here","_law_k"] fJ):av P w K mg base (j+1) "_law_bent" ["_law_names_here","_law_cell_here"] DU:=by
 refine d.l7 nI (λds P P' f ⟨l,c,e,h1,h2,h3,q⟩=>⟨l,c,e,h1,h2,h3,λm h1 h2=>f _ (q m h1 h2)⟩) (λds Q ⟨l,c,e,_⟩=>by rw[e];rfl) (λf cdv A outer s H E hr=>have hu:=hr.units;have hh:=hr.hd;have sc:=nI
  (aM (cb (ar (i:=2) sc.nd rfl (Or.inl rfl) (bQ (aH c__law_mixed hr (by omega) (by rfl) (aA (dv 1) (aA aD aB))) aD)))
 (aM (cb (ar (i:=3) sc.nd rfl (Or.inl rfl) (bQ (aH c__law_mixed hr (by omega) (by rfl) (aA (dv 1) (aA aD aB))) (cO (by rfl) n_len (aA (dv 0) aB)))))
 (aM (cb (ar (i:=4) sc.nd rfl (Or.inl rfl) (bQ (aH c__law_mixed hr (by omega) (by rfl) (aA (dv 1) (aA aD aB))) (cO (by rfl) n_len (aA (dv 0) aB)))))
 (aM (d8 (i:=5) sc.nd rfl (Or.inl rfl) (n6 (by rfl) n_list (aA (dv 0) aB)))
 (aM (fc (cD hu (dv 2) aD) (aM (uI (i:=5) rfl (Or.inl rfl) (dv 3) (bT (dv 0) (dv 4) (λ_ _=>rfl)))
 (aS (uI (i:=5) rfl (Or.inl rfl) (dv 4) (bT (dv 0) (dv 3) (λ_ _=>rfl))))) dH)
 (aM (fc (cD hu (dv 2) aD) (aS (Ck (i:=5) rfl (Or.inl rfl) (dv 3))) dH)
 (aM (fc (cD hu (dv 2) aD) (aS (rp (i:=5) rfl (Or.inl rfl) (aA (dv 4) (aA (bT (dv 0) (dv 3) (λ_ _=>rfl)) aB)))) dH)
 (aM (fc (cD hu (dv 2) aD) (aS (uI (i:=5) rfl (Or.inl rfl) (dv 3) ah)) dH)
 (aM (fc (cD hu (dv 2) aD) (aS (xm (i:=5) rfl (Or.inl rfl))) dH)
 (qX (qY (aG (bx (cD hu (dv 2) aD) (aF (ar (i:=5) sc.nd rfl (Or.inl rfl) (cv (dv 5) fP (d9 (dv 3))))) aY)
 (aF (aQ (dv 5)))))))))))))))) ?_
 rintro ds Q ⟨l,c,rfl,h0,h8,bW,q⟩
 have h0':(0:Int)<((l.map D.str).length:Int):=by rw[List.length_map];omega
 refine⟨_,rfl,c,220,rfl,λm1=>⟨iP7,_,rfl,c,221,rfl,λm2=>⟨_,rfl,_,_,rfl,rfl,h0',_,rfl,c,222,rfl,λm3=>⟨_,rfl,_,_,rfl,rfl,h0',_,rfl,l.map D.str,.inl rfl,λa _=>?_⟩⟩⟩⟩
 have hw:m1%7=0\/m1%7=1\/m1%7=2\/m1%7=3\/m1%7=4\/m1%7=5\/m1%7=6:=by omega
 have a1:=cC m2 h0'
 have a2:=b5 m2 h0'
 have b1:=cC m3 h0'
 have b2:=b5 m3 h0'
 obtain⟨at_,eat⟩:∃i:Nat,m2%((l.map D.str).length:Int)=(i:Int):=⟨(m2%((l.map D.str).length:Int)).toNat,by omega⟩
 obtain⟨to_,eto⟩:∃i:Nat,m3%((l.map D.str).length:Int)=(i:Int):=⟨(m3%((l.map D.str).length:Int)).toNat,by omega⟩
 dsimp only
 rw[eat] at a1 a2 ⊢
 rw[eto] at b1 b2 ⊢
 rw[List.length_map] at a2 b2
 have hat:at_<l.length:=by omega
 have hto:to_<l.length:=by omega
 obtain⟨xa,hxa⟩:∃x,l[at_]?=some x:=⟨_,List.getElem?_eq_getElem hat⟩
 obtain⟨xt,hxt⟩:∃x,l[to_]?=some x:=⟨_,List.getElem?_eq_getElem hto⟩
 have exa:(l.map D.str)[at_]?=some (.str xa):=by rw[List.getElem?_map,hxa];rfl
 have ext_:(l.map D.str)[to_]?=some (.str xt):=by rw[List.getElem?_map,hxt];rfl
 have oka:=bW xa (List.mem_of_getElem? hxa)
 have okt:=bW xt (List.mem_of_getElem? hxt)
 generalize m1%7=way at hw ⊢
 have vw:∀(M:List D),bB [(a,.lst M)] [some (.lst (l.map D.str)),some (.int c),some (.int way),some (.int (at_:Int)),some (.int (to_:Int)),some (.adr a)]=[some (.lst (l.map D.str)),some (.int c),some (.int way),some (.int (at_:Int)),some (.int (to_:Int)),some (.lst M)]:=λM=>by
  show[some (ay _ (.lst (l.map D.str))),_,_,_,_,some (ay _ (.adr a))]=_
  rw[fK]
  rfl
 have fin:∀fd:List Str,fd.length<=9->(∀x∈fd,PyData.strOk x=true)->vz (v5 (A1 (L8 (ff (vEq (lE 2) (vC (.int 6)))) (yK 5 (Ny (lE 5) G0 (G1 (lE 3)))) zd) (LD (lE 5)))) { nx:=λ_ _=>Q .ak,rt:=λd μ=>Q (ay μ d)} [some (.lst (l.map D.str)),some (.int c),some (.int way),some (.int (at_:Int)),some (.int (to_:Int)),some (.adr a)] [(a,.lst (fd.map D.str))]:=λfd hl ho=>by
  refine hG (vw _) ?_
  refine⟨_,rfl,_,rfl,mw ⟨_,rfl,_,rfl,_,rfl,_,rfl,?_⟩ ⟨_,rfl,q fd hl ho⟩⟩
  show Q (.lst (DC.cutD (fd.map D.str) none (some (at_:Int))))
  rw[n5,<- List.map_take]
  exact q _ (by rw[List.length_take];omega) λx hx=>ho x (List.mem_of_mem_take hx)
 have hl9:l.length<=9:=by omega
 have e0:[(a,MD.lst (l.map D.str))]++[]=[(a,MD.lst (l.map D.str))]:=List.append_nil _
 rw[e0]
 rcases hw with rfl|rfl|rfl|rfl|rfl|rfl|rfl
 ·exact⟨_,rfl,_,rfl,aO ⟨_,rfl,_,rfl,aO ⟨_,rfl,_,rfl,aO ⟨_,rfl,_,rfl,aO ⟨_,rfl,_,rfl,aO (fin l hl9 bW)⟩⟩⟩⟩⟩
 ·refine⟨_,rfl,_,rfl,ae ?_⟩
  have hs1:∀x∈l.set at_ xt,PyData.strOk x=true:=λx hx=>mH (P:=λx=>PyData.strOk x=true) bW okt hx
  refine oP (vw _) ?_
  refine⟨_,rfl,_,rfl,.str xt,fg ext_,rfl,a,_,rfl,bg,_,rfl,(at_:Int),at_,rfl,pY (by rw[List.length_map];exact hat),?_⟩
  rw[gD,<- List.map_set]
  dsimp only
  refine oP (vw _) ?_
  refine⟨_,rfl,_,rfl,.str xa,fg exa,rfl,a,_,rfl,bg,_,rfl,(to_:Int),to_,rfl,pY (by rw[List.length_map,List.length_set];exact hto),?_⟩
  rw[gD,<- List.map_set]
  exact⟨_,rfl,_,rfl,aO ⟨_,rfl,_,rfl,aO ⟨_,rfl,_,rfl,aO ⟨_,rfl,_,rfl,aO (fin _ (by rw[List.length_set,List.length_set];exact hl9) λx hx=>mH (P:=λx=>PyData.strOk x=true) hs1 oka hx)⟩⟩⟩⟩
 ·refine⟨_,rfl,_,rfl,aO ⟨_,rfl,_,rfl,ae ⟨a,_,rfl,bg,_,rfl,at_,rfl,by rw[List.length_map];exact hat,by omega,?_⟩⟩⟩
  rw[gD,show(l.map D.str).eraseIdx at_=(l.eraseIdx at_).map D.str from yy ..]
  exact⟨_,rfl,_,rfl,aO ⟨_,rfl,_,rfl,aO ⟨_,rfl,_,rfl,aO (fin _ (Nat.le_trans (List.length_eraseIdx_le ..) hl9) λx hx=>bW x (List.mem_of_mem_eraseIdx hx))⟩⟩⟩
 ·refine⟨_,rfl,_,rfl,aO ⟨_,rfl,_,rfl,aO ⟨_,rfl,_,rfl,ae ⟨a,_,rfl,bg,_,rfl,_,rfl,_,rfl,.str xa,fg exa,to_,.str xa,rfl,by rw[List.length_map];omega,by rw[List.length_map];exact Nat.lt_of_le_of_lt h8 (by decide),by omega,?_⟩⟩⟩⟩
  rw[gD,show(l.map D.str).take to_++D.str xa::(l.map D.str).drop to_=(l.take to_++xa::l.drop to_).map D.str by rw[List.map_append,List.map_cons,List.map_take,List.map_drop]]
  refine⟨_,rfl,_,rfl,aO ⟨_,rfl,_,rfl,aO (fin _ ?_ λx hx=>?_)⟩⟩
  ·rw[List.length_append,List.length_cons,List.length_take,List.length_drop];omega
  ·rcases List.mem_append.mp hx with hx|hx
   ·exact bW x (List.mem_of_mem_take hx)
   ·rcases List.mem_cons.mp hx with rfl|hx
    ·exact oka
    ·exact bW x (List.mem_of_mem_drop hx)
 ·refine⟨_,rfl,_,rfl,aO ⟨_,rfl,_,rfl,aO ⟨_,rfl,_,rfl,aO ⟨_,rfl,_,rfl,ae ?_⟩⟩⟩⟩
  refine oP (vw _) ?_
  refine⟨rfl,a,_,rfl,bg,_,rfl,(at_:Int),at_,rfl,pY (by rw[List.length_map];exact hat),?_⟩
  rw[gD,<- List.map_set]
  exact⟨_,rfl,_,rfl,aO (fin _ (by rw[List.length_set];exact hl9) λx hx=>mH (P:=λx=>PyData.strOk x=true) bW (by decide +kernel) hx)⟩
 ·refine⟨_,rfl,_,rfl,aO ⟨_,rfl,_,rfl,aO ⟨_,rfl,_,rfl,aO ⟨_,rfl,_,rfl,aO ⟨_,rfl,_,rfl,ae ⟨a,_,rfl,bg,?_⟩⟩⟩⟩⟩⟩
  rw[gD,<- List.map_reverse]
  exact fin _ (by rw[List.length_reverse];exact hl9) λx hx=>bW x (List.mem_reverse.mp hx)
 ·exact⟨_,rfl,_,rfl,aO ⟨_,rfl,_,rfl,aO ⟨_,rfl,_,rfl,aO ⟨_,rfl,_,rfl,aO ⟨_,rfl,_,rfl,aO (fin l hl9 bW)⟩⟩⟩⟩⟩
theorem MU (d:Df K mg "_law_is" oX ["_law_needs_here","_law_names_here"])(n_sorted:mg "sorted"=none)(n_enumerate:mg "enumerate"=none):av P w K mg base (j+1) "_law_is" ["_law_needs_here","_law_names_here"] LQ:=by
 refine d.dN qh (λds P P' f ⟨l,nf,m,e,h1,h2,h3,q⟩=>⟨l,nf,m,e,h1,h2,h3,λb hb=>f _ (q b hb)⟩) (λds Q ⟨l,nf,m,e,_⟩=>by rw[e];rfl) (λf cdv A outer s H E hr=>have hu:=hr.units;have hh:=hr.hd;have sc:=qh
  (aG (bx (Dq hu (vO hh (by rfl) n_sorted (aA (dv 1) aB)) (vO hh (by rfl) n_sorted (aA (dv 0) aB))) (aF (aQ tN)) aY)
 (aG (wX PassesOwn.never rfl (tZ (by rfl) n_enumerate (aA (dv 1) aB)) (vZ (n:=2) rfl (dU (bO (i:=2) sc.nd rfl (Or.inr rfl)) (dU (bO (i:=3) sc.nd rfl (Or.inl rfl)) qJ))) (aF (bx (Dq hu (l9 (x:="_law_one") (caps:=[1,2]) (cn:=["_law_names_here","_law_k"]) (cl:=[("_law_names_here",s.heap.objs.size+1),("_law_k",s.heap.objs.size+2)]) (i5 (by rfl) (by rfl) (by decide +kernel) (dS ["_law_names_here","_law_k"] rfl (by decide +kernel)) (by decide +kernel) (bC (by rfl) (bC (by rfl) cG)) (.cons ⟨rfl,.inl rfl,rfl⟩ (.cons ⟨rfl,.inl rfl,rfl⟩ .nil))) rfl (bw (cM hu (dv 0) (dv 3) (λ_ _=>rfl))) (λC fp s₂ H₂=>bF (i:=0) (show(["_law_one","_law_names_here","_law_k"]:List Str).Nodup by decide +kernel) rfl (Or.inl rfl) (.inr rfl)) (λC fp s₂ H₂=>(ka (gn (dv 0) (cv (dv 1) fP (d9 (dv 2))) (by rfl)))) (λC fp s₂ H₂=>(dv 0))) (bb aB)) (aF (aQ tN)) aY)))
 (aF (aQ tN))))) ?_
 rintro ds Q ⟨l,nf,m,rfl,h,hm,ho,q⟩
 have h8:=h.len
 refine⟨_,rfl,m,.inl rfl,by omega,λs1 p1 o1=>⟨_,rfl,l,.inr ⟨_,rfl,Hj⟩,by omega,λs2 p2 o2=>?_⟩⟩
 refine N4 (λx hx=>ho x (p1.mem_iff.mp hx)) (λx hx=>h.ok x (p2.mem_iff.mp hx)) ⟨_,rfl,?_⟩
 show if(!decide (s1=s2))=true then _ else _
 by_cases hs:s1=s2
 ·have hp:m.Perm l:=p1.symm.trans (hs ▸ p2)
  rw[decide_eq_true hs]
  refine aO ⟨_,rfl,_,rfl,λi δ=>(∃x2 x3,δ=[some (Gz l nf),some (.lst (m.map D.str)),x2,x3])/\∀k n,k<i->m[k]?=some n->∀x∈nf n,x∈m.take k,⟨⟨none,none,rfl⟩,λk n hk=>absurd hk (by omega)⟩,?_,?_⟩
  ·rintro i dd δ hd ⟨⟨x2,x3,rfl⟩,hpre⟩
   obtain⟨n,hn,rfl⟩:=yw hd
   have hnl:n∈l:=hp.mem_iff.mp (List.mem_of_getElem? hn)
   refine⟨_,rfl,rfl,_,_,rfl,_,_,rfl,rfl,?_⟩
   refine⟨_,rfl,_,rfl,_,.inr n,_,rfl,rfl,cE hnl,(nf n).map D.str,rfl,outF (λx=>!(m.take i).contains x) D.str (nf n),fD,dg λx hx=>?_,qW (Nat.lt_trans (h.nl n hnl) (by decide)),zL0,?_⟩
   ·refine⟨_,rfl,_,rfl,_,rfl,_,rfl,?_⟩
    have ec:DC.cutD (m.map D.str) none (some (i:Int))=(m.take i).map D.str:=by rw[n5,List.map_take]
    dsimp only[Jz]
    rw[ec]
    refine⟨rfl,b_ _,_,rfl,?_⟩
    show(!inD (.str x) ((m.take i).map D.str))=_/\_
    rw[d7]
    exact nA (λh=>⟨_,rfl,if_pos h⟩) rfl
   ·rw[d_]
    refine yx (f7 λx hx=>h.no n hnl x (List.mem_filter.mp hx).1) (by decide) ⟨_,rfl,?_⟩
    show if(!(((nf n).filter λx=>!(m.take i).contains x).map D.str).isEmpty)=true then _ else _
    rw[List.isEmpty_map]
    cases he:((nf n).filter λx=>!(m.take i).contains x).isEmpty with
    |false =>
     refine ae (q false ⟨(λz=>nomatch z),λz=>?_⟩)
     have:((nf n).filter λx=>!(m.take i).contains x)=[]:=List.filter_eq_nil_iff.mpr λx hx=>by
      have:=z.2 i n hn x hx
      rw[List.contains_iff_mem.mpr this]
      exact Bool.false_ne_true
     rw[this] at he
     cases he
    |true =>
     refine aO ⟨⟨_,_,rfl⟩,λk n' hk hk'=>?_⟩
     by_cases e:k=i
     ·subst e
      rw[hn] at hk'
      cases hk'
      intro x hx
      have:=List.filter_eq_nil_iff.mp (List.isEmpty_iff.mp he) x hx
      cases hc:(m.take k).contains x with
      |true=>exact List.contains_iff_mem.mp hc
      |false=>rw[hc] at this;exact absurd rfl this
     ·exact hpre k n' (by omega) hk'
  ·rintro δ ⟨⟨x2,x3,rfl⟩,hpre⟩
   refine q true ⟨λ_=>⟨hp,λk n hk=>hpre k n (by rw[kl,List.length_map];exact ym hk) hk⟩,λ_=>rfl⟩
 ·rw[decide_eq_false hs]
  refine ae (q false ⟨(λz=>nomatch z),λz=>absurd ?_ hs⟩)
  exact qt (p1.trans (z.1.trans p2.symm)) o1 o2
def LS:cF:=λds Q=>∃ns:List Int,ds=[.lst (ns.map D.int)]/\Q (.bl true)
theorem Ao {p:Pt}:∀{n:Str},n∈p.aR->n∈p.names:=by
 induction p with
 |given v=>intro n h;exact h
 |named v=>intro n h;exact h
 |before p f _=>intro n h;cases h
 |turned p ih=>intro n h;obtain⟨l,hl,h⟩:=f9 h;simp only[List.mem_cons,List.not_mem_nil,or_false] at hl;rcases hl with rfl|rfl;exact cg (l:=p.names) (by simp) (ih h);cases h
 |pair g a b iha ihb =>
  intro n h
  obtain⟨l,hl,h⟩:=f9 h
  simp only[List.mem_cons,List.not_mem_nil,or_false] at hl
  rcases hl with rfl|rfl|rfl
  ·exact cg (l:=a.names) (by simp) (iha h)
  ·exact cg (l:=b.names) (by simp) (ihb h)
  ·cases h
 |choice t a b iht iha ihb =>
  intro n h
  obtain⟨l,hl,h⟩:=f9 h
  simp only[List.mem_cons,List.not_mem_nil,or_false] at hl
  rcases hl with rfl|rfl|rfl|rfl
  ·exact cg (l:=t.names) (by simp) (iht h)
  ·exact cg (l:=a.names) (by simp) (iha h)
  ·exact cg (l:=b.names) (by simp) (ihb h)
  ·cases h
 |led a b iha ihb =>
  intro n h
  obtain⟨l,hl,h⟩:=f9 h
  simp only[List.mem_cons,List.not_mem_nil,or_false] at hl
  rcases hl with rfl|rfl|rfl
  ·exact cg (l:=a.names) (by simp) (iha h)
  ·exact cg (l:=b.names) (by simp) (ihb h)
  ·cases h
 |cS p m ih =>
  intro n h
  obtain⟨l,hl,h⟩:=f9 h
  simp only[List.mem_cons,List.not_mem_nil,or_false] at hl
  rcases hl with rfl|rfl
  ·exact cg (l:=p.names) (by simp) (ih h)
  ·exact cg (l:=[m]) (by simp) h
 |held p m f ih =>
  intro n h
  obtain⟨l,hl,h⟩:=f9 h
  simp only[List.mem_cons,List.not_mem_nil,or_false] at hl
  rcases hl with rfl|rfl
  ·exact cg (l:=p.names) (by simp) (ih h)
  ·exact cg (l:=[m]) (by simp) h
theorem J8 {l:List Str}{kf:Str->Str}{of:Str->Option Str}{pf:Str->Pt}(b:Bd l kf of pf):Nd l (fN l of pf):=by
 have hin:∀n∈l,∀x∈fN l of pf n,x∈l:=λn hn x hx=>by
  obtain⟨r,_,hof⟩:=b.on
  have hb:∀x∈baseOf l pf n,x∈l:=λx hx=>by
   unfold baseOf at hx
   split at hx
   ·rename_i h
    exact(b.tr n h).nm x (Ao hx)
   ·cases hx
  unfold fN at hx
  cases ho:of n with
  |none=>rw[ho] at hx;exact hb x hx
  |some o =>
   rw[ho] at hx
   have hx:x∈if o∈baseOf l pf n then baseOf l pf n else baseOf l pf n++[o]:=hx
   split at hx
   ·exact hb x hx
   ·rcases List.mem_append.mp hx with hx|hx
    ·exact hb x hx
    ·rw[List.mem_singleton.mp hx];exact(hof n hn o ho).1
 refine⟨b.wF.nd,b.wF.hi,λn hn=>(b.wF.ok n hn).2.2,λn hn=>?_,λn hn x hx=>(b.wF.ok x (hin n hn x hx)).2.2⟩
 have h1:=vA b.tr n
 unfold fN C1
 split
 ·omega
 ·split
  ·omega
  ·rw[List.length_append]
   show _+1<_
   omega
theorem K1 {x qual:Str}{st:Stmt}{f:Addr}{fd:FuncData}{N ps:List Str}{k:Nat}{sd:cF}{t:jE}(F:xA K x qual st f fd)(S:aE N ps (aC st))(len:∀ds Q,sd ds Q->ds.length=ps.length)
  (hb:∀(f:Addr) (cdv:Value) (A:Around) (outer:List Env) (s:Shared) (H:Hp) (E:XK),cH k (A.deeper (envOfC qual (aC st) s.heap.objs.size f cdv))->nr (Bx P w K mg base N qual st f cdv A outer s H E) (bE st) t)
  (hr:∀ds Q,sd ds Q->t { nx:=λ_=>Q .ak,rt:=Q } (cZ N ds)):cP P w K mg base pQ (k+1) f fd ps (qu K sd):=M0 F S len (hb f) hr
theorem Iu {f:Addr}{fd:FuncData}(F:xA K "law" "law" kJ f fd)(n_range:mg "range"=none)(n_len:mg "len"=none)(n_list:mg "list"=none)(n_tuple:mg "tuple"=none)(n_isinstance:mg "isinstance"=none)(n_bool:mg "bool"=none)(c__law_mixed:av P w K mg base j "_law_mixed" ["_law_cell_here","_law_k"] fJ)(c__law_cell:av P w K mg base j "_law_cell" ["_law_script","_law_k"] uU)
  (c__law_built:av P w K mg base j "_law_built" ["_law_script","_law_most"] zh)(c__law_sheet_of:av P w K mg base j "_law_sheet_of" ["_law_built_here"] (sT A L))(c__law_all_needs:av P w K mg base j "_law_all_needs" ["_law_ons_here","_law_lines"] qm)(c__law_some_order:av P w K mg base j "_law_some_order" ["_law_needs_here","_law_cell_here"] Dc)
  (c__law_bent:av P w K mg base j "_law_bent" ["_law_names_here","_law_cell_here"] DU)(lz:av P w K mg base j "is_order" ["sheet","names"] (HF A L))(c__law_is:av P w K mg base j "_law_is" ["_law_needs_here","_law_names_here"] LQ) :
  cP P w K mg base pQ (j+1) f fd ["_law_script"] (qu K LS):=by
 refine K1 F DS (λds Q ⟨ns,e,_⟩=>by rw[e];rfl) (λf cdv A outer s H E hr=>have hu:=hr.units;have hh:=hr.hd;have sc:=DS
  (aG (ar (i:=1) sc.nd rfl (Or.inl rfl) (aH c__law_built hr (by omega) (by rfl) (aA (dv 0) (aA (bb (jI (by rfl))) aB))))
 (aG (ar (i:=2) sc.nd rfl (Or.inl rfl) (aH c__law_sheet_of hr (by omega) (by rfl) (aA (dv 1) aB)))
 (aG (ar (i:=3) sc.nd rfl (Or.inl rfl) (aH c__law_all_needs hr (by omega) (by rfl) (aA (bT (dv 1) aD (λ_ _=>rfl)) (aA (bT (dv 1) aD (λ_ _=>rfl)) aB))))
 (aG (wX PassesOwn.never rfl (jO (by rfl) n_range (aA (bp aD (bQ (aH c__law_mixed hr (by omega) (by rfl) (aA (aH c__law_cell hr (by omega) (by rfl) (aA (dv 0) (aA aD aB))) (aA aD aB))) aD)) aB)) (bO (i:=4) sc.nd rfl (Or.inl rfl)) (aG (ar (i:=5) sc.nd rfl (Or.inl rfl) (aH c__law_cell hr (by omega) (by rfl) (aA (dv 0) (aA (bp aD (dv 4)) aB))))
 (aG (ar (i:=6) sc.nd rfl (Or.inl rfl) (aH c__law_some_order hr (by omega) (by rfl) (aA (dv 3) (aA (vN (aH c__law_mixed hr (by omega) (by rfl) (aA (dv 5) (aA aD aB))) (bQ (aH c__law_mixed hr (by omega) (by rfl) (aA (dv 5) (aA aD aB))) aD)) aB))))
 (aG (bx (cD hu (cO (by rfl) n_len (aA (dv 6) aB)) aD) (aF (ar (i:=6) sc.nd rfl (Or.inl rfl) (Eb hh (by rfl) n_list (aA (dv 3) aB)))) aY)
 (aG (ar (i:=6) sc.nd rfl (Or.inl rfl) (aH c__law_bent hr (by omega) (by rfl) (aA (dv 6) (aA (dv 5) aB))))
 (aG (ar (i:=7) sc.nd rfl (Or.inl rfl) (rX (by rfl) n_list (aA (dv 6) aB)))
 (aG (bx (cD hu (bQ (aH c__law_mixed hr (by omega) (by rfl) (aA (dv 5) (aA aD aB))) aD) aD) (aF (ar (i:=6) sc.nd rfl (Or.inl rfl) (fz (by rfl) n_tuple (aA (dv 6) aB)))) aY)
 (aG (ar (i:=8) sc.nd rfl (Or.inl rfl) (aH lz hr (by omega) (by rfl) (aA (dv 2) (aA (dv 6) aB))))
 (aF (bx (ow.td (w_or (ng (kZ (qP (by rfl) n_isinstance (by rfl) n_bool (dv 8)))) (w_or (Dq hu (dv 8) (aH c__law_is hr (by omega) (by rfl) (aA (dv 3) (aA (dv 7) aB)))) (lu (Dq hu (rX (by rfl) n_list (aA (dv 6) aB)) (dv 7)))))) (aF (aQ tN)) aY))))))))))
 (aF (aQ tN))))))) ?_
 rintro ds Q ⟨ns,rfl,q⟩
 refine⟨_,rfl,zL3,ns,rfl,λl kf of pf b=>?_⟩
 refine⟨_,rfl,l,kf,of,pf,rfl,b,λn3 h3=>?_⟩
 refine⟨_,rfl,_,rfl,_,rfl,_,rfl,l,kf,of,pf,rfl,b.wF,b.tr,?_⟩
 have nd:=J8 b
 have hg:=zP (n3:=n3) b h3
 have h8:=b.wF.hi
 have h4:=b.wF.lo
 let δ0:Option D->Option D->Option D->Option D->Option D->SD:=λx4 x5 x6 x7 x8=>[some (.lst (ns.map D.int)),some (.tup (MT l kf of pf)),some ((pU l n3 kf of pf).d A L),some (Gz l (fN l of pf)),x4,x5,x6,x7,x8]
 refine⟨_,rfl,ns,9,rfl,λc9=>⟨c9,4,rfl,λm9=>⟨iP6,_,rfl,?_,?_,λi δ=>∃x4 x5 x6 x7 x8,δ=δ0 x4 x5 x6 x7 x8,⟨none,none,none,none,none,rfl⟩,?_,?_⟩⟩⟩
 ·have:=cC m9 iP6
  omega
 ·have:=b5 m9 iP6
  omega
 ·rintro i dd δ hd ⟨x4,x5,x6,x7,x8,rfl⟩
  obtain⟨hi,rfl⟩:=yM hd
  refine⟨_,rfl,_,rfl,ns,10+i,?_,λc=>?_⟩
  ·show[D.lst (ns.map D.int),D.int (10+(i:Int))]=_
   rw[show(10:Int)+(i:Int)=((10+i:Nat):Int) by omega]
  refine⟨_,rfl,_,rfl,c,5,rfl,λm5=>⟨_,rfl,c,6,rfl,λm6=>⟨iP2,w6.ok (.inr ?_),l,fN l of pf,_,rfl,nd,λm hm hml=>?_⟩⟩⟩
  ·have h1:=cC m6 iP2
   have h2:=b5 m6 iP2
   constructor<;>omega
  dsimp only
  refine ue (λδ=>∃m:List Str,δ=δ0 (some (.int i)) (some (.int c)) (some (.lst (m.map D.str))) x7 x8/\0<m.length/\m.length<=8/\∀x∈m,x∈l) ?_ λN hN=>?_
  rotate_left
  ·refine⟨_,rfl,_,_,rfl,rfl,_,rfl,?_⟩
   show if decide (((m.map D.str).length:Int)=0)=true then _ else _
   cases h0:decide (((m.map D.str).length:Int)=0) with
   |true =>
    refine ae ⟨_,rfl,_,rfl,?_⟩
    dsimp only
    rw[md]
    exact hN _ ⟨l,rfl,by omega,h8,λx hx=>hx⟩
   |false =>
    have:=of_decide_eq_false h0
    rw[List.length_map] at this
    exact aO (hN _ ⟨m,rfl,by omega,by omega,hm⟩)
  rintro δ ⟨m,rfl,hm0,hm8,hml⟩
  refine⟨_,rfl,_,rfl,m,c,rfl,hm0,hm8,λx hx=>nd.ok x (hml x hx),λm' h9 bW=>?_⟩
  refine⟨_,rfl,_,.inl rfl,?_⟩
  dsimp only
  refine ue (λδ=>∃nmD:D,δ=δ0 (some (.int i)) (some (.int c)) (some nmD) (some (.lst (m'.map D.str))) x8/\(nmD=.lst (m'.map D.str)\/nmD=.tup (m'.map D.str))) ?_ λN hN=>?_
  rotate_left
  ·exact⟨_,rfl,c,7,rfl,λm7=>⟨iP4,_,rfl,mw ⟨_,rfl,_,.inl rfl,hN _ ⟨_,rfl,.inr rfl⟩⟩ (hN _ ⟨_,rfl,.inl rfl⟩)⟩⟩
  rintro δ ⟨nmD,rfl,hnm⟩
  refine⟨_,rfl,_,rfl,pU l n3 kf of pf,m',?_,hg.ok,hg.nd,FO,by omega,λb1 hb1=>?_⟩
  ·rcases hnm with e|e
   ·exact .inl (by rw[e])
   ·exact .inr (by rw[e])
  refine⟨_,rfl,true,rfl,true,rfl,aO ⟨_,rfl,_,rfl,_,rfl,l,fN l of pf,m',rfl,nd,h9,bW,λb2 hb2=>?_⟩⟩
  have eb:b1=b2:=by
   rw[m8 b.wF.nd,JC b.wF.nd,CG λn hn=>Cg b hn] at hb1
   have:=hb1.trans hb2.symm
   cases b1<;>cases b2<;>simp_all
  subst eb
  refine⟨false,?_,aO ?_⟩
  ·show D.bl (!decide (b1=b1))=_
   simp
  refine⟨_,rfl,m'.map D.str,?_,_,rfl,F7 rfl (f7 bW) (by decide) ⟨_,rfl,aO ⟨_,_,_,_,_,rfl⟩⟩⟩
  rcases hnm with e|e
  ·exact .inl (by rw[e])
  ·exact .inr (by rw[e])
 ·rintro δ ⟨x4,x5,x6,x7,x8,rfl⟩
  exact q
end
/-! ### where things lie -/
def BS (x qual:Str)(st:Stmt)(ps:List Str):Prop:=∀(kV doc pm:Value) (an:Option Addr) (cdv ct:Value) (us:List Value),us.length=ps.length->bindArgs (fnOf x qual (cw st) (bE st) (aC st) .none kV doc pm an cdv ct) ⟨us,[]⟩=pure (ps.zip us)
section
variable {w:World}{K:PySem.W.Frag}{h:Heap}{mg:Str->Option Value}{x m qual:Str}{st:Stmt}{ps:List Str}{f C:Addr}{od an:Option Addr}{sl:Array (Option Value)}{oc kV dc pm cd ct dV:Value}
theorem az (X:K.In h)(G:h.Ns mainGlobals mg)(a:nsIn K mainGlobals x=some (some (.ref f)):=by k_is)(l:K.lookup f=some ⟨oc,od,.func (fnOf x x (cw st) (bE st) (aC st) .none kV dc pm an cd ct),sl⟩:=by k_is)
  (c:codeIn K cd x=true:=by k_is)(k:keepIn K (.ref f)=true:=by k_is)(b:BS x x st ps:=by first|exact(λ_ _ _ _ _ _ us hl=>match us,hl with|[_],_=>rfl)|exact(λ_ _ _ _ _ _ us hl=>match us,hl with|[_,_],_=>rfl)|exact(λ_ _ _ _ _ _ us hl=>match us,hl with|[_,_,_],_=>rfl)|exact(λ_ _ _ _ _ _ us hl=>match us,hl with|[_,_,_,_],_=>rfl)|exact(λ_ _ _ _ _ _ us hl=>match us,hl with|[_,_,_,_,_],_=>rfl)|exact(λ_ _ _ _ _ _ us hl=>match us,hl with|[_,_,_,_,_,_],_=>rfl)):Df K mg x st ps:=⟨⟨f,_,n9 (st:=st) l c k,mg_of X G a,(n9 (st:=st) l c k).binds b⟩⟩
structure cW (K:PySem.W.Frag) (C:Addr) (m qual:Str) (st:Stmt):Prop where
 ex:∃f fd,xA K m qual st f fd/\Meth K C m f/\Binds K fd ["self"] []
theorem aT (a:findIn K (.ref C) m=some (some (.ref f)):=by k_is)(l:K.lookup f=some ⟨oc,od,.func (fnOf m qual (cw st) (bE st) (aC st) .none kV dc pm an cd ct),sl⟩:=by k_is)
  (c:codeIn K cd qual=true:=by k_is)(k:keepIn K (.ref f)=true:=by k_is)(n:isFn K (.ref f)=true:=by k_is)(b:BS m qual st ["self"]:=by exact(λ_ _ _ _ _ _ us hl=>match us,hl with|[_],_=>rfl)):cW K C m qual st:=⟨⟨f,_,n9 (st:=st) l c k,⟨a,n,k⟩,(n9 (st:=st) l c k).binds b⟩⟩
theorem cW.dm (d:cW K C m qual st)(c:rE K C):Dm K C m qual st ["self"]:=let ⟨f,fd,F,M,b⟩:=d.ex;⟨⟨f,fd,F,M,c,b⟩⟩
theorem o5 (X:K.In h)(G:h.Ns mainGlobals mg)(hc:nsIn K mainGlobals x=some (some (.ref C)):=by k_is)(mk:makesIn K C=true:=by k_is)(ini:findIn K (.ref C) "__init__"=some (some (.ref f)):=by k_is)(fn:isFn K (.ref f)=true:=by k_is)(kp:keepIn K (.ref C)=true:=by k_is)
  (l:K.lookup f=some ⟨oc,od,.func (fnOf "__init__" qual (cw st) (bE st) (aC st) .none kV dc pm an cd ct),sl⟩:=by k_is)(c:codeIn K cd qual=true:=by k_is)(k:keepIn K (.ref f)=true:=by k_is)
  (b:BS "__init__" qual st ps:=by first|exact(λ_ _ _ _ _ _ us hl=>match us,hl with|[_,_],_=>rfl)|exact(λ_ _ _ _ _ _ us hl=>match us,hl with|[_,_,_],_=>rfl)|exact(λ_ _ _ _ _ _ us hl=>match us,hl with|[_,_,_,_],_=>rfl)|exact(λ_ _ _ _ _ _ us hl=>match us,hl with|[_,_,_,_,_],_=>rfl)):Di K mg x C qual st ps [] :=
 ⟨⟨f,_,[],[],⟨⟨oc,od,.none,kV,dc,pm,an,cd,ct,sl,rfl,l,c⟩,k⟩,⟨mk,ini,fn,kp⟩,mg_of X G hc,(n9 (st:=st) l c k).binds b,.nil,λ_=>.nil⟩⟩
def uv (x qual:Str)(st:Stmt)(ps:List Str):Prop:=∀(K:PySem.W.Frag) (T:Addr) (ob:Obj) (v:Value) (n:Nat),K.lookup T=some ob->ob.data=.seq #[v] n->∀(kV doc pm:Value) (an:Option Addr) (cdv ct:Value),Binds K (fnOf x qual (cw st) (bE st) (aC st) (.ref T) kV doc pm an cdv ct) ps []
theorem tP {Ta:Addr}{tc v:Value}{td:Option Addr}{tn:Nat}{tsl:Array (Option Value)}(X:K.In h)(G:h.Ns mainGlobals mg)(b:uv "__init__" qual st ps)(hc:nsIn K mainGlobals x=some (some (.ref C)):=by k_is)(mk:makesIn K C=true:=by k_is)(ini:findIn K (.ref C) "__init__"=some (some (.ref f)):=by k_is)
  (fn:isFn K (.ref f)=true:=by k_is)(kp:keepIn K (.ref C)=true:=by k_is)(l:K.lookup f=some ⟨oc,od,.func (fnOf "__init__" qual (cw st) (bE st) (aC st) (.ref Ta) kV dc pm an cd ct),sl⟩:=by k_is)(c:codeIn K cd qual=true:=by k_is)(k:keepIn K (.ref f)=true:=by k_is)
  (lt:K.lookup Ta=some ⟨tc,td,.seq #[v] tn,tsl⟩:=by k_is):Di K mg x C qual st ps [] :=
 ⟨⟨f,_,[],[],⟨⟨oc,od,.ref Ta,kV,dc,pm,an,cd,ct,sl,rfl,l,c⟩,k⟩,⟨mk,ini,fn,kp⟩,mg_of X G hc,b K Ta _ v tn lt rfl kV dc pm an cd ct,.nil,λ_=>.nil⟩⟩
theorem fQ (a:plainGet K C Str.empty=true:=by k_is)(b:hasDictIn K C=true:=by k_is)(c:plainOver K C=true:=by k_is)(d:findIn K (.ref C) "__setattr__"=some (some (.builtin "object.__setattr__")):=by k_is)
  (e:findIn K (.ref C) "__class__"=some (some (.builtin "object.__class__")):=by k_is)(f:PySem.W.specialIn K (.builtin "object.__class__") "__get__"=some (some (.builtin "getset_descriptor.__get__")):=by k_is)(g:PySem.W.takesIn K (.builtin "object.__class__")=some true:=by k_is)(h:PySem.W.mroIn K C (.type "object")=some true:=by k_is):fv K C:=⟨⟨a,b,c,d⟩,e,f,g,h⟩
theorem mq {i:Int}{t:Tok}(X:K.In h)(G:h.Ns mainGlobals mg)(e:nsIn K mainGlobals x=some (some (.int i t))):GI mg x i:=⟨⟨t,mg_of X G e⟩⟩
theorem KU {y:Str}{t:Tok}(X:K.In h)(G:h.Ns mainGlobals mg)(e:nsIn K mainGlobals x=some (some (.str y t))):GD K mg x (.str y):=⟨⟨.str y,.str y t,mg_of X G e,⟨_,rfl⟩,λ_=>.str y⟩⟩
def J6 (K:PySem.W.Frag)(t:Addr)(ds:List D):Prop:=∀H,Dv K H (.ref t) (.tup ds)
theorem cq {t:Addr}{its:Array Value}{n:Nat}(vs:List V){ds:List D}(l:K.lookup t=some ⟨.type "tuple",od,.seq its n,sl⟩)(z:its.size<=1000)(v:Vals vs its.toList)(d:∀H,bM K H vs ds):J6 K t ds :=
 λH=>.tup (.inr ⟨_,its,n,l,rfl,rfl,Nat.le_of_lt (A6 z),v⟩) (d H)
theorem KW {t:Addr}{ds:List D}(X:K.In h)(G:h.Ns mainGlobals mg)(e:nsIn K mainGlobals x=some (some (.ref t)))(l:J6 K t ds):GD K mg x (.tup ds):=⟨⟨.ref t,.ref t,mg_of X G e,rfl,l⟩⟩
theorem Gw {s:Addr}{es:Array DictEntry}{n:Nat}{kvs:List (Str × V)}{tab:List (Str × D)}(X:K.In h)(G:h.Ns mainGlobals mg)(e:nsIn K mainGlobals x=some (some (.ref s)))(l:K.lookup s=some ⟨.type "dict",none,.dict es n,#[]⟩)(hk:PySem.W.KeysLit w.params es.toList)
  (he:nk kvs es.toList)(sys:(s == sysModules)=false)(t:Tb K kvs tab):EC w K mg x s tab:=⟨mg_of X G e,kvs,⟨⟨es,n,l,hk,he⟩,sys⟩,t⟩
theorem bu {y:Str}{t:Tok}{r:Addr}{en:DictEntry}{kvs:List (Str × V)}{es:List DictEntry}(hk:en.key=.str y t)(hv:en.val=.ref r)(q:nk kvs es):nk ((y,.ref r)::kvs) (en::es):=.cons hk hv q
theorem AR (ws:List Str):∀H,bM K H (ws.map V.str) (ws.map D.str):=λ_=>mf ws
def BW (K:PySem.W.Frag)(C:Addr):Prop:=∀f∈(["value","name","part","sign","one","other","truth","first","head","rest"]:List Str),dE K C f
theorem iY (h0:findIn K (.ref C) "value"=some none:=by k_is)(h1:findIn K (.ref C) "name"=some none:=by k_is)(h2:findIn K (.ref C) "part"=some none:=by k_is)(h3:findIn K (.ref C) "sign"=some none:=by k_is)(h4:findIn K (.ref C) "one"=some none:=by k_is)(h5:findIn K (.ref C) "other"=some none:=by k_is)(h6:findIn K (.ref C) "truth"=some none:=by k_is)(h7:findIn K (.ref C) "first"=some none:=by k_is)(h8:findIn K (.ref C) "head"=some none:=by k_is)(h9:findIn K (.ref C) "rest"=some none:=by k_is):BW K C:=by
 unfold BW
 simp only[List.mem_cons,List.not_mem_nil,or_false,forall_eq_or_imp,forall_eq]
 exact⟨h0,h1,h2,h3,h4,h5,h6,h7,h8,h9⟩
def J4 (K:PySem.W.Frag)(C:Addr):Prop:=∀f∈J0,dE K C f
theorem xv (h0:findIn K (.ref C) "name"=some none:=by k_is)(h1:findIn K (.ref C) "kind"=some none:=by k_is)(h2:findIn K (.ref C) "part"=some none:=by k_is)(h3:findIn K (.ref C) "on"=some none:=by k_is)(h4:findIn K (.ref C) "binds"=some none:=by k_is)(h5:findIn K (.ref C) "module"=some none:=by k_is)(h6:findIn K (.ref C) "parts"=some none:=by k_is)(h7:findIn K (.ref C) "inputs"=some none:=by k_is)(h8:findIn K (.ref C) "outputs"=some none:=by k_is)(h9:findIn K (.ref C) "lines"=some none:=by k_is):J4 K C:=by
 unfold J4
 simp only[J0,List.mem_cons,List.not_mem_nil,or_false,forall_eq_or_imp,forall_eq]
 exact⟨h0,h1,h2,h3,h4,h5,h6,h7,h8,h9⟩
end
theorem mX:uv "__init__" "Before.__init__" cj ["self","part","first"]:=λK T ob v n ho hs _ _ _ _ _ _ s us X hl=>match us,hl with|[_,_,_],_=>binds_K X rfl ho hs rfl rfl
theorem pR:uv "__init__" "Held.__init__" dX ["self","part","name","first"]:=λK T ob v n ho hs _ _ _ _ _ _ s us X hl=>match us,hl with|[_,_,_,_],_=>binds_K X rfl ho hs rfl rfl
theorem nu:uv "__init__" "Input.__init__" c_ ["self","name","kind","on"]:=λK T ob v n ho hs _ _ _ _ _ _ s us X hl=>match us,hl with|[_,_,_,_],_=>binds_K X rfl ho hs rfl rfl
theorem p8:uv "__init__" "Row.__init__" eK ["self","name","kind","part","on"]:=λK T ob v n ho hs _ _ _ _ _ _ s us X hl=>match us,hl with|[_,_,_,_,_],_=>binds_K X rfl ho hs rfl rfl
/-- the law's promise over values -/
def wj (K:PySem.W.Frag):Sp:=λvs H Q _=>∃(q:Addr) (ns:List Int),vs=[.ref q]/\cu K H q (ns.map V.int)/\ns.length<=63/\∀H',Q (.bl true) H'
theorem vX {K:PySem.W.Frag}{H:Hp}:∀ns:List Int,bM K H (ns.map V.int) (ns.map D.int)
 |[]=>.nil
 |n::ns=>.cons (.int n) (vX ns)
section
variable {P:Program}{w:World}{K:PySem.W.Frag}{mg:Str->Option Value}{base:Heap}{A:bR}{j k:Nat}{x:Str}{ps:List Str}
theorem wO (d:Df K mg "part_of" k_ ["told"])(c0:av P w K mg base 2 "many_within" ["told"] (uX Pt.ok λp=>.int p.inner.length))(c1:av P w K mg base 1 "has_shape" ["told"] (uX Pt.ok λp=>.bl (!p.qN)))
  (c2:av P w K mg base 15 "plain_by" ["told","inner"] (yP A 10 true))(c3:av P w K mg base 15 "timed_by" ["told","inner"] (yP A 10 false))
  (k:nq P w K mg base 13 "Pair" A.pair (λds Q=>∃(g:Str) (x y:Pt),ds=[.str g,x.d A,y.d A]/\g∈gm/\(Pt.pair g x y).depth<=10/\pF (.pair g x y)/\Q [("sign",.str g),("one",x.d A),("other",y.d A)]) []) :
  ∀n,n<=10->av P w K mg base (n+15) "part_of" ["told"] (A4 A n)
 | 0,_=>Df.never d λds Q ⟨p,_,h,_⟩=>absurd p.fu (by omega)
 |n+1,h=>Ax (m:=n) (N:=10) (by omega) h d (c0.up (by omega)) (c1.up (by omega)) (wO d c0 c1 c2 c3 k n (by omega)) (by omega) (c2.up (by omega)) (c3.up (by omega)) k
end
theorem HY {w:World}{K:PySem.W.Frag}{h:Heap}{mg:Str->Option Value}{a1 a2 a3 a4 a5 a6 a7 a8 a9 l1 l2 l3 sa sb:Addr}(X:K.In h)(G:h.Ns mainGlobals mg)
  (j0:nsIn K mainGlobals "Given"=some (some (.ref a1)))
  (j1:nsIn K mainGlobals "Named"=some (some (.ref a2)))
  (j2:nsIn K mainGlobals "Turned"=some (some (.ref a3)))
  (j3:nsIn K mainGlobals "Pair"=some (some (.ref a4)))
  (j4:nsIn K mainGlobals "Choice"=some (some (.ref a5)))
  (j5:nsIn K mainGlobals "Before"=some (some (.ref a6)))
  (j6:nsIn K mainGlobals "Led"=some (some (.ref a7)))
  (j7:nsIn K mainGlobals "When"=some (some (.ref a8)))
  (j8:nsIn K mainGlobals "Held"=some (some (.ref a9)))
  (j9:nsIn K mainGlobals "Input"=some (some (.ref l1)))
  (ja:nsIn K mainGlobals "Row"=some (some (.ref l2)))
  (jb:nsIn K mainGlobals "Sheet"=some (some (.ref l3)))
  (jc:[a1,a2,a3,a4,a5,a6,a7,a8,a9].Nodup)
  (jd:l1≠l2)
  (je:fv K a1)
  (jf:BW K a1)
  (jg:cW K a1 "inner" "Part.inner" cR)
  (jh:cW K a1 "size" "Part.size" bU)
  (ji:cW K a1 "depth" "Part.depth" bG)
  (jj:cW K a1 "need_bounds" "Part.need_bounds" aX)
  (jk:cW K a1 "names" "Part.names" bH)
  (jl:cW K a1 "own_names" "Part.own_names" aP)
  (jm:cW K a1 "needs" "Part.needs" ba)
  (jn:Di K mg "Given" a1 "Given.__init__" eY ["self","value"] [])
  (jo:fv K a2)
  (jp:BW K a2)
  (jq:cW K a2 "inner" "Part.inner" cR)
  (jr:cW K a2 "size" "Part.size" bU)
  (js:cW K a2 "depth" "Part.depth" bG)
  (jt:cW K a2 "need_bounds" "Part.need_bounds" aX)
  (ju:cW K a2 "names" "Part.names" bH)
  (jv:cW K a2 "own_names" "Named.own_names" ck)
  (jw:cW K a2 "needs" "Part.needs" ba)
  (jx:Di K mg "Named" a2 "Named.__init__" eZ ["self","name"] [])
  (jy:fv K a3)
  (jz:BW K a3)
  (j10:cW K a3 "inner" "Turned.inner" eO)
  (j11:cW K a3 "size" "Part.size" bU)
  (j12:cW K a3 "depth" "Part.depth" bG)
  (j13:cW K a3 "need_bounds" "Part.need_bounds" aX)
  (j14:cW K a3 "names" "Part.names" bH)
  (j15:cW K a3 "own_names" "Part.own_names" aP)
  (j16:cW K a3 "needs" "Part.needs" ba)
  (j17:Di K mg "Turned" a3 "Turned.__init__" eN ["self","part"] [])
  (j18:fv K a4)
  (j19:BW K a4)
  (j1a:cW K a4 "inner" "Pair.inner" fk)
  (j1b:cW K a4 "size" "Part.size" bU)
  (j1c:cW K a4 "depth" "Part.depth" bG)
  (j1d:cW K a4 "need_bounds" "Part.need_bounds" aX)
  (j1e:cW K a4 "names" "Part.names" bH)
  (j1f:cW K a4 "own_names" "Part.own_names" aP)
  (j1g:cW K a4 "needs" "Part.needs" ba)
  (j1h:Di K mg "Pair" a4 "Pair.__init__" fS ["self","sign","one","other"] [])
  (j1i:fv K a5)
  (j1j:BW K a5)
  (j1k:cW K a5 "inner" "Choice.inner" eF)
  (j1l:cW K a5 "size" "Part.size" bU)
  (j1m:cW K a5 "depth" "Part.depth" bG)
  (j1n:cW K a5 "need_bounds" "Part.need_bounds" aX)
  (j1o:cW K a5 "names" "Part.names" bH)
  (j1p:cW K a5 "own_names" "Part.own_names" aP)
  (j1q:cW K a5 "needs" "Part.needs" ba)
  (j1r:Di K mg "Choice" a5 "Choice.__init__" eE ["self","truth","one","other"] [])
  (j1s:fv K a6)
  (j1t:BW K a6)
  (j1u:cW K a6 "inner" "Before.inner" eC)
  (j1v:cW K a6 "size" "Part.size" bU)
  (j1w:cW K a6 "depth" "Part.depth" bG)
  (j1x:cW K a6 "need_bounds" "Part.need_bounds" aX)
  (j1y:cW K a6 "names" "Part.names" bH)
  (j1z:cW K a6 "own_names" "Part.own_names" aP)
  (j20:cW K a6 "needs" "Before.needs" eD)
  (j21:Di K mg "Before" a6 "Before.__init__" cj ["self","part","first"] [])
  (j22:fv K a7)
  (j23:BW K a7)
  (j24:cW K a7 "inner" "Led.inner" gb)
  (j25:cW K a7 "size" "Part.size" bU)
  (j26:cW K a7 "depth" "Part.depth" bG)
  (j27:cW K a7 "need_bounds" "Part.need_bounds" aX)
  (j28:cW K a7 "names" "Part.names" bH)
  (j29:cW K a7 "own_names" "Part.own_names" aP)
  (j2a:cW K a7 "needs" "Part.needs" ba)
  (j2b:Di K mg "Led" a7 "Led.__init__" gG ["self","head","rest"] [])
  (j2c:fv K a8)
  (j2d:BW K a8)
  (j2e:cW K a8 "inner" "When.inner" fm)
  (j2f:cW K a8 "size" "Part.size" bU)
  (j2g:cW K a8 "depth" "Part.depth" bG)
  (j2h:cW K a8 "need_bounds" "Part.need_bounds" aX)
  (j2i:cW K a8 "names" "Part.names" bH)
  (j2j:cW K a8 "own_names" "When.own_names" dA)
  (j2k:cW K a8 "needs" "Part.needs" ba)
  (j2l:Di K mg "When" a8 "When.__init__" fW ["self","part","name"] [])
  (j2m:fv K a9)
  (j2n:BW K a9)
  (j2o:cW K a9 "inner" "Held.inner" fj)
  (j2p:cW K a9 "size" "Part.size" bU)
  (j2q:cW K a9 "depth" "Part.depth" bG)
  (j2r:cW K a9 "need_bounds" "Part.need_bounds" aX)
  (j2s:cW K a9 "names" "Part.names" bH)
  (j2t:cW K a9 "own_names" "Held.own_names" cz)
  (j2u:cW K a9 "needs" "Part.needs" ba)
  (j2v:Di K mg "Held" a9 "Held.__init__" dX ["self","part","name","first"] [])
  (j2w:fv K l1)
  (j2x:J4 K l1)
  (j2y:cW K l1 "own_names" "Input.own_names" eI)
  (j2z:cW K l1 "own_parts" "Input.own_parts" eJ)
  (j30:cW K l1 "is_truths" "Input.is_truths" eG)
  (j31:Di K mg "Input" l1 "Input.__init__" c_ ["self","name","kind","on"] [])
  (j32:fv K l2)
  (j33:J4 K l2)
  (j34:cW K l2 "own_names" "Row.own_names" fU)
  (j35:cW K l2 "own_parts" "Row.own_parts" fV)
  (j36:cW K l2 "is_truths" "Row.is_truths" fT)
  (j37:Di K mg "Row" l2 "Row.__init__" eK ["self","name","kind","part","on"] [])
  (j38:fv K l3)
  (j39:J4 K l3)
  (j3a:cW K l3 "all_lines" "Sheet.all_lines" eM)
  (j3b:cW K l3 "names" "Sheet.names" gy)
  (j3c:cW K l3 "lines_by_name" "Sheet.lines_by_name" cY)
  (j3d:Di K mg "Sheet" l3 "Sheet.__init__" ee ["self","name","inputs","outputs","lines"] [])
  (j3e:kitOne K (.ref l2) (.ref l2)=some true)
  (j3f:Df K mg "has_letters" g4 ["text"])
  (j3g:Df K mg "has_word_form" fY ["text"])
  (j3h:Df K mg "is_word" oZ ["thing"])
  (j3i:Df K mg "is_name" oY ["thing"])
  (j3j:Df K mg "is_number" kI ["thing"])
  (j3k:Df K mg "is_value" mN ["thing"])
  (j3l:Df K mg "need_name" kK ["name"])
  (j3m:Df K mg "need_first" iy ["first"])
  (j3n:Df K mg "has_shape" kH ["told"])
  (j3o:Df K mg "many_within" g5 ["told"])
  (j3p:Df K mg "plain_by" mR ["told","inner"])
  (j3q:Df K mg "timed_by" mS ["told","inner"])
  (j3r:Df K mg "part_of" k_ ["told"])
  (j3s:Df K mg "once" yO ["lists"])
  (j3t:Df K mg "need_sheet" i3 ["holds","words"])
  (j3u:Df K mg "need_word" kO ["word"])
  (j3v:Df K mg "need_on" oa ["on"])
  (j3w:Df K mg "is_plain_kind" fZ ["kind"])
  (j3x:Df K mg "is_stretch" uT ["kind"])
  (j3y:Df K mg "need_counts" g6 ["sheet"])
  (j3z:Df K mg "need_once" kL ["names","words"])
  (j40:Df K mg "names_looked_at" eR ["line"])
  (j41:Df K mg "need_known" iz ["sheet","found"])
  (j42:Df K mg "need_ons" mP ["sheet","found"])
  (j43:Df K mg "need_rows" kN ["sheet"])
  (j44:Df K mg "needs_of" mQ ["sheet"])
  (j45:Df K mg "line_needs" iw ["line"])
  (j46:Df K mg "are_all_in" iu ["names","others"])
  (j47:Df K mg "is_order" mM ["sheet","names"])
  (j48:Df K mg "_law_cell" kE ["_law_script","_law_k"])
  (j49:Df K mg "_law_mixed" iq ["_law_cell_here","_law_k"])
  (j4a:Df K mg "_law_names" ir ["_law_cell_here"])
  (j4b:Df K mg "_law_inner" il ["_law_told"])
  (j4c:Df K mg "_law_leaf" kG ["_law_kind","_law_seed","_law_kinds_here"])
  (j4d:Df K mg "_law_first" ik ["_law_kind","_law_seed"])
  (j4e:Df K mg "_law_timed" eQ ["_law_kind","_law_seed","_law_deep","_law_kinds_here","_law_way"])
  (j4f:Df K mg "_law_tree" fF ["_law_kind","_law_seed","_law_deep","_law_kinds_here"])
  (j4g:Df K mg "_law_spoilt" eu ["_law_told","_law_seed","_law_kinds_here"])
  (j4h:Df K mg "_law_kinds" ip ["_law_names_here","_law_cell_here","_law_many"])
  (j4i:Df K mg "_law_needs" fq ["_law_told"])
  (j4j:Df K mg "_law_all_needs" ef ["_law_ons_here","_law_lines"])
  (j4k:Df K mg "_law_ranked" gz ["_law_names_here","_law_cell_here"])
  (j4l:Df K mg "_law_ons" mL ["_law_names_here","_law_kinds_here","_law_ranked_here","_law_cell_here"])
  (j4m:Df K mg "_law_ranked_lines" dJ ["_law_names_here","_law_kinds_here","_law_ranked_here","_law_ons_here","_law_script","_law_spoilt_here"])
  (j4n:Df K mg "_law_ranked_sheet" dM ["_law_names_here","_law_kinds_here","_law_ons_here","_law_lines"])
  (j4o:Df K mg "_law_built" ij ["_law_script","_law_most"])
  (j4p:Df K mg "_law_sheet_of" fX ["_law_built_here"])
  (j4q:Df K mg "_law_some_order" eP ["_law_needs_here","_law_cell_here"])
  (j4r:Df K mg "_law_bent" kC ["_law_names_here","_law_cell_here"])
  (j4s:Df K mg "_law_is" oX ["_law_needs_here","_law_names_here"])
  (j4t:GI mg "LONGEST_WORD" 8)
  (j4u:GI mg "MOST_WORDS" 4)
  (j4v:GI mg "LOWEST" (-128))
  (j4w:GI mg "HIGHEST" 127)
  (j4x:GI mg "DEEPEST" 10)
  (j4y:GI mg "LARGEST" 40)
  (j4z:GI mg "MOST_INPUTS" 8)
  (j50:GI mg "MOST_OUTPUTS" 8)
  (j51:GI mg "MOST_LINES" 80)
  (j52:GD K mg "LETTERS" (.str uH))
  (j53:GD K mg "KEPT_WORDS" (.tup (rg.map D.str)))
  (j54:EC w K mg "SHAPES" sa nV)
  (j55:EC w K mg "SIGNS" sb uZ)
  (j56:nsIn K mainGlobals "isinstance"=some none)
  (j57:nsIn K mainGlobals "bool"=some none)
  (j58:nsIn K mainGlobals "int"=some none)
  (j59:nsIn K mainGlobals "len"=some none)
  (j5a:nsIn K mainGlobals "all"=some none)
  (j5b:nsIn K mainGlobals "sum"=some none)
  (j5c:nsIn K mainGlobals "max"=some none)
  (j5d:nsIn K mainGlobals "range"=some none)
  (j5e:nsIn K mainGlobals "tuple"=some none)
  (j5f:nsIn K mainGlobals "list"=some none)
  (j5g:nsIn K mainGlobals "set"=some none)
  (j5h:nsIn K mainGlobals "enumerate"=some none)
  (j5i:nsIn K mainGlobals "sorted"=some none)
  (P:Program)(base:Heap)(f:Addr)(fd:FuncData)(F:xA K "law" "law" kJ f fd):cP P w K mg base pQ 26 f fd ["_law_script"] (wj K):=by
 have c1:=je.cl
 have c2:=jo.cl
 have c3:=jy.cl
 have c4:=j18.cl
 have c5:=j1i.cl
 have c6:=j1s.cl
 have c7:=j22.cl
 have c8:=j2c.cl
 have c9:=j2m.cl
 have y0:=mg_none_of X G j56
 have y1:=mg_none_of X G j57
 have y2:=mg_none_of X G j58
 have y3:=mg_none_of X G j59
 have y4:=mg_none_of X G j5a
 have y5:=mg_none_of X G j5b
 have y6:=mg_none_of X G j5c
 have y7:=mg_none_of X G j5d
 have y8:=mg_none_of X G j5e
 have y9:=mg_none_of X G j5f
 have ya:=mg_none_of X G j5g
 have yb:=mg_none_of X G j5h
 have yc:=mg_none_of X G j5i
 have hA:gT K (bR.mk a1 a2 a3 a4 a5 a6 a7 a8 a9):=⟨jc,?_,?_⟩
 rotate_left
 ·simp only[List.mem_cons,List.not_mem_nil,or_false,forall_eq_or_imp,forall_eq]
  exact⟨c1,c2,c3,c4,c5,c6,c7,c8,c9⟩
 ·intro C hC f hf
  simp only[List.mem_cons,List.not_mem_nil,or_false] at hC
  rcases hC with rfl|rfl|rfl|rfl|rfl|rfl|rfl|rfl|rfl
  ·exact jf f hf
  ·exact jp f hf
  ·exact jz f hf
  ·exact j19 f hf
  ·exact j1j f hf
  ·exact j1t f hf
  ·exact j23 f hf
  ·exact j2d f hf
  ·exact j2n f hf
 have hL:tF K (LA.mk l1 l2 l3):=⟨jd,?_,?_⟩
 rotate_left
 ·simp only[List.mem_cons,List.not_mem_nil,or_false,forall_eq_or_imp,forall_eq]
  exact⟨j2w.cl,j32.cl,j38.cl⟩
 ·intro C hC f hf
  simp only[List.mem_cons,List.not_mem_nil,or_false] at hC
  rcases hC with rfl|rfl|rfl
  ·exact j2x f hf
  ·exact j33 f hf
  ·exact j39 f hf
 have hR:Nb K (LA.mk l1 l2 l3):=⟨j32,j3e⟩
 have D_inner:nj K (bR.mk a1 a2 a3 a4 a5 a6 a7 a8 a9):=⟨jg.dm c1,jq.dm c2,j10.dm c3,j1a.dm c4,j1k.dm c5,j1u.dm c6,j24.dm c7,j2e.dm c8,j2o.dm c9⟩
 have D_own:EA K (bR.mk a1 a2 a3 a4 a5 a6 a7 a8 a9):=⟨jl.dm c1,jv.dm c2,j15.dm c3,j1f.dm c4,j1p.dm c5,j1z.dm c6,j29.dm c7,j2j.dm c8,j2t.dm c9⟩
 have D_lines:tE K (LA.mk l1 l2 l3):=⟨j2y.dm j2w.cl,j34.dm j32.cl,j2z.dm j2w.cl,j35.dm j32.cl,j30.dm j2w.cl,j36.dm j32.cl⟩
 have D_size:∀C,ur (bR.mk a1 a2 a3 a4 a5 a6 a7 a8 a9) C->Dm K C "size" "Part.size" bU ["self"]:=λC ⟨p,e⟩=>by
  subst e
  cases p
  ·exact jh.dm c1
  ·exact jr.dm c2
  ·exact j11.dm c3
  ·exact j1b.dm c4
  ·exact j1l.dm c5
  ·exact j1v.dm c6
  ·exact j25.dm c7
  ·exact j2f.dm c8
  ·exact j2p.dm c9
 have D_depth:∀C,ur (bR.mk a1 a2 a3 a4 a5 a6 a7 a8 a9) C->Dm K C "depth" "Part.depth" bG ["self"]:=λC ⟨p,e⟩=>by
  subst e
  cases p
  ·exact ji.dm c1
  ·exact js.dm c2
  ·exact j12.dm c3
  ·exact j1c.dm c4
  ·exact j1m.dm c5
  ·exact j1w.dm c6
  ·exact j26.dm c7
  ·exact j2g.dm c8
  ·exact j2q.dm c9
 have D_need_bounds:∀C,ur (bR.mk a1 a2 a3 a4 a5 a6 a7 a8 a9) C->Dm K C "need_bounds" "Part.need_bounds" aX ["self"]:=λC ⟨p,e⟩=>by
  subst e
  cases p
  ·exact jj.dm c1
  ·exact jt.dm c2
  ·exact j13.dm c3
  ·exact j1d.dm c4
  ·exact j1n.dm c5
  ·exact j1x.dm c6
  ·exact j27.dm c7
  ·exact j2h.dm c8
  ·exact j2r.dm c9
 have D_names:∀C,ur (bR.mk a1 a2 a3 a4 a5 a6 a7 a8 a9) C->Dm K C "names" "Part.names" bH ["self"]:=λC ⟨p,e⟩=>by
  subst e
  cases p
  ·exact jk.dm c1
  ·exact ju.dm c2
  ·exact j14.dm c3
  ·exact j1e.dm c4
  ·exact j1o.dm c5
  ·exact j1y.dm c6
  ·exact j28.dm c7
  ·exact j2i.dm c8
  ·exact j2s.dm c9
 have D_needs:BU K (bR.mk a1 a2 a3 a4 a5 a6 a7 a8 a9):=⟨λC ⟨p,e⟩ hne=>by
  subst e
  cases p
  ·exact jm.dm c1
  ·exact jw.dm c2
  ·exact j16.dm c3
  ·exact j1g.dm c4
  ·exact j1q.dm c5
  ·exact absurd rfl hne
  ·exact j2a.dm c7
  ·exact j2k.dm c8
  ·exact j2u.dm c9
  ,j20.dm c6⟩
 have s1:=jK (P:=P) (w:=w) (base:=base) (j:=0) j3j y0 y1 y2 j4v j4w
 have s2:=fw j3k y0 y1 s1
 have s3:=dj j3m s2
 have w1:=gr (P:=P) (w:=w) (base:=base) (j:=0) j3f y3 y4 j52
 have w2:=cT j3g y3 j4t w1
 have w3:=g9 j3h j53 w2
 have w4:=nv j3i y3 y4 j4u w3 (w2.up (by omega))
 have w5:=bS j3l w4
 have mSize:=Dk (P:=P) (w:=w) (base:=base) hA D_inner D_size y5 10
 have mDepth:=AM (P:=P) (w:=w) (base:=base) hA D_inner D_depth y6 10
 have mBounds:=AG D_need_bounds mDepth mSize j4x j4y
 have k1:=xQ (j:=12) (A:=(bR.mk a1 a2 a3 a4 a5 a6 a7 a8 a9)) c1 (hA.g7 a1 (by simp) "value" (by decide)) jn (s2.up (by omega))
 have k2:=xR (j:=12) hA jx (w5.up (by omega))
 have k3:=vk (j:=12) hA j17 mBounds
 have k4:=AY (j:=12) hA j1h j55 mBounds
 have k5:=vj (j:=12) hA j1r mBounds
 have k6:=vi (j:=12) hA j21 (s3.up (by omega)) mBounds
 have k7:=CD (j:=12) hA j2b mBounds
 have k8:=AZ (j:=12) hA j2l (w5.up (by omega)) mBounds
 have k9:=AX (j:=12) hA j2v (w5.up (by omega)) (s3.up (by omega)) mBounds
 have p1:=e9 (P:=P) (base:=base) (j:=0) j3n y3 j54
 have p0:=gu j3o j54 p1
 have p2:=l5 (n:=10) (j:=14) j3p (by omega) k1 k2 k3 k5
 have p3:=l6 (n:=10) (j:=14) j3q (by omega) k6 k7 k8 k9
 have p4:=wO j3r p0 p1 p2 p3 k4 4 (by omega)
 have nm1:=He (P:=P) (w:=w) (base:=base) (j:=0) j3s
 have nm2:=rz hA D_inner D_own nm1 D_names 4
 have K0:=r0 hA D_inner D_own nm1 D_needs 4
 have ll1:=As (P:=P) (w:=w) (mg:=mg) (base:=base) (A:=(bR.mk a1 a2 a3 a4 a5 a6 a7 a8 a9)) (j:=0) hL D_lines y9
 have ll1':∀C,CF (LA.mk l1 l2 l3) C->cA P w K mg base 1 C "own_names" (D_ (bR.mk a1 a2 a3 a4 a5 a6 a7 a8 a9) (LA.mk l1 l2 l3) (λx=>.lst (x.own.map D.str)) C) []:=λC hC=>(ll1 C hC).dN Ko λds Q ⟨x,e,c,o,q⟩=>⟨x,e,c,o,λa=>by dsimp only;rw[fK];exact q⟩
 have ll2:=wQ (P:=P) (w:=w) (mg:=mg) (base:=base) (A:=(bR.mk a1 a2 a3 a4 a5 a6 a7 a8 a9)) (j:=4) hL D_lines
 have ll3:=uj (P:=P) (w:=w) (mg:=mg) (base:=base) (A:=(bR.mk a1 a2 a3 a4 a5 a6 a7 a8 a9)) (j:=0) hL D_lines
 have sh1:=z_ (P:=P) (w:=w) (mg:=mg) (base:=base) (A:=(bR.mk a1 a2 a3 a4 a5 a6 a7 a8 a9)) (j:=0) hL (j3a.dm j38.cl)
 have sh2:=wC (j3b.dm j38.cl) sh1 ll1
 have sh3:=EN (j3c.dm j38.cl) sh1 ll1'
 have sh2':∀C,BM (LA.mk l1 l2 l3) C->cA P w K mg base 2 C "names" (oh (bR.mk a1 a2 a3 a4 a5 a6 a7 a8 a9) (LA.mk l1 l2 l3) (λ_=>True) (λs=>.lst (s.names.map D.str)) C) []:=λC hC=>(sh2 C hC).dN IY λds Q ⟨s,e,c,o,_,q⟩=>⟨s,e,c,o,λa=>by dsimp only;rw[fK];exact q⟩
 have u1:=ag (P:=P) (w:=w) (base:=base) (j:=0) j3t
 have u2:=jM j3u w3
 have u3:=g_ j3v w5
 have u4:=cU (P:=P) (w:=w) (base:=base) (j:=0) j3w
 have u5:av P w K mg base 7 "is_stretch" ["kind"] F5:=Df.never j3x λds Q h=>h
 have u6:=gv (A:=(bR.mk a1 a2 a3 a4 a5 a6 a7 a8 a9)) hL j3y y3 j4z j50 j51 u1
 have u7:=gW j3z y3 ya u1
 have u8:=Bk hL j40 ll2 nm2
 have u9:=iR (j:=6) hL j41 y9 (λC hC=>(sh1 C hC).up (by omega)) u8 (u1.up (by omega))
 have u10:=l0 hL j42 sh1 ll3 u1
 have f1:=Ey (j:=7) hL j31 (w5.up (by omega)) (u3.up (by omega)) (u1.up (by omega)) (u4.up (by omega)) u5
 have f2:=Kg (j:=7) hL j37 (w5.up (by omega)) (u3.up (by omega)) (u1.up (by omega)) (u4.up (by omega))
 have f5:=Ez (j:=7) hL j3d y8 (u2.up (by omega)) (u6.up (by omega)) (u7.up (by omega)) (λC hC=>(sh2' C hC).up (by omega)) (λC hC=>(sh3 C hC).up (by omega)) u9 (u10.up (by omega))
 have q1:=jL (A:=(bR.mk a1 a2 a3 a4 a5 a6 a7 a8 a9)) hL hR j43 y0 (mg_of X G ja) u1
 have q2:=iQ hL j45 ll2 K0
 have q3:=l4 (j:=6) hL j44 (q1.up (by omega)) (λC hC=>(sh1 C hC).up (by omega)) q2
 have q4:=iP (P:=P) (w:=w) (base:=base) (j:=0) j46 y4
 have q5:=lz j47 y3 q3 (q4.up (by omega))
 have t1:=λj=>EV (P:=P) (w:=w) (base:=base) (j:=j) j49
 have t2:=Hc (P:=P) (w:=w) (base:=base) (j:=0) j48 y3
 have t3:=EW (P:=P) (w:=w) (base:=base) (j:=0) j4a y7
 have t4:=λj=>Hd (j:=j+1) j4c y3 (t1 j)
 have t5:=λj=>ER (j:=j+1) j4d (t1 j)
 have t6:=wu j4f j4e y3 t1 t4 t5 2 0
 have t7:=λj=>Bj (P:=P) (w:=w) (base:=base) (j:=j) j4b y9
 have t8:=qv j4g y3 y8 t1 t4 t7 4
 have t9:=qa j4i t7 4
 have ta:=ET (j:=1) j4h y7 (t1 0)
 have tb:=Bb (j:=1) j4k yb (t1 0)
 have tc:=J9 (j:=1) j4l yb y3 (t1 0)
 have td:=EU (j:=8) j4m yb (t1 7) (t2.up (by omega)) (t6.up (by omega)) (t8.up (by omega))
 have te:=vD (j:=5) j4j t9
 have tf:=EX (N:=4) (i:=8) (j:=19) (by omega) (by omega) j4n p4 f1 f2 f5
 have tg:=EO (j:=9) j4o y3 (t1 8) (t2.up (by omega)) (t3.up (by omega)) (ta.up (by omega)) (tb.up (by omega)) (tc.up (by omega)) td
 have th:=xF (j:=20) j4p tf
 have ti:=Hf (j:=1) j4q y7 y3 (t1 0)
 have tj:=Hb (j:=1) j4r y3 y9 (t1 0)
 have tk:=MU (P:=P) (w:=w) (base:=base) (j:=0) j4s yc yb
 have R:=Iu (j:=25) F y7 y3 y9 y8 y0 y1 (t1 24) (t2.up (by omega)) (tg.up (by omega)) (th.up (by omega)) (te.up (by omega)) (ti.up (by omega)) (tj.up (by omega)) (q5.up (by omega)) (tk.up (by omega))
 exact cP.sub R λvs H Q E ⟨q,ns,e,hS,hl,k⟩=>⟨[.lst (ns.map D.int)],e ▸ .cons (.lst hS (vX ns)) .nil,ns,rfl,λv H' _ dv=>by cases dv;exact k H'⟩
theorem all_mk {l:PySem.W.OpenLaw}{w:World}{K:PySem.W.Frag}{h:Heap}{mg:Str->Option Value}{fa f1:Addr}(X:K.In h)(G:h.Ns mainGlobals mg)(hfa:mg "law"=some (.ref fa))
  {od1 an1:Option Addr}{sl1:Array (Option Value)}{oc1 kV1 dc1 pm1 cd1 ct1:Value}
  (la:nsIn K mainGlobals "law"=some (some (.ref f1)))(ll:K.lookup f1=some ⟨oc1,od1,.func (fnOf "law" "law" (cw kJ) (bE kJ) (aC kJ) .none kV1 dc1 pm1 an1 cd1 ct1),sl1⟩)(lc:codeIn K cd1 "law"=true)(lk:keepIn K (.ref f1)=true)
  (R:∀(P:Program) (base:Heap) (f:Addr) (fd:FuncData),xA K "law" "law" kJ f fd->cP P w K mg base pQ 26 f fd ["_law_script"] (wj K))
  : ∃fd:FuncData,(∀(s:Shared) (v:Value),BindsTo s fd ⟨[v],[]⟩ [("_law_script",v)])/\∀base:Heap,K.In base->base.Ns mainGlobals mg->cP l.prog w K mg base pQ 26 fa fd ["_law_script"] (wj K):=by
 have e:=hfa.symm.trans (mg_of X G la)
 cases e
 exact⟨fnOf "law" "law" (cw kJ) (bE kJ) (aC kJ) .none kV1 dc1 pm1 an1 cd1 ct1,λs v=>.of_eq rfl,λbase _ _=>R _ base _ _ (n9 (st:=kJ) ll lc lk)⟩
theorem walk {l:PySem.W.OpenLaw}{q:Program}{loose:List Str}{XP:(Str->Option Value)->Heap->Prop}{YP:World->Heap->Prop}{d:DefRec}{K:Params->PySem.W.Frag}(hn:l.most=some 63)(hdf:d.params.defaults=[])
  (hY:∀(w:World) (h:Heap),YP w h->(K w.params).In h)
  (F:∀(w:World) (mg:Str->Option Value) (fa:Addr) (h:Heap),(K w.params).In h->h.Ns mainGlobals mg->mg d.name=some (.ref fa) ->
   ∃fd:FuncData,(∀(s:Shared) (u:Value),BindsTo s fd ⟨[u],[]⟩ [("_law_script",u)])/\∀base:Heap,(K w.params).In base->base.Ns mainGlobals mg->cP l.prog w (K w.params) mg base pQ 26 fa fd ["_law_script"] (wj (K w.params))) :
  PySem.W.WalkO q loose XP YP l.row.toRowW d [] (λf vs=>PySem.call f vs) :=
 L2.GX (n:=63) (k:=26) (x:="_law_script") (CX:=λ_=>pQ) (sp:=λw=>wj (K w.params)) hn (by decide) hdf ⟨rfl,by decide,by decide⟩ hY F (λ_ _ a ns hl _ hS=>⟨a,ns,rfl,hS,hl,λ_=>rfl⟩) λ_ _ _ _ _ z=>z
end K43
open PySem PySem.W PyProof.Rows
set_option maxRecDepth 100000 in
set_option maxHeartbeats 0 in
theorem PySem.Challenge.cw_runrows_k43_lists_that_are_orders_holds : PySem.Challenge.rw_runrows_k43_lists_that_are_orders.Holds := by
 refine HK.hd ?_
 k_fill
 refine K43.walk (l:=PySem.Challenge.rw_runrows_k43_lists_that_are_orders) rfl rfl (λw h Y=>HK.fIn_of Y) ?F
 case F =>
  intro w mg fa h KX G hmg
  refine' K43.all_mk KX G hmg ?la ?ll ?lc ?lk (K43.HY KX G ?j0 ?j1 ?j2 ?j3 ?j4 ?j5 ?j6 ?j7 ?j8 ?j9 ?ja ?jb ?jc ?jd ?je ?jf ?jg ?jh ?ji ?jj ?jk ?jl ?jm ?jn ?jo ?jp ?jq ?jr ?js ?jt ?ju ?jv ?jw ?jx ?jy ?jz ?j10 ?j11 ?j12 ?j13 ?j14 ?j15 ?j16 ?j17 ?j18 ?j19 ?j1a ?j1b ?j1c ?j1d ?j1e ?j1f ?j1g ?j1h ?j1i ?j1j ?j1k ?j1l ?j1m ?j1n ?j1o ?j1p ?j1q ?j1r ?j1s ?j1t ?j1u ?j1v ?j1w ?j1x ?j1y ?j1z ?j20 ?j21 ?j22 ?j23 ?j24 ?j25 ?j26 ?j27 ?j28 ?j29 ?j2a ?j2b ?j2c ?j2d ?j2e ?j2f ?j2g ?j2h ?j2i ?j2j ?j2k ?j2l ?j2m ?j2n ?j2o ?j2p ?j2q ?j2r ?j2s ?j2t ?j2u ?j2v ?j2w ?j2x ?j2y ?j2z ?j30 ?j31 ?j32 ?j33 ?j34 ?j35 ?j36 ?j37 ?j38 ?j39 ?j3a ?j3b ?j3c ?j3d ?j3e ?j3f ?j3g ?j3h ?j3i ?j3j ?j3k ?j3l ?j3m ?j3n ?j3o ?j3p ?j3q ?j3r ?j3s ?j3t ?j3u ?j3v ?j3w ?j3x ?j3y ?j3z ?j40 ?j41 ?j42 ?j43 ?j44 ?j45 ?j46 ?j47 ?j48 ?j49 ?j4a ?j4b ?j4c ?j4d ?j4e ?j4f ?j4g ?j4h ?j4i ?j4j ?j4k ?j4l ?j4m ?j4n ?j4o ?j4p ?j4q ?j4r ?j4s ?j4t ?j4u ?j4v ?j4w ?j4x ?j4y ?j4z ?j50 ?j51 ?j52 ?j53 ?j54 ?j55 ?j56 ?j57 ?j58 ?j59 ?j5a ?j5b ?j5c ?j5d ?j5e ?j5f ?j5g ?j5h ?j5i)
  (case la=>k_is)
  (case ll=>k_is)
  (case lc=>k_is)
  (case lk=>k_is)
  (case j0=>k_is)
  (case j1=>k_is)
  (case j2=>k_is)
  (case j3=>k_is)
  (case j4=>k_is)
  (case j5=>k_is)
  (case j6=>k_is)
  (case j7=>k_is)
  (case j8=>k_is)
  (case j9=>k_is)
  (case ja=>k_is)
  (case jb=>k_is)
  (case jc=>decide)
  (case jd=>decide)
  (case je=>exact K43.fQ)
  (case jf=>exact K43.iY)
  (case jg=>exact K43.aT)
  (case jh=>exact K43.aT)
  (case ji=>exact K43.aT)
  (case jj=>exact K43.aT)
  (case jk=>exact K43.aT)
  (case jl=>exact K43.aT)
  (case jm=>exact K43.aT)
  (case jn=>exact K43.o5 KX G)
  (case jo=>exact K43.fQ)
  (case jp=>exact K43.iY)
  (case jq=>exact K43.aT)
  (case jr=>exact K43.aT)
  (case js=>exact K43.aT)
  (case jt=>exact K43.aT)
  (case ju=>exact K43.aT)
  (case jv=>exact K43.aT)
  (case jw=>exact K43.aT)
  (case jx=>exact K43.o5 KX G)
  (case jy=>exact K43.fQ)
  (case jz=>exact K43.iY)
  (case j10=>exact K43.aT)
  (case j11=>exact K43.aT)
  (case j12=>exact K43.aT)
  (case j13=>exact K43.aT)
  (case j14=>exact K43.aT)
  (case j15=>exact K43.aT)
  (case j16=>exact K43.aT)
  (case j17=>exact K43.o5 KX G)
  (case j18=>exact K43.fQ)
  (case j19=>exact K43.iY)
  (case j1a=>exact K43.aT)
  (case j1b=>exact K43.aT)
  (case j1c=>exact K43.aT)
  (case j1d=>exact K43.aT)
  (case j1e=>exact K43.aT)
  (case j1f=>exact K43.aT)
  (case j1g=>exact K43.aT)
  (case j1h=>exact K43.o5 KX G)
  (case j1i=>exact K43.fQ)
  (case j1j=>exact K43.iY)
  (case j1k=>exact K43.aT)
  (case j1l=>exact K43.aT)
  (case j1m=>exact K43.aT)
  (case j1n=>exact K43.aT)
  (case j1o=>exact K43.aT)
  (case j1p=>exact K43.aT)
  (case j1q=>exact K43.aT)
  (case j1r=>exact K43.o5 KX G)
  (case j1s=>exact K43.fQ)
  (case j1t=>exact K43.iY)
  (case j1u=>exact K43.aT)
  (case j1v=>exact K43.aT)
  (case j1w=>exact K43.aT)
  (case j1x=>exact K43.aT)
  (case j1y=>exact K43.aT)
  (case j1z=>exact K43.aT)
  (case j20=>exact K43.aT)
  (case j21=>exact K43.tP KX G K43.mX)
  (case j22=>exact K43.fQ)
  (case j23=>exact K43.iY)
  (case j24=>exact K43.aT)
  (case j25=>exact K43.aT)
  (case j26=>exact K43.aT)
  (case j27=>exact K43.aT)
  (case j28=>exact K43.aT)
  (case j29=>exact K43.aT)
  (case j2a=>exact K43.aT)
  (case j2b=>exact K43.o5 KX G)
  (case j2c=>exact K43.fQ)
  (case j2d=>exact K43.iY)
  (case j2e=>exact K43.aT)
  (case j2f=>exact K43.aT)
  (case j2g=>exact K43.aT)
  (case j2h=>exact K43.aT)
  (case j2i=>exact K43.aT)
  (case j2j=>exact K43.aT)
  (case j2k=>exact K43.aT)
  (case j2l=>exact K43.o5 KX G)
  (case j2m=>exact K43.fQ)
  (case j2n=>exact K43.iY)
  (case j2o=>exact K43.aT)
  (case j2p=>exact K43.aT)
  (case j2q=>exact K43.aT)
  (case j2r=>exact K43.aT)
  (case j2s=>exact K43.aT)
  (case j2t=>exact K43.aT)
  (case j2u=>exact K43.aT)
  (case j2v=>exact K43.tP KX G K43.pR)
  (case j2w=>exact K43.fQ)
  (case j2x=>exact K43.xv)
  (case j2y=>exact K43.aT)
  (case j2z=>exact K43.aT)
  (case j30=>exact K43.aT)
  (case j31=>exact K43.tP KX G K43.nu)
  (case j32=>exact K43.fQ)
  (case j33=>exact K43.xv)
  (case j34=>exact K43.aT)
  (case j35=>exact K43.aT)
  (case j36=>exact K43.aT)
  (case j37=>exact K43.tP KX G K43.p8)
  (case j38=>exact K43.fQ)
  (case j39=>exact K43.xv)
  (case j3a=>exact K43.aT)
  (case j3b=>exact K43.aT)
  (case j3c=>exact K43.aT)
  (case j3d=>exact K43.o5 KX G)
  (case j3e=>kit_is)
  (case j3f=>exact K43.az KX G)
  (case j3g=>exact K43.az KX G)
  (case j3h=>exact K43.az KX G)
  (case j3i=>exact K43.az KX G)
  (case j3j=>exact K43.az KX G)
  (case j3k=>exact K43.az KX G)
  (case j3l=>exact K43.az KX G)
  (case j3m=>exact K43.az KX G)
  (case j3n=>exact K43.az KX G)
  (case j3o=>exact K43.az KX G)
  (case j3p=>exact K43.az KX G)
  (case j3q=>exact K43.az KX G)
  (case j3r=>exact K43.az KX G)
  (case j3s=>exact K43.az KX G)
  (case j3t=>exact K43.az KX G)
  (case j3u=>exact K43.az KX G)
  (case j3v=>exact K43.az KX G)
  (case j3w=>exact K43.az KX G)
  (case j3x=>exact K43.az KX G)
  (case j3y=>exact K43.az KX G)
  (case j3z=>exact K43.az KX G)
  (case j40=>exact K43.az KX G)
  (case j41=>exact K43.az KX G)
  (case j42=>exact K43.az KX G)
  (case j43=>exact K43.az KX G)
  (case j44=>exact K43.az KX G)
  (case j45=>exact K43.az KX G)
  (case j46=>exact K43.az KX G)
  (case j47=>exact K43.az KX G)
  (case j48=>exact K43.az KX G)
  (case j49=>exact K43.az KX G)
  (case j4a=>exact K43.az KX G)
  (case j4b=>exact K43.az KX G)
  (case j4c=>exact K43.az KX G)
  (case j4d=>exact K43.az KX G)
  (case j4e=>exact K43.az KX G)
  (case j4f=>exact K43.az KX G)
  (case j4g=>exact K43.az KX G)
  (case j4h=>exact K43.az KX G)
  (case j4i=>exact K43.az KX G)
  (case j4j=>exact K43.az KX G)
  (case j4k=>exact K43.az KX G)
  (case j4l=>exact K43.az KX G)
  (case j4m=>exact K43.az KX G)
  (case j4n=>exact K43.az KX G)
  (case j4o=>exact K43.az KX G)
  (case j4p=>exact K43.az KX G)
  (case j4q=>exact K43.az KX G)
  (case j4r=>exact K43.az KX G)
  (case j4s=>exact K43.az KX G)
  (case j4t=>exact K43.mq KX G (by k_is))
  (case j4u=>exact K43.mq KX G (by k_is))
  (case j4v=>exact K43.mq KX G (by k_is))
  (case j4w=>exact K43.mq KX G (by k_is))
  (case j4x=>exact K43.mq KX G (by k_is))
  (case j4y=>exact K43.mq KX G (by k_is))
  (case j4z=>exact K43.mq KX G (by k_is))
  (case j50=>exact K43.mq KX G (by k_is))
  (case j51=>exact K43.mq KX G (by k_is))
  (case j52=>exact K43.KU KX G (by k_is))
  (case j53=>refine' K43.KW KX G ?e (K43.cq (K43.rg.map L2.V.str) ?l ?z ?v (K43.AR K43.rg));(case e=>k_is);(case l=>k_is);(case z=>exact Nat.le_of_ble_eq_true rfl);(case v=>exact(.cons ⟨_,rfl⟩ (.cons ⟨_,rfl⟩ (.cons ⟨_,rfl⟩ (.cons ⟨_,rfl⟩ (.cons ⟨_,rfl⟩ (.cons ⟨_,rfl⟩ (.cons ⟨_,rfl⟩ (.cons ⟨_,rfl⟩ (.cons ⟨_,rfl⟩ (.cons ⟨_,rfl⟩ (.cons ⟨_,rfl⟩ (.cons ⟨_,rfl⟩ (.cons ⟨_,rfl⟩ (.cons ⟨_,rfl⟩ (.cons ⟨_,rfl⟩ (.cons ⟨_,rfl⟩ (.cons ⟨_,rfl⟩ (.cons ⟨_,rfl⟩ (.cons ⟨_,rfl⟩ (.nil))))))))))))))))))))))
  (case j54=>refine' K43.Gw KX G ?e ?l ?k ?h ?s ?t;(case e=>k_is);(case l=>k_is);(case k=>k_keys);(case h=>exact(K43.bu rfl rfl (K43.bu rfl rfl (K43.bu rfl rfl (K43.bu rfl rfl (K43.bu rfl rfl (K43.bu rfl rfl (K43.bu rfl rfl (K43.bu rfl rfl (.nil))))))))));(case s=>exact rfl);(case t=>refine' (.cons ?q0 (.cons ?q1 (.cons ?q2 (.cons ?q3 (.cons ?q4 (.cons ?q5 (.cons ?q6 (.cons ?q7 (.nil)))))))));(case q0=>refine' K43.cq [(.int 2),(.int 0)] ?l ?z ?v ?d;(case l=>k_is);(case z=>exact Nat.le_of_ble_eq_true rfl);(case v=>exact .cons ⟨_,rfl⟩ (.cons ⟨_,rfl⟩ .nil));(case d=>exact λ_=>.cons (.int _) (.cons (.int _) .nil)));(case q1=>refine' K43.cq [(.int 2),(.int 0)] ?l ?z ?v ?d;(case l=>k_is);(case z=>exact Nat.le_of_ble_eq_true rfl);(case v=>exact .cons ⟨_,rfl⟩ (.cons ⟨_,rfl⟩ .nil));(case d=>exact λ_=>.cons (.int _) (.cons (.int _) .nil)));(case q2=>refine' K43.cq [(.int 2),(.int 1)] ?l ?z ?v ?d;(case l=>k_is);(case z=>exact Nat.le_of_ble_eq_true rfl);(case v=>exact .cons ⟨_,rfl⟩ (.cons ⟨_,rfl⟩ .nil));(case d=>exact λ_=>.cons (.int _) (.cons (.int _) .nil)));(case q3=>refine' K43.cq [(.int 4),(.int 3)] ?l ?z ?v ?d;(case l=>k_is);(case z=>exact Nat.le_of_ble_eq_true rfl);(case v=>exact .cons ⟨_,rfl⟩ (.cons ⟨_,rfl⟩ .nil));(case d=>exact λ_=>.cons (.int _) (.cons (.int _) .nil)));(case q4=>refine' K43.cq [(.int 3),(.int 1)] ?l ?z ?v ?d;(case l=>k_is);(case z=>exact Nat.le_of_ble_eq_true rfl);(case v=>exact .cons ⟨_,rfl⟩ (.cons ⟨_,rfl⟩ .nil));(case d=>exact λ_=>.cons (.int _) (.cons (.int _) .nil)));(case q5=>refine' K43.cq [(.int 3),(.int 2)] ?l ?z ?v ?d;(case l=>k_is);(case z=>exact Nat.le_of_ble_eq_true rfl);(case v=>exact .cons ⟨_,rfl⟩ (.cons ⟨_,rfl⟩ .nil));(case d=>exact λ_=>.cons (.int _) (.cons (.int _) .nil)));(case q6=>refine' K43.cq [(.int 3),(.int 1)] ?l ?z ?v ?d;(case l=>k_is);(case z=>exact Nat.le_of_ble_eq_true rfl);(case v=>exact .cons ⟨_,rfl⟩ (.cons ⟨_,rfl⟩ .nil));(case d=>exact λ_=>.cons (.int _) (.cons (.int _) .nil)));(case q7=>refine' K43.cq [(.int 4),(.int 1)] ?l ?z ?v ?d;(case l=>k_is);(case z=>exact Nat.le_of_ble_eq_true rfl);(case v=>exact .cons ⟨_,rfl⟩ (.cons ⟨_,rfl⟩ .nil));(case d=>exact λ_=>.cons (.int _) (.cons (.int _) .nil)))))
  (case j55=>refine' K43.Gw KX G ?e ?l ?k ?h ?s ?t;(case e=>k_is);(case l=>k_is);(case k=>k_keys);(case h=>exact(K43.bu rfl rfl (K43.bu rfl rfl (K43.bu rfl rfl (K43.bu rfl rfl (K43.bu rfl rfl (K43.bu rfl rfl (K43.bu rfl rfl (K43.bu rfl rfl (.nil))))))))));(case s=>exact rfl);(case t=>refine' (.cons ?q0 (.cons ?q1 (.cons ?q2 (.cons ?q3 (.cons ?q4 (.cons ?q5 (.cons ?q6 (.cons ?q7 (.nil)))))))));(case q0=>refine' K43.cq [(.str "number"),(.str "number")] ?l ?z ?v ?d;(case l=>k_is);(case z=>exact Nat.le_of_ble_eq_true rfl);(case v=>exact .cons ⟨_,rfl⟩ (.cons ⟨_,rfl⟩ .nil));(case d=>exact λ_=>.cons (.str _) (.cons (.str _) .nil)));(case q1=>refine' K43.cq [(.str "number"),(.str "number")] ?l ?z ?v ?d;(case l=>k_is);(case z=>exact Nat.le_of_ble_eq_true rfl);(case v=>exact .cons ⟨_,rfl⟩ (.cons ⟨_,rfl⟩ .nil));(case d=>exact λ_=>.cons (.str _) (.cons (.str _) .nil)));(case q2=>refine' K43.cq [(.str "number"),(.str "number")] ?l ?z ?v ?d;(case l=>k_is);(case z=>exact Nat.le_of_ble_eq_true rfl);(case v=>exact .cons ⟨_,rfl⟩ (.cons ⟨_,rfl⟩ .nil));(case d=>exact λ_=>.cons (.str _) (.cons (.str _) .nil)));(case q3=>refine' K43.cq [.ak,(.str "truth")] ?l ?z ?v ?d;(case l=>k_is);(case z=>exact Nat.le_of_ble_eq_true rfl);(case v=>exact .cons rfl (.cons ⟨_,rfl⟩ .nil));(case d=>exact λ_=>.cons .ak (.cons (.str _) .nil)));(case q4=>refine' K43.cq [(.str "number"),(.str "truth")] ?l ?z ?v ?d;(case l=>k_is);(case z=>exact Nat.le_of_ble_eq_true rfl);(case v=>exact .cons ⟨_,rfl⟩ (.cons ⟨_,rfl⟩ .nil));(case d=>exact λ_=>.cons (.str _) (.cons (.str _) .nil)));(case q5=>refine' K43.cq [(.str "number"),(.str "truth")] ?l ?z ?v ?d;(case l=>k_is);(case z=>exact Nat.le_of_ble_eq_true rfl);(case v=>exact .cons ⟨_,rfl⟩ (.cons ⟨_,rfl⟩ .nil));(case d=>exact λ_=>.cons (.str _) (.cons (.str _) .nil)));(case q6=>refine' K43.cq [(.str "truth"),(.str "truth")] ?l ?z ?v ?d;(case l=>k_is);(case z=>exact Nat.le_of_ble_eq_true rfl);(case v=>exact .cons ⟨_,rfl⟩ (.cons ⟨_,rfl⟩ .nil));(case d=>exact λ_=>.cons (.str _) (.cons (.str _) .nil)));(case q7=>refine' K43.cq [(.str "truth"),(.str "truth")] ?l ?z ?v ?d;(case l=>k_is);(case z=>exact Nat.le_of_ble_eq_true rfl);(case v=>exact .cons ⟨_,rfl⟩ (.cons ⟨_,rfl⟩ .nil));(case d=>exact λ_=>.cons (.str _) (.cons (.str _) .nil)))))
  (case j56=>k_is)
  (case j57=>k_is)
  (case j58=>k_is)
  (case j59=>k_is)
  (case j5a=>k_is)
  (case j5b=>k_is)
  (case j5c=>k_is)
  (case j5d=>k_is)
  (case j5e=>k_is)
  (case j5f=>k_is)
  (case j5g=>k_is)
  (case j5h=>k_is)
  (case j5i=>k_is)
#print axioms PySem.Challenge.cw_runrows_k43_lists_that_are_orders_holds