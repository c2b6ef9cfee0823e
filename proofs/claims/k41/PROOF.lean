import PyProof.Rows.All
import Wide.All
import OpenK.AllK
import Wide.FinOn
import Lean
import PyProof.EqAt
import PyProof.EqKinds
import PyProof.TupleCall
import PyProof.ExcAttrAll.ValueError
import PyProof.EnumMake
import PyProof.EnumStmt
import PyProof.Rows.EnumRows
import KE.KDictOf
import KE.KEqDict
import PyProof.Draws
import KE.KDictSum
import PyProof.Rows.SortStr
import PyProof.Rows.SetFrom
import PyProof.WalksMore
import PyProof.TupleIter
import PyProof.DictIter
import PyProof.DictWalks
import KE.KDictList
import PySem.Challenge.RW_runrows_k41_what_is_needed
set_option Elab.async false
set_option linter.all false
set_option maxRecDepth 100000
set_option maxHeartbeats 4000000
open PySem.W (instObj methodObj lookIn plainGet hasDictIn findIn plainGet_of isFn plainOver takerIn makesIn emptyDict keepIn fnOf codeIn kitOne mapOf_K nsIn mg_of binds_K mg_none_of)
namespace HK
open PySem PySem.W PyProof.Rows
def b7 (o:Obj):Option Obj:=match o with
 | ⟨_,_,.freed,_⟩=>none
 | o=>some o
theorem get_look (h:Heap)(a:Addr):h.get? a=(h.objs.toList[a]?).bind b7:=by
 unfold Heap.get?
 rw [Array.getElem?_toList]
 cases h.objs[a]? with
 | none=>rfl
 | some o =>
  obtain⟨c,d,x,s⟩:=o
  cases x<;>rfl
noncomputable def pick (os:List Obj):Nat->List Addr->List (Option Obj) :=
 List.rec (motive:=fun _=>Nat->List Addr->List (Option Obj)) (fun _ as=>as.map fun _=>none)
  (fun o _ ih i as=>List.casesOn (motive:=fun _=>List (Option Obj)) as [] fun a r=>cond (Nat.beq i a) (b7 o::ih (Nat.succ i) r) (ih (Nat.succ i) (a::r))) os
def upB:Nat->List Addr->Bool
 | _,[]=>true
 | i,a::r=>Nat.ble i a&&upB (Nat.succ a) r
theorem upB_mono:∀{as:List Addr} {i j:Nat},i<=j->upB j as=true->upB i as=true
 | [],_,_,_,_=>rfl
 | a::r,i,j,h,u=>by
  unfold upB at u ⊢
  rw [Bool.and_eq_true] at u ⊢
  exact⟨Nat.ble_eq_true_of_le (Nat.le_trans h (Nat.le_of_ble_eq_true u.1)),u.2⟩
theorem pick_of:∀(os:List Obj) (i:Nat) (as:List Addr),upB i as=true->pick os i as=as.map fun a=>(os[a - i]?).bind b7
 | [],i,as,_=>by
  show as.map (fun _=>none)=_
  apply List.map_congr_left
  intro a _
  simp
 | o::os,i,[],_=>rfl
 | o::os,i,a::r,u=>by
  have u':=u
  unfold upB at u
  rw [Bool.and_eq_true] at u
  have hle:=Nat.le_of_ble_eq_true u.1
  show cond (Nat.beq i a) (b7 o::pick os (Nat.succ i) r) (pick os (Nat.succ i) (a::r))=_
  have step:∀ l:List Addr,upB (Nat.succ i) l=true->(l.map fun a=>(os[a - Nat.succ i]?).bind b7)=l.map fun a=>((o::os)[a - i]?).bind b7:=by
   intro l hl
   apply List.map_congr_left
   intro b hb
   have hb':i+1<=b:=by
    clear u u' hle
    induction l generalizing i with
    | nil=>cases hb
    | cons c l ih =>
     unfold upB at hl
     rw [Bool.and_eq_true] at hl
     have h1:=Nat.le_of_ble_eq_true hl.1
     rcases List.mem_cons.mp hb with rfl|hb
     ·exact h1
     ·exact Nat.le_trans (by omega) (ih (i:=c) hl.2 hb)
   rw [show b - i=(b - (i+1))+1 by omega]
   rfl
  cases e:Nat.beq i a with
  | true =>
   have:i=a:=Nat.eq_of_beq_eq_true e
   subst this
   show b7 o::pick os (Nat.succ i) r=_
   rw [pick_of os _ r u.2,step r u.2,List.map_cons,Nat.sub_self]
   rfl
  | false =>
   have ne:i≠a:=Nat.ne_of_beq_eq_false e
   show pick os (Nat.succ i) (a::r)=_
   have ua:upB (Nat.succ i) (a::r)=true:=by
    unfold upB
    rw [Bool.and_eq_true]
    exact⟨Nat.ble_eq_true_of_le (by omega),u.2⟩
   rw [pick_of os _ (a::r) ua,step _ ua]
noncomputable def fHook (K:Params->Frag)(as:List Addr)(e:∀ P,as=(K P).map (·.1))(u:upB 0 as=true)(_:Unit):Hook :=
 ⟨List (Option Obj),fun s=>pick s.heap.objs.toList 0 as,fun w=>(K w.params).map fun p=>some p.2,InK K,fun w s x=>InK.of e w s (by
  rw [<- x,pick_of _ _ _ u]
  apply List.map_congr_left
  intro a _
  exact get_look _ _),InK.keeps⟩
theorem fIn_of {K:Params->Frag}{as:List Addr}{e:∀ P,as=(K P).map (·.1)}{u:upB 0 as=true}{x:Unit}{w:World}{h:Heap}(Y:(fHook K as e u x).says w h):(K w.params).In h:=Y
end HK
namespace PySem.W.Fast
def tw1005173788690019851:=0
def tw10063989985920779836:=0
def tw10075512017119884784:=0
def tw10092139630330478797:=0
def tw10100058629184254601:=0
def tw10100578696706028736:=0
def tw10104765678899688894:=0
def tw10134566098258783481:=0
def tw10242088167143349997:=0
def tw10245487561661717882:=0
def tw10281374023347008928:=0
def tw10316338455628576491:=0
def tw10339997826655709896:=0
def tw10368913397629839234:=0
def tw10388741791110362639:=0
def tw10427792685634336444:=0
def tw10445663376186658478:=0
def tw10450617866842145369:=0
def tw10461927638859005960:=0
def tw10485855357471697020:=0
def tw10497100945738860395:=0
def tw10498202564433424204:=0
def tw10510030762014252840:=0
def tw10580477089347628428:=0
def tw10611172998604206030:=0
def tw10624072666468307813:=0
def tw10682748337632111883:=0
def tw1074301065537997329:=0
def tw10759581964760831524:=0
def tw107896879777198866:=0
def tw1082679321854627409:=0
def tw10897811909217028239:=0
def tw10940519402703667046:=0
def tw11021307206385835000:=0
def tw11046618816809529901:=0
def tw11056656866381054565:=0
def tw11070285496886431882:=0
def tw11077461799866295528:=0
def tw11084913141756400745:=0
def tw11096615642903603687:=0
def tw11097926089204390577:=0
def tw11102323385724044708:=0
def tw11182826388073579510:=0
def tw11183253305137500278:=0
def tw11186953487075431306:=0
def tw11221285977577468751:=0
def tw11258044373823654437:=0
def tw11283722053296865924:=0
def tw11336757231273104400:=0
def tw11424378468915682206:=0
def tw11438321791382782307:=0
def tw11460323453100147035:=0
def tw11488208132505884851:=0
def tw11491940086867272029:=0
def tw11505522682764161838:=0
def tw11505788364669064718:=0
def tw11522028473218285887:=0
def tw115479604208852781:=0
def tw11558945369256123384:=0
def tw11571456138968711182:=0
def tw11576344776789482591:=0
def tw11632404337107548985:=0
def tw11652445614587634473:=0
def tw1167181623441987721:=0
def tw1167361815565741651:=0
def tw11893901405565743977:=0
def tw11902680586356876255:=0
def tw11919072127654016858:=0
def tw11929166622182918730:=0
def tw11935730225788234833:=0
def tw11940001103487957184:=0
def tw11977603003151013416:=0
def tw11977911175569513859:=0
def tw12009039530689858950:=0
def tw12035866448343500953:=0
def tw12038668550242957169:=0
def tw12039716827532026301:=0
def tw12062391281267509560:=0
def tw12080296168492681629:=0
def tw12088705840298125537:=0
def tw12125788244495538069:=0
def tw121568456662757972:=0
def tw12176723239574704403:=0
def tw12209202657693280363:=0
def tw12215068243241074472:=0
def tw12230433972231366538:=0
def tw12252437623061684016:=0
def tw12287466634020186153:=0
def tw12291354881804714702:=0
def tw1230493475329595045:=0
def tw12401375444234156301:=0
def tw12405082470285203963:=0
def tw12413941089709456392:=0
def tw12512771797769383933:=0
def tw12520063649951841362:=0
def tw12522769556069013624:=0
def tw12553120526692023406:=0
def tw12558441382903586833:=0
def tw126232943163939076:=0
def tw12643675599444042480:=0
def tw12659900090618758980:=0
def tw12682578044044121361:=0
def tw12701645907321708412:=0
def tw12731001929807655018:=0
def tw12773839344075265971:=0
def tw1277523441891055370:=0
def tw12835799946920037995:=0
def tw12836061820961539561:=0
def tw12838335486117216503:=0
def tw12859536937552053027:=0
def tw12865690444638435602:=0
def tw12873952335527638480:=0
def tw12928780965996549151:=0
def tw12934241733563462715:=0
def tw12964982885776427379:=0
def tw12974255725379875860:=0
def tw1300291848823686219:=0
def tw13020818743662413002:=0
def tw13042678235623567949:=0
def tw13062542572114840946:=0
def tw13125494966738179381:=0
def tw13131903189838957334:=0
def tw1317814717806925169:=0
def tw13188977180949968622:=0
def tw13210712752363532016:=0
def tw13228724006135263921:=0
def tw13236534319845289445:=0
def tw13249153036635125902:=0
def tw13260830031094245370:=0
def tw13264982570701994889:=0
def tw13277642143866186087:=0
def tw13312947048029317912:=0
def tw13321948845095630228:=0
def tw13347665698944405496:=0
def tw13365738356916301459:=0
def tw13376629272956970363:=0
def tw13388169802358980890:=0
def tw13397961234829119556:=0
def tw13451004212615895225:=0
def tw13469829829916856334:=0
def tw13512833769376804463:=0
def tw13553887817261553117:=0
def tw13555224114318934102:=0
def tw13559214285526934108:=0
def tw13611354647747179810:=0
def tw13637742169455159137:=0
def tw13788162783322889769:=0
def tw13794770848970378025:=0
def tw13795831724583938024:=0
def tw13823889890234461938:=0
def tw13851093199149568584:=0
def tw13893361227408403858:=0
def tw13926934077748688274:=0
def tw13973750026683291334:=0
def tw14000740858401267716:=0
def tw14010190788256253737:=0
def tw140177662593863645:=0
def tw14031623496888315451:=0
def tw14043791622332137100:=0
def tw14047663304401579100:=0
def tw14069220484530824724:=0
def tw14076542283864887512:=0
def tw14096368155912550807:=0
def tw14097754965433183298:=0
def tw14128754409473785343:=0
def tw14146799139181941156:=0
def tw14205230062471377190:=0
def tw14252560438642767234:=0
def tw1429799958644073794:=0
def tw14344228144536144537:=0
def tw14359684523330107097:=0
def tw14376715552018742277:=0
def tw14386578740652564936:=0
def tw14401545173453770018:=0
def tw14434647543997107067:=0
def tw14435136008105925932:=0
def tw14502892300672711294:=0
def tw1452762402344150502:=0
def tw14531965079368816191:=0
def tw14600462471713845711:=0
def tw14644991649167798041:=0
def tw14652165292252510987:=0
def tw14666292136045397323:=0
def tw14675514110255472197:=0
def tw14766692222951595340:=0
def tw14796803534198013705:=0
def tw14797918348054449791:=0
def tw14800673590053299537:=0
def tw14910313734244294197:=0
def tw14911157312249207829:=0
def tw14928368827852311939:=0
def tw14993132029760513841:=0
def tw15040300920748151760:=0
def tw15074400847455132594:=0
def tw15078527494596098602:=0
def tw15087881585353167779:=0
def tw15129367058744654258:=0
def tw15192507957097199215:=0
def tw15202031208338410800:=0
def tw15226245449146016274:=0
def tw15250772542747127854:=0
def tw15275326073098536278:=0
def tw15321116011043469824:=0
def tw1533137716377399061:=0
def tw15399964845582366446:=0
def tw15425868218597481570:=0
def tw15437617066798145067:=0
def tw15462958184535579612:=0
def tw15467612458089219950:=0
def tw15488443465714281488:=0
def tw15498247272945340178:=0
def tw15508068885743364823:=0
def tw15514353686653725723:=0
def tw15541279242606405146:=0
def tw15553932596626725303:=0
def tw15561712813124593487:=0
def tw15593933135668983962:=0
def tw15644436206628978265:=0
def tw15646051529941247779:=0
def tw15658581678701154901:=0
def tw15660316531407416708:=0
def tw15675399937445652180:=0
def tw15800335315318338926:=0
def tw15842536846886422916:=0
def tw15887896548279014740:=0
def tw1588969358316824134:=0
def tw15903786852820634381:=0
def tw15937644097708367395:=0
def tw15953924372992769263:=0
def tw15971813935699934640:=0
def tw15975887937484510491:=0
def tw16013231413871042747:=0
def tw16027693218662223437:=0
def tw16050851350370612385:=0
def tw16070808218790023646:=0
def tw16089710586319353386:=0
def tw16101085430849928786:=0
def tw16115247186079278480:=0
def tw1613666834425060735:=0
def tw16187863561334881237:=0
def tw16191636447272343862:=0
def tw16197600078777209494:=0
def tw16206885529148930614:=0
def tw16229081717309517034:=0
def tw16283885853781933767:=0
def tw16292150527335008256:=0
def tw16314797458161742342:=0
def tw16407832248070174862:=0
def tw16414159575156695452:=0
def tw16461831348976634557:=0
def tw16489199436958377768:=0
def tw16551199176494838430:=0
def tw16558558332523127164:=0
def tw1657326038529687373:=0
def tw16590357572559156286:=0
def tw16635332595115288985:=0
def tw16648956795921808258:=0
def tw16727548109272857811:=0
def tw16741220973244544167:=0
def tw16757347287108172708:=0
def tw16798686861991120245:=0
def tw16911176654102400324:=0
def tw16921218083932178303:=0
def tw16943692418956708175:=0
def tw16974125337107445409:=0
def tw17000338531488496944:=0
def tw17001043336389773014:=0
def tw17030222518953752117:=0
def tw17056392906935609851:=0
def tw17063317192858182018:=0
def tw17073082719588719482:=0
def tw17083730337544359378:=0
def tw17088054167603944631:=0
def tw17097827027953519093:=0
def tw17101583969557157149:=0
def tw17104041578333866404:=0
def tw1711958752854999365:=0
def tw17130692111895985110:=0
def tw17152133100066097849:=0
def tw17184238213449918407:=0
def tw17239447862275601576:=0
def tw17248183200051593167:=0
def tw1728514289991056392:=0
def tw1729797326090889109:=0
def tw17334711066929613311:=0
def tw17361263216666163412:=0
def tw1737536294347557067:=0
def tw17432048325688491015:=0
def tw1743831159846050992:=0
def tw17452365036085245242:=0
def tw17466845721441786675:=0
def tw17479122622437461375:=0
def tw1749818084091129050:=0
def tw17498986812789113988:=0
def tw17509803538394827737:=0
def tw17548423572911977177:=0
def tw17564561433166725519:=0
def tw17598863831399322939:=0
def tw17618684615605519205:=0
def tw17626054097470793852:=0
def tw17664260400157051575:=0
def tw17697274531585061769:=0
def tw17710771220707859962:=0
def tw17713397106269969898:=0
def tw178164123489718630:=0
def tw17828467244855218218:=0
def tw17892490908670841471:=0
def tw17920623895489585348:=0
def tw17948310895310235807:=0
def tw18013768588897268797:=0
def tw18040417691843037037:=0
def tw180657637175875984:=0
def tw18093535901862177236:=0
def tw18103606400760498927:=0
def tw18122108514652354027:=0
def tw18153940544336658697:=0
def tw18190164903560398958:=0
def tw18197933086202076517:=0
def tw18210550623792106605:=0
def tw18229483162725759442:=0
def tw18254066186158434040:=0
def tw18256928246545037547:=0
def tw1826068165655266282:=0
def tw18284511809350680749:=0
def tw18288501783560604237:=0
def tw18310306412034765643:=0
def tw18311234961528146470:=0
def tw18335444261958586386:=0
def tw18345242908294094105:=0
def tw18395982156435874220:=0
def tw18441902954483046878:=0
def tw185455532616823839:=0
def tw1856631704111563385:=0
def tw1859061202487730456:=0
def tw1862531491432299508:=0
def tw1865556833436459227:=0
def tw1884397215314293978:=0
def tw1888074396922163448:=0
def tw1888743511125203435:=0
def tw1909611169594358516:=0
def tw199389533557769569:=0
def tw2009041060375394155:=0
def tw2021703755593677561:=0
def tw2039938465199440089:=0
def tw2062720010103370391:=0
def tw2067545859860988265:=0
def tw2088815674090374610:=0
def tw2105013885529501842:=0
def tw2108984973379294782:=0
def tw2113498526000531069:=0
def tw211758919016247455:=0
def tw2156263881550579476:=0
def tw2160611534953484940:=0
def tw2221919234215297677:=0
def tw2260219600633477477:=0
def tw229990223995812498:=0
def tw2311350353862669848:=0
def tw2344064096118158951:=0
def tw2403996037495686784:=0
def tw2407472561029146228:=0
def tw241518112226297734:=0
def tw242123402957110212:=0
def tw2454270941656798235:=0
def tw2464051291529655711:=0
def tw2483964808807974774:=0
def tw2492919937405720494:=0
def tw251032796237730559:=0
def tw2523529353283951111:=0
def tw2551658035941608285:=0
def tw2571372511639460147:=0
def tw2616286574033330746:=0
def tw2668502712081531520:=0
def tw2669508516808295531:=0
def tw2678225605933443642:=0
def tw2693611093987666631:=0
def tw2729561393644096938:=0
def tw2739044623550625638:=0
def tw2810178996028426276:=0
def tw2907284291472326108:=0
def tw2913966989605648805:=0
def tw2932379663763947066:=0
def tw2936282477181495790:=0
def tw3027330346760456151:=0
def tw3041464505536077818:=0
def tw3056980814210059540:=0
def tw3064641024964615567:=0
def tw3118095345827608277:=0
def tw3119430071814310485:=0
def tw3138777918314167672:=0
def tw314236866389670941:=0
def tw3142670392776635659:=0
def tw3150626823857348964:=0
def tw3190163965820868757:=0
def tw3193242931972868199:=0
def tw3237279140446699369:=0
def tw3257523538281903093:=0
def tw3269194022948515079:=0
def tw3271834578865835837:=0
def tw3279754553746123395:=0
def tw3296068668806359458:=0
def tw3354458516815402996:=0
def tw3356872613416584371:=0
def tw340402139420156446:=0
def tw341594212617440111:=0
def tw3439216006616435018:=0
def tw3495606932933987544:=0
def tw3541998558419698547:=0
def tw3586910066671466401:=0
def tw3656254501150715370:=0
def tw3656295960972810158:=0
def tw3659455797353586617:=0
def tw3678387209980907807:=0
def tw3710783835723445755:=0
def tw3718562613629038402:=0
def tw3778381776600212745:=0
def tw3794916076849317821:=0
def tw3829838404163573649:=0
def tw3835748667802389567:=0
def tw3848259483222875226:=0
def tw3864760151501857197:=0
def tw3882259225425168349:=0
def tw3907482003745393179:=0
def tw3914592528137343083:=0
def tw3949493749222937169:=0
def tw3970085422835517409:=0
def tw3993491438879763413:=0
def tw3999873353806265776:=0
def tw404869968803262046:=0
def tw4049469530670844697:=0
def tw4099521104164733808:=0
def tw4133962096269515423:=0
def tw4155651729833088104:=0
def tw4159878398960784143:=0
def tw4171167390754219295:=0
def tw4185415212316434210:=0
def tw4204661209680635154:=0
def tw4300757603050897235:=0
def tw4300806559520590735:=0
def tw4322595753251489079:=0
def tw4331665357604876066:=0
def tw4374136062738535783:=0
def tw4387201212273232175:=0
def tw4393744970688375421:=0
def tw4459825449391204594:=0
def tw4498981938573517023:=0
def tw4531467254757925407:=0
def tw4533293380407475515:=0
def tw4539377686185660225:=0
def tw4549112480151844008:=0
def tw4551685443511588830:=0
def tw4644509285154934205:=0
def tw4655637819573725168:=0
def tw4668089068704552227:=0
def tw4710660386913741990:=0
def tw4726604301593653703:=0
def tw4730383010276854603:=0
def tw4948669500964576374:=0
def tw5022085784203842144:=0
def tw5079333364137987224:=0
def tw5130511024685209554:=0
def tw5147769519429402923:=0
def tw5158830243026360208:=0
def tw517836013190429345:=0
def tw5182054084845671353:=0
def tw5228236941708095416:=0
def tw5239592086678549882:=0
def tw528640861281434937:=0
def tw5291072533613413854:=0
def tw532564586494476993:=0
def tw5351801983716134747:=0
def tw5370829249225431565:=0
def tw5422289422015366304:=0
def tw5533548050329804902:=0
def tw555931994089435069:=0
def tw5691655815124059746:=0
def tw5692206693479986405:=0
def tw5798075635327780164:=0
def tw584411339266556053:=0
def tw5908741630445331240:=0
def tw593810323001794833:=0
def tw5950302231404010809:=0
def tw5962949918828508403:=0
def tw5974310439708836388:=0
def tw6006149982232093572:=0
def tw6030230407074168826:=0
def tw6099435051864373062:=0
def tw6099878868393225557:=0
def tw6107197623998295805:=0
def tw6127090029098636615:=0
def tw6143724142860324237:=0
def tw6189924080538307919:=0
def tw6211123886770717603:=0
def tw6263389530701374456:=0
def tw6321816423787604094:=0
def tw6327450240242219825:=0
def tw6372803829195224114:=0
def tw6373988491272631831:=0
def tw6391195493524725351:=0
def tw6515271837426007583:=0
def tw6527097771972233964:=0
def tw6560086928404686902:=0
def tw6569352759113000892:=0
def tw6607195714598383028:=0
def tw6611098551560867082:=0
def tw6628367416823154516:=0
def tw6631660239296073812:=0
def tw6634903900661633298:=0
def tw6635831071340164351:=0
def tw6713212828281958604:=0
def tw6748134813031866028:=0
def tw6768767726526262890:=0
def tw6783101603747161880:=0
def tw6791785042681960741:=0
def tw6812364631582444891:=0
def tw6813583995878680687:=0
def tw6814470460581796080:=0
def tw6840921676735953097:=0
def tw6856706378575079650:=0
def tw6885916472047764549:=0
def tw6928831310693713394:=0
def tw6935053608991247667:=0
def tw6935398514523024620:=0
def tw693657343487213227:=0
def tw6939700587120419674:=0
def tw6953712094161980935:=0
def tw6962664681486579588:=0
def tw7009142572223859092:=0
def tw7050967643867335967:=0
def tw7059940894469422187:=0
def tw7062243838374122128:=0
def tw7088693715972972025:=0
def tw7097726485913934640:=0
def tw7099165987136855377:=0
def tw710512409216003770:=0
def tw7154652115520346437:=0
def tw7225289950005131511:=0
def tw7286640209926109843:=0
def tw7294505163643250816:=0
def tw7321980220669440743:=0
def tw732892121484750508:=0
def tw7344447645850782019:=0
def tw7358069972002550622:=0
def tw7386315497092624706:=0
def tw7388181183197192898:=0
def tw7404262626487865053:=0
def tw7408308698659204709:=0
def tw7428390995301471059:=0
def tw7441328793783754426:=0
def tw7481470626449232986:=0
def tw7492661032564015619:=0
def tw7525164545945796403:=0
def tw7527781401563991324:=0
def tw7541120300033444207:=0
def tw756074179324819392:=0
def tw7584076489233532493:=0
def tw759025311196064872:=0
def tw7646057358400868887:=0
def tw7650658631538035166:=0
def tw7688806570005088709:=0
def tw7705985295393554115:=0
def tw7760746792318288314:=0
def tw7766871144779623343:=0
def tw7770300670193026687:=0
def tw7776729946551647122:=0
def tw7776890169973364847:=0
def tw7785049143927033825:=0
def tw7857722513966912585:=0
def tw789650111741087477:=0
def tw7911467381857369796:=0
def tw7913688872695729401:=0
def tw7943458208842943591:=0
def tw8048490847063357357:=0
def tw8066830994599333788:=0
def tw8074711058656544008:=0
def tw8133797292121745829:=0
def tw8171463811706366748:=0
def tw8188992223712956548:=0
def tw819665288995774923:=0
def tw8211327356876588272:=0
def tw8227308574867369943:=0
def tw8240159863640817785:=0
def tw8275566912695477739:=0
def tw8277121477717666678:=0
def tw8278012004038627677:=0
def tw8305527101487683966:=0
def tw8310321691142376522:=0
def tw8390669859007141674:=0
def tw8414284572787003812:=0
def tw8425928759635161860:=0
def tw8428777422612206749:=0
def tw8434341738699919316:=0
def tw8434610837845745358:=0
def tw845952209352734291:=0
def tw8483104587452942707:=0
def tw8538230466443137126:=0
def tw8543952178962916249:=0
def tw8544589771280516032:=0
def tw8576639859740842113:=0
def tw8577439698053931705:=0
def tw8714700036925522406:=0
def tw8722053607243034404:=0
def tw8745079513840350792:=0
def tw8757637190290783800:=0
def tw8781603035631130900:=0
def tw8783601481109714971:=0
def tw8804880846429836836:=0
def tw8814128439837900042:=0
def tw8816367224786064700:=0
def tw8841146938325924739:=0
def tw8933373702464177502:=0
def tw8942729247927701892:=0
def tw8959535497316357123:=0
def tw8977402361024797762:=0
def tw8988883802941201577:=0
def tw9011846729844253800:=0
def tw902893260383212922:=0
def tw9057278928651577926:=0
def tw9105513002190874321:=0
def tw9167285691252281020:=0
def tw9202414491655537684:=0
def tw922196279392603236:=0
def tw9259618683578625996:=0
def tw9273957916288672550:=0
def tw9305594670356319248:=0
def tw9319776275135469650:=0
def tw9324808939811915254:=0
def tw9361010358102370232:=0
def tw9378252815194879282:=0
def tw9381775811910456141:=0
def tw93976428165788238:=0
def tw9429706949112129029:=0
def tw9456997727929224785:=0
def tw9470444957406608147:=0
def tw9529999649121925924:=0
def tw9558521603086156234:=0
def tw9571039483760321973:=0
def tw9581953324890690378:=0
def tw9623692033140370097:=0
def tw9627677828230900560:=0
def tw9656345436984910540:=0
def tw9658949513438671391:=0
def tw9673111248656485420:=0
def tw9682563135988009735:=0
def tw9699247842637155060:=0
def tw9728955027042283718:=0
def tw9822598017996461749:=0
def tw9840394320721873371:=0
def tw9849572349456269241:=0
def tw9892311901232504658:=0
def tw9928403583262560509:=0
end PySem.W.Fast
namespace HK
open PySem PySem.W PyProof.Rows
local macro_rules
 | `(tactic| o_head ($_:ident $k $a $e)) => `(tactic| o_head (HK.fHook $k $a $e (by decide +kernel) ()))
 | `(tactic| o_head ($_:ident $k $a $e $_)) => `(tactic| o_head (HK.fHook $k $a $e (by decide +kernel) ()))
set_option maxHeartbeats 0 in
open_top hd for PySem.Challenge.rw_runrows_k41_what_is_needed
end HK
namespace L2
open PySem PySem.Spec PyProof.Rows
abbrev Key:=Sum Int Str
def ra:Key->Value->Bool
 | .inl k,v=>Value.isInt k v
 | .inr x,v=>Value.isStrOf x v
def MZ (w:World):Key->Int
 | .inl k=>hashInt k
 | .inr x=>hashStr w x
theorem b6:∀{k:Key} {v:Value},ra k v=true->(∃ i t,k=Sum.inl i/\v=Value.int i t)\/(∃ x t,k=Sum.inr x/\v=Value.str x t)
 | .inl i,v,h=>by
  obtain⟨t,e⟩:=Value.isInt_shape (k:=i) (v:=v) h
  exact .inl ⟨i,t,rfl,e⟩
 | .inr x,v,h=>by
  obtain⟨t,e⟩:=Value.isStrOf_shape (x:=x) (v:=v) h
  exact .inr ⟨x,t,rfl,e⟩
theorem AO (i:Int)(t:Tok):ra (.inl i) (.int i t)=true:=by simp [ra,Value.isInt]
theorem AQ (x:Str)(t:Tok):ra (.inr x) (.str x t)=true:=by simp [ra,Value.isStrOf]
theorem Hy (a b:Int):decide ((Sum.inl a:Key)=Sum.inl b)=(a == b):=by
 by_cases e:a=b
 ·subst e;simp
 ·have h:¬ (Sum.inl a:Key)=Sum.inl b:=fun q=>e (Sum.inl.inj q)
  rw [decide_eq_false h]
  exact(beq_eq_false_iff_ne.mpr e).symm
theorem IA (a b:Str):decide ((Sum.inr a:Key)=Sum.inr b)=decide (a=b):=by
 by_cases e:a=b
 ·subst e;simp
 ·have h:¬ (Sum.inr a:Key)=Sum.inr b:=fun q=>e (Sum.inr.inj q)
  rw [decide_eq_false h,decide_eq_false e]
theorem Hz (a:Int)(b:Str):decide ((Sum.inl a:Key)=Sum.inr b)=false:=decide_eq_false (fun q=>nomatch q)
theorem H_ (a:Str)(b:Int):decide ((Sum.inr a:Key)=Sum.inl b)=false:=decide_eq_false (fun q=>nomatch q)
def b5 (prog:Program)(w:World):PySem.KeyKind prog w Key where
 is:=ra
 hash:=MZ w
 inj:=fun v a b ha hb=>by
  rcases b6 ha with⟨i,t,rfl,rfl⟩|⟨x,t,rfl,rfl⟩
  ·rcases b6 hb with⟨j,u,rfl,e⟩|⟨y,u,rfl,e⟩
   ·injection e with e1 _;rw [e1]
   ·exact nomatch e
  ·rcases b6 hb with⟨j,u,rfl,e⟩|⟨y,u,rfl,e⟩
   ·exact nomatch e
   ·injection e with e1 _;rw [e1]
 byValue:=fun k v h=>by
  rcases b6 h with⟨i,t,rfl,rfl⟩|⟨x,t,rfl,rfl⟩<;>rfl
 pyHash:=fun hv h=>by
  rcases b6 hv with⟨i,t,rfl,rfl⟩|⟨x,t,rfl,rfl⟩
  ·exact wpAny_pyHash_int h
  ·exact wpAny_pyHash_str h
 eqBool:=fun hu hv h=>by
  rcases b6 hu with⟨i,t,rfl,rfl⟩|⟨x,t,rfl,rfl⟩
  ·rcases b6 hv with⟨j,u,rfl,rfl⟩|⟨y,u,rfl,rfl⟩
   ·rw [Hy] at h;exact wpAny_eqBool_int h
   ·rw [Hz] at h;exact SeqAt.EqAt.int_str i t y u _ _ _ _ h
  ·rcases b6 hv with⟨j,u,rfl,rfl⟩|⟨y,u,rfl,rfl⟩
   ·rw [H_] at h;exact SeqAt.EqAt.str_int x t j u _ _ _ _ h
   ·rw [IA] at h;exact wpAny_eqBool_str h
 «strs»:=fun k x t v h=>by
  rcases b6 h with⟨i,u,rfl,e⟩|⟨y,u,rfl,e⟩
  ·exact nomatch e
  ·injection e with e1 _
   subst e1
   cases v<;>rfl
theorem vv (prog:Program)(w:World)(i:Int)(t:Tok):(b5 prog w).is (.inl i) (.int i t)=true:=AO i t
theorem vx (prog:Program)(w:World)(x:Str)(t:Tok):(b5 prog w).is (.inr x) (.str x t)=true:=AQ x t
inductive V where
 | aj|bl (b:Bool)|int (i:Int)|str (x:Str)|wt (b:Array UInt8)|Lm (b:UInt64)|ref (a:Addr)|ty (n:String)
 deriving DecidableEq
def RelV:V->Value->Prop
 | .aj,u=>u=Value.none
 | .bl b,u=>u=Value.bool b
 | .int i,u=>∃ t,u=Value.int i t
 | .str x,u=>∃ t,u=Value.str x t
 | .wt b,u=>∃ t,u=Value.bytes b t
 | .Lm b,u=>∃ t,u=Value.float b t
 | .ref a,u=>u=Value.ref a
 | .ty n,u=>u=Value.type n
abbrev Vals:List V->List Value->Prop:=Paired RelV
theorem Vals.length {xs:List V}{us:List Value}(r:Vals xs us):xs.length=us.length:=Paired.length r
theorem Vals.get:∀{xs:List V} {us:List Value} {i:Nat} {x:V},Vals xs us->xs[i]?=some x->∃ u,us[i]?=some u/\RelV x u
 | _,_,_,_,.nil,e=>by simp at e
 | _,_,0,_,.cons r _,e=>by simp at e;subst e;exact⟨_,rfl,r⟩
 | _,_,i+1,x,.cons _ t,e=>by
  obtain⟨u,h1,h2⟩:=Vals.get (i:=i) (x:=x) t (by simpa using e)
  exact⟨u,by simpa using h1,h2⟩
theorem Vals.set {x:V}{u:Value}(r:RelV x u):∀{xs:List V} {us:List Value} (i:Nat),Vals xs us->Vals (xs.set i x) (us.set i u)
 | _,_,_,.nil=>.nil
 | _,_,0,.cons _ t=>.cons r t
 | _,_,i+1,.cons q t=>.cons q (Vals.set r i t)
theorem Vals.append:∀{xs ys:List V} {us ws:List Value},Vals xs us->Vals ys ws->Vals (xs++ys) (us++ws)
 | _,_,_,_,.nil,s=>s
 | _,_,_,_,.cons r t,s=>.cons r (Vals.append t s)
theorem Vals.take:∀{xs:List V} {us:List Value} (n:Nat),Vals xs us->Vals (xs.take n) (us.take n)
 | _,_,0,_=>.nil
 | _,_,_+1,.nil=>.nil
 | _,_,n+1,.cons r t=>.cons r (Vals.take n t)
theorem Vals.drop:∀{xs:List V} {us:List Value} (n:Nat),Vals xs us->Vals (xs.drop n) (us.drop n)
 | _,_,0,r=>r
 | _,_,_+1,.nil=>.nil
 | _,_,n+1,.cons _ t=>Vals.drop n t
def jN:Option V->Option Value->Prop
 | some v,some u=>RelV v u
 | none,none=>True
 | _,_=>False
def KV {κ:Type}:List (κ × V)->List (κ × Value)->Prop:=Paired fun(p:κ × V) (q:κ × Value)=>p.1=q.1/\RelV p.2 q.2
def kV:Key->V
 | .inl i=>.int i
 | .inr x=>.str x
inductive HO where
 /-- a list -/
 | lst (xs:List V)
 /-- a tuple (never changes) -/
 | tup (xs:List V)
 /-- a dict whose keys are ints and texts;one whose keys are tuples of ints and texts (the empty one is both) -/
 | dK (kvs:List (Key × V))|dT (kvs:List (List Key × V))
 /-- a set of ints: its members,its size -/
 | set (S:Int->Bool) (n:Nat)
 /-- an instance of the class at C,its dict at dx,its attributes -/
 | ins (C dx:Addr) (fs:List (Str × V))
 /-- the dict of the instance at x -/
 | own (x:Addr)
 /-- the dict of an exception -/
 | xd (fs:List (Str × V))
 /-- a bound method,f of x -/
 | met (f x:Addr)
 /-- a range object lo,lo+1,.. below hi -/
 | Mv (lo hi:Int)
 /-- a thing that is known to the object (the script;a dict while a loop walks it): read,never written while it is so -/
 | fJ (o:Obj) (u:HO)
 /-- a code object's table -/
 | GA (ps:Array Value)
 /-- any other thing,by what is true of its one object (a def of one's own: vA a S n:=HO.ext fun h=>..) -/
 | ext (φ:Heap->Prop)
abbrev Hp:=Addr->Option HO
def upd (H:Hp)(a:Addr)(o:HO):Hp:=fun b=>if b=a then some o else H b
theorem aJ {H:Hp}{a:Addr}{o:HO}:upd H a o a=some o:=by unfold upd;rw [if_pos rfl]
theorem aG {H:Hp}{a b:Addr}{o:HO}(h:b≠a):upd H a o b=H b:=by unfold upd;rw [if_neg h]
theorem uo {H:Hp}{a:Addr}{o u:HO}:upd (upd H a o) a u=upd H a u:=by
 funext b;unfold upd;split<;>rfl
theorem Kp {H:Hp}{a b:Addr}{o u:HO}(h:H a=some o)(h':H b=some u)(d:o≠u):a≠b:=by
 intro e;subst e;rw [h] at h';exact d (Option.some.inj h')
theorem bL {H:Hp}{a b:Addr}{o:HO}(h:H a=some o)(h':H b=none):a≠b:=by
 intro e;subst e;rw [h] at h';cases h'
section
variable (P:Program)(w:World)
def bN (H:Hp)(h:Heap)(a:Addr):HO->Prop
 | .lst xs=>xs.length<=sizeLine/\∃(its:List Value) (n:Nat),Vals xs its/\h.get? a=some { cls:=.type "list",data:=.seq its.toArray n }
 | .tup xs=>xs.length<=sizeLine/\∃ its:List Value,Vals xs its/\IsTup h a its.toArray
 | .dK kvs=>kvs.length<=sizeLine/\(a == sysModules)=false/\∃ vs,KV kvs vs/\h.DictOf (b5 P w) a vs
 | .dT kvs=>kvs.length<=sizeLine/\(a == sysModules)=false/\∃ xs:List (List Key × Addr × Value),
   Paired (fun(p:List Key × V) (q:List Key × Addr × Value)=>p.1=q.1/\H q.2.1=some (.tup (p.1.map kV))/\RelV p.2 q.2.2) kvs xs /\
   ∃ o es ep,h.get? a=some o/\o.ExactDict/\o.data=.dict es ep/\es.toList=xs.map (entryOfKey (tupleKind (b5 P w)))/\(xs.map (·.1)).Nodup
 | .set S n=>h.SetOf (intKind P w) a S n
 | .ins C dx fs=>H dx=some (.own a)/\fs.length<=1000/\dx≠a/\h.get? a=some (instObj C dx) /\
   ∃ mA,h.Ns1 dx mA/\(∀ f,jN (fs.lookup f) (mA f))/\PySem.Within mA (fs.map (·.1))
 | .own _=>∃ o,h.get? a=some o
 | .xd fs=>∃ mA,h.Ns1 a mA/\∀ f,jN (fs.lookup f) (mA f)
 | .Mv lo hi=>∃ t u v,h.get? a=some { cls:=.type "range",data:=.fields #[.int lo t,.int hi u,.int 1 v] }
 | .fJ o u=>h.get? a=some o/\bN H h a u
 | .GA ps=>h.get? a=some { cls:=.none,data:=.fields ps }
 | .met f x=>h.get? a=some (methodObj (.ref f) (.ref x))
 | .ext φ=>φ h/\(∃ o,h.get? a=some o)/\∀ h1 h2:Heap,φ h1->(∀ o,h1.get? a=some o->h2.get? a=some o)->φ h2
def ku (H:Hp)(h:Heap):Prop:=∀ a o,H a=some o->bN P w H h a o
end
section
variable {P:Program}{w:World}{H H':Hp}{h h':Heap}{a:Addr}{o:HO}
theorem bN.lt (x:bN P w H h a o):a<h.objs.size:=by
 cases o with
 | lst xs=>obtain⟨_,_,_,_,e⟩:=x;exact Heap.lt_size e
 | tup xs=>obtain⟨_,_,_,p⟩:=x;exact p.lt
 | dK kvs=>obtain⟨_,_,_,_,o,_,_,e,_⟩:=x;exact Heap.lt_size e
 | dT kvs=>obtain⟨_,_,_,_,o,_,_,e,_⟩:=x;exact Heap.lt_size e
 | set S n=>obtain⟨o,_,_,_,e,_⟩:=x;exact Heap.lt_size e
 | ins C dx fs=>obtain⟨_,_,_,e,_⟩:=x;exact Heap.lt_size e
 | own y=>obtain⟨_,e⟩:=x;exact Heap.lt_size e
 | xd fs=>obtain⟨_,⟨_,_,_,e,_⟩,_⟩:=x;exact Heap.lt_size e
 | Mv lo hi=>obtain⟨_,_,_,e⟩:=x;exact Heap.lt_size e
 | fJ ob u=>obtain⟨e,_⟩:=x;exact Heap.lt_size e
 | GA ps=>exact Heap.lt_size (show h.get? a=some _ from x)
 | met f y=>exact Heap.lt_size (show h.get? a=some _ from x)
 | ext φ=>obtain⟨_,⟨_,e⟩,_⟩:=x;exact Heap.lt_size e
theorem Paired.IT {α β:Type}{F G:α->β->Prop}:∀{l₁:List α} {l₂:List β},Paired F l₁ l₂->(∀ a b,F a b->G a b)->Paired G l₁ l₂
 | _,_,.nil,_=>.nil
 | _,_,.cons r t,f=>.cons (f _ _ r) (Paired.IT t f)
theorem bN.oq (x:bN P w H h a o)(k:∀ b u,(b=a\/H b=some (.own a))->h.get? b=some u->h'.get? b=some u)
  (ho:∀ b,H b=some (.own a)->H' b=some (.own a))(ht:∀ b xs,H b=some (.tup xs)->H' b=some (.tup xs)):bN P w H' h' a o:=by
 induction o with
 | lst xs=>obtain⟨z,its,n,r,e⟩:=x;exact⟨z,its,n,r,k _ _ (.inl rfl) e⟩
 | tup xs=>obtain⟨z,its,r,ob,e,c⟩:=x;exact⟨z,its,r,ob,k _ _ (.inl rfl) e,c⟩
 | dK kvs=>obtain⟨z,y,vs,r,ob,es,ep,e,c⟩:=x;exact⟨z,y,vs,r,ob,es,ep,k _ _ (.inl rfl) e,c⟩
 | dT kvs =>
  obtain⟨z,y,xs,r,ob,es,ep,e,c⟩:=x
  exact⟨z,y,xs,Paired.IT r fun p q z=>⟨z.1,ht _ _ z.2.1,z.2.2⟩,ob,es,ep,k _ _ (.inl rfl) e,c⟩
 | set S n=>obtain⟨ob,es,ep,t,e,c⟩:=x;exact⟨ob,es,ep,t,k _ _ (.inl rfl) e,c⟩
 | ins C dx fs =>
  obtain⟨d,z,ne,e,mA,⟨od,es,ep,e2,c⟩,r⟩:=x
  exact⟨ho _ d,z,ne,k _ _ (.inl rfl) e,mA,⟨od,es,ep,k _ _ (.inr d) e2,c⟩,r⟩
 | own y=>obtain⟨ob,e⟩:=x;exact⟨ob,k _ _ (.inl rfl) e⟩
 | xd fs=>obtain⟨mA,⟨od,es,ep,e,c⟩,r⟩:=x;exact⟨mA,⟨od,es,ep,k _ _ (.inl rfl) e,c⟩,r⟩
 | Mv lo hi=>obtain⟨t,u,v,e⟩:=x;exact⟨t,u,v,k _ _ (.inl rfl) e⟩
 | fJ ob u ih=>obtain⟨e,q⟩:=x;exact⟨k _ _ (.inl rfl) e,ih q⟩
 | GA ps =>
  have e:h.get? a=some { cls:=.none,data:=.fields ps }:=x
  show h'.get? a=some { cls:=.none,data:=.fields ps }
  exact k a _ (.inl rfl) e
 | met f y =>
  have e:h.get? a=some (methodObj (.ref f) (.ref y)):=x
  show h'.get? a=some (methodObj (.ref f) (.ref y))
  exact k a _ (.inl rfl) e
 | ext φ=>obtain⟨p,⟨o,e⟩,st⟩:=x;exact⟨st _ _ p fun o q=>k _ _ (.inl rfl) q,⟨o,k _ _ (.inl rfl) e⟩,st⟩
theorem ku.lt (x:ku P w H h)(e:H a=some o):a<h.objs.size:=(x a o e).lt
theorem ku.fresh (x:ku P w H h)(e:h.objs.size<=a):H a=none:=by
 cases q:H a with
 | none=>rfl
 | some u=>exact absurd (Nat.lt_of_lt_of_le (x.lt q) e) (Nat.lt_irrefl _)
theorem ku.kept (x:ku P w H h)(k:∀ b u,h.get? b=some u->h'.get? b=some u):ku P w H h':=fun a o e =>
 (x a o e).oq (fun b u _ q=>k b u q) (fun _ q=>q) fun _ _ q=>q
theorem ku.laid (x:ku P w H h)(k:∀ b u,h.get? b=some u->h'.get? b=some u)(hp:h.objs.size<=a)(new:bN P w (upd H a o) h' a o):ku P w (upd H a o) h':=fun b u e=>by
 have hn:=x.fresh hp
 by_cases hb:b=a
 ·subst hb;rw [aJ] at e;cases e;exact new
 ·rw [aG hb] at e
  exact(x b u e).oq (fun c v _ q=>k c v q) (fun c q=>by rw [aG (bL q hn)];exact q) fun c xs q=>by rw [aG (bL q hn)];exact q
end
def Rd (H:Hp)(a:Addr)(u:HO):Prop:=H a=some u\/∃ o,H a=some (.fJ o u)
theorem Rd.of {H:Hp}{a:Addr}{u:HO}(h:H a=some u):Rd H a u:=.inl h
theorem Rd.ok {P:Program}{w:World}{H:Hp}{h:Heap}{a:Addr}{u:HO}(r:Rd H a u)(x:ku P w H h):bN P w H h a u:=by
 rcases r with r|⟨o,r⟩
 ·exact x a u r
 ·obtain⟨_,q⟩:=x a _ r
  exact q
def Js:Option HO->Prop
 | some (.lst _)=>True
 | some (.dK _)=>True
 | some (.dT _)=>True
 | some (.set _ _)=>True
 | some (.ins _ _ _)=>True
 | some (.ext _)=>True
 | _=>False
section
variable {P:Program}{w:World}{H:Hp}{h h':Heap}{x e:Addr}{o':HO}
theorem ku.write (ok:ku P w H h)(mu:Js (H x))(he:e=x\/H e=some (.own x))(k:∀ b u,b≠e->h.get? b=some u->h'.get? b=some u)(heo:∃ u,h'.get? e=some u)
  (new:bN P w (upd H x o') h' x o'):ku P w (upd H x o') h':=fun b u q=>by
 have nown:∀ c y,H c=some (.own y)->c≠x:=fun c y r z=>by subst z;rw [r] at mu;exact mu
 have ntup:∀ c xs,H c=some (.tup xs)->c≠x:=fun c xs r z=>by subst z;rw [r] at mu;exact mu
 by_cases hb:b=x
 ·subst hb;rw [aJ] at q;cases q;exact new
 ·rw [aG hb] at q
  by_cases hbe:b=e
  ·have q':H b=some (.own x):=by
    rcases he with z|z
    ·exact absurd (hbe.trans z) hb
    ·rw [hbe];exact z
   rw [q] at q';cases q'
   obtain⟨v,hv⟩:=heo
   exact⟨v,by rw [hbe];exact hv⟩
  ·refine(ok b u q).oq (fun c v hc r=>k c v ?_ r) (fun c r=>by rw [aG (nown c b r)];exact r) fun c xs r=>by rw [aG (ntup c xs r)];exact r
   rcases hc with rfl|hc
   ·exact hbe
   ·rintro rfl
    rcases he with z|z
    ·exact nown c b hc z
    ·rw [hc] at z;cases z;exact hb rfl
end
structure Un (fs ex:List Addr) (H H':Hp) (h h':Heap):Prop where
 keep:∀ b o,h.get? b=some o->H b=none->b∉fs->b∉ex->h'.get? b=some o
 slot:∀ b o,h.get? b=some o->H b=none->b∈fs->b∉ex->∃ sl,h'.get? b=some { o with slots:=sl }
 free:∀ b o,h.get? b=some o->H b=none->b∉ex->H' b=none
 there:∀ b o,h.get? b=some o->b∉ex->∃ o',h'.get? b=some o'
 qv:∀ b xs,H b=some (.tup xs)->H' b=some (.tup xs)
 oB:∀ b o u,H b=some (.fJ o u)->H' b=some (.fJ o u)
 qt:∀ b ps,H b=some (.GA ps)->∃ more,H' b=some (.GA (ps++more))
section
variable {fs fs' ex ex':List Addr}{H H1 H2:Hp}{h h1 h2 h':Heap}{a x e:Addr}{o:HO}
theorem Un.any (u:Un fs ex H H1 h h1){b:Addr}{ob:Obj}(q:h.get? b=some ob)(n:H b=none)(hx:b∉ex):∃ sl,h1.get? b=some { ob with slots:=sl }:=by
 by_cases hb:b∈fs
 ·exact u.slot b ob q n hb hx
 ·exact⟨ob.slots,u.keep b ob q n hb hx⟩
theorem Un.kept (k:∀ b u,h.get? b=some u->h'.get? b=some u):Un fs ex H H h h' :=
 ⟨fun b ob q _ _ _=>k b ob q,fun b ob q _ _ _=>⟨ob.slots,k b ob q⟩,fun _ _ _ n _=>n,fun b ob q _=>⟨ob,k b ob q⟩,fun _ _ q=>q,fun _ _ _ q=>q,fun _ ps q=>⟨#[],by rw [q];simp⟩⟩
theorem Un.refl:Un fs ex H H h h:=Un.kept fun _ _ q=>q
theorem Un.laid (k:∀ b u,h.get? b=some u->h'.get? b=some u)(hp:h.objs.size<=a)(hn:H a=none):Un fs ex H (upd H a o) h h' where
 keep:=fun b u q _ _ _=>k b u q
 slot:=fun b u q _ _ _=>⟨u.slots,k b u q⟩
 free:=fun b u q n _=>by rw [aG (Nat.ne_of_lt (Nat.lt_of_lt_of_le (Heap.lt_size q) hp))];exact n
 there:=fun b u q _=>⟨u,k b u q⟩
 qv:=fun b xs q=>by rw [aG (bL q hn)];exact q
 oB:=fun b u xs q=>by rw [aG (bL q hn)];exact q
 qt:=fun b ps q=>⟨#[],by rw [aG (bL q hn),q];simp⟩
theorem Un.write (mu:Js (H x))(he:e=x\/H e=some (.own x))(k:∀ b u,b≠e->h.get? b=some u->h'.get? b=some u)(heo:∃ u,h'.get? e=some u):Un fs ex H (upd H x o) h h':=by
 have hx:∀ b,H b=none->b≠x:=fun b n z=>by subst z;rw [n] at mu;exact mu
 have hb:∀ b,H b=none->b≠e:=fun b n z=>by
  subst z
  rcases he with r|r
  ·exact hx b n r
  ·rw [n] at r;cases r
 have hm:∀ b u,H b=some u->¬ Js (some u)->b≠x:=fun b u q nm z=>by subst z;rw [q] at mu;exact nm mu
 refine⟨fun b u q n _ _=>k b u (hb b n) q,fun b u q n _ _=>⟨u.slots,k b u (hb b n) q⟩,fun b u q n _=>by rw [aG (hx b n)];exact n,fun b u q _=>?_,
  fun b xs q=>by rw [aG (hm b _ q fun z=>z)];exact q,fun b u xs q=>by rw [aG (hm b _ q fun z=>z)];exact q,fun b ps q=>⟨#[],by rw [aG (hm b _ q fun z=>z),q];simp⟩⟩
 by_cases hbe:b=e
 ·subst hbe;exact heo
 ·exact⟨u,k b u hbe q⟩
end
def L3 (h:Heap)(H:Hp):List Addr:=(List.range h.objs.size).filter fun a=>(H a).isSome
def tR (h:Heap)(H:Hp):Heap:=PySem.W.hideAll h (L3 h H)
theorem AG (h:Heap)(H:Hp):(tR h H).objs.size=h.objs.size:=PySem.W.hideAll_size _ _
theorem B9 {h:Heap}{H:Hp}{b:Addr}{o:Obj}(e:h.get? b=some o)(n:H b=none):(tR h H).get? b=some o :=
 PySem.W.hideAll_get _ e fun hm=>by
  have q:(H b).isSome=true:=(List.mem_filter.mp hm).2
  rw [n] at q;simp at q
theorem FJ {h:Heap}{H:Hp}{b:Addr}{o:Obj}(e:(tR h H).get? b=some o):h.get? b=some o/\H b=none:=by
 have e':h.get? b=some o:=PySem.W.of_hideAll (L3 h H) e
 refine⟨e',?_⟩
 cases q:H b with
 | none=>rfl
 | some x =>
  have hm:b∈L3 h H:=List.mem_filter.mpr ⟨List.mem_range.mpr (Heap.lt_size e'),by simp [q]⟩
  have z:(tR h H).get? b=none:=PySem.W.hideAll_none (L3 h H) hm
  rw [z] at e;cases e
structure Mod (K:PySem.W.Frag) (mg:Str->Option Value) (base:Heap):Prop where
 Lp:K.In base
 glob:base.Ns mainGlobals mg
 blt:∃ mb,base.Ns builtinsNs mb/\∀ x:Str,x≠"__name__"->mb x=bootBuiltins x
 nolimit:base.NoLimit
structure Cx where
 prog:Program
 w:World
 K:PySem.W.Frag
 mg:Str->Option Value
 base:Heap
 A:Around
 N:List Str
 s₀:Shared
 H₀:Hp
 env:Env
 outer:List Env
 stack:List Env
 ex:List Addr
 fn:Str->Bool
 calm:Bool
 pn:List (Addr × Obj)
 xe:Value->Shared->Prop
def B7 (l:List Env):List Addr:=l.filterMap (·.frame)
abbrev Cx.fs (X:Cx):List Addr:=B7 X.outer
def ur (sc:Scope)(x:Str):Prop:=sc.names.lookup x=some .local\/sc.names.lookup x=some .cell\/sc.names.lookup x=some .free
def Loc (sc:Scope)(x:Str):Prop:=sc.names.lookup x=some .local\/sc.names.lookup x=some .cell
def Look (env:Env)(h:Heap)(m:Str->Option Value)(x:Str)(u:Value):Prop :=
 (env.kindOf x=some .local/\m x=some u)\/((env.kindOf x=some .cell\/env.kindOf x=some .free)/\∃ c,env.cells.lookup x=some c/\h.IsCell c (some u))
structure Cx.Ok (X:Cx):Prop where
 mod:Mod X.K X.mg X.base
 kind:X.env.scope.kind=.function
 glob:X.env.globals=mainGlobals
 blt:X.env.builtins=builtinsNs
 above:X.s₀.heap.objs.size<=X.env.locals
 inj:∀ x y c,X.env.cells.lookup x=some c->X.env.cells.lookup y=some c->x=y
 has:∀ x,(X.env.kindOf x=some .cell\/X.env.kindOf x=some .free)->∃ c,X.env.cells.lookup x=some c
 Jz:∀ x c,X.fn x=true->X.env.cells.lookup x=some c->X.s₀.heap.objs.size<=c
 hd:X.calm=true->X.A.handled=none
 frames:X.A.frames=some X.stack
 Lz:X.stack=X.outer\/(X.stack=X.env::X.outer/\X.env.frame=some X.env.locals)
 NV:∀ b∈X.ex,b≠X.env.locals/\∀ x c,X.env.cells.lookup x=some c->c≠b
 bs:∀ b o,X.base.get? b=some o->X.s₀.heap.get? b=some o/\X.H₀ b=none
 GZ:X.base.objs.size<=X.s₀.heap.objs.size
 Cf:∀ b o,X.base.get? b=some o->b∉X.ex
 B3:∀ b∈X.ex,b∉X.fs
 oG:X.s₀.heap.FunFrames X.base X.outer
 Gp:∀ b∈X.fs,X.H₀ b=none
structure Inv (X:Cx) (pins:List (Addr × Obj)) (σ:List (Option V)) (H:Hp) (s:Shared):Prop where
 ok:X.Ok
 os:s.os=X.s₀.os
 bare:AllBare s.gens
 base:Un X.fs X.ex X.H₀ H X.s₀.heap s.heap
 loc:∃ m,s.heap.Ns X.env.locals m/\∀(i:Nat) (x:Str) (v:V),X.N[i]?=some x->σ[i]?=some (some v)->ur X.env.scope x->∃ u,RelV v u/\Look X.env s.heap m x u
 cell:∀ x c,X.env.cells.lookup x=some c->∃ v,s.heap.IsCell c v
 free:H X.env.locals=none
 fA:∀ x c,X.env.cells.lookup x=some c->H c=none
 pin:∀ p∈X.pn++pins,s.heap.get? p.1=some p.2/\H p.1=none/\p.1≠X.env.locals/\p.1∉X.fs/\∀ v,p.2.data≠.cell v
 bp:ku X.prog X.w H s.heap
 len:σ.length=X.N.length
section
variable {X:Cx}{pins:List (Addr × Obj)}{σ:List (Option V)}{H H':Hp}{s:Shared}{h':Heap}
theorem Cx.Ok.Ml (ok:X.Ok){b:Addr}{o:Obj}(e:X.base.get? b=some o):b∉X.fs:=fun hb=>by
 have:=(ok.oG.mem hb).1
 rw [e] at this;cases this
theorem Inv.bs (I:Inv X pins σ H s):∀ b o,X.base.get? b=some o->s.heap.get? b=some o/\H b=none:=fun b o e =>
 ⟨I.base.keep b o (I.ok.bs b o e).1 (I.ok.bs b o e).2 (I.ok.Ml e) (I.ok.Cf b o e),I.base.free b o (I.ok.bs b o e).1 (I.ok.bs b o e).2 (I.ok.Cf b o e)⟩
theorem Inv.bk (I:Inv X pins σ H s):∀ b o,X.base.get? b=some o->s.heap.get? b=some o:=fun b o e=>(I.bs b o e).1
theorem Inv.mod (I:Inv X pins σ H s):Mod X.K X.mg X.base:=I.ok.mod
theorem Inv.uv (I:Inv X pins σ H s):X.K.In s.heap:=I.ok.mod.Lp.keeps I.bk
theorem Inv.lt (I:Inv X pins σ H s):X.env.locals<s.heap.objs.size:=let ⟨_,hn,_⟩:=I.loc;hn.lt
theorem Inv.sz (I:Inv X pins σ H s):X.s₀.heap.objs.size<=s.heap.objs.size:=Nat.le_trans I.ok.above (Nat.le_of_lt I.lt)
theorem Inv.Mm (I:Inv X pins σ H s){a:Addr}(h:s.heap.objs.size<=a):a∉X.fs:=fun hb=>by
 obtain⟨_,o,ho,_⟩:=I.ok.oG.mem hb
 exact absurd (Nat.lt_of_lt_of_le (Heap.lt_size ho) (Nat.le_trans I.sz h)) (Nat.lt_irrefl _)
theorem Inv.HY (I:Inv X pins σ H s):∀ x c,X.env.cells.lookup x=some c->c≠X.env.locals:=fun x c e z=>by
 obtain⟨v,o,ho,hd⟩:=I.cell x c e
 obtain⟨m,⟨o',es,ep,ho',hd',_⟩,_⟩:=I.loc
 rw [z,ho'] at ho;cases ho;rw [hd'] at hd;cases hd
theorem Inv.oG (I:Inv X pins σ H s):s.heap.FunFrames X.base X.outer:=by
 have all:∀(l:List Env),(∀ b∈B7 l,b∈X.fs)->X.s₀.heap.FunFrames X.base l->s.heap.FunFrames X.base l:=by
  intro l
  induction l with
  | nil=>intro _ _;trivial
  | cons env r ih =>
   intro hs hl
   obtain⟨hk,⟨L,o,hf,hn,ho,hd⟩,hr⟩:=hl
   have hL:L∈X.fs:=hs L (by unfold B7;rw [List.filterMap_cons,hf];exact List.mem_cons_self)
   obtain⟨sl,e⟩:=I.base.slot L o ho (I.ok.Gp L hL) hL fun z=>I.ok.B3 L z hL
   exact⟨hk,⟨L,_,hf,hn,e,hd⟩,ih (fun b hb=>hs b (by unfold B7;rw [List.filterMap_cons,hf];exact List.mem_cons_of_mem _ hb)) hr⟩
 exact all X.outer (fun _ hb=>hb) I.ok.oG
theorem Inv.stack (I:Inv X pins σ H s):s.heap.FunFrames X.base X.stack:=by
 rcases I.ok.Lz with e|⟨e,hf⟩
 ·rw [e];exact I.oG
 ·rw [e]
  obtain⟨m,hn,_⟩:=I.loc
  refine .cons (by rw [I.ok.kind];decide) hf hn ?_ I.oG
  exact Heap.get?_none_of_le (Nat.le_trans I.ok.GZ I.ok.above)
theorem Inv.ug (I:Inv X pins σ H s):∀ b∈B7 X.stack,b∈X.env.locals::X.fs:=fun b hb=>by
 rcases I.ok.Lz with e|⟨e,hf⟩
 ·rw [e] at hb;exact List.mem_cons_of_mem _ hb
 ·rw [e] at hb
  unfold B7 at hb
  rw [List.filterMap_cons,hf] at hb
  exact hb
theorem Inv.zh (I:Inv X pins σ H s):∀ b∈B7 X.stack,H b=none:=fun b hb=>by
 rcases List.mem_cons.mp (I.ug b hb) with e|hb
 ·rw [e];exact I.free
 ·obtain⟨_,o,ho,_⟩:=I.ok.oG.mem hb
  exact I.base.free b o ho (I.ok.Gp b hb) fun z=>I.ok.B3 b z hb
theorem Inv.step {g':Array GenState}{t':Nat}{d':Drawn}{ch:List Addr}(I:Inv X pins σ H s)
  (hch:∀ b∈ch,(b∈X.ex\/X.s₀.heap.objs.size<=b)/\b≠X.env.locals/\(∀ x c,X.env.cells.lookup x=some c->c≠b)/\∀ p∈X.pn++pins,p.1≠b)
  (keep:∀ b o,b≠X.env.locals->b∉X.fs->b∉ch->s.heap.get? b=some o->H b=none->h'.get? b=some o)
  (slot:∀ b o,b≠X.env.locals->b∈X.fs->b∉ch->s.heap.get? b=some o->H b=none->∃ sl,h'.get? b=some { o with slots:=sl })(free:∀ b o,b∉ch->s.heap.get? b=some o->H b=none->H' b=none)
  (there:∀ b o,b∉ch->s.heap.get? b=some o->∃ o',h'.get? b=some o')
  (qv:∀ b xs,H b=some (.tup xs)->H' b=some (.tup xs))(oB:∀ b o u,H b=some (.fJ o u)->H' b=some (.fJ o u))(qt:∀ b ps,H b=some (.GA ps)->∃ more,H' b=some (.GA (ps++more)))
  (ns:∀ m,s.heap.Ns X.env.locals m->h'.Ns X.env.locals m)(bp:ku X.prog X.w H' h')(hg:AllBare g') :
  Inv X pins σ H' { s with heap:=h',gens:=g',drawn:=d',toks:=t' }:=by
 have neL:∀ b o,X.s₀.heap.get? b=some o->b≠X.env.locals:=fun b o e=>Nat.ne_of_lt (Nat.lt_of_lt_of_le (Heap.lt_size e) I.ok.above)
 have neC:∀ b o,X.s₀.heap.get? b=some o->b∉X.ex->b∉ch:=fun b o e hx hb=>by
  rcases(hch b hb).1 with z|z
  ·exact hx z
  ·exact absurd (Nat.lt_of_lt_of_le (Heap.lt_size e) z) (Nat.lt_irrefl _)
 have cellK:∀ x c,X.env.cells.lookup x=some c->∀ v,s.heap.IsCell c v->h'.IsCell c v:=fun x c e v ⟨o,ho,hd⟩=>by
  have nch:c∉ch:=fun z=>(hch c z).2.2.1 x c e rfl
  by_cases hc:c∈X.fs
  ·obtain⟨sl,q⟩:=slot c o (I.HY x c e) hc nch ho (I.fA x c e)
   exact⟨_,q,hd⟩
  ·exact⟨o,keep c o (I.HY x c e) hc nch ho (I.fA x c e),hd⟩
 refine⟨I.ok,I.os,hg,⟨fun b o e n hb hx=>?_,fun b o e n hb hx=>?_,fun b o e n hx=>?_,fun b o e hx=>?_,fun b xs e=>qv b xs (I.base.qv b xs e),fun b o xs e=>oB b o xs (I.base.oB b o xs e),fun b ps e=>?_⟩,?_,fun x c e=>?_,?_,fun x c e=>?_,fun p hp=>?_,bp,I.len⟩
 ·exact keep b o (neL b o e) hb (neC b o e hx) (I.base.keep b o e n hb hx) (I.base.free b o e n hx)
 ·obtain⟨sl,e1⟩:=I.base.slot b o e n hb hx
  obtain⟨sl',e2⟩:=slot b _ (neL b o e) hb (neC b o e hx) e1 (I.base.free b o e n hx)
  exact⟨sl',e2⟩
 ·obtain⟨o',e1⟩:=I.base.there b o e hx
  exact free b o' (neC b o e hx) e1 (I.base.free b o e n hx)
 ·obtain⟨o',e1⟩:=I.base.there b o e hx
  exact there b o' (neC b o e hx) e1
 ·obtain⟨m1,e1⟩:=I.base.qt b ps e
  obtain⟨m2,e2⟩:=qt b _ e1
  exact⟨m1++m2,by rw [e2,Array.append_assoc]⟩
 ·obtain⟨m,hn,hl⟩:=I.loc
  refine⟨m,ns m hn,fun i x v e1 e2 e3=>?_⟩
  obtain⟨u,r,l⟩:=hl i x v e1 e2 e3
  refine⟨u,r,?_⟩
  rcases l with l|⟨k,c,e,z⟩
  ·exact .inl l
  ·exact .inr ⟨k,c,e,cellK x c e _ z⟩
 ·obtain⟨v,z⟩:=I.cell x c e
  exact⟨v,cellK x c e v z⟩
 ·obtain⟨m,⟨o,_,_,ho,_⟩,_⟩:=I.loc
  exact free _ o (fun z=>(hch _ z).2.1 rfl) ho I.free
 ·obtain⟨v,o,ho,hd⟩:=I.cell x c e
  exact free c o (fun z=>(hch c z).2.2.1 x c e rfl) ho (I.fA x c e)
 ·obtain⟨e,n,ne,nf,d⟩:=I.pin p hp
  have nch:p.1∉ch:=fun z=>(hch p.1 z).2.2.2 p hp rfl
  exact⟨keep p.1 p.2 ne nf nch e n,free p.1 p.2 nch e n,ne,nf,d⟩
theorem Inv.un {t':Nat}(I:Inv X pins σ H s)(u:Un X.fs [] H H' s.heap h')(bp:ku X.prog X.w H' h'):Inv X pins σ H' { s with heap:=h',toks:=t' }:=by
 obtain⟨m,⟨o,es,ep,ho,r⟩,_⟩:=id I.loc
 obtain⟨sl,hL⟩:=u.any ho I.free (by simp)
 exact I.step (g':=s.gens) (d':=s.drawn) (ch:=[]) (fun _ z=>nomatch z) (fun b o _ hb _ e n=>u.keep b o e n hb (by simp)) (fun b o _ hb _ e n=>u.slot b o e n hb (by simp)) (fun b o _ e n=>u.free b o e n (by simp)) (fun b o _ e=>u.there b o e (by simp)) u.qv u.oB u.qt (fun m' hm=>by
  obtain⟨o',es',ep',ho',r'⟩:=hm
  rw [ho] at ho';cases ho'
  exact⟨_,es',ep',hL,r'⟩) bp I.bare
theorem Inv.call {g':Array GenState}{t':Nat}{d':Drawn}{ch:List Addr}(I:Inv X pins σ H s)(u:Un (B7 X.stack) ch H H' s.heap h')(bp:ku X.prog X.w H' h')(hg:AllBare g')
  (hch:∀ b∈ch,(b∈X.ex\/X.s₀.heap.objs.size<=b)/\b≠X.env.locals/\(∀ x c,X.env.cells.lookup x=some c->c≠b)/\∀ p∈X.pn++pins,p.1≠b) :
  Inv X pins σ H' { s with heap:=h',gens:=g',drawn:=d',toks:=t' }:=by
 obtain⟨m,⟨o,es,ep,ho,r⟩,_⟩:=id I.loc
 obtain⟨sl,hL⟩:=u.any ho I.free fun z=>(hch _ z).2.1 rfl
 exact I.step (ch:=ch) hch (fun b o hL hb hc e n=>u.keep b o e n (fun z=>(List.mem_cons.mp (I.ug b z)).elim hL hb) hc) (fun b o _ _ hc e n=>u.any e n hc) (fun b o hc e n=>u.free b o e n hc) (fun b o hc e=>u.there b o e hc) u.qv u.oB u.qt (fun m' hm=>by
  obtain⟨o',es',ep',ho',r'⟩:=hm
  rw [ho] at ho';cases ho'
  exact⟨_,es',ep',hL,r'⟩) bp hg
theorem Inv.turned {t':Nat}{it:Addr}(I:Inv X pins σ H s)(k:∀ b o,b≠it->s.heap.get? b=some o->h'.get? b=some o)(hn:H it=none)(hL:it≠X.env.locals)
  (h1:it∈X.ex\/X.s₀.heap.objs.size<=it)(h2:∀ x c,X.env.cells.lookup x=some c->c≠it)(h3:∀ p∈X.pn++pins,p.1≠it):Inv X pins σ H { s with heap:=h',toks:=t' }:=by
 have nit:∀ b u,H b=some u->b≠it:=fun b u e z=>by rw [z,hn] at e;cases e
 refine I.step (g':=s.gens) (d':=s.drawn) (ch:=[it]) (fun b hb=>?_) (fun b o _ _ hc e _=>k b o (fun z=>hc (by simp [z])) e) (fun b o _ _ hc e _=>⟨o.slots,k b o (fun z=>hc (by simp [z])) e⟩) (fun _ _ _ _ n=>n)
  (fun b o hc e=>⟨o,k b o (fun z=>hc (by simp [z])) e⟩) (fun _ _ e=>e) (fun _ _ _ e=>e) (fun b ps e=>⟨#[],by rw [e];simp⟩) (fun m hm=>?_) (fun b u e=>?_) I.bare
 ·have e:b=it:=by simpa using hb
  subst e
  exact⟨h1,hL,h2,h3⟩
 ·obtain⟨o,es,ep,ho,r⟩:=hm
  exact⟨o,es,ep,k _ o (Ne.symm hL) ho,r⟩
 ·refine(I.bp b u e).oq (fun c v hc q=>k c v ?_ q) (fun _ q=>q) fun _ _ q=>q
  rcases hc with z|z
  ·rw [z];exact nit b u e
  ·exact nit c _ z
theorem Inv.tok (I:Inv X pins σ H s)(t:Nat):Inv X pins σ H { s with toks:=t }:=I.un (h':=s.heap) (t':=t) Un.refl I.bp
theorem Inv.kept {t':Nat}(I:Inv X pins σ H s)(k:∀ b u,s.heap.get? b=some u->h'.get? b=some u):Inv X pins σ H { s with heap:=h',toks:=t' }:=I.un (Un.kept k) (I.bp.kept k)
theorem Inv.laid {a:Addr}{o:HO}{t':Nat}(I:Inv X pins σ H s)(k:∀ b u,s.heap.get? b=some u->h'.get? b=some u)(hp:s.heap.objs.size<=a)(new:bN X.prog X.w (upd H a o) h' a o) :
  Inv X pins σ (upd H a o) { s with heap:=h',toks:=t' }:=I.un (Un.laid k hp (I.bp.fresh hp)) (I.bp.laid k hp new)
theorem Inv.write {x e:Addr}{o:HO}{t':Nat}(I:Inv X pins σ H s)(mu:Js (H x))(he:e=x\/H e=some (.own x))(k:∀ b u,b≠e->s.heap.get? b=some u->h'.get? b=some u)(heo:∃ u,h'.get? e=some u)
  (new:bN X.prog X.w (upd H x o) h' x o):Inv X pins σ (upd H x o) { s with heap:=h',toks:=t' }:=I.un (Un.write mu he k heo) (I.bp.write mu he k heo new)
theorem Inv.weak {σ':List (Option V)}(I:Inv X pins σ H s)(hl:σ'.length=σ.length)(w:∀(i:Nat) v,σ'[i]?=some (some v)->σ[i]?=some (some v)):Inv X pins σ' H s :=
 ⟨I.ok,I.os,I.bare,I.base,let ⟨m,hn,hl'⟩:=I.loc;⟨m,hn,fun i x v e1 e2 e3=>hl' i x v e1 (w i v e2) e3⟩,I.cell,I.free,I.fA,I.pin,I.bp,hl.trans I.len⟩
theorem Inv.uM {pins':List (Addr × Obj)}(I:Inv X pins σ H s)(h:∀ p∈pins',s.heap.get? p.1=some p.2/\H p.1=none/\p.1≠X.env.locals/\p.1∉X.fs/\∀ v,p.2.data≠.cell v):Inv X pins' σ H s :=
 ⟨I.ok,I.os,I.bare,I.base,I.loc,I.cell,I.free,I.fA,fun p hp=>(List.mem_append.mp hp).elim (fun z=>I.pin p (List.mem_append_left _ z)) (h p),I.bp,I.len⟩
theorem wC {N:List Str}(hN:N.Nodup){i j:Nat}{x:Str}(a:N[i]?=some x)(b:N[j]?=some x):i=j:=by
 obtain⟨h1,e1⟩:=List.getElem?_eq_some_iff.mp a
 obtain⟨h2,e2⟩:=List.getElem?_eq_some_iff.mp b
 exact(List.getElem_inj hN).mp (e1.trans e2.symm)
theorem Aw {M:Model}{A:Around}{E:Value->Shared->Prop}{i:Nat}{x:Str}{v:V}{u:Value}{Q:Unit->Shared->Prop}(I:Inv X pins σ H s)(hN:X.N.Nodup)(hi:X.N[i]?=some x)(hx:Loc X.env.scope x)(r:RelV v u)
  (h:∀ s',Inv X pins (σ.set i (some v)) H s'->(∃ a,Heap.SameBut a s.heap s'.heap/\(a=X.env.locals\/X.env.cells.lookup x=some a))->Q () s')(hf:X.fn x=true\/X.env.scope.names.lookup x=some .local:=by first|exact .inl rfl|exact .inr rfl|assumption):wpAny M A (storeName X.env x u) Q E s:=by
 obtain⟨m,hn,hl⟩:=id I.loc
 have hcls:(X.env.scope.kind == .class||(X.env.scope.kind == .module&&X.env.locals != X.env.globals))=false:=by rw [I.ok.kind];rfl
 have hiσ:i<σ.length:=by rw [I.len];exact(List.getElem?_eq_some_iff.mp hi).1
 have HY:=I.HY
 have tracked:∀{a:Addr} {h':Heap},(∃ o,s.heap.get? a=some o/\H a=none)->Heap.SameBut a s.heap h'->ku X.prog X.w H h':=fun{a h'} ha hs b ob e=>by
  obtain⟨_,_,hfree⟩:=ha
  refine(I.bp b ob e).oq (fun c w' hc q=>(hs.2 c ?_).trans q) (fun _ q=>q) fun _ _ q=>q
  rintro rfl
  rcases hc with rfl|hc
  ·rw [hfree] at e;cases e
  ·rw [hfree] at hc;cases hc
 rcases hx with hk|hk
 ·refine wpAny_storeName_local hk hn (fun h' hn' hs=>?_) hcls
  obtain⟨oL,_,_,hoL,_⟩:=id hn
  refine h _ ⟨I.ok,I.os,I.bare,⟨fun b o e n hb hx=>?_,fun b o e n hb hx=>?_,I.base.free,fun b o e hx=>?_,I.base.qv,I.base.oB,I.base.qt⟩,⟨_,hn',fun j y v' e1 e2 e3=>?_⟩,fun y c e=>?_,I.free,I.fA,fun p hp=>?_,tracked ⟨oL,hoL,I.free⟩ hs,by simpa using I.len⟩ ⟨_,hs,.inl rfl⟩
  ·exact(hs.2 b (Nat.ne_of_lt (Nat.lt_of_lt_of_le (Heap.lt_size e) I.ok.above))).trans (I.base.keep b o e n hb hx)
  ·obtain⟨sl,e1⟩:=I.base.slot b o e n hb hx
   exact⟨sl,(hs.2 b (Nat.ne_of_lt (Nat.lt_of_lt_of_le (Heap.lt_size e) I.ok.above))).trans e1⟩
  ·obtain⟨o',e1⟩:=I.base.there b o e hx
   exact⟨o',(hs.2 b (Nat.ne_of_lt (Nat.lt_of_lt_of_le (Heap.lt_size e) I.ok.above))).trans e1⟩
  ·by_cases hj:j=i
   ·subst hj
    rw [hi] at e1;cases e1
    rw [List.getElem?_set_self hiσ] at e2
    cases e2
    exact⟨u,r,.inl ⟨hk,by simp⟩⟩
   ·rw [List.getElem?_set_ne (Ne.symm hj)] at e2
    obtain⟨u',r',q⟩:=hl j y v' e1 e2 e3
    refine⟨u',r',?_⟩
    rcases q with⟨k,e⟩|⟨k,c,e,z⟩
    ·refine .inl ⟨k,?_⟩
     have:y≠x:=fun e=>hj (wC hN e1 (e ▸ hi))
     simp [this,e]
    ·exact .inr ⟨k,c,e,z.sameBut hs (HY y c e)⟩
  ·obtain⟨w',z⟩:=I.cell y c e
   exact⟨w',z.sameBut hs (HY y c e)⟩
  ·obtain⟨e,n,ne,nf,d⟩:=I.pin p hp
   exact⟨(hs.2 p.1 ne).trans e,n,ne,nf,d⟩
 ·have hfn:X.fn x=true:=by
   rcases hf with z|z
   ·exact z
   ·rw [z] at hk;cases hk
  obtain⟨c,hc⟩:=I.ok.has x (.inl hk)
  obtain⟨w',z⟩:=I.cell x c hc
  refine wpAny_storeName_cell I.ok.kind hk hc z (fun h' hc' hs=>?_)
  obtain⟨oc,hoc,hocd⟩:=id z
  refine h { s with heap:=h' } ⟨I.ok,I.os,I.bare,⟨fun b o e n hb hx=>?_,fun b o e n hb hx=>?_,I.base.free,fun b o e hx=>?_,I.base.qv,I.base.oB,I.base.qt⟩,⟨m,hn.sameBut hs (Ne.symm (HY x c hc)),fun j y v' e1 e2 e3=>?_⟩,fun y c' e=>?_,I.free,I.fA,fun p hp=>?_,tracked ⟨oc,hoc,I.fA x c hc⟩ hs,by simpa using I.len⟩ ⟨c,hs,.inr hc⟩
  ·exact(hs.2 b (Nat.ne_of_lt (Nat.lt_of_lt_of_le (Heap.lt_size e) (I.ok.Jz x c hfn hc)))).trans (I.base.keep b o e n hb hx)
  ·obtain⟨sl,e1⟩:=I.base.slot b o e n hb hx
   exact⟨sl,(hs.2 b (Nat.ne_of_lt (Nat.lt_of_lt_of_le (Heap.lt_size e) (I.ok.Jz x c hfn hc)))).trans e1⟩
  ·obtain⟨o',e1⟩:=I.base.there b o e hx
   exact⟨o',(hs.2 b (Nat.ne_of_lt (Nat.lt_of_lt_of_le (Heap.lt_size e) (I.ok.Jz x c hfn hc)))).trans e1⟩
  ·by_cases hj:j=i
   ·subst hj
    rw [hi] at e1;cases e1
    rw [List.getElem?_set_self hiσ] at e2
    cases e2
    exact⟨u,r,.inr ⟨.inl hk,c,hc,hc'⟩⟩
   ·rw [List.getElem?_set_ne (Ne.symm hj)] at e2
    obtain⟨u',r',q⟩:=hl j y v' e1 e2 e3
    refine⟨u',r',?_⟩
    rcases q with q|⟨k,c',e,z'⟩
    ·exact .inl q
    ·refine .inr ⟨k,c',e,z'.sameBut hs ?_⟩
     rintro rfl
     exact hj (wC hN e1 (I.ok.inj _ _ _ e hc ▸ hi))
  ·by_cases hcc:c'=c
   ·subst hcc;exact⟨_,hc'⟩
   ·obtain⟨w2,z2⟩:=I.cell y c' e
    exact⟨w2,z2.sameBut hs hcc⟩
  ·obtain⟨e,n,ne,nf,d⟩:=I.pin p hp
   refine⟨(hs.2 p.1 ?_).trans e,n,ne,nf,d⟩
   intro q
   rw [q,hoc] at e
   have q':oc=p.2:=Option.some.inj e
   exact d w' (by rw [<- q'];exact hocd)
theorem wa {M:Model}{A:Around}{E:Value->Shared->Prop}{i:Nat}{x:Str}{v:V}{u:Value}{Q:Unit->Shared->Prop}(I:Inv X pins σ H s)(hN:X.N.Nodup)(hi:X.N[i]?=some x)(hx:Loc X.env.scope x)(r:RelV v u)
  (h:∀ s',Inv X pins (σ.set i (some v)) H s'->Q () s')(hf:X.fn x=true\/X.env.scope.names.lookup x=some .local:=by first|exact .inl rfl|exact .inr rfl|assumption):wpAny M A (storeName X.env x u) Q E s :=
 Aw I hN hi hx r (fun s' I' _=>h s' I') hf
theorem Inv.BY {s':Shared}{ch:List Addr}(I:Inv X pins σ H s)(ho:s'.os=s.os)(u:Un (B7 X.stack) ch H H' s.heap s'.heap)(bp:ku X.prog X.w H' s'.heap)(hg:AllBare s'.gens)
  (hch:∀ b∈ch,(b∈X.ex\/X.s₀.heap.objs.size<=b)/\b≠X.env.locals/\(∀ x c,X.env.cells.lookup x=some c->c≠b)/\∀ p∈X.pn++pins,p.1≠b):Inv X pins σ H' s':=by
 obtain⟨h',g',d',t',o'⟩:=s'
 have e:o'=s.os:=ho
 subst e
 exact I.call (g':=g') (t':=t') (d':=d') u bp hg hch
end
abbrev XK:=Value->Option Addr->Hp->Prop
abbrev St:=List (Option V)
abbrev VK:=V->Hp->Prop
abbrev TE:=St->Hp->VK->Prop
abbrev TT:=St->Hp->(Bool->Hp->Prop)->Prop
abbrev TA:=St->Hp->(List V->Hp->Prop)->Prop
structure Ends where
 nx:St->Hp->Prop
 rt:VK
 bk:St->Hp->Prop:=fun _ _=>False
 ct:St->Hp->Prop:=fun _ _=>False
abbrev TS:=Ends->St->Hp->Prop
def EP (X:Cx)(pins:List (Addr × Obj))(σ:St)(Q:VK)(u:Value)(s':Shared):Prop:=∃ v H',Inv X pins σ H' s'/\RelV v u/\Q v H'
def TP (X:Cx)(pins:List (Addr × Obj))(σ:St)(Q:Bool->Hp->Prop)(b:Bool)(s':Shared):Prop:=∃ H',Inv X pins σ H' s'/\Q b H'
def AP (X:Cx)(pins:List (Addr × Obj))(σ:St)(Q:List V->Hp->Prop)(us:List Value)(s':Shared):Prop:=∃ vs H',Inv X pins σ H' s'/\Vals vs us/\Q vs H'
def SP (X:Cx)(pins:List (Addr × Obj))(D:Ends)(f:Flow)(s':Shared):Prop :=
 match f with
 | .next=>∃ σ' H',Inv X pins σ' H' s'/\D.nx σ' H'
 | .brk=>∃ σ' H',Inv X pins σ' H' s'/\D.bk σ' H'
 | .cont=>∃ σ' H',Inv X pins σ' H' s'/\D.ct σ' H'
 | .ret u=>∃ v σ' H',Inv X pins σ' H' s'/\RelV v u/\D.rt v H'
def PE (X:Cx)(e:Expr)(t:TE):Prop :=
 ∀(pins:List (Addr × Obj)) (s:Shared) (σ:St) (H:Hp) (Q:VK),Inv X pins σ H s->t σ H Q->wpAny (model X.prog X.w) X.A (eval e X.env) (EP X pins σ Q) X.xe s
def PT (X:Cx)(e:Expr)(t:TT):Prop :=
 ∀(pins:List (Addr × Obj)) (s:Shared) (σ:St) (H:Hp) (Q:Bool->Hp->Prop),Inv X pins σ H s->t σ H Q->wpAny (model X.prog X.w) X.A (isTrue e X.env (eval e X.env)) (TP X pins σ Q) X.xe s
def PW (X:Cx)(e:Expr)(t:TT):Prop :=
 ∀(whole:Sem Value) (pins:List (Addr × Obj)) (s:Shared) (σ:St) (H:Hp) (Q:Bool->Hp->Prop),Inv X pins σ H s->t σ H Q->wpAny (model X.prog X.w) X.A (isTrue e X.env whole) (TP X pins σ Q) X.xe s
theorem PW.pt {X:Cx}{e:Expr}{t:TT}(h:PW X e t):PT X e t:=h _
def PA (X:Cx)(es:List Expr)(t:TA):Prop :=
 ∀(pos:Pos) (pins:List (Addr × Obj)) (s:Shared) (σ:St) (H:Hp) (Q:List V->Hp->Prop),Inv X pins σ H s->t σ H Q->wpAny (model X.prog X.w) X.A (spliced (backTo pos (starEach es X.env))) (AP X pins σ Q) X.xe s
def PS (X:Cx)(st:Stmt)(t:TS):Prop :=
 ∀(pins:List (Addr × Obj)) (s:Shared) (σ:St) (H:Hp) (D:Ends),Inv X pins σ H s->t D σ H->wpAny (model X.prog X.w) X.A (exec st X.env) (SP X pins D) X.xe s
def mG (X:Cx)(st:List Stmt)(t:TS):Prop :=
 ∀(pins:List (Addr × Obj)) (s:Shared) (σ:St) (H:Hp) (D:Ends),Inv X pins σ H s->t D σ H->wpAny (model X.prog X.w) X.A (execs st X.env) (SP X pins D) X.xe s
theorem b9 {α:Type}{t:Sem α}{Q Q':α->Shared->Prop}{M:Model}{A:Around}{E:Value->Shared->Prop}{s:Shared}(h:wpAny M A t Q E s)(hQ:∀ a s,Q a s->Q' a s):wpAny M A t Q' E s:=wpAny_mono h hQ fun _ _ x=>x
section
variable {X:Cx}
def Ay (i:Nat):TE:=fun σ H Q=>∃ v,σ[i]?=some (some v)/\Q v H
def tC (v:V):TE:=fun _ H Q=>Q v H
theorem dW {i:Nat}{x:Str}{pos:Pos}(hN:X.N[i]?=some x)(hv:ur X.env.scope x)(hd:(x == ("__debug__":Str))=false:=by decide)(hcd:(x == ("__classdict__":Str))=false:=by decide):PE X (.Name x pos) (Ay i):=by
 intro pins s σ H Q I h
 obtain⟨v,e,h⟩:=h
 obtain⟨m,hn,hl⟩:=I.loc
 obtain⟨u,r,l⟩:=hl i x v hN e hv
 have fin:EP X pins σ Q u s:=⟨v,H,I,r,h⟩
 rcases l with⟨hk,hm⟩|⟨hk,c,hc,hcell⟩
 ·exact wpAny_Name (wpAny_loadName_local I.ok.kind hk hn hm fin) hd
 ·rcases hk with hk|hk
  ·exact wpAny_Name (wpAny_loadName_cell I.ok.kind hk hc hcell fin) hd
  ·exact wpAny_Name (wpAny_loadName_free I.ok.kind hk hc hcell fin hcd) hd
theorem Iw {i j pos}:PE X (.Constant (.int i) j pos) (tC (.int i)):=fun _ _ _ H _ I h=>wpAny_Constant_int ⟨.int i,H,I.tok _,⟨_,rfl⟩,h⟩
theorem Kx {b j pos}:PE X (.Constant (.bool b) j pos) (tC (.bl b)):=fun _ _ _ H _ I h=>Constant_bool ⟨.bl b,H,I,rfl,h⟩
theorem Iy {j pos}:PE X (.Constant .none j pos) (tC .aj):=fun _ _ _ H _ I h=>Constant_none ⟨.aj,H,I,rfl,h⟩
theorem I_ {x j pos}:PE X (.Constant (.str x) j pos) (tC (.str x)):=fun _ _ _ H _ I h=>Calls.Constant_str ⟨.str x,H,I.tok _,⟨_,rfl⟩,h⟩
def Gl (X:Cx)(x:Str):Prop:=X.env.kindOf x=some .globalImplicit
theorem uB {E:Value->Shared->Prop}{pins:List (Addr × Obj)}{s:Shared}{σ:St}{H:Hp}{x:Str}{u:Value}{pos:Pos}{Q:Value->Shared->Prop}(I:Inv X pins σ H s)(hg:Gl X x)(hm:X.mg x=some u)(h:Q u s)
  (hd:(x == ("__debug__":Str))=false:=by decide):wpAny (model X.prog X.w) X.A (eval (.Name x pos) X.env) Q E s :=
 Calls.Name_function_global I.ok.kind hg (Calls.loadGlobal_global (by rw [I.ok.glob];exact I.mod.glob.keeps I.bk) hm h) hd
theorem oP {E:Value->Shared->Prop}{pins:List (Addr × Obj)}{s:Shared}{σ:St}{H:Hp}{x:Str}{u:Value}{pos:Pos}{Q:Value->Shared->Prop}(I:Inv X pins σ H s)(hg:Gl X x)(hm:X.mg x=none)(hv:bootBuiltins x=some u)(h:Q u s)
  (hn:x≠"__name__":=by decide)(hd:(x == ("__debug__":Str))=false:=by decide):wpAny (model X.prog X.w) X.A (eval (.Name x pos) X.env) Q E s:=by
 obtain⟨mb,h1,h2⟩:=I.mod.blt
 exact Calls.Name_function_global I.ok.kind hg (Calls.loadGlobal_builtin (by rw [I.ok.glob];exact I.mod.glob.keeps I.bk) hm (by rw [I.ok.blt];exact h1.keeps I.bk) ((h2 x hn).trans hv) h) hd
theorem zR {x:Str}{v:V}{u:Value}{pos:Pos}(hg:Gl X x)(hm:X.mg x=some u)(r:RelV v u)(hd:(x == ("__debug__":Str))=false:=by decide):PE X (.Name x pos) (tC v) :=
 fun _ _ _ H _ I h=>uB I hg hm ⟨v,H,I,r,h⟩ hd
theorem FY {x:Str}{v:V}{u:Value}{pos:Pos}(hg:Gl X x)(hm:X.mg x=none)(hv:bootBuiltins x=some u)(r:RelV v u)(hn:x≠"__name__":=by decide)(hd:(x == ("__debug__":Str))=false:=by decide):PE X (.Name x pos) (tC v) :=
 fun _ _ _ H _ I h=>oP I hg hm hv ⟨v,H,I,r,h⟩ hn hd
variable {a b:Expr}{ta tb:TE}{pos:Pos}
def PC (X:Cx)(op:CmpOp)(a b:Expr)(t:TE):Prop :=
 ∀(pins:List (Addr × Obj)) (s:Shared) (σ:St) (H:Hp) (Q:VK),Inv X pins σ H s->t σ H Q ->
  wpAny (model X.prog X.w) X.A (eval a X.env) (fun v s₁=>wpAny (model X.prog X.w) X.A (eval b X.env) (fun u s₂=>wpAny (model X.prog X.w) X.A (compareOp op v u) (EP X pins σ Q) X.xe s₂) X.xe s₁) X.xe s
theorem Cs {op:CmpOp}{t:TE}(h:PC X op a b t)(h1:behindInMarks op b=false:=by first|exact Kq _ (by decide) (by decide)|rfl):PE X (.Compare a [op] [b] pos) t:=fun pins s σ H Q I hw=>wpAny_Compare1 (h pins s σ H Q I hw) h1
variable {tA tB':TT}{rest:List Expr}
def M0 (t u:TT):TT:=fun σ H Q=>t σ H fun c H1=>if c=true then u σ H1 Q else Q false H1
def N7 (t u:TT):TT:=fun σ H Q=>t σ H fun c H1=>if c=true then Q true H1 else u σ H1 Q
def M5 (t:TT):TT:=fun σ H Q=>t σ H fun c H1=>Q (!c) H1
theorem Fp (ha:PT X a tA):PW X (.BoolOp .And [a] pos) tA:=by
 intro wh pins s σ H Q I h
 refine isTrue_and (b9 (ha pins s σ H Q I h) fun c s1 e=>?_)
 cases c with
 | true=>exact isTrue_and_nil e
 | false=>exact e
theorem JI (ha:PT X a tA):PW X (.BoolOp .Or [a] pos) tA:=by
 intro wh pins s σ H Q I h
 refine isTrue_or (b9 (ha pins s σ H Q I h) fun c s1 e=>?_)
 cases c with
 | false=>exact isTrue_or_nil e
 | true=>exact e
theorem JH (ha:PT X a tA)(hb:PW X (.BoolOp .And (b::rest) pos) tB'):PW X (.BoolOp .And (a::b::rest) pos) (M0 tA tB'):=by
 intro wh pins s σ H Q I h
 refine isTrue_and (b9 (ha pins s σ H _ I h) fun c s1 ⟨H1,I1,q1⟩=>?_)
 cases c with
 | true=>exact hb wh pins s1 σ H1 Q I1 q1
 | false=>exact⟨H1,I1,q1⟩
theorem K1 (ha:PT X a tA)(hb:PW X (.BoolOp .Or (b::rest) pos) tB'):PW X (.BoolOp .Or (a::b::rest) pos) (N7 tA tB'):=by
 intro wh pins s σ H Q I h
 refine isTrue_or (b9 (ha pins s σ H _ I h) fun c s1 ⟨H1,I1,q1⟩=>?_)
 cases c with
 | true=>exact⟨H1,I1,q1⟩
 | false=>exact hb wh pins s1 σ H1 Q I1 q1
theorem JG (ha:PT X a tA):PT X (.UnaryOp .Not a pos) (M5 tA):=by
 intro pins s σ H Q I h
 exact isTrue_not (ha pins s σ H (fun c H1=>Q (!c) H1) I h)
def LN (ta tb:TE):TE:=fun σ H Q=>ta σ H fun x H1=>∃ c,x=.bl c/\if c=true then tb σ H1 Q else Q (.bl false) H1
def M6 (ta tb:TE):TE:=fun σ H Q=>ta σ H fun x H1=>∃ c,x=.bl c/\if c=true then Q (.bl true) H1 else tb σ H1 Q
theorem Iz {op}{t:TE}(h:PE X a t):PE X (.BoolOp op [a] pos) t:=fun pins s σ H Q I hw=>BoolOp_one (h pins s σ H Q I hw)
theorem Iu (ha:PE X a ta)(hb:PE X (.BoolOp .And (b::rest) pos) tb):PE X (.BoolOp .And (a::b::rest) pos) (LN ta tb):=by
 intro pins s σ H Q I h
 refine BoolOp_and (b9 (ha pins s σ H _ I h) fun v s1 ⟨x,H1,I1,r1,q1⟩=>?_)
 obtain⟨c,rfl,q1⟩:=q1
 cases r1
 refine wpAny_truthy_bool ?_
 cases c with
 | true=>exact hb pins s1 σ H1 Q I1 q1
 | false=>exact⟨.bl false,H1,I1,rfl,q1⟩
theorem Kz (ha:PE X a ta)(hb:PE X (.BoolOp .Or (b::rest) pos) tb):PE X (.BoolOp .Or (a::b::rest) pos) (M6 ta tb):=by
 intro pins s σ H Q I h
 refine BoolOp_or (b9 (ha pins s σ H _ I h) fun v s1 ⟨x,H1,I1,r1,q1⟩=>?_)
 obtain⟨c,rfl,q1⟩:=q1
 cases r1
 refine wpAny_truthy_bool ?_
 cases c with
 | false=>exact hb pins s1 σ H1 Q I1 q1
 | true=>exact⟨.bl true,H1,I1,rfl,q1⟩
def N6 (t:TT)(ta tb:TE):TE:=fun σ H Q=>t σ H fun c H1=>if c=true then ta σ H1 Q else tb σ H1 Q
theorem wJ {c:Expr}(hc:PT X c tA)(ha:PE X a ta)(hb:PE X b tb):PE X (.IfExp c a b pos) (N6 tA ta tb):=by
 intro pins s σ H Q I h
 refine wpAny_IfExp (b9 (hc pins s σ H _ I h) fun d s1 ⟨H1,I1,q1⟩=>?_)
 cases d with
 | true=>exact ha pins s1 σ H1 Q I1 q1
 | false=>exact hb pins s1 σ H1 Q I1 q1
end
def dg (K:PySem.W.Frag)(H:Hp)(a:Addr)(xs:List V):Prop :=
 Rd H a (.lst xs) \/
  ∃(o:Obj) (its:Array Value) (n:Nat),K.lookup a=some o/\o.cls=.type "list"/\o.dict=none/\o.data=.seq its n/\its.size<=sizeLine/\Vals xs its.toList
def iY (K:PySem.W.Frag)(H:Hp)(a:Addr)(xs:List V):Prop :=
 Rd H a (.tup xs) \/
  ∃(o:Obj) (its:Array Value) (n:Nat),K.lookup a=some o/\o.cls=.type "tuple"/\o.data=.seq its n/\its.size<=sizeLine/\Vals xs its.toList
def ME:Value->Option V
 | .none=>some .aj
 | .bool b=>some (.bl b)
 | .int i _=>some (.int i)
 | .str x _=>some (.str x)
 | .bytes b _=>some (.wt b)
 | .float b _=>some (.Lm b)
 | .ref a=>some (.ref a)
 | .type n=>some (.ty n)
 | _=>none
theorem RelV.abs {x:V}{u:Value}(r:RelV x u):ME u=some x:=by
 cases x with
 | aj=>cases r;rfl
 | bl _=>cases r;rfl
 | int _=>obtain⟨t,rfl⟩:=r;rfl
 | str _=>obtain⟨t,rfl⟩:=r;rfl
 | wt _=>obtain⟨t,rfl⟩:=r;rfl
 | Lm _=>obtain⟨t,rfl⟩:=r;rfl
 | ref _=>cases r;rfl
 | ty _=>cases r;rfl
theorem RelV.inj {x y:V}{u:Value}(r:RelV x u)(q:RelV y u):x=y:=Option.some.inj (r.abs.symm.trans q.abs)
theorem Vals.inj:∀{xs ys:List V} {us:List Value},Vals xs us->Vals ys us->xs=ys
 | _,_,_,.nil,.nil=>rfl
 | _,_,_,.cons r t,.cons r' t'=>by rw [r.inj r',Vals.inj t t']
section
variable {X:Cx}{pins:List (Addr × Obj)}{σ:St}{H:Hp}{s:Shared}{a:Addr}{xs ys:List V}
theorem dg.of {K:PySem.W.Frag}(h:H a=some (.lst xs)):dg K H a xs:=.inl (.inl h)
theorem iY.of {K:PySem.W.Frag}(h:H a=some (.tup xs)):iY K H a xs:=.inl (.inl h)
theorem Inv.list (I:Inv X pins σ H s)(h:dg X.K H a xs):∃ its:List Value,Vals xs its/\PlainL s.heap a its.toArray/\xs.length<=sizeLine:=by
 rcases h with h|⟨o,its,n,hk,hc,hd,hs,hz,r⟩
 ·obtain⟨z,its,n,r,e⟩:=h.ok I.bp
  exact⟨its,r,⟨_,n,e,rfl,rfl,rfl⟩,z⟩
 ·refine⟨its.toList,r,⟨o,n,I.uv a o hk,hc,hd,by simpa using hs⟩,?_⟩
  have e:=r.length
  simp only [Array.length_toList] at e
  omega
theorem Inv.tuple (I:Inv X pins σ H s)(h:iY X.K H a xs):∃ its:List Value,Vals xs its/\IsTup s.heap a its.toArray/\xs.length<=sizeLine:=by
 rcases h with h|⟨o,its,n,hk,hc,hs,hz,r⟩
 ·obtain⟨z,its,r,p⟩:=h.ok I.bp
  exact⟨its,r,p,z⟩
 ·refine⟨its.toList,r,⟨o,I.uv a o hk,hc,n,by simpa using hs⟩,?_⟩
  have e:=r.length
  simp only [Array.length_toList] at e
  omega
theorem Inv.vo (I:Inv X pins σ H s)(h:dg X.K H a xs)(h':dg X.K H a ys):xs=ys:=by
 obtain⟨its,r,⟨o,n,e,_,_,d⟩,_⟩:=I.list h
 obtain⟨its',r',⟨o',n',e',_,_,d'⟩,_⟩:=I.list h'
 rw [e] at e';cases e'
 rw [d] at d'
 injection d' with d1 _
 have:its=its':=by simpa using congrArg Array.toList d1
 subst this
 exact r.inj r'
theorem Inv.A7 (I:Inv X pins σ H s)(h:iY X.K H a xs)(h':iY X.K H a ys):xs=ys:=by
 obtain⟨its,r,⟨o,e,_,n,d⟩,_⟩:=I.tuple h
 obtain⟨its',r',⟨o',e',_,n',d'⟩,_⟩:=I.tuple h'
 rw [e] at e';cases e'
 rw [d] at d'
 injection d' with d1 _
 have:its=its':=by simpa using congrArg Array.toList d1
 subst this
 exact r.inj r'
end
abbrev Cx.rJ (X:Cx)(E:Value->Shared->Prop):Cx:={ X with xe:=E }
abbrev Cx.IZ (X:Cx):Cx:=X.rJ fun _ _=>False
theorem Cx.Ok.rJ {X:Cx}(ok:X.Ok)(E:Value->Shared->Prop):(X.rJ E).Ok :=
 ⟨ok.mod,ok.kind,ok.glob,ok.blt,ok.above,ok.inj,ok.has,ok.Jz,ok.hd,ok.frames,ok.Lz,ok.NV,ok.bs,ok.GZ,ok.Cf,ok.B3,ok.oG,ok.Gp⟩
theorem Cx.Ok.ko {X:Cx}{E:Value->Shared->Prop}(ok:(X.rJ E).Ok):X.Ok :=
 ⟨ok.mod,ok.kind,ok.glob,ok.blt,ok.above,ok.inj,ok.has,ok.Jz,ok.hd,ok.frames,ok.Lz,ok.NV,ok.bs,ok.GZ,ok.Cf,ok.B3,ok.oG,ok.Gp⟩
section
variable {X:Cx}{pins:List (Addr × Obj)}{σ:St}{H:Hp}{s:Shared}{E:Value->Shared->Prop}
theorem Inv.rJ (I:Inv X pins σ H s)(E:Value->Shared->Prop):Inv (X.rJ E) pins σ H s:=⟨I.ok.rJ E,I.os,I.bare,I.base,I.loc,I.cell,I.free,I.fA,I.pin,I.bp,I.len⟩
theorem Inv.ko (I:Inv (X.rJ E) pins σ H s):Inv X pins σ H s:=⟨I.ok.ko,I.os,I.bare,I.base,I.loc,I.cell,I.free,I.fA,I.pin,I.bp,I.len⟩
theorem SP.ko {D:Ends}{f:Flow}{s':Shared}(h:SP (X.rJ E) pins D f s'):SP X pins D f s':=by
 cases f with
 | next=>obtain⟨σ',H',I,q⟩:=h;exact⟨σ',H',I.ko,q⟩
 | brk=>obtain⟨σ',H',I,q⟩:=h;exact⟨σ',H',I.ko,q⟩
 | cont=>obtain⟨σ',H',I,q⟩:=h;exact⟨σ',H',I.ko,q⟩
 | ret u=>obtain⟨v,σ',H',I,r,q⟩:=h;exact⟨v,σ',H',I.ko,r,q⟩
theorem mG.IZ {st:List Stmt}{t:TS}(h:mG X.IZ st t):mG X st t:=fun pins s σ H D I hw =>
 wpAny_mono (h pins s σ H D (I.rJ _) hw) (fun _ _ q=>q.ko) fun _ _ z=>False.elim z
end
section
variable {X:Cx}{st:Stmt}{rest:List Stmt}{t u:TS}{e:Expr}{te:TE}{pos:Pos}
def LW:TS:=fun D σ H=>D.nx σ H
def M8 (t u:TS):TS:=fun D σ H=>t { D with nx:=u D } σ H
theorem uS:mG X [] LW:=fun _ _ σ H _ I h=>wpAny_execs_nil ⟨σ,H,I,h⟩
theorem qd (h1:PS X st t)(h2:mG X rest u):mG X (st::rest) (M8 t u):=by
 intro pins s σ H D I h
 refine wpAny_execs_cons (b9 (h1 pins s σ H { D with nx:=u D } I h) fun f s1 q=>?_)
 cases f with
 | next =>
  obtain⟨σ',H',I',q⟩:=q
  exact h2 pins s1 σ' H' D I' q
 | ret v=>exact q
 | brk=>exact q
 | cont=>exact q
theorem uT (h1:PS X st t):mG X [st] t:=by
 intro pins s σ H D I h
 refine wpAny_execs_cons (b9 (h1 pins s σ H D I h) fun f s1 q=>?_)
 cases f with
 | next=>exact wpAny_execs_nil q
 | ret v=>exact q
 | brk=>exact q
 | cont=>exact q
theorem Inv.quiet {pins:List (Addr × Obj)}{σ:St}{H:Hp}{s:Shared}(I:Inv X pins σ H s):interactive X.env=false:=by simp [interactive,I.ok.kind]
def LR (te:TE):TS:=fun D σ H=>te σ H fun _ H1=>D.nx σ H1
theorem iu (he:PE X e te)(hs:swapsWith e none pos.line X.env=pure false:=by rfl):PS X (.Expr e pos) (LR te):=by
 intro pins s σ H D I h
 exact wpAny_Expr_any (b9 (he pins s σ H _ I h) fun v s1 ⟨x,H1,I1,r1,q1⟩=>⟨σ,H1,I1,q1⟩) I.quiet hs
def M7 (te:TE):TS:=fun D σ H=>te σ H D.rt
theorem yE (he:PE X e te):PS X (.Return (some e) pos) (M7 te):=by
 intro pins s σ H D I h
 exact wpAny_Return_some (b9 (he pins s σ H _ I h) fun v s1 ⟨x,H1,I1,r1,q1⟩=>⟨x,σ,H1,I1,r1,q1⟩)
def M3 (c:TT)(t u:TS):TS:=fun D σ H=>c σ H fun b H1=>if b=true then t D σ H1 else u D σ H1
theorem C1 {c:Expr}{a b:List Stmt}{tc:TT}(hc:PT X c tc)(ha:mG X a t)(hb:mG X b u):PS X (.If c a b pos) (M3 tc t u):=by
 intro pins s σ H D I h
 refine wpAny_If (b9 (hc pins s σ H _ I h) fun d s1 ⟨H1,I1,q1⟩=>?_)
 cases d with
 | true=>exact ha pins s1 σ H1 D I1 q1
 | false=>exact hb pins s1 σ H1 D I1 q1
def JY:TS:=fun _ _ _=>False
theorem C2:PS X st JY:=fun _ _ _ _ _ _ h=>h.elim
end
abbrev TG:=V->St->Hp->(St->Hp->Prop)->Prop
abbrev GW:=List V->St->Hp->(St->Hp->Prop)->Prop
def PG (X:Cx)(target:Expr)(t:TG):Prop :=
 ∀(pins:List (Addr × Obj)) (s:Shared) (σ:St) (H:Hp) (v:V) (u:Value) (Q:St->Hp->Prop),Inv X pins σ H s->RelV v u->t v σ H Q ->
  wpAny (model X.prog X.w) X.A (assign target X.env u) (fun _ s'=>∃ σ' H',Inv X pins σ' H' s'/\Q σ' H') X.xe s
def Ds (X:Cx)(ts:List Expr)(t:GW):Prop :=
 ∀(pins:List (Addr × Obj)) (s:Shared) (σ:St) (H:Hp) (vs:List V) (us:List Value) (Q:St->Hp->Prop),Inv X pins σ H s->Vals vs us->t vs σ H Q ->
  wpAny (model X.prog X.w) X.A (assignInOrder ((assignEach ts X.env).map (·.2)) us) (fun _ s'=>∃ σ' H',Inv X pins σ' H' s'/\Q σ' H') X.xe s
abbrev HN:=V->V->V->Hp->(Hp->Prop)->Prop
def Ju (X:Cx)(t:HN):Prop :=
 ∀(pins:List (Addr × Obj)) (s:Shared) (σ:St) (H:Hp) (o i v:V) (ov iv u:Value) (Q:Hp->Prop),Inv X pins σ H s->RelV o ov->RelV i iv->RelV v u->t o i v H Q ->
  wpAny (model X.prog X.w) X.A (setItem ov iv u) (fun _ s'=>∃ H',Inv X pins σ H' s'/\Q H') X.xe s
section
variable {X:Cx}{pos:Pos}
def eO (i:Nat):TG:=fun v σ H Q=>Q (σ.set i (some v)) H
theorem bF {i:Nat}{x:Str}(hN:X.N.Nodup)(hi:X.N[i]?=some x)(hx:Loc X.env.scope x)(hf:X.fn x=true\/X.env.scope.names.lookup x=some .local:=by first|exact .inl rfl|exact .inr rfl|assumption):PG X (.Name x pos) (eO i):=by
 intro pins s σ H v u Q I r h
 exact wpAny_assign_Name (wa I hN hi hx r (fun s' I'=>⟨_,H,I',h⟩) hf)
def Hn:GW:=fun vs σ H Q=>vs=[]/\Q σ H
def m6 (t:TG)(u:GW):GW:=fun vs σ H Q=>∃ v r,vs=v::r/\t v σ H fun σ' H'=>u r σ' H' Q
theorem zS:Ds X [] Hn:=by
 intro pins s σ H vs us Q I r h
 obtain⟨e,h⟩:=h
 subst e
 cases r
 exact assignInOrder_nil ⟨σ,H,I,h⟩
theorem kL {e:Expr}{es:List Expr}{t:TG}{u:GW}(h1:PG X e t)(h2:Ds X es u)
  (hs:(assignEach (e::es) X.env).map (·.2)=assign e X.env::(assignEach es X.env).map (·.2):=by rfl):Ds X (e::es) (m6 t u):=by
 intro pins s σ H vs us Q I r h
 obtain⟨v,vr,e1,h⟩:=h
 subst e1
 cases r with
 | cons r rr =>
  rw [hs]
  refine assignInOrder_cons (b9 (h1 pins s σ H _ _ _ I r h) fun _ s1 ⟨σ1,H1,I1,q1⟩=>?_)
  exact h2 pins s1 σ1 H1 _ _ Q I1 rr q1
def Ho (K:PySem.W.Frag)(n:Nat)(t:GW):TG:=fun v σ H Q=>∃ a xs,v=.ref a/\iY K H a xs/\xs.length=n/\t xs σ H Q
theorem Cw {es:List Expr}{k:Nat}{t:GW}{n:Nat}(hc:X.calm=true)(h:Ds X es t)
  (hn:(assignEach es X.env).length=n:=by rfl)(hst:(assignEach es X.env).findIdx? (·.1)=none:=by rfl):PG X (.Tuple es k pos) (Ho X.K n t):=by
 intro pins s σ H v u Q I r hw
 obtain⟨a,xs,e1,hq,hl,hw⟩:=hw
 subst e1
 cases r
 obtain⟨its,rv,ht,hz⟩:=I.tuple hq
 refine assign_Tuple_tuple (I.ok.hd hc) ht (by simp [hn,<- hl,rv.length]) hst fun h' hx=>?_
 have I1:Inv X pins σ H { s with heap:=h' }:=I.kept (t':=s.toks) fun b o e=>hx b o (Nat.ne_of_lt (Heap.lt_size e)) e
 exact h pins _ σ H xs _ Q I1 (by simpa using rv) hw
def MS (to ti:TE)(t:HN):TG:=fun v σ H Q=>to σ H fun o H1=>ti σ H1 fun i H2=>t o i v H2 fun H3=>Q σ H3
theorem JB {o i:Expr}{to ti:TE}{t:HN}(ho:PE X o to)(hi:PE X i ti)(hs:Ju X t)
  (ha:∀ v,assign (.Subscript o i pos) X.env v=(do
   let ov <- holding [v] (eval o X.env)
   let iv <- holding [v,ov] (eval i X.env)
   standAt pos
   holding [v,ov,iv] (setItem ov iv v)
   release [v,ov,iv] []):=by intro _;rfl):PG X (.Subscript o i pos) (MS to ti t):=by
 intro pins s σ H v u Q I r h
 rw [ha]
 refine wpAny_bind (wpAny_holding (b9 (ho pins s σ H _ I h) fun ov s1 ⟨x,H1,I1,r1,q1⟩=>?_))
 refine wpAny_bind (wpAny_holding (b9 (hi pins s1 σ H1 _ I1 q1) fun iv s2 ⟨y,H2,I2,r2,q2⟩=>?_))
 refine wpAny_bind (wpAny_standAt (wpAny_bind (wpAny_holding (b9 (hs pins s2 σ H2 x y v ov iv u _ I2 r1 r2 r q2) fun _ s3 ⟨H3,I3,q3⟩=>?_))))
 exact wpAny_release ⟨σ,H3,I3,q3⟩
def LO (te:TE)(g:TG):TS:=fun D σ H=>te σ H fun x H1=>g x σ H1 D.nx
theorem JE {tg e:Expr}{te:TE}{g:TG}(he:PE X e te)(hg:PG X tg g)(hs:swapsWithSole [tg] e pos.line X.env=pure false:=by rfl)(hw:swappedStores [tg] e X.env=pure none:=by rfl)
  (h1:(assignEach [tg] X.env).map (·.2)=[assign tg X.env]:=by rfl):PS X (.Assign [tg] e pos) (LO te g):=by
 intro pins s σ H D I h
 refine wpAny_Assign_stores (b9 (he pins s σ H _ I h) fun v s1 ⟨x,H1,I1,r1,q1⟩=>?_) hs hw
 rw [h1]
 exact b9 (hg pins s1 σ H1 x v _ I1 r1 q1) fun _ s2 q=>q
theorem uQ {i:Nat}{x:Str}{e:Expr}{te:TE}{pos':Pos}(hN:X.N.Nodup)(hi:X.N[i]?=some x)(hx:Loc X.env.scope x)(he:PE X e te)(hs:swapsWith e (some (.Name x pos')) pos.line X.env=pure false:=by rfl)(hf:X.fn x=true\/X.env.scope.names.lookup x=some .local:=by first|exact .inl rfl|exact .inr rfl|assumption) :
  PS X (.Assign [.Name x pos'] e pos) (LO te (eO i)):=by
 intro pins s σ H D I h
 refine wpAny_Assign_Name (b9 (he pins s σ H _ I h) fun v s1 ⟨y,H1,I1,r1,q1⟩=>?_) hs
 exact wa I1 hN hi hx r1 (fun s2 I2=>⟨_,H1,I2,q1⟩) hf
end
section
variable {X:Cx}{pos:Pos}
def Ja (c:TT)(tb:TS):TS:=fun D σ H=>∃ W:Nat->St->Hp->Prop,(∃ m,W m σ H)/\∀ m σ H,W m σ H ->
 c σ H fun b H1=>if b=true then ∃ N:St->Hp->Prop,(∀ σ' H',N σ' H'->∃ m',m'<m/\W m' σ' H')/\tb { D with nx:=N,ct:=N,bk:=D.nx } σ H1 else D.nx σ H1
theorem C3 {c:Expr}{body:List Stmt}{tc:TT}{tb:TS}(hp:PassesOwn (model X.prog X.w) X.A X.env X.xe)(hc:PT X c tc)(hb:mG X body tb):PS X (.While c body [] pos) (Ja tc tb):=by
 intro pins s σ H D I h
 obtain⟨W,⟨m0,w0⟩,turn⟩:=h
 refine wpAny_While (codeAny_whileLoop (fun n s'=>∃ σ' H',Inv X pins σ' H' s'/\W n σ' H') ?_ m0 ⟨σ,H,I,w0⟩)
 rintro n s1 ⟨σ1,H1,I1,w1⟩
 refine wpAny_passesOwn hp (b9 (hc pins s1 σ1 H1 _ I1 (turn n σ1 H1 w1)) fun b s2 ⟨H2,I2,q2⟩=>?_)
 cases b with
 | true =>
  obtain⟨N,hN,q2⟩:=q2
  rw [if_pos rfl]
  refine wpAny_passesOwn hp (b9 (hb pins s2 σ1 H2 _ I2 q2) fun f s3 q3=>?_)
  cases f with
  | next =>
   obtain⟨σ3,H3,I3,n3⟩:=q3
   obtain⟨m',hm,w3⟩:=hN σ3 H3 n3
   exact⟨m',hm,σ3,H3,I3,w3⟩
  | cont =>
   obtain⟨σ3,H3,I3,n3⟩:=q3
   obtain⟨m',hm,w3⟩:=hN σ3 H3 n3
   exact⟨m',hm,σ3,H3,I3,w3⟩
  | brk=>exact q3
  | ret v=>exact q3
 | false =>
  rw [if_neg Bool.false_ne_true]
  exact wpAny_execs_nil ⟨σ1,H2,I2,q2⟩
end
structure It where
 go:Nat->Hp->Prop
 Dq:Nat->Hp->V->Hp->Prop
 stop:Nat->Hp->Prop
def jQ (X:Cx)(pins:List (Addr × Obj))(H:Hp)(b:Addr):Prop :=
 H b=none/\b≠X.env.locals/\b∉X.fs/\(b∈X.ex\/X.s₀.heap.objs.size<=b)/\(∀ x c,X.env.cells.lookup x=some c->c≠b)/\∀ p∈X.pn++pins,p.1≠b
theorem Inv.B6 {X:Cx}{pins:List (Addr × Obj)}{σ:St}{H H':Hp}{s:Shared}{b:Addr}(I:Inv X pins σ H s)(hb:s.heap.objs.size<=b)(hn:H' b=none):jQ X pins H' b:=by
 refine⟨hn,Nat.ne_of_gt (Nat.lt_of_lt_of_le I.lt hb),I.Mm hb,.inr (Nat.le_trans I.sz hb),fun x c e z=>?_,fun p hp z=>?_⟩
 ·obtain⟨v,q⟩:=I.cell x c e
  exact absurd (Nat.lt_of_lt_of_le q.lt (by rw [z];exact hb)) (Nat.lt_irrefl _)
 ·exact absurd (Nat.lt_of_lt_of_le (Heap.lt_size (I.pin p hp).1) (by rw [z];exact hb)) (Nat.lt_irrefl _)
structure Turn (P:Program) (w:World) (K:PySem.W.Frag) (tg:Expr) (J:It) (fp:List Addr) (it:Addr) (tn:Nat->Heap->Prop):Prop where
 mem:it∈fp
 obj:∀ i h,tn i h->∀ b∈fp,∃ o,h.get? b=some o/\∀ v,o.data≠.cell v
 keep:∀ i h h',tn i h->(∀ b∈fp,∀ o,h.get? b=some o->h'.get? b=some o)->tn i h'
 item:∀(X:Cx),X.prog=P->X.w=w->X.K=K->X.calm=true->∀(i:Nat) (pins:List (Addr × Obj)) (s:Shared) (σ:St) (H:Hp) (E:Value->Shared->Prop),Inv X pins σ H s->(∀ b∈fp,jQ X pins H b)->tn i s.heap->J.go i H ->
  wpAny (model P w) X.A (pyNext (.ref it)) (fun r s1=>∃ u,r=some u /\
   wpAny (model P w) X.A (letOwnedTupleGo tg (.ref it) u) (fun _ s2=>∃ x H',Inv X pins σ H' s2/\RelV x u/\J.Dq i H x H'/\tn (i+1) s2.heap/\∀ b∈fp,H' b=none) E s1) E s
 done:∀(X:Cx),X.prog=P->X.w=w->X.K=K->X.calm=true->∀(i:Nat) (pins:List (Addr × Obj)) (s:Shared) (σ:St) (H:Hp) (E:Value->Shared->Prop),Inv X pins σ H s->(∀ b∈fp,jQ X pins H b)->tn i s.heap->J.stop i H ->
  wpAny (model P w) X.A (pyNext (.ref it)) (fun r s1=>r=none/\Inv X pins σ H s1) E s
 self:∀(A:Around) (i:Nat) (s:Shared) (Q:Value->Shared->Prop) (E:Value->Shared->Prop),tn i s.heap->Q (.ref it) s->wpAny (model P w) A (pyIter (.ref it)) Q E s
abbrev TI:=St->Hp->(It->Hp->Prop)->Prop
def NR (X:Cx)(pins:List (Addr × Obj))(σ:St)(tg:Expr)(R:It->Hp->Prop)(itv:Value)(s2:Shared):Prop :=
 ∃(it:Addr) (fp:List Addr) (tn:Nat->Heap->Prop) (J:It) (H':Hp),itv=.ref it/\Inv X pins σ H' s2/\Turn X.prog X.w X.K tg J fp it tn/\tn 0 s2.heap/\(∀ b∈fp,jQ X pins H' b)/\R J H'
def PI (X:Cx)(tg iter:Expr)(wi:TI):Prop :=
 ∀(pins:List (Addr × Obj)) (s:Shared) (σ:St) (H:Hp) (R:It->Hp->Prop),Inv X pins σ H s->wi σ H R ->
  wpAny (model X.prog X.w) X.A (eval iter X.env) (fun v s1=>wpAny (model X.prog X.w) X.A (pyIter v) (NR X pins σ tg R) X.xe s1) X.xe s
theorem rX {M:Model}{A:Around}{E:Value->Shared->Prop}{s:Shared}{tg:Expr}{it:Addr}{u:Value}{o:Obj}{n:String}{vs:Array Value}{Q:Unit->Shared->Prop}(ho:s.heap.get? it=some o)(hc:o.cls=.type n)(hd:o.data=.fields vs)
    (hn:["enumerate","zip","dict_itemiterator","dict_reverseitemiterator","odict_iterator","itertools.zip_longest","itertools.pairwise"].contains n=false)(hQ:Q () s):wpAny M A (letOwnedTupleGo tg (.ref it) u) Q E s:=by
  unfold letOwnedTupleGo
  cases tg<;>first
    | exact wpAny_pure hQ
    | (cases u<;>first
        | exact wpAny_pure hQ
        | (refine wpAny_bind (wpAny_load ho ?_)
           rw [hc,hd]
           show wpAny M A (if(["enumerate","zip","dict_itemiterator","dict_reverseitemiterator","odict_iterator","itertools.zip_longest","itertools.pairwise"].contains n&&vs[0]? == some (rawInt _))=true then _ else _) Q E s
           rw [if_neg (by intro h;rw [hn,Bool.false_and] at h;cases h)]
           exact wpAny_pure hQ))
def NP (K:PySem.W.Frag)(a:Addr):It :=
 ⟨fun i H=>∃ xs x,dg K H a xs/\xs[i]?=some x,fun i H x H'=>H'=H/\∀ xs,dg K H a xs->xs[i]?=some x,fun i H=>∃ xs,dg K H a xs/\xs.length<=i⟩
def NQ (K:PySem.W.Frag)(a:Addr):It :=
 ⟨fun i H=>∃ xs x,iY K H a xs/\xs[i]?=some x,fun i H x H'=>H'=H/\∀ xs,iY K H a xs->xs[i]?=some x,fun i H=>∃ xs,iY K H a xs/\xs.length<=i⟩
def Lh (lo:Int)(n:Nat):It:=⟨fun i _=>i<n,fun i H x H'=>H'=H/\x=.int (lo+i),fun i _=>n<=i⟩
theorem A_ {P:Program}{w:World}{K:PySem.W.Frag}{tg:Expr}(a it:Addr):Turn P w K tg (NP K a) [it] it (fun i h=>h.IsListIter it a i) where
 mem:=by simp
 obj:=fun i h st b hb=>by
  have e:b=it:=by simpa using hb
  subst e
  obtain⟨o,e,c,d⟩:=st
  exact⟨o,e,fun v z=>by rw [d] at z;cases z⟩
 keep:=fun i h h' st k=>st.at fun o e=>k it (by simp) o e
 item:=by
  intro X hP hw hK hc i pins s σ H E I hf st hg
  subst hP hw hK
  obtain⟨xs,x,hq,hx⟩:=hg
  obtain⟨its,rv,p,hz⟩:=I.list hq
  obtain⟨u,hu,ru⟩:=rv.get hx
  obtain⟨f0,f1,f2,f3,f4,f5⟩:=hf it (by simp)
  refine wpAny_pyNext_list_item st p.isList (x:=u) (by simpa using hu) fun h' st' sb=>?_
  have I1:Inv X pins σ H { s with heap:=h' }:=I.turned (t':=s.toks) (fun b o hb e=>(sb.2 b hb).trans e) f0 f1 f3 f4 f5
  obtain⟨o,e,c,d⟩:=id st'
  exact⟨u,rfl,rX (s:={ s with heap:=h' }) e c d (by decide) ⟨x,H,I1,ru,⟨rfl,fun ys hy=>by rw [I.vo hy hq];exact hx⟩,st',fun b hb=>(hf b hb).1⟩⟩
 done:=by
  intro X hP hw hK hc i pins s σ H E I hf st hg
  subst hP hw hK
  obtain⟨xs,hq,hx⟩:=hg
  obtain⟨its,rv,p,hz⟩:=I.list hq
  obtain⟨f0,f1,f2,f3,f4,f5⟩:=hf it (by simp)
  have hl:=rv.length
  exact wpAny_pyNext_list_end (I.ok.hd hc) st p.isList (by simp;omega) fun h' eb=>⟨rfl,I.turned (t':=s.toks) (fun b o hb e=>eb b o hb e) f0 f1 f3 f4 f5⟩
 self:=fun _ _ _ _ _ st h=>wpAny_pyIter_listiter st h
theorem yS {P:Program}{w:World}{K:PySem.W.Frag}{tg:Expr}(a it:Addr):Turn P w K tg (NQ K a) [it] it (fun i h=>h.IsTupleIter it a i) where
 mem:=by simp
 obj:=fun i h st b hb=>by
  have e:b=it:=by simpa using hb
  subst e
  obtain⟨o,e,c,d⟩:=st
  exact⟨o,e,fun v z=>by rw [d] at z;cases z⟩
 keep:=fun i h h' st k=>st.at fun o e=>k it (by simp) o e
 item:=by
  intro X hP hw hK hc i pins s σ H E I hf st hg
  subst hP hw hK
  obtain⟨xs,x,hq,hx⟩:=hg
  obtain⟨its,rv,p,hz⟩:=I.tuple hq
  obtain⟨u,hu,ru⟩:=rv.get hx
  obtain⟨f0,f1,f2,f3,f4,f5⟩:=hf it (by simp)
  refine wpAny_pyNext_tuple_item st (show s.heap.IsTuple a its.toArray from p) (x:=u) (by simpa using hu) fun h' st' sb=>?_
  have I1:Inv X pins σ H { s with heap:=h' }:=I.turned (t':=s.toks) (fun b o hb e=>(sb.2 b hb).trans e) f0 f1 f3 f4 f5
  obtain⟨o,e,c,d⟩:=id st'
  exact⟨u,rfl,rX (s:={ s with heap:=h' }) e c d (by decide) ⟨x,H,I1,ru,⟨rfl,fun ys hy=>by rw [I.A7 hy hq];exact hx⟩,st',fun b hb=>(hf b hb).1⟩⟩
 done:=by
  intro X hP hw hK hc i pins s σ H E I hf st hg
  subst hP hw hK
  obtain⟨xs,hq,hx⟩:=hg
  obtain⟨its,rv,p,hz⟩:=I.tuple hq
  obtain⟨f0,f1,f2,f3,f4,f5⟩:=hf it (by simp)
  have hl:=rv.length
  exact wpAny_pyNext_tuple_end (I.ok.hd hc) st (show s.heap.IsTuple a its.toArray from p) (by simp;omega) fun h' eb=>⟨rfl,I.turned (t':=s.toks) (fun b o hb e=>eb b o hb e) f0 f1 f3 f4 f5⟩
 self:=fun _ _ _ _ _ st h=>wpAny_pyIter_tupleiter st h
theorem yR {P:Program}{w:World}{K:PySem.W.Frag}{tg:Expr}(it:Addr)(lo:Int)(n:Nat):Turn P w K tg (Lh lo n) [it] it (fun i h=>IsRangeIter h it (lo+(i:Nat)*1) ((n:Int) - (i:Nat)) 1) where
 mem:=by simp
 obj:=fun i h st b hb=>by
  have e:b=it:=by simpa using hb
  subst e
  exact⟨_,st,fun v z=>by
   have z':Data.fields _=Data.cell v:=z
   cases z'⟩
 keep:=fun i h h' st k=>k it (by simp) _ st
 item:=by
  intro X hP hw hK hc i pins s σ H E I hf st hg
  subst hP hw hK
  obtain⟨f0,f1,f2,f3,f4,f5⟩:=hf it (by simp)
  have W:=Walks.range (prog:=X.prog) (w:=X.w) (I.ok.hd hc) it lo 1 n
  refine W.item i s _ _ hg st fun v h' tk hv st' kk=>?_
  obtain⟨t,rfl⟩:=hv
  have I1:Inv X pins σ H { s with heap:=h',toks:=tk }:=I.turned (fun b o hb e=>kk b o (by simpa using hb) e) f0 f1 f3 f4 f5
  refine⟨_,rfl,rX (s:={ s with heap:=h',toks:=tk }) (n:="range_iterator") st' rfl rfl (by decide) ⟨.int (lo+i),H,I1,⟨t,?_⟩,⟨rfl,rfl⟩,st',fun b hb=>(hf b hb).1⟩⟩
  rw [Int.mul_one]
 done:=by
  intro X hP hw hK hc i pins s σ H E I hf st hg
  subst hP hw hK
  obtain⟨f0,f1,f2,f3,f4,f5⟩:=hf it (by simp)
  exact wpAny_pyNext_range_end (I.ok.hd hc) st (by have:n<=i:=hg;omega) fun h' eb=>⟨rfl,I.turned (t':=s.toks) (fun b o hb e=>eb b o hb e) f0 f1 f3 f4 f5⟩
 self:=fun _ _ _ _ _ st h=>wpAny_pyIter_rangeiter st h
section
variable {X:Cx}{tg:Expr}
theorem C8 {pins:List (Addr × Obj)}{σ:St}{H:Hp}{s:Shared}{R:It->Hp->Prop}{E:Value->Shared->Prop}{lo hi:Int}{t u v:Tok}{tk:Nat}(I:Inv X pins σ H s)(h1:-(2 ^ 62)<=lo)(h2:lo<2 ^ 62)(h3:-(2 ^ 62)<=hi)(h4:hi<2 ^ 62)
  (q:R (Lh lo (hi - lo).toNat) H):wpAny (model X.prog X.w) X.A (pyIter (.ref s.heap.objs.size)) (NR X pins σ tg R) E { s with heap:=s.heap.push { cls:=.type "range",data:=.fields #[.int lo t,.int hi u,.int 1 v] },toks:=tk }:=by
 refine wpAny_pyIter_range (IsRange.new ..) (small_one h1 h2 h3 h4) ?_
 have I1:Inv X pins σ H { s with heap:=s.heap.push { cls:=.type "range",data:=.fields #[.int lo t,.int hi u,.int 1 v] },toks:=tk }:=I.kept fun b o e=>Heap.get?_push_of_some _ e
 refine⟨(s.heap.push { cls:=.type "range",data:=.fields #[.int lo t,.int hi u,.int 1 v] }).objs.size,[(s.heap.push { cls:=.type "range",data:=.fields #[.int lo t,.int hi u,.int 1 v] }).objs.size],_,_,H,rfl,
  I1.kept (t':=tk) fun b o e=>Heap.get?_push_of_some _ e,yR _ lo (hi - lo).toNat,?_,fun b hb=>?_,q⟩
 ·have e1:lo+((0:Nat):Int)*1=lo:=by simp
  have e2:(((hi - lo).toNat:Nat):Int) - ((0:Nat):Int)=Builtin.Range.rangeSize lo hi 1:=by rw [rangeSize_one];split<;>omega
  show IsRangeIter _ _ (lo+((0:Nat):Int)*1) ((((hi - lo).toNat:Nat):Int) - ((0:Nat):Int)) 1
  rw [e1,e2]
  exact Heap.get?_push_size _ rfl
 ·have e:b=(s.heap.push { cls:=.type "range",data:=.fields #[.int lo t,.int hi u,.int 1 v] }).objs.size:=by simpa using hb
  subst e
  exact I1.B6 (Nat.le_refl _) (I1.bp.fresh (Nat.le_refl _))
def KP (ta:TA):TI:=fun σ H R=>ta σ H fun vs H1=>∃ j:Int,vs=[.int j]/\-(2 ^ 62)<=j/\j<2 ^ 62/\R (Lh 0 j.toNat) H1
theorem An {a:Expr}{ta:TA}{p pos:Pos}(hg:Gl X "range")(hm:X.mg "range"=none)(ha:PA X [a] ta)(hs:starEach [a] X.env=[(false,eval a X.env)]:=by rfl):PI X tg (.Call (.Name "range" p) [a] [] pos) (KP ta):=by
 intro pins s σ H R I h
 refine Call_ (oP I hg hm boot_range (PyProof.Rows.callWith_type1 (b9 (ha pos pins s σ H _ I h) fun us s1 ⟨vs,H1,I1,r1,q1⟩=>?_) hs rfl))
 obtain⟨j,e,q1,q2,q⟩:=q1
 subst e
 cases r1 with
 | cons r rr =>
  cases rr
  obtain⟨t,rfl⟩:=r
  exact call_range_1 (C8 I1 (by omega) (by omega) q1 q2 (by simpa using q))
def LU (wi:TI)(g:TG)(tb:TS):TS:=fun D σ H=>wi σ H fun J H1=>∃ W:Nat->Nat->St->Hp->Prop,(∃ m,W 0 m σ H1)/\∀ i m σ H,W i m σ H ->
 (J.stop i H/\D.nx σ H)\/(J.go i H/\∃ N:St->Hp->Prop,(∀ σ' H',N σ' H'->∃ m',m'<m/\W (i+1) m' σ' H')/\∀ x H',J.Dq i H x H'->g x σ H' fun σ2 H2=>tb { D with nx:=N,ct:=N,bk:=D.nx } σ2 H2)
def mV (fp:List Addr)(h:Heap):List (Addr × Obj):=fp.filterMap fun b=>(h.get? b).map fun o=>(b,o)
theorem f7 {fp:List Addr}{h:Heap}{b:Addr}{o:Obj}(hb:b∈fp)(e:h.get? b=some o):(b,o)∈mV fp h:=List.mem_filterMap.mpr ⟨b,hb,by rw [e];rfl⟩
theorem oZ {fp:List Addr}{h:Heap}{p:Addr × Obj}(hp:p∈mV fp h):p.1∈fp/\h.get? p.1=some p.2:=by
 obtain⟨b,hb,e⟩:=List.mem_filterMap.mp hp
 cases q:h.get? b with
 | none=>rw [q] at e;cases e
 | some o =>
  rw [q] at e
  have e':(b,o)=p:=Option.some.inj e
  subst e'
  exact⟨hb,q⟩
theorem Inv.pinned {pins:List (Addr × Obj)}{σ:St}{H:Hp}{s:Shared}{fp:List Addr}(I:Inv X pins σ H s)(hf:∀ b∈fp,jQ X pins H b)(ho:∀ b∈fp,∃ o,s.heap.get? b=some o/\∀ v,o.data≠.cell v):Inv X (pins++mV fp s.heap) σ H s :=
 I.uM fun p hp=>(List.mem_append.mp hp).elim (fun z=>I.pin p (List.mem_append_right _ z)) fun z=>by
  obtain⟨hb,e⟩:=oZ z
  obtain⟨f0,f1,f2,_⟩:=hf p.1 hb
  obtain⟨o,e',d⟩:=ho p.1 hb
  rw [e] at e';cases e'
  exact⟨e,f0,f1,f2,d⟩
theorem Inv.iU {pins pl:List (Addr × Obj)}{σ:St}{H:Hp}{s:Shared}(I:Inv X (pins++pl) σ H s):Inv X pins σ H s:=I.uM fun p hp=>I.pin p (List.mem_append_right _ (List.mem_append_left _ hp))
theorem uP {iter:Expr}{body:List Stmt}{wi:TI}{g:TG}{tb:TS}{pos:Pos}(hp:PassesOwn (model X.prog X.w) X.A X.env X.xe)(hc:X.calm=true)(hi:PI X tg iter wi)(hg:PG X tg g)(hb:mG X body tb)
  (hs:∀ x,foldedSetIterable iter X.env x=pure x:=by intro _;rfl):PS X (.For tg iter body [] pos) (LU wi g tb):=by
 intro pins s σ H D I h
 refine wpAny_For (b9 (hi pins s σ H _ I h) fun v s1 h1=>b9 h1 fun itv s2 h2=>?_) hs
 obtain⟨it,fp,tn,J,H2,e,I2,T,st2,f2,W,⟨m0,w0⟩,turn⟩:=h2
 subst e
 -- what stays true of the iterator's objects through the loop
 have stat:∀{H':Hp},(∀ b∈fp,H' b=none)->∀ b∈fp,jQ X pins H' b:=fun hn b hb=>⟨hn b hb,(f2 b hb).2⟩
 refine codeAny_forLoop_any (fun n s'=>∃ i σ' H',Inv X pins σ' H' s'/\tn i s'.heap/\(∀ b∈fp,H' b=none)/\W i n σ' H') ?_ m0 ⟨0,σ,H2,I2,st2,fun b hb=>(f2 b hb).1,w0⟩
 rintro n s3 ⟨i,σ3,H3,I3,st3,fr3,w3⟩
 rcases turn i n σ3 H3 w3 with⟨stop,qn⟩|⟨go,N,hN,step⟩
 ·refine wpAny_passesOwn hp (b9 (T.done X rfl rfl rfl hc i pins s3 σ3 H3 X.xe I3 (stat fr3) st3 stop) fun r s4 ⟨hr,I4⟩=>?_)
  subst hr
  exact wpAny_execs_nil ⟨σ3,H3,I4,qn⟩
 ·refine wpAny_passesOwn hp (b9 (T.item X rfl rfl rfl hc i pins s3 σ3 H3 X.xe I3 (stat fr3) st3 go) fun r s4 ⟨u,hr,h4⟩=>?_)
  subst hr
  refine wpAny_passesOwn hp (b9 h4 fun _ s5 ⟨x,H5,I5,r5,y5,st5,fr5⟩=>?_)
  have I5':=I5.pinned (stat fr5) (T.obj _ _ st5)
  refine wpAny_passesOwn hp (b9 (hg _ s5 σ3 H5 x u _ I5' r5 (step x H5 y5)) fun _ s6 ⟨σ6,H6,I6,q6⟩=>?_)
  refine wpAny_passesOwn hp (b9 (hb _ s6 σ6 H6 _ I6 q6) fun f s7 q7=>?_)
  have again:∀{σ7:St} {H7:Hp},Inv X (pins++mV fp s5.heap) σ7 H7 s7->N σ7 H7->∃ m,m<n/\∃ i σ' H',Inv X pins σ' H' s7/\tn i s7.heap/\(∀ b∈fp,H' b=none)/\W i m σ' H':=fun{σ7 H7} I7 n7=>by
   obtain⟨m',hm,w7⟩:=hN σ7 H7 n7
   refine⟨m',hm,i+1,σ7,H7,I7.iU,T.keep _ _ _ st5 fun b hb o e=>(I7.pin (b,o) (List.mem_append_right _ (List.mem_append_right _ (f7 hb e)))).1,fun b hb=>?_,w7⟩
   obtain⟨o,e,d⟩:=T.obj _ _ st5 b hb
   exact(I7.pin (b,o) (List.mem_append_right _ (List.mem_append_right _ (f7 hb e)))).2.1
  cases f with
  | next=>obtain⟨σ7,H7,I7,n7⟩:=q7;exact again I7 n7
  | cont=>obtain⟨σ7,H7,I7,n7⟩:=q7;exact again I7 n7
  | brk=>obtain⟨σ7,H7,I7,q7⟩:=q7;exact⟨σ7,H7,I7.iU,q7⟩
  | ret v=>obtain⟨x7,σ7,H7,I7,r7,q7⟩:=q7;exact⟨x7,σ7,H7,I7.iU,r7,q7⟩
end
abbrev R2:=V->V->Hp->VK->Prop
def gx (X:Cx)(f:Value->Value->Sem Value)(r:R2):Prop :=
 ∀(pins:List (Addr × Obj)) (s:Shared) (σ:St) (H:Hp) (x y:V) (v u:Value) (Q:VK),Inv X pins σ H s->RelV x v->RelV y u->r x y H Q ->
  wpAny (model X.prog X.w) X.A (f v u) (EP X pins σ Q) X.xe s
def MA (X:Cx)(f:Value->Sem Value)(r:V->Hp->VK->Prop):Prop :=
 ∀(pins:List (Addr × Obj)) (s:Shared) (σ:St) (H:Hp) (x:V) (v:Value) (Q:VK),Inv X pins σ H s->RelV x v->r x H Q ->
  wpAny (model X.prog X.w) X.A (f v) (EP X pins σ Q) X.xe s
def jO (X:Cx)(f:Value)(r:List V->Hp->VK->Prop):Prop :=
 ∀(pins:List (Addr × Obj)) (s:Shared) (σ:St) (H:Hp) (xs:List V) (us:List Value) (Q:VK),Inv X pins σ H s->Vals xs us->r xs H Q ->
  wpAny (model X.prog X.w) X.A (call f us) (EP X pins σ Q) X.xe s
def L_ (X:Cx)(r:V->Hp->(Bool->Hp->Prop)->Prop):Prop :=
 ∀(pins:List (Addr × Obj)) (s:Shared) (σ:St) (H:Hp) (x:V) (v:Value) (Q:Bool->Hp->Prop),Inv X pins σ H s->RelV x v->r x H Q ->
  wpAny (model X.prog X.w) X.A (truthy v) (TP X pins σ Q) X.xe s
def JZ (r:R2)(ta tb:TE):TE:=fun σ H Q=>ta σ H fun x H1=>tb σ H1 fun y H2=>r x y H2 Q
def N9 (r:V->Hp->VK->Prop)(ta:TE):TE:=fun σ H Q=>ta σ H fun x H1=>r x H1 Q
def rI (C:Int->Int->Prop)(g:Int->Int->V):R2:=fun x y H Q=>∃ i j,x=.int i/\y=.int j/\C i j/\Q (g i j) H
def Dw (g:Int->Int->V):R2:=fun x y H Q=>∃ i j,x=.int i/\y=.int j/\Q (g i j) H
def rU (g:Int->V):V->Hp->VK->Prop:=fun x H Q=>∃ i,x=.int i/\Q (g i) H
section
variable {X:Cx}{a b c:Expr}{ta tb tc:TE}{pos:Pos}
theorem HR (ha:PE X a ta)(hb:PE X b tb){pins:List (Addr × Obj)}{s:Shared}{σ:St}{H:Hp}{R:V->V->Hp->Prop}(I:Inv X pins σ H s)
  (h:ta σ H fun x H1=>tb σ H1 fun y H2=>R x y H2){Q:Value->Shared->Prop}{f:Value->Value->Sem Value}
  (hf:∀ v u s2 x y H2,Inv X pins σ H2 s2->RelV x v->RelV y u->R x y H2->wpAny (model X.prog X.w) X.A (f v u) Q X.xe s2) :
  wpAny (model X.prog X.w) X.A (eval a X.env) (fun v s₁=>wpAny (model X.prog X.w) X.A (eval b X.env) (fun u s₂=>wpAny (model X.prog X.w) X.A (f v u) Q X.xe s₂) X.xe s₁) X.xe s:=by
 refine b9 (ha pins s σ H _ I h) fun v s1 ⟨x,H1,I1,r1,q1⟩=>?_
 refine b9 (hb pins s1 σ H1 _ I1 q1) fun u s2 ⟨y,H2,I2,r2,q2⟩=>?_
 exact hf v u s2 x y H2 I2 r1 r2 q2
theorem Ky {op:Operator}{r:R2}(ho:gx X (binaryOp op) r)(ha:PE X a ta)(hb:PE X b tb):PE X (.BinOp a op b pos) (JZ r ta tb):=by
 intro pins s σ H Q I h
 exact wpAny_BinOp (HR ha hb I h fun v u s2 x y H2 I2 rx ry q=>ho pins s2 σ H2 x y v u Q I2 rx ry q)
theorem K0 {op:UnaryOp}{r:V->Hp->VK->Prop}(ho:MA X (unaryOp op) r)(ha:PE X a ta):PE X (.UnaryOp op a pos) (N9 r ta):=by
 intro pins s σ H Q I h
 exact UnaryOp_ (b9 (ha pins s σ H _ I h) fun v s1 ⟨x,H1,I1,r1,q1⟩=>ho pins s1 σ H1 x v Q I1 r1 q1)
theorem Mp {f:Value->Value->Sem Value}{C:Int->Int->Prop}{g:Int->Int->Int}
  (rule:∀(i j:Int) (t u:Tok) (s:Shared) (Q:Value->Shared->Prop) (E:Value->Shared->Prop),C i j->Q (.int (g i j) s.toks) { s with toks:=s.toks+1 }->wpAny (model X.prog X.w) X.A (f (.int i t) (.int j u)) Q E s) :
  gx X f (rI C fun i j=>.int (g i j)):=by
 intro pins s σ H x y v u Q I rx ry h
 obtain⟨i,j,rfl,rfl,hc,q⟩:=h
 obtain⟨t,rfl⟩:=rx
 obtain⟨t',rfl⟩:=ry
 exact rule i j t t' s _ _ hc ⟨.int (g i j),H,I.tok _,⟨_,rfl⟩,q⟩
theorem Ku {f:Value->Value->Sem Value}{g:Int->Int->Int}
  (rule:∀(i j:Int) (t u:Tok) (s:Shared) (Q:Value->Shared->Prop) (E:Value->Shared->Prop),Q (.int (g i j) s.toks) { s with toks:=s.toks+1 }->wpAny (model X.prog X.w) X.A (f (.int i t) (.int j u)) Q E s) :
  gx X f (Dw fun i j=>.int (g i j)):=by
 intro pins s σ H x y v u Q I rx ry h
 obtain⟨i,j,rfl,rfl,q⟩:=h
 obtain⟨t,rfl⟩:=rx
 obtain⟨t',rfl⟩:=ry
 exact rule i j t t' s _ _ ⟨.int (g i j),H,I.tok _,⟨_,rfl⟩,q⟩
theorem Ii {f:Value->Value->Sem Value}{g:Int->Int->Bool}
  (rule:∀(i j:Int) (t u:Tok) (s:Shared) (Q:Value->Shared->Prop) (E:Value->Shared->Prop),Q (.bool (g i j)) s->wpAny (model X.prog X.w) X.A (f (.int i t) (.int j u)) Q E s) :
  gx X f (Dw fun i j=>.bl (g i j)):=by
 intro pins s σ H x y v u Q I rx ry h
 obtain⟨i,j,rfl,rfl,q⟩:=h
 obtain⟨t,rfl⟩:=rx
 obtain⟨t',rfl⟩:=ry
 exact rule i j t t' s _ _ ⟨.bl (g i j),H,I,rfl,q⟩
def HJ (i j:Int):Prop:=0<j/\j<1073741824
def zp (i j:Int):Prop:=(-(2 ^ 64)<i/\i<2 ^ 64)\/(-(2 ^ 64)<j/\j<2 ^ 64)
theorem zp.ok {i j:Int}(h:zp i j):IntMulOk i j:=by
 rcases h with⟨h1,h2⟩|⟨h1,h2⟩
 ·exact .of_left (intBits_le_64 h1 h2)
 ·exact .of_right (intBits_le_64 h1 h2)
theorem Ij:gx X (binaryOp .Add) (Dw fun i j=>.int (i+j)):=Ku fun _ _ _ _ _ _ _ q=>add_int q
theorem Ip:gx X (binaryOp .Sub) (Dw fun i j=>.int (i - j)):=Ku fun _ _ _ _ _ _ _ q=>sub_int q
theorem FR:gx X (binaryOp .FloorDiv) (rI HJ fun i j=>.int (i / j)):=Mp fun i j _ _ _ _ _ hc q=>by
 have h1:(0:Int)<j:=hc.1
 have h2:j<1073741824:=hc.2
 exact floordiv_int (by omega) (by rw [Int.fdiv_eq_ediv_of_nonneg i (by omega)];exact q) (.inl (PyProof.noPylong_small (by omega)))
theorem Im:gx X (binaryOp .Mod) (rI (fun _ j=>0<j) fun i j=>.int (i%j)):=Mp fun i j _ _ _ _ _ hc q=>by
 have h1:(0:Int)<j:=hc
 exact mod_int' (by omega) (by rw [Int.fmod_eq_emod_of_nonneg i (by omega)];exact q)
theorem OA {f:Value->Sem Value}{g:Int->Int}
  (rule:∀(i:Int) (t:Tok) (s:Shared) (Q:Value->Shared->Prop) (E:Value->Shared->Prop),Q (.int (g i) s.toks) { s with toks:=s.toks+1 }->wpAny (model X.prog X.w) X.A (f (.int i t)) Q E s) :
  MA X f (rU fun i=>.int (g i)):=by
 intro pins s σ H x v Q I rx h
 obtain⟨i,rfl,q⟩:=h
 obtain⟨t,rfl⟩:=rx
 exact rule i t s _ _ ⟨.int (g i),H,I.tok _,⟨_,rfl⟩,q⟩
theorem Je:MA X (unaryOp .USub) (rU fun i=>.int (-i)):=OA fun _ _ _ _ _ q=>neg_int q
end
def LD:V->V->Bool
 | .aj,.aj=>true|.aj,.int _=>true|.int _,.aj=>true|.aj,.bl _=>true|.bl _,.aj=>true|.aj,.str _=>true|.str _,.aj=>true
 | .int _,.int _=>true|.bl _,.bl _=>true|.str _,.str _=>true|.wt _,.wt _=>true
 | .int _,.str _=>true|.str _,.int _=>true|.bl _,.str _=>true|.str _,.bl _=>true
 | _,_=>false
def Ng:R2:=fun x y H Q=>LD x y=true/\Q (.bl (decide (x=y))) H
def Ni:R2:=fun x y H Q=>LD x y=true/\Q (.bl (!decide (x=y))) H
theorem ym {i j:Int}:decide (V.int i=V.int j)=(i == j):=by
 rw [Bool.eq_iff_iff]
 simp
theorem Bo {i j:Bool}:decide (V.bl i=V.bl j)=(i == j):=by
 rw [Bool.eq_iff_iff]
 simp
theorem yn {i j:Str}:decide (V.str i=V.str j)=(i == j):=by
 rw [Bool.eq_iff_iff]
 simp
theorem yl {i j:Array UInt8}:decide (V.wt i=V.wt j)=(i.toList == j.toList):=by
 rw [Bool.eq_iff_iff]
 cases i
 cases j
 simp
section
variable {X:Cx}{a b c:Expr}{ta tb tc:TE}{pos:Pos}
theorem bA {pins:List (Addr × Obj)}{σ:St}{H:Hp}{s:Shared}{Q:VK}{k k':Bool}(I:Inv X pins σ H s)(q:Q (.bl k) H)(e:k=k'):EP X pins σ Q (.bool k') s:=by
 subst e
 exact⟨.bl k,H,I,rfl,q⟩
theorem Gz:gx X (compareOp .Eq) Ng:=by
 intro pins s σ H x y v u Q I rx ry h
 obtain⟨hs,q⟩:=h
 cases x with
 | aj =>
  cases rx
  cases y with
  | aj=>cases ry;exact PySem.EqNone.eq_none_none (bA I q (by simp))
  | bl j=>cases ry;exact PySem.EqNone.eq_none_bool (bA I q (by simp))
  | int j=>obtain⟨t',rfl⟩:=ry;exact PySem.EqNone.eq_none_int (bA I q (by simp))
  | str j=>obtain⟨t',rfl⟩:=ry;exact PySem.EqNone.eq_none_str (bA I q (by simp))
  | _=>exact absurd (show false=true from hs) Bool.false_ne_true
 | bl i =>
  cases rx
  cases y with
  | aj=>cases ry;exact PySem.EqNone.eq_bool_none (bA I q (by simp))
  | bl j=>cases ry;exact eq_bool (bA I q Bo)
  | str j=>obtain⟨t',rfl⟩:=ry;exact PySem.EqMixed.eq_bool_str (bA I q (by simp))
  | _=>exact absurd (show false=true from hs) Bool.false_ne_true
 | int i =>
  obtain⟨t,rfl⟩:=rx
  cases y with
  | aj=>cases ry;exact PySem.EqNone.eq_int_none (bA I q (by simp))
  | int j=>obtain⟨t',rfl⟩:=ry;exact eq_int (bA I q ym)
  | str j=>obtain⟨t',rfl⟩:=ry;exact PySem.EqMixed.eq_int_str (bA I q (by simp))
  | _=>exact absurd (show false=true from hs) Bool.false_ne_true
 | str i =>
  obtain⟨t,rfl⟩:=rx
  cases y with
  | aj=>cases ry;exact PySem.EqNone.eq_str_none (bA I q (by simp))
  | bl j=>cases ry;exact PySem.EqMixed.eq_str_bool (bA I q (by simp))
  | int j=>obtain⟨t',rfl⟩:=ry;exact PySem.EqMixed.eq_str_int (bA I q (by simp))
  | str j=>obtain⟨t',rfl⟩:=ry;exact eq_str (bA I q yn)
  | _=>exact absurd (show false=true from hs) Bool.false_ne_true
 | wt i =>
  obtain⟨t,rfl⟩:=rx
  cases y with
  | wt j=>obtain⟨t',rfl⟩:=ry;exact PySem.W.eq_bytes (bA I q yl)
  | _=>exact absurd (show false=true from hs) Bool.false_ne_true
 | _=>cases y<;>exact absurd (show false=true from hs) Bool.false_ne_true
theorem Kw:gx X (compareOp .NotEq) Ni:=by
 intro pins s σ H x y v u Q I rx ry h
 obtain⟨hs,q⟩:=h
 cases x with
 | aj =>
  cases rx
  cases y with
  | aj=>cases ry;exact PySem.EqNone.ne_none_none (bA I q (by simp))
  | bl j=>cases ry;exact PySem.EqNone.ne_none_bool (bA I q (by simp))
  | int j=>obtain⟨t',rfl⟩:=ry;exact PySem.EqNone.ne_none_int (bA I q (by simp))
  | str j=>obtain⟨t',rfl⟩:=ry;exact PySem.EqNone.ne_none_str (bA I q (by simp))
  | _=>exact absurd (show false=true from hs) Bool.false_ne_true
 | bl i =>
  cases rx
  cases y with
  | aj=>cases ry;exact PySem.EqNone.ne_bool_none (bA I q (by simp))
  | bl j=>cases ry;exact ne_bool (bA I q (congrArg not Bo))
  | str j=>obtain⟨t',rfl⟩:=ry;exact PySem.EqMixed.ne_bool_str (bA I q (by simp))
  | _=>exact absurd (show false=true from hs) Bool.false_ne_true
 | int i =>
  obtain⟨t,rfl⟩:=rx
  cases y with
  | aj=>cases ry;exact PySem.EqNone.ne_int_none (bA I q (by simp))
  | int j=>obtain⟨t',rfl⟩:=ry;exact ne_int (bA I q (congrArg not ym))
  | str j=>obtain⟨t',rfl⟩:=ry;exact PySem.EqMixed.ne_int_str (bA I q (by simp))
  | _=>exact absurd (show false=true from hs) Bool.false_ne_true
 | str i =>
  obtain⟨t,rfl⟩:=rx
  cases y with
  | aj=>cases ry;exact PySem.EqNone.ne_str_none (bA I q (by simp))
  | bl j=>cases ry;exact PySem.EqMixed.ne_str_bool (bA I q (by simp))
  | int j=>obtain⟨t',rfl⟩:=ry;exact PySem.EqMixed.ne_str_int (bA I q (by simp))
  | str j=>obtain⟨t',rfl⟩:=ry;exact ne_str (bA I q (congrArg not yn))
  | _=>exact absurd (show false=true from hs) Bool.false_ne_true
 | wt i =>
  obtain⟨t,rfl⟩:=rx
  cases y with
  | wt j=>obtain⟨t',rfl⟩:=ry;exact PySem.W.ne_bytes (bA I q (congrArg not yl))
  | _=>exact absurd (show false=true from hs) Bool.false_ne_true
 | _=>cases y<;>exact absurd (show false=true from hs) Bool.false_ne_true
theorem Kv:gx X (compareOp .Lt) (Dw fun i j=>.bl (decide (i<j))):=Ii fun _ _ _ _ _ _ _ q=>lt_int q
theorem Co:gx X (compareOp .LtE) (Dw fun i j=>.bl (decide (i<=j))):=Ii fun _ _ _ _ _ _ _ q=>le_int q
theorem G0:gx X (compareOp .Gt) (Dw fun i j=>.bl (decide (j<i))):=Ii fun _ _ _ _ _ _ _ q=>gt_int q
theorem rq:gx X (compareOp .In) (fun x y H Q=>∃ i j,x=.str i/\y=.str j/\Q (.bl (!(Builtin.Str.occurrences j i 0 j.length 1).isEmpty)) H):=by
 intro pins s σ H x y v u Q I rx ry h
 obtain⟨i,j,rfl,rfl,q⟩:=h
 obtain⟨t,rfl⟩:=rx
 obtain⟨t',rfl⟩:=ry
 exact in_str (bA I q rfl)
theorem Il:gx X (compareOp .Is) (fun x y H Q=>y=.aj/\Q (.bl (decide (x=.aj))) H):=by
 intro pins s σ H x y v u Q I rx ry h
 obtain⟨rfl,q⟩:=h
 cases ry
 refine is_none_gen (bA I q ?_)
 cases x<;>first
  | (cases rx;rfl)
  | (obtain⟨t,rfl⟩:=rx;rfl)
theorem FV:gx X (compareOp .IsNot) (fun x y H Q=>y=.aj/\Q (.bl (!decide (x=.aj))) H):=by
 intro pins s σ H x y v u Q I rx ry h
 obtain⟨rfl,q⟩:=h
 cases ry
 refine isnot_none_gen (bA I q ?_)
 cases x<;>first
  | (cases rx;rfl)
  | (obtain⟨t,rfl⟩:=rx;rfl)
theorem nI:gx X (compareOp .NotIn) (fun x y H Q=>∃ i j,x=.str i/\y=.str j/\Q (.bl (!(!(Builtin.Str.occurrences j i 0 j.length 1).isEmpty))) H):=by
 intro pins s σ H x y v u Q I rx ry h
 obtain⟨i,j,rfl,rfl,q⟩:=h
 obtain⟨t,rfl⟩:=rx
 obtain⟨t',rfl⟩:=ry
 exact notIn_str (bA I q rfl)
theorem gx.or {f:Value->Value->Sem Value}{r r':R2}(h:gx X f r)(h':gx X f r'):gx X f (fun x y H Q=>r x y H Q\/r' x y H Q):=by
 intro pins s σ H x y v u Q I rx ry q
 rcases q with q|q
 ·exact h pins s σ H x y v u Q I rx ry q
 ·exact h' pins s σ H x y v u Q I rx ry q
theorem il (b:Expr){op:CmpOp}(h:op≠.In:=by decide)(h2:op≠.NotIn:=by decide):behindInMarks op b=false:=by
 have e1:(op == CmpOp.In)=false:=by cases op<;>first|rfl|exact absurd rfl h
 have e2:(op == CmpOp.NotIn)=false:=by cases op<;>first|rfl|exact absurd rfl h2
 cases b<;>simp [behindInMarks,e1,e2]
theorem FZ {op:CmpOp}{r:R2}(ho:gx X (compareOp op) r)(ha:PE X a ta)(hb:PE X b tb)(hm:behindInMarks op b=false):PE X (.Compare a [op] [b] pos) (JZ r ta tb):=by
 intro pins s σ H Q I h
 exact wpAny_Compare1 (HR ha hb I h fun v u s2 x y H2 I2 rx ry q=>ho pins s2 σ H2 x y v u Q I2 rx ry q) hm
def HF (t:TE):TT:=fun σ H Q=>t σ H fun x H'=>∃ k,x=.bl k/\Q k H'
theorem Fl {op:CmpOp}{r:R2}(ho:gx X (compareOp op) r)(ha:PE X a ta)(hb:PE X b tb)(hm:behindInMarks op b=false):PT X (.Compare a [op] [b] pos) (HF (JZ r ta tb)):=by
 intro pins s σ H Q I h
 refine wpAny_isTrue_Compare1 (b9 (ha pins s σ H _ I h) fun v s1 ⟨x,H1,I1,r1,q1⟩=>b9 (hb pins s1 σ H1 _ I1 q1) fun u s2 ⟨y,H2,I2,r2,q2⟩ =>
  b9 (ho pins s2 σ H2 x y v u _ I2 r1 r2 q2) fun c s3 ⟨z,H3,I3,r3,k,e,q3⟩=>?_) hm
 subst e
 cases r3
 exact wpAny_truthy_bool ⟨H3,I3,q3⟩
def DR (r r':R2)(ta tb tc:TE):TE:=fun σ H Q=>ta σ H fun x H1=>tb σ H1 fun y H2=>r x y H2 fun z H3=>∃ k,z=.bl k /\
 (if k=true then tc σ H3 fun w' H4=>r' y w' H4 Q else Q (.bl false) H3)
theorem Cr {op op':CmpOp}{r r':R2}(ho:gx X (compareOp op) r)(ho':gx X (compareOp op') r')(ha:PE X a ta)(hb:PE X b tb)(hc:PE X c tc)
  (hm:lastMarks [op,op'] [b,c]=false:=by with_unfolding_all rfl):PE X (.Compare a [op,op'] [b,c] pos) (DR r r' ta tb tc):=by
 intro pins s σ H Q I h
 refine Compare_chain (b9 (ha pins s σ H _ I h) fun v s1 ⟨x,H1,I1,r1,q1⟩=>chain_link (b9 (hb pins s1 σ H1 _ I1 q1) fun u s2 ⟨y,H2,I2,r2,q2⟩ =>
  b9 (ho pins s2 σ H2 x y v u _ I2 r1 r2 q2) fun d s3 ⟨z,H3,I3,r3,k,e,q3⟩=>?_)) hm
 subst e
 cases r3
 refine wpAny_truthy_bool ?_
 cases k with
 | false=>exact ite_ff ⟨.bl false,H3,I3,rfl,q3⟩
 | true=>exact ite_tt (chain_last (b9 (hc pins s3 σ H3 _ I3 q3) fun w' s4 ⟨z',H4,I4,r4,q4⟩=>ho' pins s4 σ H4 y z' u w' Q I4 r2 r4 q4))
def HP (K:PySem.W.Frag)(x:V)(H:Hp)(k:Bool):Prop :=
 match x with
 | .aj=>k=false
 | .bl b=>k=b
 | .int i=>k=(i != 0)
 | .str y=>y.length<=sizeLine/\k=((y.length:Int) != 0)
 | .wt y=>y.size<=sizeLine/\k=((y.size:Int) != 0)
 | .ref p=>(∃ xs,dg K H p xs/\k=!xs.isEmpty)\/(∃ xs,iY K H p xs/\k=!xs.isEmpty)\/∃ kvs,H p=some (.dK kvs)/\k=!kvs.isEmpty
 | _=>False
theorem xR {κ:Type}{kvs:List (κ × V)}{vs:List (κ × Value)}(r:KV kvs vs):(!vs.isEmpty)=!kvs.isEmpty:=by
 cases r<;>rfl
theorem qO {xs:List V}{its:List Value}(r:Vals xs its):(!its.toArray.isEmpty)=!xs.isEmpty:=by
 cases r<;>simp
theorem oQ:(sizeLine:Nat)<2 ^ 63:=by rw [sizeLine_eq];decide
theorem Jd:L_ X (fun x H Q=>∃ k,HP X.K x H k/\Q k H):=by
 intro pins s σ H x v Q I rx h
 obtain⟨k,e,q⟩:=h
 have hl:=oQ
 have hs:sizeLine=16777216:=sizeLine_eq
 cases x with
 | aj =>
  cases rx
  have e':k=false:=e
  subst e'
  exact truthy_none ⟨H,I,q⟩
 | bl b =>
  cases rx
  have e':k=b:=e
  subst e'
  exact wpAny_truthy_bool ⟨H,I,q⟩
 | int i =>
  obtain⟨t,rfl⟩:=rx
  have e':k=(i != 0):=e
  subst e'
  exact PySem.P.truthy_int ⟨H,I,q⟩
 | str y =>
  obtain⟨t,rfl⟩:=rx
  obtain⟨hy,e'⟩:y.length<=sizeLine/\k=((y.length:Int) != 0):=e
  subst e'
  exact PySem.P.truthy_str (by omega) ⟨H,I.tok _,q⟩
 | wt y =>
  obtain⟨t,rfl⟩:=rx
  obtain⟨hy,e'⟩:y.size<=sizeLine/\k=((y.size:Int) != 0):=e
  subst e'
  exact PySem.W.truthy_bytes (by omega) ⟨H,I.tok _,q⟩
 | ref p =>
  cases rx
  have e':(∃ xs,dg X.K H p xs/\k=!xs.isEmpty)\/(∃ xs,iY X.K H p xs/\k=!xs.isEmpty)\/∃ kvs,H p=some (.dK kvs)/\k=!kvs.isEmpty:=e
  rcases e' with⟨xs,hx,e'⟩|⟨xs,hx,e'⟩|⟨kvs,hx,e'⟩
  ·subst e'
   obtain⟨its,r,pl,hz⟩:=I.list hx
   have hlen:=r.length
   exact wpAny_truthy_list pl.isList (by simp only [List.size_toArray];omega) ⟨H,I.tok _,by rw [qO r];exact q⟩
  ·subst e'
   obtain⟨its,r,pl,hz⟩:=I.tuple hx
   have hlen:=r.length
   exact truthy_tuple pl (by simp only [List.size_toArray];omega) ⟨H,I.tok _,by rw [qO r];exact q⟩
  ·subst e'
   obtain⟨hz,hS,vs,r,m⟩:kvs.length<=sizeLine/\(p == sysModules)=false/\∃ vs,KV kvs vs/\s.heap.DictOf (b5 X.prog X.w) p vs:=I.bp p _ hx
   have hlen:kvs.length=vs.length:=Paired.length r
   exact wpAny_truthy_dict hS m (by omega) ⟨H,I.tok _,by rw [xR r];exact q⟩
 | _=>exact(show False from e).elim
theorem C4 (ha:PE X a ta)(he:∀ whole,isTrue a X.env whole=(do let v <- whole;standAt a.pos;holding [v] (truthy v))) :
  PT X a (fun σ H Q=>ta σ H fun x H'=>∃ k,HP X.K x H' k/\Q k H'):=by
 intro pins s σ H Q I h
 exact isTrue_plain (b9 (ha pins s σ H _ I h) fun v s1 ⟨x,H1,I1,r1,q1⟩=>Jd pins s1 σ H1 x v Q I1 r1 q1) (he _)
theorem xt:gx X (binaryOp .Add) (fun x y H Q=>∃ i j,x=.str i/\y=.str j/\i.length+j.length<=sizeLine/\Q (.str (i++j)) H):=by
 intro pins s σ H x y v u Q I rx ry h
 obtain⟨i,j,rfl,rfl,hz,q⟩:=h
 obtain⟨t,rfl⟩:=rx
 obtain⟨t',rfl⟩:=ry
 exact add_str (fun t' tk=>⟨.str (i++j),H,I.tok _,⟨_,rfl⟩,q⟩) hz
theorem vals1 {x:V}{us:List Value}(r:Vals [x] us):∃ u,us=[u]/\RelV x u:=by
 cases r with
 | cons r1 r2=>cases r2;exact⟨_,rfl,r1⟩
theorem vals2 {x y:V}{us:List Value}(r:Vals [x,y] us):∃ u w',us=[u,w']/\RelV x u/\RelV y w':=by
 cases r with
 | cons r1 r2 =>
  cases r2 with
  | cons r3 r4=>cases r4;exact⟨_,_,rfl,r1,r3⟩
def Jq (K:PySem.W.Frag)(x:V)(H:Hp)(n:Nat):Prop :=
 match x with
 | .str y=>y.length<=sizeLine/\n=y.length
 | .wt y=>y.size<=sizeLine/\n=y.size
 | .ref p=>(∃ xs,dg K H p xs/\n=xs.length)\/∃ xs,iY K H p xs/\n=xs.length
 | _=>False
theorem Ba:jO X (.builtin "len") (fun xs H Q=>∃ x n,xs=[x]/\Jq X.K x H n/\Q (.int n) H):=by
 intro pins s σ H xs us Q I r h
 obtain⟨x,n,rfl,e,q⟩:=h
 obtain⟨u,rfl,rx⟩:=vals1 r
 have hl:=oQ
 have hs:sizeLine=16777216:=sizeLine_eq
 cases x with
 | str y =>
  obtain⟨t,rfl⟩:=rx
  obtain⟨hy,e'⟩:y.length<=sizeLine/\n=y.length:=e
  subst e'
  exact len_str (by omega) ⟨.int _,H,I.tok _,⟨_,rfl⟩,q⟩
 | wt y =>
  obtain⟨t,rfl⟩:=rx
  obtain⟨hy,e'⟩:y.size<=sizeLine/\n=y.size:=e
  subst e'
  exact PySem.W.len_bytes (by omega) ⟨.int _,H,I.tok _,⟨_,rfl⟩,q⟩
 | ref p =>
  cases rx
  have e':(∃ xs,dg X.K H p xs/\n=xs.length)\/∃ xs,iY X.K H p xs/\n=xs.length:=e
  rcases e' with⟨xs,hx,e'⟩|⟨xs,hx,e'⟩
  ·subst e'
   obtain⟨its,r',pl,hz⟩:=I.list hx
   have hlen:=r'.length
   exact Calls.call_len_list pl.isList (by simp only [List.size_toArray];omega) ⟨.int xs.length,H,I.tok _,⟨_,by simp only [List.size_toArray];rw [hlen]⟩,q⟩
  ·subst e'
   obtain⟨its,r',pl,hz⟩:=I.tuple hx
   have hlen:=r'.length
   exact len_tuple pl (by simp only [List.size_toArray];omega) ⟨.int xs.length,H,I.tok _,⟨_,by simp only [List.size_toArray];rw [hlen]⟩,q⟩
 | _=>exact(show False from e).elim
end
structure u0 (h:Heap) (x dx C:Addr) (mA:Str->Option Value):Prop where
 obj:h.get? x=some (instObj C dx)
 ns:h.Ns1 dx mA
 ne:dx≠x
theorem AU {h:Heap}{dx:Addr}{mA:Str->Option Value}(n:h.Ns1 dx mA):∃ od,h.get? dx=some od/\∀ name,lookIn name od=some (mA name):=by
 obtain⟨o,es,ep,ho,hd,hk,_,hm⟩:=n
 refine⟨o,ho,fun name=>?_⟩
 have e:=hm name
 unfold nsFind findBy at e
 rw [<- Array.find?_toList] at e
 unfold lookIn
 rw [hd]
 dsimp only
 split
 ·rename_i y q
  rw [q] at e
  exact congrArg some e
 ·rename_i q
  rw [q] at e
  have a:es.toList.any (·.refKey)=false:=by
   rw [List.any_eq_false]
   intro y hy
   obtain⟨z,t,hkey⟩:=hk y (Array.mem_toList_iff.mp hy)
   simp [DictEntry.refKey,hkey]
  have a':¬ es.toList.any (·.refKey)=true:=by rw [a];exact Bool.false_ne_true
  rw [if_neg a']
  exact congrArg some e
theorem u0.look {h:Heap}{x dx C:Addr}{mA:Str->Option Value}(I:u0 h x dx C mA):∃ od,PySem.W.InstAt h x (instObj C dx) C (some od)/\∀ name,lookIn name od=some (mA name) :=
 let ⟨od,ho,hl⟩:=AU I.ns
 ⟨od,⟨I.obj,rfl,rfl,ho⟩,hl⟩
section
variable {prog:Program}{w:World}{A:Around}{E:Value->Shared->Prop}{s:Shared}{K:PySem.W.Frag}{x dx C f:Addr}{mA:Str->Option Value}{name:Str}{v:Value}
theorem get_map {expr:Bool}{Q:Value->Shared->Prop}(X:K.In s.heap)(I:u0 s.heap x dx C mA)(hg:plainGet K C name=true)(hh:hasDictIn K C=true)
  (ha:findIn K (.ref C) name=some none)(hv:mA name=some v)(hv':PySem.W.handedIn v=true)(h:Q v { s with toks:=s.toks+1 }) :
  wpAny (model prog w) A (getAttr (.ref x) name expr) Q E s:=by
 obtain⟨od,J,hl⟩:=I.look
 exact PySem.W.get_value X J (plainGet_of hg).1 (PySem.W.findObj_own hh ha rfl (by rw [hl,hv])) hv' h
theorem B8 {pl:Sem Bool}{Q:Value × List Value->Shared->Prop}(X:K.In s.heap)(I:u0 s.heap x dx C mA)(hg:plainGet K C name=true)
  (hf:findIn K (.ref C) name=some (some (.ref f)))(ht:isFn K (.ref f)=true)(hv:mA name=none)(h:Q (.ref f,[.ref x]) s) :
  wpAny (model prog w) A (getMethod (.ref x) name pl) Q E s:=by
 obtain⟨od,J,hl⟩:=I.look
 exact PySem.W.method_fn X J (plainGet_of hg).1 (plainGet_of hg).2 hf (beq_iff_eq.mp ht) (by show(lookIn name od).map (·.isSome)=some false;rw [hl,hv];rfl) h
theorem Fz {ns:List Str}{Q:Unit->Shared->Prop}(X:K.In s.heap)(I:u0 s.heap x dx C mA)
  (hs:findIn K (.ref C) "__setattr__"=some (some (.builtin "object.__setattr__")))(hp:plainOver K C=true)(ht:takerIn K C name=some none)(hh:hasDictIn K C=true)
  (hw:PySem.Within mA ns)(hsz:ns.length<=sizeLine)
  (h:∀ h',u0 h' x dx C (fun y=>if y=name then some v else mA y)->Heap.SameBut dx s.heap h'->Q () { s with heap:=h',toks:=s.toks+2 }) :
  wpAny (model prog w) A (setAttr (.ref x) name v) Q E s:=by
 obtain⟨od,J,hl⟩:=I.look
 refine PySem.W.set_plain X J hs (PySem.W.osa_open (s:={ s with toks:=s.toks+1 }) (r:=none) X J hp ht fun b=>?_)
 obtain⟨cd,hc,hd'⟩:=PySem.W.any_some hh
 have hx:s.heap.get? x=some ⟨.ref C,some dx,.plain,#[]⟩:=I.obj
 refine wpAny_bind (wpAny_pure (wpAny_bind (wpAny_bind (wpAny_loadPart hx (wpAny_bind (PySem.W.Looks.here (s:={ s with toks:=s.toks+1 }) (PySem.W.looks_clsIn X hc) ?_))))))
 rw [hd']
 refine wpAny_pure (a:=some dx) (wpAny_bind (wpAny_pure (wpAny_bind ?_)))
 refine wpAny_nsSet1 (s:={ s with toks:=s.toks+1 }) I.ns fun h' hn2 hs2=>?_
 obtain⟨oD,esD,epD,hoD,hdD,hcD⟩:=hn2.count (PySem.Within.cons name v hw)
 refine wpAny_bind (wpAny_lookBehind hoD (by rw [hdD];exact pastItsLine_dict (Nat.le_trans hcD (by rw [List.length_cons];omega))) ?_)
 exact wpAny_pure (h _ ⟨(hs2.2 _ (Ne.symm I.ne)).trans I.obj,hn2,I.ne⟩ hs2)
theorem CO {R:Result->Shared->Prop}{vs:List Value}{kw:List (Str × Value)}(X:K.In s.heap)(hm:makesIn K C=true)
  (hi:findIn K (.ref C) "__init__"=some (some (.ref f)))(hf:PySem.W.typeIn K (.ref f)=some (.type "function"))
  (h:codeAny (model prog w) (A.under (.builtin "type.__call__" ⟨.ref C::vs,kw⟩)) (.call (.ref f) ⟨.ref (s.heap.objs.size+1)::vs,kw⟩) (PySem.W.InitBack (s.heap.objs.size+1) R)
   { s with heap:=(s.heap.push emptyDict).push (instObj C s.heap.objs.size)}) :
  codeAny (model prog w) A (.call (.ref C) ⟨vs,kw⟩) R s:=by
 obtain⟨hh,g,d,t,os⟩:=s
 exact PySem.W.make_core (PySem.W.makes_of X hm) (PySem.W.looks_findIn X hi) (fun self=>PySem.W.bind_fn X self hf) (.inl rfl) h
end
def iy (f:Str)(v:V):List (Str × V)->List (Str × V)
 | []=>[(f,v)]
 | (g,x)::r=>if g=f then(g,v)::r else(g,x)::iy f v r
theorem pE (f g:Str)(v:V):∀ fs:List (Str × V),(iy f v fs).lookup g=if g=f then some v else fs.lookup g
 | []=>by
  show List.lookup g [(f,v)]=_
  by_cases h:g=f
  ·have hb:(g == f)=true:=beq_iff_eq.mpr h
   simp only [List.lookup,hb,if_pos h]
  ·have hb:(g == f)=false:=beq_eq_false_iff_ne.mpr h
   simp only [List.lookup,hb,if_neg h]
 | (k,x)::r=>by
  have ih:=pE f g v r
  rw [show iy f v ((k,x)::r)=(if k=f then(k,v)::r else(k,x)::iy f v r) from rfl]
  by_cases hk:k=f
  ·rw [if_pos hk]
   by_cases h:g=k
   ·have hb:(g == k)=true:=beq_iff_eq.mpr h
    simp only [List.lookup,hb,if_pos (h.trans hk)]
   ·have hb:(g == k)=false:=beq_eq_false_iff_ne.mpr h
    simp only [List.lookup,hb,if_neg (fun e:g=f=>h (e.trans hk.symm))]
  ·rw [if_neg hk]
   by_cases h:g=k
   ·have hb:(g == k)=true:=beq_iff_eq.mpr h
    simp only [List.lookup,hb,if_neg (fun e:g=f=>hk (h.symm.trans e))]
   ·have hb:(g == k)=false:=beq_eq_false_iff_ne.mpr h
    simp only [List.lookup,hb]
    exact ih
theorem oN (f:Str)(v:V):∀ fs:List (Str × V),f∈(iy f v fs).map (·.1)/\∀ g,g∈fs.map (·.1)->g∈(iy f v fs).map (·.1)
 | []=>⟨by simp [iy],fun g h=>by simp at h⟩
 | (k,x)::r=>by
  obtain⟨i1,i2⟩:=oN f v r
  rw [show iy f v ((k,x)::r)=(if k=f then(k,v)::r else(k,x)::iy f v r) from rfl]
  by_cases hk:k=f
  ·rw [if_pos hk]
   subst hk
   exact⟨by simp,fun g h=>by simpa using h⟩
  ·rw [if_neg hk]
   refine⟨?_,fun g h=>?_⟩
   ·rw [List.map_cons]
    exact List.mem_cons_of_mem _ i1
   ·rw [List.map_cons] at h ⊢
    rcases List.mem_cons.mp h with e|e
    ·exact List.mem_cons.mpr (.inl e)
    ·exact List.mem_cons_of_mem _ (i2 g e)
theorem pC (f:Str)(v:V):∀ fs:List (Str × V),(iy f v fs).length<=fs.length+1
 | []=>by simp [iy]
 | (k,x)::r=>by
  have ih:=pC f v r
  rw [show iy f v ((k,x)::r)=(if k=f then(k,v)::r else(k,x)::iy f v r) from rfl]
  by_cases hk:k=f
  ·rw [if_pos hk,List.length_cons,List.length_cons];omega
  ·rw [if_neg hk,List.length_cons,List.length_cons];omega
theorem jN.some_of {v:V}{o:Option Value}(r:jN (some v) o):∃ u,o=some u/\RelV v u:=by
 cases o with
 | none=>exact(show False from r).elim
 | some u=>exact⟨u,rfl,r⟩
theorem jN.none_of {o:Option Value}(r:jN none o):o=none:=by
 cases o with
 | none=>rfl
 | some u=>exact(show False from r).elim
theorem AE {v:V}{u:Value}(r:RelV v u):PySem.W.handedIn u=true:=by
 cases v with
 | aj=>cases(show u=Value.none from r);rfl
 | bl b=>cases(show u=Value.bool b from r);rfl
 | int i=>obtain⟨t,e⟩:=(show ∃ t,u=Value.int i t from r);cases e;rfl
 | str x=>obtain⟨t,e⟩:=(show ∃ t,u=Value.str x t from r);cases e;rfl
 | wt b=>obtain⟨t,e⟩:=(show ∃ t,u=Value.bytes b t from r);cases e;rfl
 | Lm b=>obtain⟨t,e⟩:=(show ∃ t,u=Value.float b t from r);cases e;rfl
 | ref a=>cases(show u=Value.ref a from r);rfl
 | ty n=>cases(show u=Value.type n from r);rfl
section
variable {P:Program}{w:World}{H H':Hp}{h h':Heap}{a C dx:Addr}{fs fs':List (Str × V)}
theorem Ei (bp:ku P w H h)(e:H a=some (.ins C dx fs)):∃ mA,u0 h a dx C mA/\(∀ f,jN (fs.lookup f) (mA f))/\PySem.Within mA (fs.map (·.1))/\fs.length<=1000/\H dx=some (.own a):=by
 obtain⟨d,z,ne,ob,mA,n,r,q⟩:=(show bN P w H h a (.ins C dx fs) from bp a _ e)
 exact⟨mA,⟨ob,n,ne⟩,r,q,z,d⟩
end
structure q_ (K:PySem.W.Frag) (C:Addr):Prop where
 pg:plainGet K C Str.empty=true
 hd:hasDictIn K C=true
 po:plainOver K C=true
 sa:findIn K (.ref C) "__setattr__"=some (some (.builtin "object.__setattr__"))
theorem q_.get {K:PySem.W.Frag}{C:Addr}(c:q_ K C)(f:Str):plainGet K C f=true:=c.pg
def cq (K:PySem.W.Frag)(C:Addr)(f:Str):Prop:=findIn K (.ref C) f=some none
theorem cq.LY {K:PySem.W.Frag}{C:Addr}{f:Str}(n:cq K C f):takerIn K C f=some none:=by
 unfold takerIn
 rw [show findIn K (.ref C) f=some none from n]
 rfl
structure Meth (K:PySem.W.Frag) (C:Addr) (m:Str) (f:Addr):Prop where
 at_:findIn K (.ref C) m=some (some (.ref f))
 fn:isFn K (.ref f)=true
 kp:keepIn K (.ref f)=true
section
variable {X:Cx}{pins:List (Addr × Obj)}{σ:St}{H:Hp}{s:Shared}{a C dx:Addr}{fs:List (Str × V)}{f:Str}{v:V}{A:Around}{E:Value->Shared->Prop}
theorem yM {y:V}{u:Value}{Q:Unit->Shared->Prop}(I:Inv X pins σ H s)(e:H a=some (.ins C dx fs))(c:q_ X.K C)(n:cq X.K C f)(hl:fs.length<1000)(ry:RelV y u)
  (h:∀ s',Inv X pins σ (upd H a (.ins C dx (iy f y fs))) s'->Q () s'):wpAny (model X.prog X.w) A (setAttr (.ref a) f u) Q E s:=by
 obtain⟨mA,O,r,wi,_,ho⟩:=Ei I.bp e
 have hz:(fs.map (·.1)).length<=sizeLine:=by rw [List.length_map,sizeLine_eq];omega
 refine Fz I.uv O c.sa c.po n.LY c.hd wi hz fun h' O' sb=>h _ ?_
 have hd:∃ o,h'.get? dx=some o:=let ⟨o,_,_,e',_⟩:=O'.ns;⟨o,e'⟩
 refine I.write (x:=a) (e:=dx) (by rw [e];exact True.intro) (.inr ho) (fun b q hb z=>(sb.2 b hb).trans z) hd ?_
 refine⟨by rw [aG O.ne];exact ho,?_,O.ne,O'.obj,_,O'.ns,fun g=>?_,fun g hg=>?_⟩
 ·have:=pC f y fs;omega
 ·show jN ((iy f y fs).lookup g) (if g=f then some u else mA g)
  rw [pE]
  by_cases q:g=f
  ·rw [if_pos q,if_pos q];exact ry
  ·rw [if_neg q,if_neg q];exact r g
 ·by_cases q:g=f
  ·rw [q];exact(oN f y fs).1
  ·refine(oN f y fs).2 g (wi g fun z=>hg ?_)
   show(if g=f then some u else mA g)=none
   rw [if_neg q];exact z
theorem Inv.made (I:Inv X pins σ H s):Inv X pins σ (upd (upd H s.heap.objs.size (.own (s.heap.objs.size+1))) (s.heap.objs.size+1) (.ins C s.heap.objs.size []))
  { s with heap:=(s.heap.push emptyDict).push (instObj C s.heap.objs.size)}:=by
 have e1:(s.heap.push emptyDict).get? s.heap.objs.size=some emptyDict:=Heap.get?_push_size s.heap rfl
 have e2:((s.heap.push emptyDict).push (instObj C s.heap.objs.size)).get? (s.heap.objs.size+1)=some (instObj C s.heap.objs.size):=by
  have:=Heap.get?_push_size (s.heap.push emptyDict) (o:=instObj C s.heap.objs.size) rfl
  rwa [Heap.size_push] at this
 have e3:(s.heap.push emptyDict).Ns s.heap.objs.size (fun _=>none):=⟨emptyDict,#[],_,e1,rfl,(fun e he=>absurd he (by simp)),fun _=>rfl⟩
 have I1:=I.laid (a:=s.heap.objs.size) (o:=.own (s.heap.objs.size+1)) (h':=s.heap.push emptyDict) (t':=s.toks) (fun b u q=>Heap.get?_push_of_some _ q) (Nat.le_refl _) ⟨_,e1⟩
 refine I1.laid (a:=s.heap.objs.size+1) (o:=.ins C s.heap.objs.size []) (t':=s.toks) (fun b u q=>Heap.get?_push_of_some _ q) (Nat.le_of_eq (Heap.size_push _ _)) ?_
 have ne:s.heap.objs.size≠s.heap.objs.size+1:=Nat.ne_of_lt (Nat.lt_succ_self _)
 refine⟨by rw [aG ne,aJ],Nat.zero_le _,ne,e2,fun _=>none,(Heap.Ns1.of_empty e3).at fun o q=>Heap.get?_push_of_some _ q,fun _=>True.intro,fun y hy=>absurd rfl hy⟩
theorem D9 {prog:Program}{w:World}{env:Env}{e:Expr}{f:Str}{pos:Pos}{s:Shared}{Q:Value->Shared->Prop}(hb:attributeBase e f env (eval e env)=eval e env)
  (h:wpAny (model prog w) A (eval e env) (fun o s₁=>wpAny (model prog w) A (getAttr o f true) Q E s₁) E s):wpAny (model prog w) A (eval (.Attribute e f pos) env) Q E s :=
 Attribute_any_ h (by rw [arm_eval_Attribute,hb])
end
def Mw (K:PySem.W.Frag)(ta tv:TE)(f:Str):TS:=fun D σ H=>tv σ H fun y H1=>ta σ H1 fun x H2=>∃ a C dx fs,x=.ref a/\H2 a=some (.ins C dx fs)/\q_ K C/\cq K C f/\fs.length<1000 /\
 D.nx σ (upd H2 a (.ins C dx (iy f y fs)))
section
variable {X:Cx}{o e value:Expr}{f:Str}{pos pos' tpos:Pos}{ta tv:TE}
theorem JF (ha:PE X o ta)(hv:PE X value tv)(hs:swapsWith value (some (.Attribute o f pos')) pos.line X.env=pure false):PS X (.Assign [.Attribute o f pos'] value pos) (Mw X.K ta tv f):=by
 intro pins s σ H D I h
 refine plainObj_wpAny_Assign_Attribute (b9 (hv pins s σ H _ I h) fun u s1 ⟨y,H1,I1,ry,q⟩=>b9 (ha pins s1 σ H1 _ I1 q) fun ov s2 ⟨x,H2,I2,rx,a,C,dx,fs,ex,ea,c,n,l,q2⟩=>?_) hs
 subst ex
 obtain rfl:ov=Value.ref a:=rx
 exact yM I2 ea c n l ry fun s3 I3=>⟨σ,_,I3,q2⟩
end
section
variable {X:Cx}{pins:List (Addr × Obj)}{σ:St}{H:Hp}{s:Shared}{A:Around}{E:Value->Shared->Prop}{Q:Value->Shared->Prop}{c:Value}{b:Bool}
end
structure cD (k:Nat) (A:Around):Prop where
 hd:A.handled=none
 dp:A.depth+3*k+5<recursionLimit
 un:A.units+16*k+200<cLine
theorem cD.mono {j k:Nat}{A:Around}(r:cD k A)(h:j<=k):cD j A:=⟨r.hd,by have:=r.dp;omega,by have:=r.un;omega⟩
theorem cD.deeper {k:Nat}{A:Around}(r:cD (k+1) A)(env:Env):cD k (A.deeper env) :=
 ⟨r.hd,by have:=r.dp;show A.depth+1+3*k+5<_;omega,by have:=r.un;show A.units+3+16*k+200<_;omega⟩
theorem xf {A:Around}{C:Addr}{us:List Value}{kw:List (Str × Value)}:(A.under (.builtin "type.__call__" ⟨.ref C::us,kw⟩)).depth=A.depth+1:=by
 first|rfl|simp [Around.under,Code.weight,Code.isCreation,Code.isGuard,Code.isCaller,Code.frames,Code.isFrame,guardIds]
theorem xg {A:Around}{C:Addr}{us:List Value}{kw:List (Str × Value)}:(A.under (.builtin "type.__call__" ⟨.ref C::us,kw⟩)).units=A.units+1:=by
 first|rfl|simp [Around.under,Code.cUnits,Code.frames,Code.isFrame]
theorem cD.make {k:Nat}{A:Around}(r:cD (k+1) A)(C:Addr)(us:List Value)(kw:List (Str × Value)):cD k (A.under (.builtin "type.__call__" ⟨.ref C::us,kw⟩)) :=
 ⟨r.hd,by have:=r.dp;rw [xf];omega,by have:=r.un;rw [xg];omega⟩
theorem cD.depth {k:Nat}{A:Around}(r:cD k A):A.depth<recursionLimit:=by have:=r.dp;omega
theorem cD.units {k:Nat}{A:Around}(r:cD k A):A.units+64<cLine:=by have:=r.un;omega
def F7:TA:=fun _ H Q=>Q [] H
def zj (ta:TE)(tr:TA):TA:=fun σ H Q=>ta σ H fun x H1=>tr σ H1 fun xs H2=>Q (x::xs) H2
section
variable {X:Cx}{e:Expr}{es:List Expr}{te:TE}{t:TA}{pos:Pos}
theorem ir:PA X [] F7:=fun _ _ _ _ H Q I h=>Calls.spliced_nil ⟨[],H,I,.nil,h⟩
theorem d8 (ha:PE X e te)(hr:PA X es t)(hs:starEach (e::es) X.env=(false,eval e X.env)::starEach es X.env:=by rfl):PA X (e::es) (zj te t):=by
 intro pos pins s σ H Q I h
 rw [hs]
 show wpAny _ _ (spliced ((false,eval e X.env)::backTo pos (starEach es X.env))) _ _ s
 refine Calls.spliced_cons (b9 (ha pins s σ H _ I h) fun u s1 ⟨x,H1,I1,r1,q1⟩=>?_)
 exact b9 (hr pos pins s1 σ H1 _ I1 q1) fun us s2 ⟨xs,H2,I2,r2,q2⟩=>⟨x::xs,H2,I2,.cons r1 r2,q2⟩
def M9 (t:TA):TE:=fun σ H Q=>t σ H fun xs H1=>xs.length<=sizeLine/\∀ p,H1 p=none->Q (.ref p) (upd H1 p (.tup xs))
def M4 (t:TA):TE:=fun σ H Q=>t σ H fun xs H1=>xs.length<=sizeLine/\∀ p,H1 p=none->Q (.ref p) (upd H1 p (.lst xs))
theorem JA {x1}(h:PA X es t):PE X (.Tuple es x1 pos) (M9 t):=by
 intro pins s σ H Q I hq
 refine wpAny_Tuple_spliced (b9 (h pos pins s σ H _ I hq) fun us s1 ⟨xs,H1,I1,r,z,q⟩=>⟨by rw [<- r.length];exact z,?_⟩)
 have hf:H1 s1.heap.objs.size=none:=I1.bp.fresh (Nat.le_refl _)
 refine⟨.ref s1.heap.objs.size,upd H1 s1.heap.objs.size (.tup xs),I1.laid (t':=s1.toks) (fun b u e=>Heap.get?_push_of_some _ e) (Nat.le_refl _) ?_,rfl,q _ hf⟩
 exact⟨z,us,r,⟨_,Heap.get?_push_size _ rfl,rfl,_,rfl⟩⟩
theorem yB (h:PA X es t):PE X (.List es pos) (M4 t):=by
 intro pins s σ H Q I hq
 refine wpAny_List_spliced (b9 (h pos pins s σ H _ I hq) fun us s1 ⟨xs,H1,I1,r,z,q⟩=>⟨by rw [<- r.length];exact z,?_⟩)
 have hf:H1 s1.heap.objs.size=none:=I1.bp.fresh (Nat.le_refl _)
 refine⟨.ref s1.heap.objs.size,upd H1 s1.heap.objs.size (.lst xs),I1.laid (t':=s1.toks) (fun b u e=>Heap.get?_push_of_some _ e) (Nat.le_refl _) ?_,rfl,q _ hf⟩
 exact⟨z,us,0,r,Heap.get?_push_size _ rfl⟩
end
abbrev Sp:=List V->Hp->VK->XK->Prop
abbrev yW:=List Env->Hp->Shared->XK->Value->Shared->Prop
structure wx (P:Program) (w:World) (K:PySem.W.Frag) (mg:Str->Option Value) (base:Heap) (A:Around) (outer:List Env) (s:Shared) (H:Hp):Prop where
 frames:A.frames=some outer
 mod:Mod K mg base
 bs:∀ b o,base.get? b=some o->s.heap.get? b=some o/\H b=none
 GZ:base.objs.size<=s.heap.objs.size
 oG:s.heap.FunFrames base outer
 Gp:∀ b∈B7 outer,H b=none
 bp:ku P w H s.heap
 bare:AllBare s.gens
def CE (outer:List Env)(P:Program)(w:World)(H:Hp)(s:Shared)(Q:VK)(u:Value)(s':Shared):Prop :=
 ∃ v H',s'.os=s.os/\AllBare s'.gens/\Un (B7 outer) [] H H' s.heap s'.heap/\ku P w H' s'.heap/\RelV v u/\Q v H'
def CR (CX:yW)(outer:List Env)(P:Program)(w:World)(H:Hp)(s:Shared)(Q:VK)(E:XK)(r:Result)(s':Shared):Prop :=
 match r with
 | .ok (.ret u)=>CE outer P w H s Q u s'
 | .ok _=>False
 | .error e=>CX outer H s E e s'
structure cN (P:Program) (w:World) (K:PySem.W.Frag) (mg:Str->Option Value) (base:Heap) (CX:yW) (k:Nat) (f:Addr) (fd:FuncData) (ps:List Str) (sp:Sp):Prop where
 len:∀ vs H Q E,sp vs H Q E->vs.length=ps.length
 run:∀(A:Around) (outer:List Env) (s:Shared) (H:Hp) (args:Args) (us:List Value) (vs:List V) (Q:VK) (E:XK),cD k A->wx P w K mg base A outer s H->BindsTo s fd args (ps.zip us)->Vals vs us->sp vs H Q E ->
  codeAny (model P w) A (.call (.ref f) args) (CR CX outer P w H s Q E) s
theorem cN.mono {P:Program}{w:World}{K:PySem.W.Frag}{mg:Str->Option Value}{base:Heap}{CX:yW}{j k:Nat}{f:Addr}{fd:FuncData}{ps:List Str}{sp:Sp}(F:cN P w K mg base CX j f fd ps sp)(h:j<=k) :
  cN P w K mg base CX k f fd ps sp:=⟨F.len,fun A outer s H args us vs Q E hr=>F.run A outer s H args us vs Q E (hr.mono h)⟩
theorem cN.imp {P:Program}{w:World}{K:PySem.W.Frag}{mg:Str->Option Value}{base:Heap}{CX:yW}{k:Nat}{f:Addr}{fd:FuncData}{ps:List Str}{sp sp':Sp}(F:cN P w K mg base CX k f fd ps sp)
  (h:∀ vs H Q E,sp' vs H Q E->sp vs H Q E):cN P w K mg base CX k f fd ps sp' :=
 ⟨fun vs H Q E q=>F.len vs H Q E (h _ _ _ _ q),fun A outer s H args us vs Q E hr he hb hv hs=>F.run A outer s H args us vs Q E hr he hb hv (h _ _ _ _ hs)⟩
theorem wx.make {P:Program}{w:World}{K:PySem.W.Frag}{mg:Str->Option Value}{base:Heap}{A:Around}{outer:List Env}{s:Shared}{H:Hp}(e:wx P w K mg base A outer s H)(C:Addr)(us:List Value)(kw:List (Str × Value)) :
  wx P w K mg base (A.under (.builtin "type.__call__" ⟨.ref C::us,kw⟩)) outer s H:=⟨by first|exact e.frames|(simpa [Around.under,Code.envs,Code.isFrame,pushEnvs] using e.frames),e.mod,e.bs,e.GZ,e.oG,e.Gp,e.bp,e.bare⟩
section
variable {X:Cx}{pins:List (Addr × Obj)}{σ:St}{H:Hp}{s s':Shared}
theorem Inv.J9 (I:Inv X pins σ H s):wx X.prog X.w X.K X.mg X.base X.A X.stack s H :=
 ⟨I.ok.frames,I.ok.mod,I.bs,Nat.le_trans I.ok.GZ I.sz,I.stack,I.zh,I.bp,I.bare⟩
theorem Inv.after {Q:VK}{u:Value}(I:Inv X pins σ H s)(h:CE X.stack X.prog X.w H s Q u s'):EP X pins σ Q u s':=by
 obtain⟨v,H',os,bare,un,bp,r,q⟩:=h
 obtain⟨hh,g,d,t,os'⟩:=s'
 obtain rfl:os'=s.os:=os
 exact⟨v,H',I.call (h':=hh) (g':=g) (d':=d) (t':=t) (ch:=[]) un bp bare (fun b z=>absurd z (by simp)),r,q⟩
end
def HE (sp:Sp)(dvs:List V)(E:XK)(t:TA):TE:=fun σ H Q=>t σ H fun vs H1=>sp (vs++dvs) H1 Q E
def LV (C:Addr)(sp:Sp)(dvs:List V)(E:XK)(t:TA):TE:=fun σ H Q=>t σ H fun vs H1=>∀ x dx,H1 x=none->H1 dx=none->dx≠x ->
 sp (.ref x::(vs++dvs)) (upd (upd H1 dx (.own x)) x (.ins C dx [])) (fun v H2=>v=.aj/\Q (.ref x) H2) E
def Binds (K:PySem.W.Frag)(fd:FuncData)(ps:List Str)(ds:List Value):Prop :=
 ∀(s:Shared) (us:List Value),K.In s.heap->(us++ds).length=ps.length->BindsTo s fd ⟨us,[]⟩ (ps.zip (us++ds))
theorem Binds.all {K:PySem.W.Frag}{fd:FuncData}{ps:List Str}(h:∀ us:List Value,us.length=ps.length->bindArgs fd ⟨us,[]⟩=pure (ps.zip us)):Binds K fd ps []:=fun s us _ hl=>by
 rw [List.append_nil] at hl ⊢
 exact .of_eq (h us hl)
def Passes (CX:yW)(X:Cx)(E:XK):Prop:=∀(pins:List (Addr × Obj)) (σ:St) (H:Hp) (s:Shared) (e:Value) (s':Shared),Inv X pins σ H s->CX X.stack H s E e s'->X.xe e s'
section
variable {X:Cx}{CX:yW}{k:Nat}{f C:Addr}{fd:FuncData}{ps:List Str}{sp:Sp}{dvs:List V}{ds:List Value}{E:XK}{x m:Str}{p pos apos:Pos}{e o:Expr}{es:List Expr}{ta:TE}{t:TA}
theorem yG {pins:List (Addr × Obj)}{σ:St}{H:Hp}{s:Shared}{Q:VK}{us:List Value}{vs:List V}(F:cN X.prog X.w X.K X.mg X.base CX k f fd ps sp)(hr:cD k X.A)(hb:Binds X.K fd ps ds)(hd:Vals dvs ds)(hx:Passes CX X E)
  (I:Inv X pins σ H s)(r:Vals vs us)(h:sp (vs++dvs) H Q E):wpAny (model X.prog X.w) X.A (call (.ref f) us) (EP X pins σ Q) X.xe s:=by
 have r2:Vals (vs++dvs) (us++ds):=r.append hd
 have hl:(us++ds).length=ps.length:=by rw [<- r2.length];exact F.len _ _ _ _ h
 refine wpAny_call (codeAny_mono (F.run X.A X.stack s H ⟨us,[]⟩ (us++ds) (vs++dvs) Q E hr I.J9 (hb s us I.uv hl) r2 h) fun r s' hq=>?_)
 cases r with
 | error e=>exact hx pins σ H s e s' I hq
 | ok fl =>
  cases fl with
  | ret u=>exact I.after hq
  | next=>exact False.elim hq
  | brk=>exact False.elim hq
  | cont=>exact False.elim hq
theorem uL (F:cN X.prog X.w X.K X.mg X.base CX k f fd ps sp)(hr:cD k X.A)(hg:Gl X x)(hm:X.mg x=some (.ref f))(hk:keepIn X.K (.ref f)=true)(hb:Binds X.K fd ps ds)(hd:Vals dvs ds)(hx:Passes CX X E)
  (ha:PA X (e::es) t)(hdb:(x == ("__debug__":Str))=false:=by decide)(he:starEach (e::es) X.env=(false,eval e X.env)::starEach es X.env:=by rfl)(hpl:(backTo pos (starEach es X.env)).any (·.1)=false:=by rfl) :
  PE X (.Call (.Name x p) (e::es) [] pos) (HE sp dvs E t):=by
 intro pins s σ H Q I h
 refine wpAny_Call_Name_kw (uB I hg hm ?_ hdb)
 refine PySem.W.callWith_K (h₀:=X.base) I.ok.mod.Lp hk (b9 (ha pos pins s σ H _ I h) fun us s1 ⟨vs,H1,I1,r,q⟩=>⟨I1.uv,?_⟩) he hpl
 exact yG F hr hb hd hx I1 r q
structure Mk (K:PySem.W.Frag) (C f:Addr):Prop where
 makes:makesIn K C=true
 init:findIn K (.ref C) "__init__"=some (some (.ref f))
 fn:isFn K (.ref f)=true
 kp:keepIn K (.ref C)=true
theorem DD {pins:List (Addr × Obj)}{σ:St}{H:Hp}{s:Shared}{Q:VK}{us:List Value}{vs:List V}(M:Mk X.K C f)(F:cN X.prog X.w X.K X.mg X.base CX k f fd ps sp)(hr:cD (k+1) X.A)(hb:Binds X.K fd ps ds)(hd:Vals dvs ds)
  (hx:Passes CX X E)(I:Inv X pins σ H s)(r:Vals vs us)
  (h:∀ x dx,H x=none->H dx=none->dx≠x->sp (.ref x::(vs++dvs)) (upd (upd H dx (.own x)) x (.ins C dx [])) (fun v H2=>v=.aj/\Q (.ref x) H2) E) :
  wpAny (model X.prog X.w) X.A (call (.ref C) us) (EP X pins σ Q) X.xe s:=by
 have hq:=h (s.heap.objs.size+1) s.heap.objs.size (I.bp.fresh (Nat.le_succ _)) (I.bp.fresh (Nat.le_refl _)) (Nat.ne_of_lt (Nat.lt_succ_self _))
 have I2:=Inv.made (C:=C) I
 have r2:Vals (V.ref (s.heap.objs.size+1)::(vs++dvs)) (Value.ref (s.heap.objs.size+1)::(us++ds)):=.cons rfl (r.append hd)
 have hl:(Value.ref (s.heap.objs.size+1)::us++ds).length=ps.length:=by
  have e:=r2.length
  rw [F.len _ _ _ _ hq] at e
  exact e.symm
 refine wpAny_call (CO (f:=f) I.uv M.makes M.init (beq_iff_eq.mp M.fn) (codeAny_mono (F.run _ X.stack _ _ ⟨Value.ref (s.heap.objs.size+1)::us,[]⟩ (Value.ref (s.heap.objs.size+1)::(us++ds)) _ _ E (hr.make C us [])
  (I2.J9.make C us []) (hb _ (Value.ref (s.heap.objs.size+1)::us) I2.uv hl) r2 hq) fun r s' hq'=>?_))
 cases r with
 | error e=>exact hx pins σ _ _ e s' I2 hq'
 | ok fl =>
  cases fl with
  | ret u =>
   obtain⟨v,H',I3,rv,ev,q3⟩:=I2.after hq'
   subst ev
   exact⟨rv,⟨V.ref (s.heap.objs.size+1),H',I3,rfl,q3⟩⟩
  | next=>exact False.elim hq'
  | brk=>exact False.elim hq'
  | cont=>exact False.elim hq'
theorem Fd (M:Mk X.K C f)(F:cN X.prog X.w X.K X.mg X.base CX k f fd ps sp)(hr:cD (k+1) X.A)(hg:Gl X x)(hm:X.mg x=some (.ref C))(hb:Binds X.K fd ps ds)(hd:Vals dvs ds)(hx:Passes CX X E)
  (ha:PA X (e::es) t)(hdb:(x == ("__debug__":Str))=false:=by decide)(he:starEach (e::es) X.env=(false,eval e X.env)::starEach es X.env:=by rfl)(hpl:(backTo pos (starEach es X.env)).any (·.1)=false:=by rfl) :
  PE X (.Call (.Name x p) (e::es) [] pos) (LV C sp dvs E t):=by
 intro pins s σ H Q I h
 refine wpAny_Call_Name_kw (uB I hg hm ?_ hdb)
 refine PySem.W.callWith_K (h₀:=X.base) I.ok.mod.Lp M.kp (b9 (ha pos pins s σ H _ I h) fun us s1 ⟨vs,H1,I1,r,q⟩=>⟨I1.uv,?_⟩) he hpl
 exact DD M F hr hb hd hx I1 r q
end
def PK (X:Cx)(kws:List Keyword)(t:TA):Prop :=
 ∀(pos:Pos) (pins:List (Addr × Obj)) (s:Shared) (σ:St) (H:Hp) (Q:List V->Hp->Prop),Inv X pins σ H s->t σ H Q->wpAny (model X.prog X.w) X.A (evalAll ((backToKw pos (keywordEach kws X.env)).map (·.2))) (AP X pins σ Q) X.xe s
section
variable {X:Cx}{CX:yW}{k:Nat}{f C:Addr}{fd:FuncData}{ps ks:List Str}{sp:Sp}{E:XK}{x m:Str}{p pos apos kpos:Pos}{e o:Expr}{es:List Expr}{kws:List Keyword}{te ta:TE}{t tk:TA}{nm:Option Str}
theorem JD:PK X [] F7:=fun _ _ _ _ H Q I h=>wpAny_evalAll_nil ⟨[],H,I,.nil,h⟩
theorem Fg (ha:PE X e te)(hr:PK X kws t):PK X (⟨nm,e,kpos⟩::kws) (zj te t):=by
 intro pos pins s σ H Q I h
 show wpAny _ _ (evalAll ((do let v <- eval e X.env;standAt pos;pure v)::(backToKw pos (keywordEach kws X.env)).map (·.2))) _ _ s
 refine wpAny_evalAll_cons (wpAny_bind (b9 (ha pins s σ H _ I h) fun u s1 ⟨x,H1,I1,r1,q1⟩=>wpAny_bind (wpAny_standAt (wpAny_pure ?_))))
 exact b9 (hr pos pins s1 σ H1 _ I1 q1) fun us s2 ⟨xs,H2,I2,r2,q2⟩=>⟨x::xs,H2,I2,.cons r1 r2,q2⟩
variable {g:List Value->List Value->List Value}{gV:List V->List V->List V}
end
structure aE (N P:List Str) (sc:Scope):Prop where
 kind:sc.kind=.function
 co:sc.isCoroutine=false
 gen:sc.isGenerator=false
 nd:N.Nodup
 pre:N.take P.length=P
 par:∀ x∈P,sc.names.lookup x=some .local\/sc.names.lookup x=some .cell
 IY:∀ y∈sc.names,y.2≠.free
theorem rQ {kindOf:Str->Option NameKind}{x:Str}:∀{binds:List (Str × Value)} {m:Str->Option Value},(∀ v,(x,v)∉binds)->bindL kindOf binds m x=m x
 | [],_,_=>rfl
 | (n,v)::r,m,h=>by
  unfold bindL
  rw [rQ fun w hw=>h w (List.mem_cons_of_mem _ hw)]
  split
  ·have:x≠n:=by rintro rfl;exact h v List.mem_cons_self
   simp [this]
  ·rfl
theorem rO {kindOf:Str->Option NameKind}{x:Str}:∀{binds:List (Str × Value)} {m:Str->Option Value},(∀ v,(x,v)∉binds)->bindC kindOf binds m x=m x
 | [],_,_=>rfl
 | (n,v)::r,m,h=>by
  unfold bindC
  rw [rO fun w hw=>h w (List.mem_cons_of_mem _ hw)]
  split
  ·rfl
  ·have:x≠n:=by rintro rfl;exact h v List.mem_cons_self
   simp [this]
theorem rP {kindOf:Str->Option NameKind}{x:Str}{v:Value}:∀{P:List Str} {vs:List Value} {i:Nat} {m:Str->Option Value},P.Nodup->P[i]?=some x->vs[i]?=some v->kindOf x=some .local ->
  bindL kindOf (P.zip vs) m x=some v
 | [],_,_,_,_,h,_,_=>by simp at h
 | _::_,[],_,_,_,_,h,_=>by simp at h
 | p::P,w::vs,0,m,nd,h1,h2,hk=>by
  simp at h1 h2;subst h1;subst h2
  show bindL kindOf ((p,w)::P.zip vs) m p=_
  unfold bindL
  rw [rQ fun v hv=>(List.nodup_cons.mp nd).1 (List.of_mem_zip hv).1,if_pos hk]
  simp
 | p::P,w::vs,i+1,m,nd,h1,h2,hk=>by
  show bindL kindOf ((p,w)::P.zip vs) m x=_
  unfold bindL
  exact rP (i:=i) (List.nodup_cons.mp nd).2 (by simpa using h1) (by simpa using h2) hk
theorem rN {kindOf:Str->Option NameKind}{x:Str}{v:Value}:∀{P:List Str} {vs:List Value} {i:Nat} {m:Str->Option Value},P.Nodup->P[i]?=some x->vs[i]?=some v->kindOf x≠some .local ->
  bindC kindOf (P.zip vs) m x=some v
 | [],_,_,_,_,h,_,_=>by simp at h
 | _::_,[],_,_,_,_,h,_=>by simp at h
 | p::P,w::vs,0,m,nd,h1,h2,hk=>by
  simp at h1 h2;subst h1;subst h2
  show bindC kindOf ((p,w)::P.zip vs) m p=_
  unfold bindC
  rw [rO fun v hv=>(List.nodup_cons.mp nd).1 (List.of_mem_zip hv).1,if_neg hk]
  simp
 | p::P,w::vs,i+1,m,nd,h1,h2,hk=>by
  show bindC kindOf ((p,w)::P.zip vs) m x=_
  unfold bindC
  exact rN (i:=i) (List.nodup_cons.mp nd).2 (by simpa using h1) (by simpa using h2) hk
def start (N:List Str)(vs:List V):St:=vs.map some++List.replicate (N.length - vs.length) none
def vJ (CX:yW)(P:Program)(w:World)(K:PySem.W.Frag)(mg:Str->Option Value)(base:Heap)(N:List Str)(qual:Str)(scope:Scope)(f:Addr)(cd:Value)(A:Around)(outer:List Env)(s:Shared)(H:Hp)(E:XK):Cx where
 prog:=P
 w:=w
 K:=K
 mg:=mg
 base:=base
 A:=A.deeper (envOfC qual scope s.heap.objs.size f cd)
 N:=N
 s₀:=s
 H₀:=H
 env:=envOfC qual scope s.heap.objs.size f cd
 outer:=outer
 stack:=envOfC qual scope s.heap.objs.size f cd::outer
 ex:=[]
 calm:=true
 fn:=fun _=>true
 pn:=[]
 xe:=fun e s'=>wpAny (model P w) (A.deeper (envOfC qual scope s.heap.objs.size f cd)) (leaving (envOfC qual scope s.heap.objs.size f cd) e) (fun _ s''=>CX outer H s E e s'') (fun e' s''=>CX outer H s E e' s'') s'
theorem vG {sc:Scope}{n:Nat}{x:Str}(h:sc.names.lookup x=some .cell):∃ c,(cellsFrom n sc.names []).lookup x=some c:=by
 have q:=PySem.W.cellsFrom_some sc.names n [] (.inl h)
 exact Option.isSome_iff_exists.mp q
theorem AM {CX:yW}{P:Program}{w:World}{K:PySem.W.Frag}{mg:Str->Option Value}{base:Heap}{N ps:List Str}{qual:Str}{scope:Scope}{f:Addr}{cd:Value}{A:Around}{outer:List Env}{s s1:Shared}{H:Hp}{E:XK}{us:List Value}{vs:List V}
  (S:aE N ps scope)(hd:A.handled=none)(e0:wx P w K mg base A outer s H)(hl:vs.length=ps.length)(r:Vals vs us)
  (x:InCallC s s.heap.objs.size (bindL (envOfC qual scope s.heap.objs.size f cd).kindOf (ps.zip us) fun _=>none) (cellsFrom (s.heap.objs.size+1) scope.names []) (bindC (envOfC qual scope s.heap.objs.size f cd).kindOf (ps.zip us) fun _=>none) s1) :
  Inv (vJ CX P w K mg base N qual scope f cd A outer s H E) [] (start N vs) H s1:=by
 have hpl:ps.length<=N.length:=by have:=congrArg List.length S.pre;rw [List.length_take] at this;omega
 obtain⟨h1,tk,rfl,hk⟩:=x.done
 have noA:∀ b:Addr,b∉(vJ CX P w K mg base N qual scope f cd A outer s H E).ex:=fun b z=>absurd (show b∈([]:List Addr) from z) (by simp)
 refine⟨⟨e0.mod,S.kind,rfl,rfl,Nat.le_refl _,fun y z c h1 h2=>?_,fun y hy=>?_,fun y c _ h=>?_,fun _=>hd,Around.frames_deeper e0.frames,.inr ⟨rfl,rfl⟩,fun b z=>absurd z (noA b),e0.bs,e0.GZ,fun b _ _=>noA b,fun b z=>absurd z (noA b),e0.oG,e0.Gp⟩,
  rfl,e0.bare,Un.kept hk,⟨_,x.toInCall.ns,fun i y v h1 h2 h3=>?_⟩,fun y c h=>⟨_,x.cell y c h⟩,e0.bp.fresh (Nat.le_refl _),fun y c h=>?_,fun p hp=>absurd (show p∈([]:List (Addr × Obj)) from hp) (by simp),e0.bp.kept hk,?_⟩
 ·exact name_of_addr x.apart (PySem.mem_of_lookup h1) (PySem.mem_of_lookup h2)
 ·have hy:scope.names.lookup y=some .cell\/scope.names.lookup y=some .free:=hy
  rcases hy with hy|hy
  ·exact vG hy
  ·exact absurd rfl (S.IY _ (PySem.mem_of_lookup hy))
 ·exact Nat.le_of_lt (x.above y c (PySem.mem_of_lookup h))
 ·have hi:i<vs.length:=by
   unfold start at h2
   by_cases hi:i<vs.length
   ·exact hi
   ·rw [List.getElem?_append_right (by simpa using hi)] at h2
    rw [List.getElem?_replicate] at h2
    split at h2<;>cases h2
  have ha:vs[i]?=some v:=by
   unfold start at h2
   rw [List.getElem?_append_left (by simpa using hi),List.getElem?_map] at h2
   cases e:vs[i]? with
   | none=>rw [e] at h2;cases h2
   | some a=>rw [e] at h2;cases h2;rfl
  obtain⟨u,hu,rv⟩:=r.get ha
  have hp:ps[i]?=some y:=by
   rw [<- S.pre,List.getElem?_take_of_lt (by omega)];exact h1
  have ndP:ps.Nodup:=by rw [<- S.pre];exact S.nd.sublist (List.take_sublist _ _)
  refine⟨u,rv,?_⟩
  rcases S.par y (List.mem_of_getElem? hp) with k|k
  ·exact .inl ⟨k,rP ndP hp hu k⟩
  ·obtain⟨c,e⟩:=vG (n:=s.heap.objs.size+1) k
   refine .inr ⟨.inl k,c,e,?_⟩
   have q:=x.cell y c e
   rw [rN ndP hp hu (by show scope.names.lookup y≠_;rw [k];decide)] at q
   exact q
 ·exact e0.bp.fresh (Nat.le_of_lt (x.above y c (PySem.mem_of_lookup h)))
 ·unfold start
  show _=N.length
  rw [List.length_append,List.length_map,List.length_replicate]
  omega
theorem Gn {CX:yW}{P:Program}{w:World}{K:PySem.W.Frag}{mg:Str->Option Value}{base:Heap}{k:Nat}{f:Addr}{name qual:Str}{params:Arguments}{body:List Stmt}{scope:Scope}{dV kV doc pm cdv ct oc:Value}{an od:Option Addr}
  {osl:Array (Option Value)}{N ps:List Str}{sp:Sp}(lk:K.lookup f=some ⟨oc,od,.func (fnOf name qual params body scope dV kV doc pm an cdv ct),osl⟩)(hcd:codeIn K cdv qual=true)(S:aE N ps scope)
  (len:∀ vs H Q E,sp vs H Q E->vs.length=ps.length)
  (hbody:∀(A:Around) (outer:List Env) (s:Shared) (H:Hp) (vs:List V) (Q:VK) (E:XK),cD k (A.deeper (envOfC qual scope s.heap.objs.size f cdv))->sp vs H Q E ->
   ∃ t,mG (vJ CX P w K mg base N qual scope f cdv A outer s H E) body t/\t { nx:=fun _ H'=>Q .aj H',rt:=Q } (start N vs) H) :
  cN P w K mg base CX (k+1) f (fnOf name qual params body scope dV kV doc pm an cdv ct) ps sp:=by
 refine⟨len,fun A outer s H args us vs Q E hr e0 hb r hsp=>?_⟩
 have hl:=len _ _ _ _ hsp
 have KX:K.In s.heap:=e0.mod.Lp.keeps fun b o e=>(e0.bs b o e).1
 have lim:s.heap.NoLimit:=e0.mod.nolimit.keeps fun b o e=>(e0.bs b o e).1
 have hkind:∀ y∈ps.zip us,scope.names.lookup y.1=some .local\/(scope.names.lookup y.1=some .cell/\((cellsFrom (s.heap.objs.size+1) scope.names []).lookup y.1).isSome=true):=fun⟨n,v⟩ hy=>by
  rcases S.par n (List.of_mem_zip hy).1 with q|q
  ·exact .inl q
  ·exact .inr ⟨q,PySem.W.cellsFrom_some _ _ _ (.inl q)⟩
 refine codeAny_call_function hr.depth (KX _ _ lk) rfl S.co S.gen rfl (PySem.W.codeRec_of KX hcd) (hb _ _ _ _ ?_)
 refine wpAny_newFunctionEnv_cells S.kind hkind fun env he s1 x=>?_
 subst he
 refine⟨lim.keeps x.toInCall.keep,codeAny_func ?_⟩
 obtain⟨t,ht,hq⟩:=hbody A outer s H vs Q E (hr.deeper _) hsp
 have I:Inv (vJ CX P w K mg base N qual scope f cdv A outer s H E) [] (start N vs) H s1:=AM S hr.hd e0 hl r x
 refine wpAny_mono (ht [] s1 (start N vs) H _ I hq) (fun fl s' hs=>?_) fun e s' hs=>hs
 have fin:∀{σ':St} {H':Hp} {v:V} {u:Value},Inv (vJ CX P w K mg base N qual scope f cdv A outer s H E) [] σ' H' s'->RelV v u->Q v H'->CE outer P w H s Q u s' :=
  fun{σ' H' v u} J rv q=>⟨v,H',J.os,J.bare,J.base,J.bp,rv,q⟩
 cases fl with
 | ret u =>
  obtain⟨v,σ',H',J,rv,q⟩:=hs
  exact fin J rv q
 | next =>
  obtain⟨σ',H',J,q⟩:=hs
  exact fin (v:=V.aj) (u:=Value.none) J rfl q
 | brk =>
  obtain⟨_,_,_,q⟩:=hs
  exact False.elim q
 | cont =>
  obtain⟨_,_,_,q⟩:=hs
  exact False.elim q
section
variable {X:Cx}{x:Str}{p pos:Pos}{e:Expr}{es:List Expr}{t:TA}{id T:String}{r:List V->Hp->VK->Prop}
def L0 (r:List V->Hp->VK->Prop)(t:TA):TE:=fun σ H Q=>t σ H fun vs H1=>r vs H1 Q
theorem iJ (hc:jO X (.builtin id) r)(hg:Gl X x)(hm:X.mg x=none)(hv:bootBuiltins x=some (.builtin id))(ha:PA X (e::es) t)(hn:x≠"__name__":=by decide)(hdb:(x == ("__debug__":Str))=false:=by decide)
  (he:starEach (e::es) X.env=(false,eval e X.env)::starEach es X.env:=by rfl)(hpl:(backTo pos (starEach es X.env)).any (·.1)=false:=by rfl):PE X (.Call (.Name x p) (e::es) [] pos) (L0 r t):=by
 intro pins s σ H Q I h
 refine wpAny_Call_Name_kw (oP I hg hm hv ?_ hn hdb)
 exact PyProof.Rows.callWith_builtin1 (b9 (ha pos pins s σ H _ I h) fun us s1 ⟨vs,H1,I1,r1,q1⟩=>hc pins s1 σ H1 vs us Q I1 r1 q1) he hpl
theorem lL (hc:jO X (.type T) r)(hg:Gl X x)(hm:X.mg x=none)(hv:bootBuiltins x=some (.type T))(ha:PA X (e::es) t)(hn:x≠"__name__":=by decide)(hdb:(x == ("__debug__":Str))=false:=by decide)
  (he:starEach (e::es) X.env=(false,eval e X.env)::starEach es X.env:=by rfl)(hpl:(backTo pos (starEach es X.env)).any (·.1)=false:=by rfl):PE X (.Call (.Name x p) (e::es) [] pos) (L0 r t):=by
 intro pins s σ H Q I h
 refine wpAny_Call_Name_kw (oP I hg hm hv ?_ hn hdb)
 exact PyProof.Rows.callWith_type1 (b9 (ha pos pins s σ H _ I h) fun us s1 ⟨vs,H1,I1,r1,q1⟩=>hc pins s1 σ H1 vs us Q I1 r1 q1) he hpl
end
end L2
namespace HT
open PySem PyProof.Rows
section
open PySem.SeqAt
open PySem.AutoSeq1 (wpAny_loadPart')
open PySem.MeetsSeq PySem.MeetsSeq2 PySem.MeetsSeq3
end
section
variable {prog:Program}{w:World}{A:Around}{E:Value->Shared->Prop}{s:Shared}
theorem EM {t b:Addr}{vs ws:List Value}{Q:Value->Shared->Prop}(ht:IsTup s.heap t vs.toArray)(hb:IsTup s.heap b ws.toArray)(hv:vs≠[])
  (h1:ws=[]->Q (.ref t) s)(h2:ws≠[]->Q (.ref s.heap.objs.size) { s with heap:=s.heap.push { cls:=.type "tuple",data:=.seq (vs++ws).toArray }})
  (hsz:vs.length+ws.length<=sizeLine):wpAny (model prog w) A (binaryOp .Add (.ref t) (.ref b)) Q E s:=by
 obtain⟨⟨cls,dd,data,sl⟩,ho,hc,n,hd⟩:=id ht
 obtain⟨⟨cls2,dd2,data2,sl2⟩,ho2,hc2,n2,hd2⟩:=id hb
 simp only at hc hd hc2 hd2
 subst hc hd hc2 hd2
 have e:vs.toArray++ws.toArray=(vs++ws).toArray:=by simp
 by_cases hw:ws=[]
 ·exact concat_meets ⟨_,ho,rfl⟩ ⟨_,ho2,rfl⟩ noFill_tuple_add seq_tuple_add PySem.F.slot_tuple_add PySem.F.entry_tuple_add (PySem.F.args_tuple_add_2 _ _)
   (tuple_addW1 t b vs.toArray ws.toArray n n2 dd dd2 sl sl2 (by simpa using hv) (by simp [hw])) ⟨ho,ho2,h1 hw⟩
 ·refine concat_meets ⟨_,ho,rfl⟩ ⟨_,ho2,rfl⟩ noFill_tuple_add seq_tuple_add PySem.F.slot_tuple_add PySem.F.entry_tuple_add (PySem.F.args_tuple_add_2 _ _)
   (tuple_addW2 t b vs.toArray ws.toArray n n2 dd dd2 sl sl2 (by simpa using hv) (by simpa using hw) (by rw [List.size_toArray,List.size_toArray];exact hsz)) ⟨ho,ho2,?_⟩
  rw [e]
  exact h2 hw
def dh (n d:Nat):Option Int->Nat
 | none=>d
 | some v=>if v<0 then(v+(n:Int)).toNat else min v.toNat n
theorem wM (n d:Nat):dh n d none=d:=rfl
theorem pd (n d k:Nat):dh n d (some (k:Int))=min k n:=by
 show(if(k:Int)<0 then((k:Int)+(n:Int)).toNat else min (k:Int).toNat n)=min k n
 rw [if_neg (by omega),Int.toNat_natCast]
theorem JP (n d:Nat)(hd:d<=n)(o:Option Int):dh n d o<=n:=by
 cases o with
 | none=>exact hd
 | some v =>
  show(if v<0 then(v+(n:Int)).toNat else min v.toNat n)<=n
  by_cases hv:v<0
  ·rw [if_pos hv];omega
  ·rw [if_neg hv];exact Nat.min_le_right _ _
theorem yi (v:Int)(n d:Nat):(if v<0 then max (v+(n:Int)) 0 else min v (n:Int))=((dh n d (some v):Nat):Int):=by
 show(if v<0 then max (v+(n:Int)) 0 else min v (n:Int))=(((if v<0 then(v+(n:Int)).toNat else min v.toNat n):Nat):Int)
 by_cases hv:v<0
 ·simp only [if_pos hv];omega
 ·simp only [if_neg hv];omega
theorem w_ (lo hi:Option Int)(n:Nat):Builtin.Slice.sliceAdjust lo hi 1 (n:Int)=(((dh n 0 lo:Nat):Int),((dh n n hi:Nat):Int)):=by
 have h1:¬ ((1:Int)<0):=by omega
 unfold Builtin.Slice.sliceAdjust
 simp only [h1,if_false]
 refine Prod.ext ?_ ?_
 ·cases lo with
  | none=>rfl
  | some v=>exact yi v n 0
 ·cases hi with
  | none=>rfl
  | some v=>exact yi v n n
theorem yC (i j:Nat):Builtin.Slice.slicePlaces (i:Int) (j:Int) 1=j - i:=by
 unfold Builtin.Slice.slicePlaces
 have h1:(1:Int) > 0:=by omega
 simp only [h1,if_true,Int.ediv_one]
 split<;>omega
theorem ql {v:Value}{o:Option Int}{Q:Option Int->Shared->Prop}(p:IsPart v o)(h:Q o s):wpAny (model prog w) A (Builtin.Slice.slicePartIndex v) Q E s:=by
 cases p with
 | none=>exact slicePart_none h
 | int i t=>exact slicePart_int h
theorem om {sl:Addr}{vl vu:Value}{lo hi:Option Int}{n:Nat}{Q:Int × Int × Nat->Shared->Prop}(hs:s.heap.IsSliceOf sl vl vu .none)(pl:IsPart vl lo)(pu:IsPart vu hi)
  (h:Q (((dh n 0 lo:Nat):Int),1,dh n n hi - dh n 0 lo) s):wpAny (model prog w) A (Builtin.Slice.sliceApplied (.ref sl) (pure (n:Int))) Q E s:=by
 obtain⟨os,hos,hcs,hds⟩:=id hs
 unfold Builtin.Slice.sliceApplied Builtin.Slice.sliceFields
 refine wpAny_bind (wpAny_bind (wpAny_field hos hds (x:=vl) rfl (wpAny_bind (wpAny_field hos hds (x:=vu) rfl (wpAny_bind (wpAny_field hos hds (x:=.none) rfl (wpAny_pure ?_)))))))
 refine wpAny_bind (slicePart_none ?_)
 show wpAny _ _ (if((1:Int) == 0)=true then _ else _) _ _ s
 rw [if_neg (by decide)]
 refine wpAny_bind (ql pl (wpAny_bind (ql pu (wpAny_bind (wpAny_pure ?_)))))
 show wpAny _ _ (match Builtin.Slice.sliceAdjust lo hi 1 (n:Int) with|(lo,hi)=>pure (lo,(1:Int),Builtin.Slice.slicePlaces lo hi 1)) _ _ s
 rw [w_ lo hi n]
 show wpAny _ _ (pure (((dh n 0 lo:Nat):Int),(1:Int),Builtin.Slice.slicePlaces ((dh n 0 lo:Nat):Int) ((dh n n hi:Nat):Int) 1)) _ _ s
 rw [yC]
 exact wpAny_pure h
theorem Cz (xs:Array Value)(i k:Nat):((List.range k).filterMap fun(m:Nat)=>xs[((i:Int)+(m:Int)*1).toNat]?).toArray=((xs.toList.drop i).take k).toArray:=by
 have e:(fun(m:Nat)=>xs[((i:Int)+(m:Int)*1).toNat]?)=fun m=>xs[i+m]?:=by
  funext m
  have:((i:Int)+(m:Int)*1).toNat=i+m:=by omega
  rw [this]
 rw [e]
 have:=pick_run xs i k
 rw [List.filterMap_map] at this
 have e2:((fun x=>xs[x]?)∘fun x=>i+x)=fun m=>xs[i+m]?:=rfl
 rw [e2] at this
 rw [this]
theorem m7 {t sl:Addr}{items:Array Value}{vl vu:Value}{lo hi:Option Int}{Q:Value->Shared->Prop}(ht:IsTup s.heap t items)(hs:s.heap.IsSliceOf sl vl vu .none)(pl:IsPart vl lo)(pu:IsPart vu hi)
  (hw:¬ (dh items.size 0 lo=0/\dh items.size items.size hi=items.size))
  (h:Q (.ref s.heap.objs.size) { s with heap:=s.heap.push { cls:=.type "tuple",data:=.seq ((items.toList.drop (dh items.size 0 lo)).take (dh items.size items.size hi - dh items.size 0 lo)).toArray }})
  (hsz:items.size<=sizeLine):wpAny (model prog w) A (getItem (.ref t) (.ref sl)) Q E s:=by
 have htake:sizeOk (.seq ((items.toList.drop (dh items.size 0 lo)).take (dh items.size items.size hi - dh items.size 0 lo)).toArray):=by
  show((items.toList.drop (dh items.size 0 lo)).take (dh items.size items.size hi - dh items.size 0 lo)).toArray.size<=sizeLine
  rw [List.size_toArray,List.length_take,List.length_drop,Array.length_toList]
  omega
 have hj:dh items.size items.size hi<=items.size:=JP _ _ (Nat.le_refl _) hi
 obtain⟨os,hos,hcs,hds⟩:=id hs
 have hTs:s.TypeIs (.ref sl) "slice":=⟨os,hos,hcs⟩
 unfold getItem
 try with_reducible refine wpAny_holding ?_
 first|refine wpAny_bind (wpAny_pure ?_)|skip
 refine wpAny_bind (wpAny_sequenceKey ht.typeIs (by decide) ?_)
 refine wpAny_bind (wpAny_callSpecial?_slot (name:=Str.ofString "__getitem__") ht.typeIs PyProof.Rows.slot_tuple_getitem
  (wpAny_call_entry PyProof.Rows.slot_tuple_getitem ht.typeIs entry_tuple_getitem ?_ (args_tuple_getitem _ _)))
 show wpAny _ _ (Builtin.Tuple.tupleItemsOf (.ref t) >>= _) _ _ s
 refine wpAny_bind (tupleItemsOf_ ht ?_)
 refine wpAny_bind (wpAny_typeOf hTs ?_)
 rw [if_pos (by decide)]
 refine wpAny_bind (om hs pl pu ?_)
 have hno:¬ ((((dh items.size 0 lo:Nat):Int) == 0&&(1:Int) == 1&&(dh items.size items.size hi - dh items.size 0 lo) == items.size)=true):=by
  intro q
  rw [Bool.and_eq_true,Bool.and_eq_true] at q
  have q1:((dh items.size 0 lo:Nat):Int)=0:=eq_of_beq q.1.1
  have q2:dh items.size items.size hi - dh items.size 0 lo=items.size:=eq_of_beq q.2
  exact hw ⟨by omega,by omega⟩
 show wpAny _ _ (if(((dh items.size 0 lo:Nat):Int) == 0&&(1:Int) == 1&&(dh items.size items.size hi - dh items.size 0 lo) == items.size)=true then _ else _) _ _ s
 rw [if_neg hno,Cz]
 first
  | exact wpAny_bind (m:=Builtin.Tuple.tupleExact _) (wpAny_newObj_type (wpAny_pure ⟨_,rfl,wpAny_pure h⟩) htake)
  | exact wpAny_bind (m:=Builtin.Tuple.tupleExact _) (wpAny_newObj_type (wpAny_bind (wpAny_pure (wpAny_pure ⟨_,rfl,wpAny_pure h⟩))) htake)
  | exact wpAny_bind (wpAny_bind (m:=Builtin.Tuple.tupleExact _) (wpAny_newObj_type (wpAny_pure (wpAny_pure ⟨_,rfl,wpAny_pure h⟩)) htake))
  | exact wpAny_bind (wpAny_bind (m:=Builtin.Tuple.tupleExact _) (wpAny_newObj_type (wpAny_pure ⟨_,rfl,wpAny_pure h⟩) htake))
end
end HT
namespace L2
open PySem PySem.Spec PyProof.Rows
abbrev TO:=St->Hp->(Option Int->Hp->Prop)->Prop
def PO (X:Cx)(e:Option Expr)(t:TO):Prop :=
 ∀(pins:List (Addr × Obj)) (s:Shared) (σ:St) (H:Hp) (Q:Option Int->Hp->Prop),Inv X pins σ H s->t σ H Q ->
  wpAny (model X.prog X.w) X.A (evalPart e X.env) (fun u s'=>∃ o H',Inv X pins σ H' s'/\IsPart u o/\Q o H') X.xe s
def F8:TO:=fun _ H Q=>Q none H
def LX (t:TE):TO:=fun σ H Q=>t σ H fun x H1=>∃ i,x=.int i/\Q (some i) H1
section
variable {X:Cx}{e:Expr}{te:TE}{lo hi:Option Expr}{tl th:TO}{pos p2:Pos}
theorem Fh:PO X none F8:=by
 intro pins s σ H Q I h
 rw [evalPart_none]
 exact wpAny_pure ⟨none,H,I,.none,h⟩
theorem Fi (h:PE X e te):PO X (some e) (LX te):=by
 intro pins s σ H Q I hw
 rw [evalPart_some]
 refine b9 (h pins s σ H _ I hw) fun u s1 ⟨x,H1,I1,r1,q1⟩=>?_
 obtain⟨i,rfl,q⟩:=q1
 obtain⟨t,rfl⟩:=r1
 exact⟨some i,H1,I1,.int i t,q⟩
def D3 (X:Cx)(r:V->Option Int->Option Int->Hp->VK->Prop):Prop :=
 ∀(pins:List (Addr × Obj)) (s:Shared) (σ:St) (H:Hp) (x:V) (v vl vu:Value) (lo hi:Option Int) (sl:Addr) (Q:VK),Inv X pins σ H s->RelV x v->s.heap.IsSliceOf sl vl vu .none->IsPart vl lo->IsPart vu hi->r x lo hi H Q ->
  ∃ T id,typeLookup (.type T) "__getitem__"=pure (some (.builtin id))/\s.TypeIs v T/\wpAny (model X.prog X.w) X.A (getItem v (.ref sl)) (EP X pins σ Q) X.xe s
theorem D3.or {r r':V->Option Int->Option Int->Hp->VK->Prop}(h:D3 X r)(h':D3 X r'):D3 X (fun x lo hi H Q=>r x lo hi H Q\/r' x lo hi H Q):=by
 intro pins s σ H x v vl vu lo hi sl Q I rx hs pl pu q
 rcases q with q|q
 ·exact h pins s σ H x v vl vu lo hi sl Q I rx hs pl pu q
 ·exact h' pins s σ H x v vl vu lo hi sl Q I rx hs pl pu q
def N8 (r:V->Option Int->Option Int->Hp->VK->Prop)(te:TE)(tl th:TO):TE:=fun σ H Q=>te σ H fun x H1=>tl σ H1 fun l H2=>th σ H2 fun u H3=>r x l u H3 Q
theorem Cu {r:V->Option Int->Option Int->Hp->VK->Prop}(hr:D3 X r)(he:PE X e te)(hl:PO X lo tl)(hu:PO X hi th):PE X (.Subscript e (.Slice lo hi none p2) pos) (N8 r te tl th):=by
 intro pins s σ H Q I h
 refine Subscript_ (b9 (he pins s σ H _ I h) fun v s1 ⟨x,H1,I1,r1,q1⟩=>?_)
 refine wpAny_Slice (b9 (hl pins s1 σ H1 _ I1 q1) fun vl s2 ⟨l,H2,I2,pl,q2⟩=>b9 (hu pins s2 σ H2 _ I2 q2) fun vu s3 ⟨u,H3,I3,pu,q3⟩=>?_)
 rw [evalPart_none]
 refine wpAny_pure ?_
 have I4:Inv X pins σ H3 { s3 with heap:=s3.heap.push { cls:=.type "slice",data:=.fields #[vl,vu,.none] }}:=I3.kept (t':=s3.toks) fun b ob q=>Heap.get?_push_of_some _ q
 obtain⟨T,id,hT,ht,hg⟩:=hr pins { s3 with heap:=s3.heap.push { cls:=.type "slice",data:=.fields #[vl,vu,.none] }} σ H3 x v vl vu l u s3.heap.objs.size Q I4 r1 (Heap.IsSliceOf.new ..) pl pu q3
 show wpAny (model X.prog X.w) X.A (subscriptTail e (.Slice lo hi none p2) v (.ref s3.heap.objs.size)) (EP X pins σ Q) X.xe { s3 with heap:=s3.heap.push { cls:=.type "slice",data:=.fields #[vl,vu,.none] }}
 exact tail_any (ops:=[.ref s3.heap.objs.size,v]) ht hT hg (by with_unfolding_all rfl)
def vH (xs:List V)(lo hi:Option Int):List V:=(xs.drop (HT.dh xs.length 0 lo)).take (HT.dh xs.length xs.length hi - HT.dh xs.length 0 lo)
theorem o7 (xs:List V)(lo hi:Option Int):(vH xs lo hi).length<=xs.length:=by
 unfold vH
 rw [List.length_take,List.length_drop]
 omega
def K9 (K:PySem.W.Frag):V->Option Int->Option Int->Hp->VK->Prop:=fun x lo hi H Q=>∃ a xs,x=.ref a/\iY K H a xs /\
 ¬ (HT.dh xs.length 0 lo=0/\HT.dh xs.length xs.length hi=xs.length)/\∀ p,H p=none->Q (.ref p) (upd H p (.tup (vH xs lo hi)))
theorem JW:D3 X (K9 X.K):=by
 intro pins s σ H x v vl vu lo hi sl Q I rx hs pl pu h
 obtain⟨a,xs,rfl,hx,hw,q⟩:=h
 cases rx
 obtain⟨its,r,ht,hz⟩:=I.tuple hx
 have hlen:its.toArray.size=xs.length:=by rw [List.size_toArray];exact r.length.symm
 refine⟨"tuple",_,PyProof.Rows.slot_tuple_getitem.lookup,ht.typeIs,?_⟩
 refine HT.m7 ht hs pl pu (by rw [hlen];exact hw) ?_ (by rw [hlen];exact hz)
 rw [hlen]
 refine⟨.ref s.heap.objs.size,_,I.laid (t':=s.toks) (o:=.tup (vH xs lo hi)) (fun b ob q=>Heap.get?_push_of_some _ q) (Nat.le_refl _) ?_,rfl,q _ (I.bp.fresh (Nat.le_refl _))⟩
 exact⟨Nat.le_trans (o7 xs lo hi) hz,_,(r.drop (HT.dh xs.length 0 lo)).take (HT.dh xs.length xs.length hi - HT.dh xs.length 0 lo),IsTup.new _ _⟩
def G4 (K:PySem.W.Frag):R2:=fun x y H Q=>∃ a b xs ys,x=.ref a/\y=.ref b/\iY K H a xs/\iY K H b ys/\xs≠[]/\xs.length+ys.length<=sizeLine /\
 (ys=[]->Q (.ref a) H)/\(ys≠[]->∀ p,H p=none->Q (.ref p) (upd H p (.tup (xs++ys))))
theorem Vals.uG {xs:List V}{us:List Value}(r:Vals xs us):us=[] ↔ xs=[]:=by
 cases r with
 | nil=>simp
 | cons _ _=>simp
theorem FQ:gx X (binaryOp .Add) (G4 X.K):=by
 intro pins s σ H x y v u Q I rx ry h
 obtain⟨a,b,xs,ys,rfl,rfl,ha,hb,hx,hz,q1,q2⟩:=h
 cases rx
 cases ry
 obtain⟨its,r1,p1,_⟩:=I.tuple ha
 obtain⟨its2,r2,p2,_⟩:=I.tuple hb
 refine HT.EM p1 p2 (fun z=>hx (r1.uG.mp z)) (fun z=>⟨.ref a,H,I,rfl,q1 (r2.uG.mp z)⟩) (fun z=>?_) (by rw [<- r1.length,<- r2.length];exact hz)
 refine⟨.ref s.heap.objs.size,_,I.laid (t':=s.toks) (o:=.tup (xs++ys)) (fun b ob q=>Heap.get?_push_of_some _ q) (Nat.le_refl _) ?_,rfl,q2 (fun w=>z (r2.uG.mpr w)) _ (I.bp.fresh (Nat.le_refl _))⟩
 exact⟨by rw [List.length_append];exact hz,_,r1.append r2,IsTup.new _ _⟩
end
def BJ (n:Nat)(i:Int):Option Nat:=if 0<=i then(if i<n then some i.toNat else none) else if -(n:Int)<=i then some (i+n).toNat else none
def rB {α:Type}(xs:List α)(i:Int):Option α:=(BJ xs.length i).bind fun j=>xs[j]?
theorem yz {n:Nat}{i:Int}{j:Nat}(h:BJ n i=some j):seqIndex? i n=some j/\j<n/\-(n:Int)<=i/\i<n:=by
 unfold BJ at h
 by_cases h0:0<=i
 ·rw [if_pos h0] at h
  by_cases h1:i<n
  ·rw [if_pos h1] at h
   have e:i.toNat=j:=Option.some.inj h
   exact⟨by rw [seqIndex_of h0 h1,e],by omega,by omega,h1⟩
  ·rw [if_neg h1] at h;cases h
 ·rw [if_neg h0] at h
  by_cases h1:-(n:Int)<=i
  ·rw [if_pos h1] at h
   have e:(i+n).toNat=j:=Option.some.inj h
   exact⟨by rw [seqIndex_neg (by omega) h1,e],by omega,h1,by omega⟩
  ·rw [if_neg h1] at h;cases h
theorem sr {α:Type}{xs:List α}{i:Int}{v:α}(h:rB xs i=some v):∃ j,seqIndex? i xs.length=some j/\xs[j]?=some v/\j<xs.length/\-(xs.length:Int)<=i/\i<xs.length:=by
 unfold rB at h
 cases e:BJ xs.length i with
 | none=>rw [e] at h;cases h
 | some j =>
  rw [e] at h
  obtain⟨h1,h2,h3,h4⟩:=yz e
  exact⟨j,h1,h,h2,h3,h4⟩
def sj (b:Expr):Prop:=∀ o i,subscripted b false o i=operate [o,i] (getItem o i)
def Dr (X:Cx)(r:R2):Prop :=
 ∀(value slice:Expr) (pins:List (Addr × Obj)) (s:Shared) (σ:St) (H:Hp) (x y:V) (v u:Value) (Q:VK),Inv X pins σ H s->RelV x v->RelV y u->r x y H Q ->
  subscripted slice false v u=operate [v,u] (getItem v u)->wpAny (model X.prog X.w) X.A (subscriptTail value slice v u) (EP X pins σ Q) X.xe s
def L9 (X:Cx)(id:String)(r:V->List V->Hp->VK->Prop):Prop :=
 ∀(pins:List (Addr × Obj)) (s:Shared) (σ:St) (H:Hp) (x:V) (xs:List V) (v:Value) (us:List Value) (Q:VK),Inv X pins σ H s->RelV x v->Vals xs us->r x xs H Q ->
  wpAny (model X.prog X.w) X.A (call (.builtin id) (v::us)) (EP X pins σ Q) X.xe s
section
variable {X:Cx}{a b:Expr}{ta tb:TE}{pos:Pos}
theorem Dr.or {r r':R2}(h:Dr X r)(h':Dr X r'):Dr X (fun x y H Q=>r x y H Q\/r' x y H Q):=by
 intro value slice pins s σ H x y v u Q I rx ry q hs
 rcases q with q|q
 ·exact h value slice pins s σ H x y v u Q I rx ry q hs
 ·exact h' value slice pins s σ H x y v u Q I rx ry q hs
theorem G1 {r:R2}(hr:Dr X r)(ha:PE X a ta)(hb:PE X b tb)(hs:sj b):PE X (.Subscript a b pos) (JZ r ta tb):=by
 intro pins s σ H Q I h
 exact Subscript_ (HR ha hb I h fun v u s2 x y H2 I2 rx ry q=>hr a b pins s2 σ H2 x y v u Q I2 rx ry q (hs _ _))
def K3 (K:PySem.W.Frag):R2:=fun x y H Q=>∃ p xs i v,x=.ref p/\y=.int i/\dg K H p xs/\rB xs i=some v/\Q v H
def K5 (K:PySem.W.Frag):R2:=fun x y H Q=>∃ p xs i v,x=.ref p/\y=.int i/\iY K H p xs/\rB xs i=some v/\Q v H
def K4:R2:=fun x y H Q=>∃ z i c,x=.str z/\y=.int i/\z.length<=sizeLine/\rB z.cps.toList i=some c/\Q (.str ⟨#[c]⟩) H
theorem Ep:Dr X (K3 X.K):=by
 intro value slice pins s σ H x y v u Q I rx ry h hs
 obtain⟨p,xs,i,z,rfl,rfl,hq,he,q⟩:=h
 cases rx
 obtain⟨t,rfl⟩:=ry
 obtain⟨its,r,pl,hz⟩:=I.list hq
 obtain⟨j,h1,h2,h3,h4,h5⟩:=sr he
 obtain⟨w,ew,rw'⟩:=r.get h2
 have hl:=r.length
 have hn:=oQ
 have fin:EP X pins σ Q w s:=⟨z,H,I,rw',q⟩
 by_cases h0:0<=i
 ·have hj:i.toNat=j:=by
   rw [seqIndex_of h0 h5] at h1
   exact Option.some.inj h1
  exact item_listR pl.isList h0 (by omega) (by rw [hj];simpa using ew) fin hs
 ·have hj:(i+(its.toArray.size:Int)).toNat=j:=by
   rw [seqIndex_neg (by omega) h4] at h1
   rw [List.size_toArray,<- hl]
   exact Option.some.inj h1
  exact subscriptTail_builtinR (x:=w) pl.isList.typeIs slot_list_getitem.lookup
   (wpAny_getItem_list_neg (Q:=fun r s'=>r=w/\EP X pins σ Q r s') pl.isList (by omega) (by rw [List.size_toArray]<;>omega) (by omega) (by rw [hj];simpa using ew) ⟨rfl,fin⟩) hs
theorem Hw:Dr X (K5 X.K):=by
 intro value slice pins s σ H x y v u Q I rx ry h hs
 obtain⟨p,xs,i,z,rfl,rfl,hq,he,q⟩:=h
 cases rx
 obtain⟨t,rfl⟩:=ry
 obtain⟨its,r,pl,hz⟩:=I.tuple hq
 obtain⟨j,h1,h2,h3,h4,h5⟩:=sr he
 obtain⟨w,ew,rw'⟩:=r.get h2
 have hl:=r.length
 have hn:=oQ
 have fin:EP X pins σ Q w s:=⟨z,H,I,rw',q⟩
 exact subscriptTail_builtinR (x:=w) pl.typeIs slot_tuple_getitem.lookup
  (getItem_tuple (j:=j) (Q:=fun r s'=>r=w/\EP X pins σ Q r s') pl (by omega) (by omega) (by rw [List.size_toArray,<- hl];exact h1) (by simpa using ew) ⟨rfl,fin⟩) hs
theorem Hv:Dr X K4:=by
 intro value slice pins s σ H x y v u Q I rx ry h hs
 obtain⟨z,i,c,rfl,rfl,hz,he,q⟩:=h
 obtain⟨t,rfl⟩:=rx
 obtain⟨t',rfl⟩:=ry
 obtain⟨j,h1,h2,h3,h4,h5⟩:=sr he
 have hl:z.cps.toList.length=z.length:=by simp [Str.length]
 rw [hl] at h1 h4 h5
 have hn:=oQ
 exact tail_any (typeIs_str s z t) slot_str_getitem.lookup (getItem_str (c:=c) (by
  have e1:decide (i < -(2 ^ 63:Int))=false:=decide_eq_false (by omega)
  have e2:decide (i ≥ 2 ^ 63)=false:=decide_eq_false (by omega)
  rw [e1,e2,Bool.or_false]) (by rw [h1];simpa using h2) ⟨.str ⟨#[c]⟩,H,I.tok _,⟨_,rfl⟩,q⟩) hs
def Nh (K:PySem.W.Frag):R2:=fun x y H Q=>K3 K x y H Q\/K5 K x y H Q\/K4 x y H Q
theorem Hu:Dr X (Nh X.K):=Ep.or (Hw.or Hv)
theorem xi (its:List Value)(n j:Nat)(u:Value):Obj.mapSeq (·.setIfInBounds j u) { cls:=.type "list",data:=.seq its.toArray n }={ cls:=.type "list",data:=.seq (its.set j u).toArray n }:=by
 simp [Obj.mapSeq]
theorem Inv.lst {pins:List (Addr × Obj)}{σ:St}{H:Hp}{s:Shared}{p:Addr}{xs:List V}(I:Inv X pins σ H s)(h:H p=some (.lst xs)) :
  ∃(its:List Value) (n:Nat),Vals xs its/\s.heap.get? p=some { cls:=.type "list",data:=.seq its.toArray n }/\xs.length<=sizeLine:=by
 obtain⟨z,its,n,r,e⟩:=I.bp p _ h
 exact⟨its,n,r,e,z⟩
theorem Inv.IE {pins:List (Addr × Obj)}{σ:St}{H:Hp}{s:Shared}{p:Addr}{xs ys:List V}{its its':List Value}{n n':Nat}{f:Obj->Obj}(I:Inv X pins σ H s)(h:H p=some (.lst xs))
  (ho:s.heap.get? p=some { cls:=.type "list",data:=.seq its.toArray n })(hf:f { cls:=.type "list",data:=.seq its.toArray n }={ cls:=.type "list",data:=.seq its'.toArray n' })(r:Vals ys its')(hz:ys.length<=sizeLine)(t:Nat) :
  Inv X pins σ (upd H p (.lst ys)) { s with heap:=s.heap.update p f,toks:=t }:=by
 have e:(s.heap.update p f).get? p=some { cls:=.type "list",data:=.seq its'.toArray n' }:=by
  rw [Heap.get?_update_self f ho (by rw [hf]<;>rfl),hf]
 refine I.write (x:=p) (e:=p) (by rw [h];trivial) (.inl rfl) (fun b u hb q=>(Heap.get?_update_other _ _ (Ne.symm hb)).trans q) ⟨_,e⟩ ?_
 exact⟨hz,its',n',r,e⟩
def K7:V->V->V->Hp->(Hp->Prop)->Prop:=fun o i v H Q=>∃ p xs k j,o=.ref p/\i=.int k/\H p=some (.lst xs)/\BJ xs.length k=some j/\Q (upd H p (.lst (xs.set j v)))
theorem set_list:Ju X K7:=by
 intro pins s σ H o i v ov iv u Q I ro ri rv h
 obtain⟨p,xs,k,j,rfl,rfl,hp,hj,q⟩:=h
 cases ro
 obtain⟨t,rfl⟩:=ri
 obtain⟨its,n,r,ho,hz⟩:=I.lst hp
 obtain⟨h1,h2,h3,h4⟩:=yz hj
 have hl:=r.length
 have hn:=oQ
 have I':Inv X pins σ (upd H p (.lst (xs.set j v))) { s with heap:=s.heap.update p (Obj.mapSeq (·.setIfInBounds j u))} :=
  I.IE hp ho (xi its n j u) (r.set rv j) (by rw [List.length_set];exact hz) s.toks
 by_cases h0:0<=k
 ·have hk:k.toNat=j:=by
   rw [seqIndex_of h0 h4] at h1
   exact Option.some.inj h1
  exact PySem.W.ki_setAt ho h0 (by omega) (by rw [List.size_toArray,<- hl];exact h4) (by rw [hk];exact⟨_,I',q⟩)
 ·have hk:(k+(its.toArray.size:Int)).toNat=j:=by
   rw [seqIndex_neg (by omega) h3] at h1
   rw [List.size_toArray,<- hl]
   exact Option.some.inj h1
  exact PySem.W.ki_setBack ho (by omega) (by rw [List.size_toArray,<- hl];exact h3) (by omega) (by rw [hk];exact⟨_,I',q⟩)
theorem uf (lo hi:Option Int)(n:Nat):(sliceBounds lo hi none n).1=((HT.dh n 0 lo:Nat):Int)/\(sliceBounds lo hi none n).2.1=((HT.dh n n hi:Nat):Int)/\(sliceBounds lo hi none n).2.2=1:=by
 refine⟨?_,?_,rfl⟩
 ·cases lo with
  | none=>simp [sliceBounds,HT.dh]
  | some i =>
   simp only [sliceBounds,HT.dh,Option.getD_none,show(1:Int) > 0 by decide,if_true]
   by_cases h:i<0
   ·simp only [h,if_true]<;>omega
   ·simp only [h,if_false]<;>omega
 ·cases hi with
  | none=>simp [sliceBounds,HT.dh]
  | some i =>
   simp only [sliceBounds,HT.dh,Option.getD_none,show(1:Int) > 0 by decide,if_true]
   by_cases h:i<0
   ·simp only [h,if_true]<;>omega
   ·simp only [h,if_false]<;>omega
theorem rH (its:List Value)(lo hi:Option Int):slicePick its.toArray lo hi none=((its.drop (HT.dh its.length 0 lo)).take (HT.dh its.length its.length hi - HT.dh its.length 0 lo)).toArray:=by
 obtain⟨h1,h2,h3⟩:=uf lo hi its.toArray.size
 unfold slicePick
 rw [h1,h2,h3]
 simp only [sliceRange_one,pick_run,List.size_toArray]<;>rfl
def K8 (K:PySem.W.Frag):V->Option Int->Option Int->Hp->VK->Prop:=fun x lo hi H Q=>∃ a xs,x=.ref a/\dg K H a xs/\∀ p,H p=none->Q (.ref p) (upd H p (.lst (vH xs lo hi)))
theorem F1:D3 X (K8 X.K):=by
 intro pins s σ H x v vl vu lo hi sl Q I rx hs pl pu h
 obtain⟨a,xs,rfl,hx,q⟩:=h
 cases rx
 obtain⟨its,r,ht,hz⟩:=I.list hx
 have hlen:=r.length
 refine⟨"list",_,slot_list_getitem.lookup,ht.isList.typeIs,?_⟩
 refine wpAny_getItem_list_slice ht.isList hs pl pu .none (by simp) ?_ (by rw [List.size_toArray]<;>omega)
 rw [rH,<- hlen]
 refine⟨.ref s.heap.objs.size,_,I.laid (t':=s.toks) (o:=.lst (vH xs lo hi)) (fun b ob q=>Heap.get?_push_of_some _ q) (Nat.le_refl _) ?_,rfl,q _ (I.bp.fresh (Nat.le_refl _))⟩
 exact⟨Nat.le_trans (o7 xs lo hi) hz,_,0,(r.drop (HT.dh xs.length 0 lo)).take (HT.dh xs.length xs.length hi - HT.dh xs.length 0 lo),Heap.get?_push_size _ rfl⟩
def lV:V->Bool
 | .aj=>true
 | .bl _=>true
 | .int _=>true
 | .str _=>true
 | _=>false
def Ea:V->V->Bool
 | .aj,.aj=>true
 | .bl a,.bl b=>a == b
 | .bl a,.int b=>(if a then 1 else 0) == b
 | .int a,.bl b=>a == (if b then 1 else 0)
 | .int a,.int b=>a == b
 | .str a,.str b=>a == b
 | _,_=>false
theorem Hj {A:Around}{s:Shared}{y x:V}{u v:Value}(ry:RelV y u)(rx:RelV x v)(fy:lV y=true)(fx:lV x=true):SeqAt.EqAt A s u v (Ea y x):=by
 cases y with
 | aj =>
  cases ry
  cases x with
  | aj=>cases rx;exact SeqAt.EqAt.same _
  | bl b=>cases rx;exact SeqAt.EqAt.none_bool b
  | int b=>obtain⟨t,rfl⟩:=rx;exact SeqAt.EqAt.none_int b t
  | str b=>obtain⟨t,rfl⟩:=rx;exact SeqAt.EqAt.none_str b t
  | _=>exact absurd (show false=true from fx) Bool.false_ne_true
 | bl a =>
  cases ry
  cases x with
  | aj=>cases rx;exact SeqAt.EqAt.bool_none a
  | bl b=>cases rx;exact SeqAt.EqAt.bool_bool a b
  | int b=>obtain⟨t,rfl⟩:=rx;exact SeqAt.EqAt.bool_int a b t
  | str b=>obtain⟨t,rfl⟩:=rx;exact SeqAt.EqAt.bool_str a b t
  | _=>exact absurd (show false=true from fx) Bool.false_ne_true
 | int a =>
  obtain⟨t',rfl⟩:=ry
  cases x with
  | aj=>cases rx;exact SeqAt.EqAt.int_none a t'
  | bl b=>cases rx;exact SeqAt.EqAt.int_bool a t' b
  | int b=>obtain⟨t,rfl⟩:=rx;exact SeqAt.EqAt.int_int a t' b t
  | str b=>obtain⟨t,rfl⟩:=rx;exact SeqAt.EqAt.int_str a t' b t
  | _=>exact absurd (show false=true from fx) Bool.false_ne_true
 | str a =>
  obtain⟨t',rfl⟩:=ry
  cases x with
  | aj=>cases rx;exact SeqAt.EqAt.str_none a t'
  | bl b=>cases rx;exact SeqAt.EqAt.str_bool a t' b
  | int b=>obtain⟨t,rfl⟩:=rx;exact SeqAt.EqAt.str_int a t' b t
  | str b=>obtain⟨t,rfl⟩:=rx;exact SeqAt.EqAt.str_str a t' b t
  | _=>exact absurd (show false=true from fx) Bool.false_ne_true
 | _=>exact absurd (show false=true from fy) Bool.false_ne_true
def xJ (x:V)(u:Value):Bool:=match u with
 | .none=>Ea .aj x
 | .bool b=>Ea (.bl b) x
 | .int i _=>Ea (.int i) x
 | .str z _=>Ea (.str z) x
 | _=>false
theorem B2 {x y:V}{u:Value}(r:RelV y u)(f:lV y=true):xJ x u=Ea y x:=by
 cases y with
 | aj=>cases r;rfl
 | bl b=>cases r;rfl
 | int i=>obtain⟨t,rfl⟩:=r;rfl
 | str z=>obtain⟨t,rfl⟩:=r;rfl
 | _=>exact absurd (show false=true from f) Bool.false_ne_true
theorem mm {x:V}:∀{xs:List V} {us:List Value},Vals xs us->xs.all lV=true->us.any (xJ x)=xs.any fun y=>Ea y x
 | _,_,.nil,_=>rfl
 | y::xs,u::us,.cons r t,f=>by
  rw [List.all_cons,Bool.and_eq_true] at f
  rw [List.any_cons,List.any_cons,B2 r f.1,mm t f.2]
theorem kH {A:Around}{s:Shared}{x:V}{v:Value}(rx:RelV x v)(fx:lV x=true):∀{xs:List V} {us:List Value},Vals xs us->xs.all lV=true->∀ u∈us,SeqAt.EqAt A s u v (xJ x u)
 | _,_,.nil,_=>fun u hu=>by cases hu
 | y::xs,u::us,.cons r t,f=>fun u' hu=>by
  rw [List.all_cons,Bool.and_eq_true] at f
  rcases List.mem_cons.mp hu with rfl|hu
  ·rw [B2 r f.1];exact Hj r rx f.1 fx
  ·exact kH rx fx t f.2 u' hu
def Dt (x:V)(xs:List V):Bool:=xs.any fun y=>Ea y x
def Lw (K:PySem.W.Frag)(neg:Bool):R2:=fun x y H Q=>∃ p xs,y=.ref p/\(dg K H p xs\/iY K H p xs)/\lV x=true/\xs.all lV=true/\Q (.bl (if neg then !Dt x xs else Dt x xs)) H
theorem rp:gx X (compareOp .In) (Lw X.K false):=by
 intro pins s σ H x y v u Q I rx ry h
 obtain⟨p,xs,rfl,hq,fx,fs,q⟩:=h
 cases ry
 rcases hq with hq|hq
 ·obtain⟨its,r,pl,hz⟩:=I.list hq
  refine SeqAt.in_listAt (xJ x) pl.isList (fun w hw=>kH rx fx r fs w (by simpa using hw)) ⟨.bl _,H,I,rfl,?_⟩
  rw [show its.toArray.any (xJ x)=its.any (xJ x) by simp,mm r fs]
  exact q
 ·obtain⟨its,r,pl,hz⟩:=I.tuple hq
  refine SeqAt.in_tupleAt (xJ x) pl (fun w hw=>kH rx fx r fs w (by simpa using hw)) ⟨.bl _,H,I,rfl,?_⟩
  rw [show its.toArray.any (xJ x)=its.any (xJ x) by simp,mm r fs]
  exact q
theorem nH:gx X (compareOp .NotIn) (Lw X.K true):=by
 intro pins s σ H x y v u Q I rx ry h
 obtain⟨p,xs,rfl,hq,fx,fs,q⟩:=h
 cases ry
 rcases hq with hq|hq
 ·obtain⟨its,r,pl,hz⟩:=I.list hq
  refine SeqAt.notIn_listAt (xJ x) pl.isList (fun w hw=>kH rx fx r fs w (by simpa using hw)) ⟨.bl _,H,I,rfl,?_⟩
  rw [show its.toArray.any (xJ x)=its.any (xJ x) by simp,mm r fs]
  exact q
 ·obtain⟨its,r,pl,hz⟩:=I.tuple hq
  refine SeqAt.notIn_tupleAt (xJ x) pl (fun w hw=>kH rx fx r fs w (by simpa using hw)) ⟨.bl _,H,I,rfl,?_⟩
  rw [show its.toArray.any (xJ x)=its.any (xJ x) by simp,mm r fs]
  exact q
theorem su:jO X (.type "list") (fun xs H Q=>∃ p ys,xs=[.ref p]/\(dg X.K H p ys\/iY X.K H p ys)/\∀ l,H l=none->Q (.ref l) (upd H l (.lst ys))):=by
 intro pins s σ H xs us Q I r h
 obtain⟨p,ys,rfl,hq,q⟩:=h
 obtain⟨u,rfl,rx⟩:=vals1 r
 cases rx
 have fin:∀(its:List Value),Vals ys its->ys.length<=sizeLine->∀(h':Heap) (c':Nat),(∀ b o',s.heap.get? b=some o'->h'.get? b=some o') ->
   h'.get? s.heap.objs.size=some { cls:=.type "list",dict:=none,data:=.seq its.toArray c',slots:=#[] }->EP X pins σ Q (.ref s.heap.objs.size) { s with heap:=h' }:=fun its r' hz h' c' kp e =>
  ⟨.ref s.heap.objs.size,_,I.laid (t':=s.toks) kp (Nat.le_refl _) (show bN X.prog X.w _ h' _ (.lst ys) from⟨hz,its,c',r',e⟩),rfl,q _ (I.bp.fresh (Nat.le_refl _))⟩
 rcases hq with hq|hq
 ·obtain⟨its,r',pl,hz⟩:=I.list hq
  have hlen:=r'.length
  obtain⟨o,ho,hc,n,hd⟩:=pl.isList
  exact call_list_seq p (.inl rfl) ho hc hd (fun h' c' kp e=>fin its r' hz h' c' kp e) (by simp only [List.size_toArray]<;>omega)
 ·obtain⟨its,r',pl,hz⟩:=I.tuple hq
  have hlen:=r'.length
  obtain⟨o,ho,hc,n,hd⟩:=pl
  exact call_list_seq p (.inr rfl) ho hc hd (fun h' c' kp e=>fin its r' hz h' c' kp e) (by simp only [List.size_toArray]<;>omega)
theorem rE:jO X (.type "tuple") (fun xs H Q=>∃ p ys,xs=[.ref p]/\((dg X.K H p ys/\∀ l,H l=none->Q (.ref l) (upd H l (.tup ys)))\/(iY X.K H p ys/\Q (.ref p) H))):=by
 intro pins s σ H xs us Q I r h
 obtain⟨p,ys,rfl,h⟩:=h
 obtain⟨u,rfl,rx⟩:=vals1 r
 cases rx
 rcases h with⟨hq,q⟩|⟨hq,q⟩
 ·obtain⟨its,r',pl,hz⟩:=I.list hq
  have hlen:=r'.length
  refine call_tuple_list pl.isList (fun h' kp=>?_) (by simp only [List.size_toArray]<;>omega)
  have I1:Inv X pins σ H { s with heap:=h' }:=I.kept (t':=s.toks) kp
  have I2:Inv X pins σ (upd H h'.objs.size (.tup ys)) { s with heap:=h'.push { cls:=.type "tuple",data:=.seq its.toArray }} :=
   I1.laid (t':=s.toks) (fun b o e=>Heap.get?_push_of_some _ e) (Nat.le_refl _) (show bN X.prog X.w _ _ _ (.tup ys) from⟨hz,its,r',IsTup.new _ _⟩)
  exact⟨.ref h'.objs.size,_,I2,rfl,q _ (I1.bp.fresh (Nat.le_refl _))⟩
 ·obtain⟨its,r',pl,hz⟩:=I.tuple hq
  exact call_tuple_same pl ⟨.ref p,H,I,rfl,q⟩
def NB (K:PySem.W.Frag)(T:String)(x:V)(H:Hp):Prop:=match x with
 | .str _=>T="str"
 | .int _=>T="int"
 | .ref p=>(T="list"/\∃ xs,dg K H p xs)\/(T="tuple"/\∃ o,K.lookup p=some o/\o.cls=.type "tuple"/\o.dict=none) \/
   (T="dict"/\((∃ kvs,H p=some (.dK kvs))\/∃ kvs,H p=some (.dT kvs)))\/(T="set"/\∃ S n,H p=some (.set S n))
 | _=>False
theorem Dj {pins:List (Addr × Obj)}{σ:St}{H:Hp}{s:Shared}{T:String}{x:V}{v:Value}(I:Inv X pins σ H s)(r:RelV x v)(ty:NB X.K T x H) :
  s.TypeIs v T/\∀ a,v=.ref a->∃ ob,s.heap.get? a=some ob/\ob.dict=none:=by
 cases x with
 | str z =>
  obtain⟨t,rfl⟩:=r
  cases(show T="str" from ty)
  exact⟨typeIs_str s z t,fun _ e=>nomatch e⟩
 | int i =>
  obtain⟨t,rfl⟩:=r
  cases(show T="int" from ty)
  exact⟨typeIs_int s i t,fun _ e=>nomatch e⟩
 | ref p =>
  cases r
  rcases ty with⟨rfl,xs,hq⟩|⟨rfl,o,hk,hc,hd⟩|⟨rfl,hk⟩|⟨rfl,S,n,hk⟩
  ·obtain⟨its,_,pl,_⟩:=I.list hq
   refine⟨pl.isList.typeIs,fun a e=>?_⟩
   cases e
   obtain⟨o,n,e,c,hd,_⟩:=pl
   exact⟨o,e,hd⟩
  ·refine⟨⟨o,I.uv p o hk,hc⟩,fun a e=>?_⟩
   cases e
   exact⟨o,I.uv _ o hk,hd⟩
  ·have z:∃ o,s.heap.get? p=some o/\o.ExactDict:=by
    rcases hk with⟨kvs,hk⟩|⟨kvs,hk⟩
    ·obtain⟨_,_,_,_,o,_,_,e,ex,_⟩:=I.bp p _ hk
     exact⟨o,e,ex⟩
    ·obtain⟨_,_,_,_,o,_,_,e,ex,_⟩:=I.bp p _ hk
     exact⟨o,e,ex⟩
   obtain⟨o,e,ex⟩:=z
   refine⟨⟨o,e,ex.1⟩,fun a e2=>?_⟩
   cases e2
   exact⟨o,e,ex.2.1⟩
  ·obtain⟨o,_,_,_,e,ex,_⟩:=I.bp p _ hk
   refine⟨⟨o,e,ex.1⟩,fun a e2=>?_⟩
   cases e2
   exact⟨o,e,ex.2.1⟩
 | _=>exact False.elim ty
def M1 (K:PySem.W.Frag)(T:String)(r:V->List V->Hp->VK->Prop)(to:TE):TE:=fun σ H Q=>to σ H fun x H1=>NB K T x H1/\r x [] H1 Q
def N5 (K:PySem.W.Frag)(T:String)(r:V->List V->Hp->VK->Prop)(to:TE)(t:TA):TE:=fun σ H Q=>to σ H fun x H1=>NB K T x H1/\t σ H1 fun xs H2=>r x xs H2 Q
variable {o e:Expr}{es:List Expr}{to:TE}{t:TA}{name:Str}{apos cpos:Pos}{T id:String}{r:V->List V->Hp->VK->Prop}
theorem Iv (pa:PlainAttrs T)(slot:Slot T name id)(hty:typeOf (.builtin id)=pure (.type "method_descriptor"))(hm:L9 X id r)(ho:PE X o to)
  (hbase:attributeBase o name X.env (eval o X.env)=eval o X.env:=by rfl)(hline:(apos.endLine == cpos.line)=true:=by rfl):PE X (.Call (.Attribute o name apos) [] [] cpos) (M1 X.K T r to):=by
 intro pins s σ H Q I h
 refine wpAny_Call_method0_late hbase hline (b9 (ho pins s σ H _ I h) fun v s1 ⟨x,H1,I1,r1,ty,q1⟩=>?_)
 obtain⟨h1,h2⟩:=Dj I1 r1 ty
 exact⟨T,id,pa,slot,hty,h1,h2,Calls.callWith_builtin rfl (PySem.evalArgs_none (hm pins s1 σ H1 x [] v [] Q I1 r1 .nil q1))⟩
theorem r8 (pa:PlainAttrs T)(slot:Slot T name id)(hty:typeOf (.builtin id)=pure (.type "method_descriptor"))(hm:L9 X id r)(ho:PE X o to)(ha:PA X (e::es) t)
  (hbase:attributeBase o name X.env (eval o X.env)=eval o X.env:=by rfl)
  (hfew:((backTo cpos (starEach (e::es) X.env)).all (fun x=>!x.1)&&(backToKw cpos (keywordEach [] X.env)).all (fun x=>x.1.isSome)
   && decide ((e::es).length+([]:List Keyword).length+(if([]:List Keyword).isEmpty then 0 else 1)<30))=true:=by rfl)
  (hline:(apos.endLine == cpos.line)=true:=by rfl)(hs:starEach (e::es) X.env=(false,eval e X.env)::starEach es X.env:=by rfl)(hplain:(backTo cpos (starEach es X.env)).any (·.1)=false:=by rfl) :
  PE X (.Call (.Attribute o name apos) (e::es) [] cpos) (N5 X.K T r to t):=by
 intro pins s σ H Q I h
 refine wpAny_Call_method_late hbase hfew hline rfl (b9 (ho pins s σ H _ I h) fun v s1 ⟨x,H1,I1,r1,ty,q1⟩=>?_)
 obtain⟨h1,h2⟩:=Dj I1 r1 ty
 refine⟨T,id,pa,slot,hty,h1,h2,?_⟩
 have hA:=ha cpos pins s1 σ H1 _ I1 q1
 rw [hs] at hA ⊢
 refine Calls.callWith_builtin (by show(false||(backTo cpos (starEach es X.env)).any (·.1))=false;rw [hplain]<;>rfl) (Calls.evalArgs_plain ?_)
 exact b9 hA fun us s2 ⟨vs,H2,I2,r2,q2⟩=>hm pins s2 σ H2 x vs v us Q I2 r1 r2 q2
end
def Jr (X:Cx)(id:String)(r:V->List V->Hp->VK->Prop):Prop :=
 ∀(pins:List (Addr × Obj)) (s:Shared) (σ:St) (H:Hp) (x:V) (xs:List V) (v:Value) (us:List Value) (Q:VK),Inv X pins σ H s->RelV x v->Vals xs us->r x xs H Q ->
  wpAny (model X.prog X.w) X.A (call (.builtin id) (v::us)) (EP X pins σ Q) X.xe s
theorem Vals.one:∀{x:V} {us:List Value},Vals [x] us->∃ u,us=[u]/\RelV x u
 | _,_,.cons r .nil=>⟨_,rfl,r⟩
theorem Vals.zero:∀{us:List Value},Vals [] us->us=[]
 | _,.nil=>rfl
section
variable {X:Cx}{pins:List (Addr × Obj)}{σ:St}{H:Hp}{s:Shared}{l b:Addr}{xs ys zs:List V}
theorem Inv.ID {its its':List Value}{n:Nat}{f:Array Value->Array Value}{t':Nat}(I:Inv X pins σ H s)(hH:H l=some (.lst xs))
  (e:s.heap.get? l=some { cls:=.type "list",data:=.seq its.toArray n })(hf:f its.toArray=its'.toArray)(hv:Vals ys its')(hz:ys.length<=sizeLine) :
  Inv X pins σ (upd H l (.lst ys)) { s with heap:=s.heap.update l (Obj.mapSeq f),toks:=t' }:=by
 have q:=PySem.IsL.update e f
 rw [hf] at q
 refine I.write (x:=l) (e:=l) (by rw [hH];exact trivial) (.inl rfl) (fun b' u hb hu=>(Heap.get?_update_other s.heap (Obj.mapSeq f) (Ne.symm hb)).trans hu) ⟨_,q⟩ ?_
 exact⟨hz,its',_,hv,q⟩
theorem Inv.Mb {its:List Value}{t':Nat}(I:Inv X pins σ H s)(hv:Vals ys its)(hz:ys.length<=sizeLine) :
  Inv X pins σ (upd H s.heap.objs.size (.lst ys)) { s with heap:=s.heap.push { cls:=.type "list",data:=.seq its.toArray },toks:=t' } :=
 I.laid (fun _ _ q=>Heap.get?_push_of_some _ q) (Nat.le_refl _) ⟨hz,its,0,hv,Heap.get?_push_size _ rfl⟩
theorem Inv.fresh (I:Inv X pins σ H s):H s.heap.objs.size=none:=I.bp.fresh (Nat.le_refl _)
theorem Inv.E1 (I:Inv X pins σ H s)(hH:H l=some (.lst xs)):xs.length<=sizeLine/\∃(its:List Value) (n:Nat),Vals xs its/\xs.length=its.length/\s.heap.get? l=some { cls:=.type "list",data:=.seq its.toArray n }:=by
 obtain⟨z,its,n,r,e⟩:=I.bp l _ hH
 exact⟨z,its,n,r,r.length,e⟩
theorem Ci {n:Nat}(h:n<=sizeLine):Builtin.List.listTooLong n=false:=by
 unfold Builtin.List.listTooLong
 exact decide_eq_false (by omega)
end
section
variable {X:Cx}
def Fq:V->List V->Hp->VK->Prop:=fun x vs H Q=>∃ l xs y,x=.ref l/\vs=[y]/\H l=some (.lst xs)/\xs.length<sizeLine/\Q .aj (upd H l (.lst (xs++[y])))
theorem oW:Jr X "list.append" Fq:=by
 intro pins s σ H x vs v us Q I rx rv h
 obtain⟨l,xs,y,rfl,rfl,hH,hz,q⟩:=h
 cases rx
 obtain⟨u,rfl,ru⟩:=rv.one
 obtain⟨z,its,n,r,hl,e⟩:=I.E1 hH
 refine call_meets F.slot_list_append ⟨_,e,rfl⟩ F.entry_list_append (F.args_list_append_2 _ _) (PySem.list_append l its.toArray n u (by rw [List.size_toArray];omega)) ⟨e,?_⟩
 refine⟨.aj,_,I.ID (its':=its++[u]) hH e (by simp) (r.append (.cons ru .nil)) ?_,rfl,q⟩
 rw [List.length_append,List.length_singleton]
 omega
def Ft:V->List V->Hp->VK->Prop:=fun x vs H Q=>∃ l b xs zs,x=.ref l/\vs=[.ref b]/\H l=some (.lst xs)/\H b=some (.lst zs)/\xs.length+zs.length<=sizeLine/\Q .aj (upd H l (.lst (xs++zs)))
theorem AZ:Jr X "list.extend" Ft:=by
 intro pins s σ H x vs v us Q I rx rv h
 obtain⟨l,b,xs,zs,rfl,rfl,hH,hB,hz,q⟩:=h
 cases rx
 obtain⟨u,rfl,ru⟩:=rv.one
 cases ru
 obtain⟨z,its,n,r,hl,e⟩:=I.E1 hH
 obtain⟨z2,its2,n2,r2,hl2,e2⟩:=I.E1 hB
 have hsz:its.toArray.size+its2.toArray.size<=sizeLine:=by rw [List.size_toArray,List.size_toArray];omega
 have hlong:¬ (!its.toArray.isEmpty&&Builtin.List.listTooLong (its.toArray.size+its2.toArray.size))=true:=by
  rw [Ci hsz,Bool.and_false]
  exact Bool.false_ne_true
 refine call_meets F.slot_list_extend ⟨_,e,rfl⟩ F.entry_list_extend (F.args_list_extend_2 _ _)
  (AutoSeq1.list_extend_list_list_0 l its.toArray n b its2.toArray n2 hlong (by rw [List.size_toArray];omega) (by omega)) ⟨e,e2,?_⟩
 refine⟨.aj,_,I.ID (its':=its++its2) hH e (by simp) (r.append r2) ?_,rfl,q⟩
 rw [List.length_append]
 omega
end
section
variable {prog:Program}{w:World}{A:Around}{E:Value->Shared->Prop}{s:Shared}
end
section
variable {X:Cx}
end
end L2
namespace NO
open PySem PySem.W PySem.Calls PyProof.Rows
theorem pX {P:Params}{h:Heap}:∀(ns:List Int) (vs:List Value),WellAll P h vs (ns.map WData.int)->IntsAre vs ns:=by
 intro ns
 induction ns with
 | nil =>
  intro vs w
  rw [List.map_nil] at w
  cases w
  exact .nil
 | cons n ns ih =>
  intro vs w
  rw [List.map_cons] at w
  cases w with
  | cons a b =>
   cases a
   exact .cons _ _ (ih _ b)
theorem Aq {l:OpenLaw}{n:Nat}(hn:l.most=some n){P:Params}{h:Heap}{args:List WData}{vals:List Value}
  (hpre:l.row.toRowW.claim.pre args=true)(hwl:WellAll P h vals args) :
  ∃ a vs ns,vals=[Value.ref a]/\args=[WData.list (ns.map WData.int)]/\h.get? a=some { cls:=.type "list",data:=.seq vs.toArray }/\IntsAre vs ns/\ns.length<=n:=by
 have hsh:WShape.hasAll [] args [.list .int]=true:=(pre_splitW hpre).1
 have hc:l.pre.holds [] { args:=args }=true:=(pre_splitW hpre).2
 obtain⟨d,r,rfl,h1,h2⟩:=hasAllW_cons hsh
 obtain rfl:=hasAllW_nil h2
 obtain⟨xs,rfl,h3⟩:=hasW_list h1
 obtain⟨ns,rfl⟩:=items_int h3
 have hlen:ns.length<=n:=by
  unfold OpenLaw.pre at hc
  have h4:(WTm.not (.lt (.lit (.int (n:Int))) (.len (.arg 0)))).holds [] { args:=[.list (ns.map .int)] }=true:=by
   have h4:=(holds_andW hc).1
   rw [hn] at h4
   exact h4
  have h5:=condW_of h4 (w_not (w_lt w_lit (w_len_list (w_arg rfl))))
  rw [List.length_map] at h5
  refine Nat.le_of_not_lt fun q=>?_
  have q':(n:Int)<((ns.length:Nat):Int):=by omega
  first
   | (rw [decide_eq_true q'] at h5;exact absurd h5 (by decide))
   | (simp at h5;omega)
 cases hwl with
 | cons w1 w2 =>
  cases w2
  cases w1 with
  | list ho hall=>exact⟨_,_,ns,rfl,rfl,ho,pX ns _ hall,hlen⟩
theorem Ao (l:OpenLaw)(args:List WData):l.row.toRowW.claim.post args (.bool true) args=true :=
 postW_of (r:=l.row.toRowW) (X:=(true == true))
  (show WShape.has [] (.bool true) .bool=true by first|rfl|decide|simp [WShape.has,WShape.arms,WShape.armsAll])
  (show(WTm.eq .res (.lit (.bool true))).value [] { args:=args,res:=some (.bool true),after:=args }=some (.bool (true == true)) from w_eq_bool (w_res rfl) w_lit) rfl
theorem vD {l:OpenLaw}{n:Nat}{q:Program}{loose:List Str}{XP:(Str->Option Value)->Heap->Prop}{YP:World->Heap->Prop}{d:DefRec}
  (hn:l.most=some n)(hdf:d.params.defaults=[])
  (call:∀(w:World) (s₀ s₁:Shared) (mg mb:Str->Option Value) (fa:Addr) (o:Obj) (pm cd doc:Value) (a:Addr) (vs:List Value) (ns:List Int),
   Ground q loose [] XP w s₀ mg mb s₁.heap->YP w s₁.heap ->
   s₁.heap.get? fa=some o->o.data=.func (docDef d.name d.params d.body d.scope pm cd doc)->s₁.heap.CodeRec cd d.name->mg d.name=some (.ref fa) ->
   s₁.heap.get? a=some { cls:=.type "list",data:=.seq vs.toArray }->IntsAre vs ns->ns.length<=n->s₁.gens=#[] ->
   codeAny (model l.prog w) callerA (.call (.ref fa) ⟨[.ref a],[]⟩) (fun r s'=>r=.ok (.ret (.bool true))/\OldK s₁.heap s'.heap/\s'.os=s₁.os/\AllBare s'.gens) s₁) :
  WalkO q loose XP YP l.row.toRowW d [] (fun f vs=>PySem.call f vs):=by
 intro w s₀ s₁ mg mb G Y fa o pm cd doc dV kV ho hd hcd hD hmg hg args vals as hpre hlay hrd hwl hlo
 obtain rfl:dV=.none:=Dflts.none hD hdf
 obtain rfl:kV=.none:=Dflts.noKw hD
 obtain⟨a,vs,ns,rfl,rfl,hobj,hints,hlen⟩:=Aq hn hpre hwl
 refine enter_call (codeAny_mono (call w s₀ s₁ mg mb fa o pm cd doc a vs ns G Y ho (fd_plain hd) hcd hmg hobj hints hlen hg) fun r s' hq=>?_)
 obtain⟨rfl,h2,h3,h4⟩:=hq
 exact⟨.inl ⟨.bool true,.bool true,[],rfl,fun _=>rfl,.bool true,Ao l _,fun _=>⟨List.Pairwise.nil,fun _ hm=>(nomatch hm)⟩⟩,h2,h3,h4⟩
section
variable {prog:Program}{w:World}{A:Around}{E:Value->Shared->Prop}{s:Shared}{K:Frag}
end
end NO
namespace L2
open PySem PySem.Spec PyProof.Rows
theorem sR:∀{vs:List Value} {ns:List Int},IntsAre vs ns->Vals (ns.map V.int) vs
 | _,_,.nil=>.nil
 | _,_,.cons n t h=>.cons ⟨t,rfl⟩ (sR h)
def HM (H:Hp):Prop:=∀ b,H b=none\/∃ o xs,H b=some (.fJ o (.lst xs))
theorem CG {P:Program}{w:World}{K:PySem.W.Frag}{mg mb:Str->Option Value}{CX:yW}{k:Nat}{fa a:Addr}{fd:FuncData}{x:Str}{sp:Sp}{s₁:Shared}{vs:List Value}{ns:List Int}
  (KX:K.In s₁.heap)(hns:s₁.heap.Ns mainGlobals mg)(hb:s₁.heap.Ns builtinsNs mb)(hbb:∀ x:Str,x≠"__name__"->mb x=bootBuiltins x)(hlim:s₁.heap.NoLimit)(hg:s₁.gens=#[])
  (ha:s₁.heap.get? a=some { cls:=.type "list",data:=.seq vs.toArray })(hi:IntsAre vs ns)(hl:ns.length<=sizeLine)(hr:cD k callerA)
  (F:∀ base:Heap,K.In base->base.Ns mainGlobals mg->cN P w K mg base CX k fa fd [x] sp)(hbind:∀(s:Shared) (u:Value),BindsTo s fd ⟨[u],[]⟩ [(x,u)])
  (hsp:∀ H:Hp,HM H->dg K H a (ns.map V.int)->sp [.ref a] H (fun v _=>v=.bl true) fun _ _ _=>False)
  (hCX:∀ H e s',CX [] H s₁ (fun _ _ _=>False) e s'->False) :
  codeAny (model P w) callerA (.call (.ref fa) ⟨[.ref a],[]⟩) (fun r s'=>r=.ok (.ret (.bool true))/\OldK s₁.heap s'.heap/\s'.os=s₁.os/\AllBare s'.gens) s₁:=by
 have rv:=sR hi
 have lenV:=hi.length
 -- from an abstract heap in which nothing but the script may be tracked
 have core:∀ H:Hp,HM H->dg K H a (ns.map V.int)->ku P w H s₁.heap->(∀ b,H b≠none->b=a)->(H a≠none->K.lookup a=none) ->
   codeAny (model P w) callerA (.call (.ref fa) ⟨[.ref a],[]⟩) (fun r s'=>r=.ok (.ret (.bool true))/\OldK s₁.heap s'.heap/\s'.os=s₁.os/\AllBare s'.gens) s₁:=by
  intro H hO hS bp hA hK
  have base_of:∀{b:Addr} {o:Obj},s₁.heap.get? b=some o->H b=none->(tR s₁.heap H).get? b=some o:=fun e n=>B9 e n
  have noA:∀{b:Addr} {o:Obj} {es:Array DictEntry} {ep:Nat},s₁.heap.get? b=some o->o.data=.dict es ep->H b=none:=fun{b o es ep} e d=>by
   cases q:H b with
   | none=>rfl
   | some u =>
    have e':b=a:=hA b (by rw [q];simp)
    subst e'
    rw [ha] at e;cases e
    have d':Data.seq vs.toArray _=Data.dict es ep:=d
    cases d'
  have nsK:∀{b:Addr} {m:Str->Option Value},s₁.heap.Ns b m->(tR s₁.heap H).Ns b m:=fun{b m} ⟨o,es,ep,e,d,r⟩=>⟨o,es,ep,base_of e (noA e d),d,r⟩
  have hKb:K.In (tR s₁.heap H):=fun b o e=>base_of (KX b o e) (by
   cases q:H b with
   | none=>rfl
   | some u =>
    have e':b=a:=hA b (by rw [q];simp)
    subst e'
    rw [hK (by rw [q];simp)] at e;cases e)
  have hM:Mod K mg (tR s₁.heap H):=⟨hKb,nsK hns,⟨mb,nsK hb,hbb⟩,let ⟨mc,h1,h2⟩:=hlim;⟨mc,nsK h1,h2⟩⟩
  have e0:wx P w K mg (tR s₁.heap H) callerA [] s₁ H:=⟨rfl,hM,fun b o e=>FJ e,Nat.le_of_eq (AG _ _),trivial,fun b hb=>absurd (show b∈([]:List Addr) from hb) (by simp),bp,.of_eq hg⟩
  refine codeAny_mono ((F _ hKb (nsK hns)).run callerA [] s₁ H ⟨[.ref a],[]⟩ [.ref a] [.ref a] _ _ hr e0 (hbind s₁ (.ref a)) (.cons rfl .nil) (hsp H hO hS)) fun r s' h=>?_
  cases r with
  | error e=>exact(hCX H e s' h).elim
  | ok fl =>
   cases fl with
   | next=>exact False.elim h
   | brk=>exact False.elim h
   | cont=>exact False.elim h
   | ret u =>
    obtain⟨v,H',os,bare,un,hok',r',q⟩:=h
    have q':v=.bl true:=q
    subst q'
    obtain rfl:u=Value.bool true:=r'
    refine⟨rfl,OldK.of_keep fun b o e=>?_,os,bare⟩
    cases q:H b with
    | none=>exact un.keep b o e q (by intro z;exact absurd (show b∈([]:List Addr) from z) (by simp)) (by simp)
    | some u =>
     rcases hO b with z|⟨ob,xs,z⟩
     ·rw [q] at z;cases z
     ·have z2:=un.oB b ob _ z
      obtain⟨e1,_⟩:=bp b _ z
      obtain⟨e2,_⟩:=hok' b _ z2
      rw [e] at e1;cases e1
      exact e2
 cases hk:K.lookup a with
 | some o =>
  -- the script is one of the module's own objects
  have e:=KX a o hk
  rw [ha] at e
  cases e
  refine core (fun _=>none) (fun _=>.inl rfl) (.inr ⟨_,vs.toArray,_,hk,rfl,rfl,rfl,by rw [List.size_toArray,lenV];exact hl,by simpa using rv⟩) (fun b u z=>by have z':(none:Option HO)=some u:=z;cases z') (fun b z=>absurd rfl z) fun z=>absurd rfl z
 | none =>
  refine core (fun b=>if b=a then some (.fJ { cls:=.type "list",data:=.seq vs.toArray } (.lst (ns.map V.int))) else none) (fun b=>?_) (.inl (.inr ⟨{ cls:=.type "list",data:=.seq vs.toArray },if_pos rfl⟩)) (fun b u z=>?_) (fun b z=>?_) fun _=>hk
  ·by_cases hb:b=a
   ·exact .inr ⟨_,_,if_pos hb⟩
   ·exact .inl (if_neg hb)
  ·by_cases hb:b=a
   ·have z':=(if_pos hb).symm.trans z
    cases z'
    subst hb
    exact⟨ha,by rw [List.length_map];exact hl,vs,_,rv,ha⟩
   ·have z':=(if_neg hb).symm.trans z
    cases z'
  ·by_cases hb:b=a
   ·exact hb
   ·exact absurd (if_neg hb) z
theorem GQ {l:PySem.W.OpenLaw}{n k:Nat}{q:Program}{loose:List Str}{XP:(Str->Option Value)->Heap->Prop}{YP:World->Heap->Prop}{d:DefRec}{K:Params->PySem.W.Frag}{CX:World->yW}{sp:World->Sp}{x:Str}
  (hn:l.most=some n)(hn2:n<=sizeLine)(hdf:d.params.defaults=[])(hr:cD k callerA)
  (hY:∀(w:World) (h:Heap),YP w h->(K w.params).In h)
  (F:∀(w:World) (mg:Str->Option Value) (fa:Addr) (h:Heap),(K w.params).In h->h.Ns mainGlobals mg->mg d.name=some (.ref fa) ->
   ∃ fd:FuncData,(∀(s:Shared) (u:Value),BindsTo s fd ⟨[u],[]⟩ [(x,u)]) /\
    ∀ base:Heap,(K w.params).In base->base.Ns mainGlobals mg->cN l.prog w (K w.params) mg base (CX w) k fa fd [x] (sp w))
  (hsp:∀(w:World) (H:Hp) (a:Addr) (ns:List Int),ns.length<=n->HM H->dg (K w.params) H a (ns.map V.int)->sp w [.ref a] H (fun v _=>v=.bl true) fun _ _ _=>False)
  (hCX:∀(w:World) (H:Hp) (s:Shared) (e:Value) (s':Shared),CX w [] H s (fun _ _ _=>False) e s'->False) :
  PySem.W.WalkO q loose XP YP l.row.toRowW d [] (fun f vs=>PySem.call f vs):=by
 refine NO.vD hn hdf fun w s₀ s₁ mg mb fa o pm cd doc a vs ns G Y ho hd hcd hmg hobj hints hlen hg=>?_
 have KX:=hY w _ Y
 obtain⟨fd,hb,hF⟩:=F w mg fa _ KX G.T.g hmg
 exact CG KX G.T.g G.T.b G.T.builtins G.T.nolimit hg hobj hints (Nat.le_trans hlen hn2) hr hF hb (fun H hO hS=>hsp w H a ns hlen hO hS) fun H e s'=>hCX w H s₁ e s'
def cz (s:Stmt):Arguments:=match s with
 | .FunctionDef _ a _ _ _ _ _ _ _ _=>a
 | _=>{ posonlyargs:=[],args:=[],vararg:=none,kwonlyargs:=[],kw_defaults:=[],kwarg:=none,defaults:=[] }
def bE (s:Stmt):List Stmt:=match s with
 | .FunctionDef _ _ b _ _ _ _ _ _ _=>b
 | _=>[]
def aB (s:Stmt):Scope:=match s with
 | .FunctionDef _ _ _ _ _ _ sc _ _ _=>sc
 | _=>{ kind:=.function,names:=[],isGenerator:=false,isCoroutine:=false }
abbrev pQ:yW:=fun _ _ _ _ _ _=>False
abbrev E0:XK:=fun _ _ _=>False
theorem rz {X:Cx}:Passes pQ X E0:=fun _ _ _ _ _ _ _ h=>h.elim
structure wy (K:PySem.W.Frag) (x qual:Str) (st:Stmt) (f:Addr) (fd:FuncData):Prop where
 ex:∃(oc:Value) (od:Option Addr) (kV doc pm:Value) (an:Option Addr) (cdv ct:Value) (osl:Array (Option Value)),
  fd=fnOf x qual (cz st) (bE st) (aB st) .none kV doc pm an cdv ct/\K.lookup f=some ⟨oc,od,.func fd,osl⟩/\codeIn K cdv qual=true
 kp:keepIn K (.ref f)=true
section
variable {P:Program}{w:World}{K:PySem.W.Frag}{mg:Str->Option Value}{base:Heap}
theorem wy.ok {x qual:Str}{st:Stmt}{f:Addr}{fd:FuncData}{N ps:List Str}{k:Nat}{sp:Sp}(F:wy K x qual st f fd)(S:aE N ps (aB st))(len:∀ vs H Q E,sp vs H Q E->vs.length=ps.length)
  (hbody:∀(cdv:Value) (A:Around) (outer:List Env) (s:Shared) (H:Hp) (vs:List V) (Q:VK) (E:XK),cD k (A.deeper (envOfC qual (aB st) s.heap.objs.size f cdv))->sp vs H Q E ->
   ∃ t,mG (vJ pQ P w K mg base N qual (aB st) f cdv A outer s H E).IZ (bE st) t/\t { nx:=fun _ H'=>Q .aj H',rt:=Q } (start N vs) H):cN P w K mg base pQ (k+1) f fd ps sp:=by
 obtain⟨oc,od,kV,doc,pm,an,cdv,ct,osl,rfl,lk,hcd⟩:=F.ex
 refine Gn lk hcd S len fun A outer s H vs Q E hr hsp=>?_
 obtain⟨t,h,q⟩:=hbody cdv A outer s H vs Q E hr hsp
 exact⟨t,h.IZ,q⟩
theorem wy.binds {x qual:Str}{st:Stmt}{f:Addr}{fd:FuncData}{ps:List Str}(F:wy K x qual st f fd)
  (h:∀(kV doc pm:Value) (an:Option Addr) (cdv ct:Value) (us:List Value),us.length=ps.length->bindArgs (fnOf x qual (cz st) (bE st) (aB st) .none kV doc pm an cdv ct) ⟨us,[]⟩=pure (ps.zip us)):Binds K fd ps []:=by
 obtain⟨oc,od,kV,doc,pm,an,cdv,ct,osl,rfl,lk,hcd⟩:=F.ex
 exact .all (h kV doc pm an cdv ct)
theorem oF {x qual:Str}{st:Stmt}{f:Addr}{oc:Value}{od an:Option Addr}{osl:Array (Option Value)}{kV doc pm cdv ct:Value}(l:K.lookup f=some ⟨oc,od,.func (fnOf x qual (cz st) (bE st) (aB st) .none kV doc pm an cdv ct),osl⟩)
  (c:codeIn K cdv qual=true)(k:keepIn K (.ref f)=true):wy K x qual st f (fnOf x qual (cz st) (bE st) (aB st) .none kV doc pm an cdv ct):=⟨⟨oc,od,kV,doc,pm,an,cdv,ct,osl,rfl,l,c⟩,k⟩
end
theorem Au {n:Nat}(h:n<=1000):n<sizeLine:=Nat.lt_of_le_of_lt h (by decide)
section
variable {X:Cx}
theorem pv (i:Nat){x:Str}{pos:Pos}(hN:X.N[i]?=some x:=by rfl)(hv:ur X.env.scope x:=by first|exact Or.inl rfl|exact Or.inr (Or.inl rfl)|exact Or.inr (Or.inr rfl))(hd:(x == ("__debug__":Str))=false:=by decide)
  (hcd:(x == ("__classdict__":Str))=false:=by decide):PE X (.Name x pos) (Ay i):=dW hN hv hd hcd
end
theorem aW {A B:Prop}(h:B):if false=true then A else B:=by
 rw [if_neg Bool.false_ne_true]
 exact h
theorem av {A B:Prop}(h:A):if true=true then A else B:=by
 rw [if_pos rfl]
 exact h
def aK (H H':Hp):Prop:=∀ b o,H b=some o->H' b=some o
theorem aK.refl (H:Hp):aK H H:=fun _ _ h=>h
theorem aK.trans {H H1 H2:Hp}(a:aK H H1)(b:aK H1 H2):aK H H2:=fun c o h=>b c o (a c o h)
theorem aK.free {H H':Hp}(e:aK H H'){l:Addr}(h:H' l=Option.none):H l=Option.none:=by
 cases q:H l with
 | none=>rfl
 | some o =>
  rw [e l o q] at h
  cases h
theorem aK.seq {K:PySem.W.Frag}{H H':Hp}{a:Addr}{xs:List V}(e:aK H H')(h:dg K H a xs):dg K H' a xs:=by
 rcases h with(h|⟨o,h⟩)|h
 ·exact .inl (.inl (e _ _ h))
 ·exact .inl (.inr ⟨o,e _ _ h⟩)
 ·exact .inr h
section
variable {κ:Type} [DecidableEq κ]
def nz (kvs:List (κ × V))(k:κ):Option V:=(kvs.find? fun kv=>decide (kv.1=k)).map (·.2)
def putK (kvs:List (κ × V))(k:κ)(v:V):List (κ × V) :=
 if(kvs.any fun kv=>decide (kv.1=k))=true then kvs.map (fun kv=>if kv.1=k then(kv.1,v) else kv) else kvs++[(k,v)]
theorem qz {p:κ × V}{r:List (κ × V)}{k:κ}(e:p.1=k):nz (p::r) k=some p.2:=by simp [nz,List.find?_cons,e]
theorem qy {p:κ × V}{r:List (κ × V)}{k:κ}(e:¬ p.1=k):nz (p::r) k=nz r k:=by simp [nz,List.find?_cons,e]
theorem wo (k:κ):∀ kvs:List (κ × V),(kvs.any fun kv=>decide (kv.1=k))=(nz kvs k).isSome
 | []=>rfl
 | p::r=>by
  rw [List.any_cons]
  by_cases e:p.1=k
  ·simp only [qz e,decide_eq_true e,Bool.true_or,Option.isSome_some]
  ·rw [qy e,decide_eq_false e,Bool.false_or];exact wo k r
theorem pD (kvs:List (κ × V))(k:κ)(v:V):(putK kvs k v).length<=kvs.length+1:=by
 unfold putK
 split
 ·rw [List.length_map];omega
 ·rw [List.length_append,List.length_cons,List.length_nil];omega
theorem jN.iD {o:Option V}{u:Option Value}(r:jN o u):o.isSome=u.isSome:=by
 cases o with
 | none=>cases u with
  | none=>rfl
  | some _=>exact(show False from r).elim
 | some _=>cases u with
  | none=>exact(show False from r).elim
  | some _=>rfl
theorem KV.val {kvs:List (κ × V)}{vs:List (κ × Value)}(r:KV kvs vs)(k:κ):jN (nz kvs k) (valueAt vs k):=by
 unfold KV at r
 induction r with
 | nil=>exact True.intro
 | @cons p q ps qs h t ih =>
  obtain⟨h1,h2⟩:=h
  by_cases e:p.1=k
  ·have e':q.1=k:=h1.symm.trans e
   have b:valueAt (q::qs) k=some q.2:=by simp [valueAt,List.find?_cons,e']
   rw [qz e,b];exact h2
  ·have e':¬ q.1=k:=fun z=>e (h1.trans z)
   have b:valueAt (q::qs) k=valueAt qs k:=by simp [valueAt,List.find?_cons,e']
   rw [qy e,b];exact ih
theorem KV.any {kvs:List (κ × V)}{vs:List (κ × Value)}(r:KV kvs vs)(k:κ):(kvs.any fun kv=>decide (kv.1=k))=vs.any fun kv=>decide (kv.1=k):=by
 unfold KV at r
 induction r with
 | nil=>rfl
 | cons h t ih=>rw [List.any_cons,List.any_cons,ih,h.1]
theorem KV.JN {kvs:List (κ × V)}{vs:List (κ × Value)}(r:KV kvs vs)(k:κ){y:V}{u:Value}(ry:RelV y u) :
  KV (kvs.map fun kv=>if kv.1=k then(kv.1,y) else kv) (vs.map fun kv=>if kv.1=k then(kv.1,u) else kv):=by
 unfold KV at r ⊢
 induction r with
 | nil=>exact .nil
 | @cons p q ps qs h t ih =>
  rw [List.map_cons,List.map_cons]
  refine .cons ?_ ih
  obtain⟨h1,h2⟩:=h
  by_cases e:p.1=k
  ·rw [if_pos e,if_pos (h1.symm.trans e)];exact⟨h1,ry⟩
  ·rw [if_neg e,if_neg (fun z=>e (h1.trans z))];exact⟨h1,h2⟩
theorem KV.put {kvs:List (κ × V)}{vs:List (κ × Value)}(r:KV kvs vs)(k:κ){y:V}{u:Value}(ry:RelV y u):KV (putK kvs k y) (stored vs k u):=by
 unfold putK stored
 rw [r.any k]
 by_cases e:(vs.any fun kv=>decide (kv.1=k))=true
 ·rw [if_pos e,if_pos e];exact r.JN k ry
 ·rw [if_neg e,if_neg e];exact Paired.snoc r ⟨rfl,ry⟩
theorem KV.keys {kvs:List (κ × V)}{vs:List (κ × Value)}(r:KV kvs vs):kvs.map (·.1)=vs.map (·.1):=by
 unfold KV at r
 induction r with
 | nil=>rfl
 | cons h t ih=>rw [List.map_cons,List.map_cons,ih,h.1]
theorem KV.length {kvs:List (κ × V)}{vs:List (κ × Value)}(r:KV kvs vs):kvs.length=vs.length:=Paired.length r
end
theorem vk {P:Program}{w:World}{k:Key}{u:Value}(r:RelV (kV k) u):(b5 P w).is k u=true:=by
 cases k with
 | inl i=>obtain⟨t,e⟩:=(show ∃ t,u=Value.int i t from r);subst e;exact vv P w i t
 | inr x=>obtain⟨t,e⟩:=(show ∃ t,u=Value.str x t from r);subst e;exact vx P w x t
theorem rY {P:Program}{w:World}:∀{ks:List Key} {us:List Value},Vals (ks.map kV) us->ItemsAre (b5 P w) ks us
 | [],_,r=>by rw [List.map_nil] at r;cases r;exact .nil
 | k::ks,_,r=>by
  rw [List.map_cons] at r
  cases r with
  | cons h t=>exact .cons (vk h) (rY t)
abbrev KT (H:Hp):List (List Key × V)->List (List Key × Addr × Value)->Prop:=Paired fun p q=>p.1=q.1/\H q.2.1=some (.tup (p.1.map kV))/\RelV p.2 q.2.2
theorem KT.val {H:Hp}{kvs:List (List Key × V)}{xs:List (List Key × Addr × Value)}(r:KT H kvs xs)(k:List Key):jN (nz kvs k) ((atKey xs k).map (·.2)):=by
 induction r with
 | nil=>exact True.intro
 | @cons p q ps qs h t ih =>
  obtain⟨h1,_,h2⟩:=h
  by_cases e:p.1=k
  ·have e':q.1=k:=h1.symm.trans e
   have b:atKey (q::qs) k=some q.2:=by simp [atKey,List.find?_cons,e']
   rw [qz e,b];exact h2
  ·have e':¬ q.1=k:=fun z=>e (h1.trans z)
   have b:atKey (q::qs) k=atKey qs k:=by simp [atKey,List.find?_cons,e']
   rw [qy e,b];exact ih
theorem KT.JN {H:Hp}{kvs:List (List Key × V)}{xs:List (List Key × Addr × Value)}(r:KT H kvs xs)(k:List Key){y:V}{u:Value}(ry:RelV y u) :
  KT H (kvs.map fun kv=>if kv.1=k then(kv.1,y) else kv) (xs.map (putAt k u)):=by
 induction r with
 | nil=>exact .nil
 | @cons p q ps qs h t ih =>
  rw [List.map_cons,List.map_cons]
  refine .cons ?_ ih
  obtain⟨h1,h2,h3⟩:=h
  unfold putAt
  by_cases e:p.1=k
  ·rw [if_pos e,if_pos (h1.symm.trans e)];exact⟨h1,h2,ry⟩
  ·rw [if_neg e,if_neg (fun z=>e (h1.trans z))];exact⟨h1,h2,h3⟩
theorem KT.put {H:Hp}{kvs:List (List Key × V)}{xs:List (List Key × Addr × Value)}(r:KT H kvs xs)(k:List Key){b:Addr}{y:V}{u:Value}(hb:H b=some (.tup (k.map kV)))(ry:RelV y u) :
  KT H (putK kvs k y) (storedH xs k b u):=by
 have e:(kvs.any fun kv=>decide (kv.1=k))=(atKey xs k).isSome:=by
  rw [wo,(r.val k).iD,Option.isSome_map]
 unfold putK storedH
 rw [e]
 by_cases q:(atKey xs k).isSome=true
 ·rw [if_pos q,if_pos q];exact r.JN k ry
 ·rw [if_neg q,if_neg q];exact Paired.snoc r ⟨rfl,hb,ry⟩
theorem KT.keeps {H H':Hp}{kvs:List (List Key × V)}{xs:List (List Key × Addr × Value)}(r:KT H kvs xs)(ht:∀ b ys,H b=some (.tup ys)->H' b=some (.tup ys)):KT H' kvs xs :=
 Paired.IT r fun _ _ z=>⟨z.1,ht _ _ z.2.1,z.2.2⟩
section
variable {P:Program}{w:World}{H:Hp}{h:Heap}{a:Addr}
theorem G5 {u:HO}(ok:ku P w H h)(e:Rd H a u):bN P w H h a u:=e.ok ok
theorem rT {kvs:List (Key × V)}(ok:ku P w H h)(e:Rd H a (.dK kvs)):kvs.length<=sizeLine/\(a == sysModules)=false/\∃ vs,KV kvs vs/\h.DictOf (b5 P w) a vs :=
 show bN P w H h a (.dK kvs) from G5 ok e
theorem Gd {kvs:List (Key × V)}(ok:ku P w H h)(e:H a=some (.dK kvs)):kvs.length<=sizeLine/\(a == sysModules)=false/\∃ vs,KV kvs vs/\h.DictOf (b5 P w) a vs:=rT ok (.inl e)
theorem qU {ks:List Key}(ok:ku P w H h)(e:H a=some (.tup (ks.map kV))):(tupleKind (b5 P w)).is h ks a:=by
 obtain⟨_,its,r,o,h1,h2,n,h3⟩:=(show bN P w H h a (.tup (ks.map kV)) from ok a _ e)
 exact⟨o,its.toArray,n,h1,h2,h3,by simpa using rY r⟩
theorem vT {kvs:List (List Key × V)}(ok:ku P w H h)(e:Rd H a (.dT kvs)):kvs.length<=sizeLine/\(a == sysModules)=false /\
  ∃ xs,KT H kvs xs/\h.DictOfH (tupleKind (b5 P w)) a xs:=by
 obtain⟨z,y,xs,r,o,es,ep,h1,h2,h3,h4,h5⟩:=(show bN P w H h a (.dT kvs) from G5 ok e)
 refine⟨z,y,xs,r,o,es,ep,h1,h2,h3,h4,fun x hx=>?_,h5⟩
 have all:∀{l:List (List Key × V)} {m:List (List Key × Addr × Value)},KT H l m->∀ x∈m,(tupleKind (b5 P w)).is h x.1 x.2.1:=by
  intro l m q
  induction q with
  | nil=>intro x hx;exact nomatch hx
  | @cons p q ps qs hq t ih =>
   intro x hx
   rcases List.mem_cons.mp hx with e|hx
   ·subst e
    exact qU ok (by rw [<- hq.1];exact hq.2.1)
   ·exact ih x hx
 exact all r x hx
theorem J8 {kvs:List (List Key × V)}(ok:ku P w H h)(e:H a=some (.dT kvs)):kvs.length<=sizeLine/\(a == sysModules)=false /\
  ∃ xs,KT H kvs xs/\h.DictOfH (tupleKind (b5 P w)) a xs:=vT ok (.inl e)
end
def ux (H:Hp)(a:Addr)(y:V)(r:Option V):Prop :=
 (∃ kvs k,Rd H a (.dK kvs)/\y=kV k/\r=nz kvs k)\/∃ kvs k b,Rd H a (.dT kvs)/\y=.ref b/\H b=some (.tup (k.map kV))/\r=nz kvs k
def wu (H:Hp)(a:Addr)(y v:V)(H':Hp):Prop :=
 (∃ kvs k,H a=some (.dK kvs)/\y=kV k/\kvs.length<sizeLine/\H'=upd H a (.dK (putK kvs k v))) \/
 ∃ kvs k b,H a=some (.dT kvs)/\y=.ref b/\H b=some (.tup (k.map kV))/\kvs.length<sizeLine/\H'=upd H a (.dT (putK kvs k v))
theorem wu.k {H:Hp}{a:Addr}{kvs:List (Key × V)}{k:Key}{v:V}(e:H a=some (.dK kvs))(hl:kvs.length<sizeLine):wu H a (kV k) v (upd H a (.dK (putK kvs k v))):=.inl ⟨kvs,k,e,rfl,hl,rfl⟩
section
variable {X:Cx}{pins:List (Addr × Obj)}{σ:St}{H:Hp}{s:Shared}{a:Addr}{y v:V}{u r:Value}{o:Option V}{A:Around}{E:Value->Shared->Prop}
theorem Inv.big (I:Inv X pins σ H s):sysModules<s.heap.objs.size:=by
 have h:mainGlobals<s.heap.objs.size:=(I.mod.glob.keeps I.bk).lt
 exact Nat.lt_trans (by decide) h
theorem z6 {Q:Value->Shared->Prop}(hu:A.units+1<cLine)(I:Inv X pins σ H s)(g:ux H a y (some v))(ry:RelV y u)(h:∀ w' s',Inv X pins σ H s'->RelV v w'->Q w' s') :
  wpAny (model X.prog X.w) A (getItem (.ref a) u) Q E s:=by
 rcases g with⟨kvs,k,e,ey,l⟩|⟨kvs,k,b,e,ey,eb,l⟩
 ·subst ey
  obtain⟨z,hd,vs,rel,dd⟩:=rT I.bp e
  obtain⟨w',hw,rw'⟩:=jN.some_of (v:=v) (o:=valueAt vs k) (by rw [l];exact rel.val k)
  exact wpAny_getItem_of (vk ry) dd.mapOf hw (h w' _ (I.tok _) rw')
 ·subst ey
  cases(show u=Value.ref b from ry)
  obtain⟨z,hd,xs,rel,dd⟩:=vT I.bp e
  obtain⟨w',hw,rw'⟩:=jN.some_of (v:=v) (o:=(atKey xs k).map (·.2)) (by rw [l];exact rel.val k)
  obtain⟨p,hp,hp2⟩:=Option.map_eq_some_iff.mp hw
  refine wpAny_getItem_heap (tupleKind_room_in1 hu) (qU I.bp eb) dd hp ?_
  rw [hp2]
  exact h w' _ (I.tok _) rw'
theorem ER {Q:Value->Shared->Prop}(hu:A.units+1<cLine)(I:Inv X pins σ H s)(g:ux H a y o)(ry:RelV y u)(h:∀ s',Inv X pins σ H s'->Q (.bool o.isSome) s') :
  wpAny (model X.prog X.w) A (compareOp .In u (.ref a)) Q E s:=by
 rcases g with⟨kvs,k,e,ey,l⟩|⟨kvs,k,b,e,ey,eb,l⟩
 ·subst ey
  obtain⟨z,hd,vs,rel,dd⟩:=rT I.bp e
  refine wpAny_in_of (vk ry) hd dd.mapOf ?_
  rw [<- (rel.val k).iD,<- l]
  exact h _ (I.tok _)
 ·subst ey
  cases(show u=Value.ref b from ry)
  obtain⟨z,hd,xs,rel,dd⟩:=vT I.bp e
  refine wpAny_in_heap (tupleKind_room_in1 hu) (qU I.bp eb) hd dd ?_
  have q:=(rel.val k).iD
  rw [Option.isSome_map] at q
  rw [<- q,<- l]
  exact h _ (I.tok _)
theorem ET {Q:Value->Shared->Prop}(hu:A.units+1<cLine)(I:Inv X pins σ H s)(g:ux H a y o)(ry:RelV y u)(h:∀ s',Inv X pins σ H s'->Q (.bool (!o.isSome)) s') :
  wpAny (model X.prog X.w) A (compareOp .NotIn u (.ref a)) Q E s:=by
 rcases g with⟨kvs,k,e,ey,l⟩|⟨kvs,k,b,e,ey,eb,l⟩
 ·subst ey
  obtain⟨z,hd,vs,rel,dd⟩:=rT I.bp e
  refine wpAny_notIn_of (vk ry) hd dd.mapOf ?_
  rw [<- (rel.val k).iD,<- l]
  exact h _ (I.tok _)
 ·subst ey
  cases(show u=Value.ref b from ry)
  obtain⟨z,hd,xs,rel,dd⟩:=vT I.bp e
  refine wpAny_notIn_heap (tupleKind_room_in1 hu) (qU I.bp eb) hd dd ?_
  have q:=(rel.val k).iD
  rw [Option.isSome_map] at q
  rw [<- q,<- l]
  exact h _ (I.tok _)
theorem tG {h':Heap}{t':Nat}{ob:HO}(I:Inv X pins σ H s)(mu:Js (H a))(hs:Heap.SameBut a s.heap h')(he:∃ q,h'.get? a=some q)(new:bN X.prog X.w (upd H a ob) h' a ob) :
  Inv X pins σ (upd H a ob) { s with heap:=h',toks:=t' } :=
 I.write (x:=a) (e:=a) mu (.inl rfl) (fun b q hb z=>(hs.2 b hb).trans z) he new
theorem Bt {P:Program}{w:World}{H':Hp}{h':Heap}{kvs:List (Key × V)}{vs:List (Key × Value)}(z:kvs.length<=sizeLine)(hd:(a == sysModules)=false)(rel:KV kvs vs)(dd:h'.DictOf (b5 P w) a vs) :
  bN P w H' h' a (.dK kvs):=⟨z,hd,vs,rel,dd⟩
theorem z8 {H':Hp}{Q:Unit->Shared->Prop}(hu:A.units+1<cLine)(I:Inv X pins σ H s)(g:wu H a y v H')(ry:RelV y u)(rv:RelV v r)(h:∀ s',Inv X pins σ H' s'->Q () s') :
  wpAny (model X.prog X.w) A (setItem (.ref a) u r) Q E s:=by
 rcases g with⟨kvs,k,e,ey,l,eH⟩|⟨kvs,k,b,e,ey,eb,l,eH⟩
 ·subst ey eH
  obtain⟨z,hd,vs,rel,dd⟩:=Gd I.bp e
  have hz:vs.length<=sizeLine:=by rw [<- rel.length];exact z
  have hl:(putK kvs k v).length<=sizeLine:=by have:=pD kvs k v;omega
  refine wpAny_setItem_pairs (hsz:=hz) (vk ry) dd fun h' dd' hs=>h _ ?_
  have he:∃ q,h'.get? a=some q:=let ⟨q,_,_,hq,_⟩:=dd';⟨q,hq⟩
  exact tG I (by rw [e];exact True.intro) hs he (Bt hl hd (rel.put k rv) dd')
 ·subst ey eH
  cases(show u=Value.ref b from ry)
  obtain⟨z,hd,xs,rel,dd⟩:=J8 I.bp e
  have hz:xs.length<=sizeLine:=by rw [<- Paired.length rel];exact z
  have hl:(putK kvs k v).length<=sizeLine:=by have:=pD kvs k v;omega
  refine wpAny_setItem_heap (hsz:=hz) (tupleKind_room_in1 hu) (qU I.bp eb) dd fun h' dd' hs=>h _ ?_
  obtain⟨q,es,ep,hq,h2,h3,h4,_,h5⟩:=dd'
  refine tG I (by rw [e];exact True.intro) hs ⟨q,hq⟩ ⟨hl,hd,_,(rel.put k eb rv).keeps fun c ys ec=>?_,q,es,ep,hq,h2,h3,h4,h5⟩
  rw [aG (Kp ec e (fun z=>nomatch z))]
  exact ec
end
section
variable {X:Cx}{pins:List (Addr × Obj)}{σ:St}{H:Hp}{s:Shared}{a:Addr}{kvs:List (Key × V)}{k:Key}{u:Value}{A:Around}{E:Value->Shared->Prop}
theorem EO {Q:Value->Shared->Prop}(I:Inv X pins σ H s)(e:H a=some (.dK kvs))(h:∀ s',Inv X pins σ (upd H a (.dK [])) s'->Q .none s'):wpAny (model X.prog X.w) A (call (.builtin "dict.clear") [.ref a]) Q E s:=by
 obtain⟨z,hd,vs,rel,dd⟩:=Gd I.bp e
 refine call_meetsIn PySem.F.slot_dict_clear dd.typeIs PySem.F.entry_dict_clear (PySem.F.args_dict_clear_1 _) (meets_dict_clear (b5 X.prog X.w) a) ⟨vs,dd,by rw [<- rel.length];exact z,fun h' dd' hs=>h _ ?_⟩
 have he:∃ q,h'.get? a=some q:=let ⟨q,_,_,hq,_⟩:=dd';⟨q,hq⟩
 exact tG (t':=s.toks) I (by rw [e];exact True.intro) hs he (Bt (Nat.zero_le _) hd .nil dd')
end
def D0 (i:Expr):Prop:=∀ ov iv,subscripted i false ov iv=operate [ov,iv] (getItem ov iv)
theorem F5 {prog:Program}{w:World}{A:Around}{E:Value->Shared->Prop}{s:Shared}{env:Env}{value slice:Expr}{pos:Pos}{T id:String}{Q:Value->Shared->Prop}
  (hl:typeLookup (.type T) "__getitem__"=pure (some (.builtin id)))(hs:D0 slice)
  (h:wpAny (model prog w) A (eval value env) (fun o s₁=>wpAny (model prog w) A (eval slice env) (fun i s₂=>s₂.TypeIs o T/\wpAny (model prog w) A (getItem o i) Q E s₂) E s₁) E s) :
  wpAny (model prog w) A (eval (.Subscript value slice pos) env) Q E s:=by
 refine Subscript_ (wpAny_mono h (fun o s₁ h₁=>wpAny_mono h₁ (fun i s₂ h₂=>?_) fun _ _ x=>x) fun _ _ x=>x)
 obtain⟨hT,h₂⟩:=h₂
 unfold subscriptTail
 refine wpAny_bind ?_
 rw [getitemInPython_of_ne hT.not_modules]
 refine wpAny_bind (wpAny_specialOf hT hl ?_)
 have fin:wpAny (model prog w) A (subscripted slice false o i) (fun r s₃=>wpAny (model prog w) A (letTemporaryGo value o r >>= fun _=>pure r) Q E s₃) E s₂:=by
  rw [hs o i]
  exact wpAny_operating (wpAny_mono h₂ (fun r s₃ h₃=>wpAny_bind (wpAny_letTemporaryGo (wpAny_pure h₃))) fun _ _ x=>x)
 first
  | exact wpAny_pure (wpAny_bind fin)
  | exact wpAny_bind (wpAny_pure (wpAny_bind fin))
  | exact wpAny_bind fin
theorem vR {X:Cx}{pins:List (Addr × Obj)}{σ:St}{H:Hp}{s:Shared}{a:Addr}{y:V}{o:Option V}(I:Inv X pins σ H s)(g:ux H a y o):s.TypeIs (.ref a) "dict":=by
 rcases g with⟨kvs,k,e,_,_⟩|⟨kvs,k,b,e,_,_,_⟩
 ·obtain⟨_,_,vs,_,dd⟩:=rT I.bp e
  exact dd.typeIs
 ·obtain⟨_,_,xs,_,dd⟩:=vT I.bp e
  exact dd.typeIs
def LP (td ty:TE):TE:=fun σ H Q=>td σ H fun x H1=>ty σ H1 fun y H2=>∃ a v,x=.ref a/\ux H2 a y (some v)/\Q v H2
def LQ (ty td:TE):TE:=fun σ H Q=>ty σ H fun y H1=>td σ H1 fun x H2=>∃ a o,x=.ref a/\ux H2 a y o/\Q (.bl o.isSome) H2
def zk (ty td:TE):TE:=fun σ H Q=>ty σ H fun y H1=>td σ H1 fun x H2=>∃ a o,x=.ref a/\ux H2 a y o/\Q (.bl (!o.isSome)) H2
def LB (td ty tv:TE):TS:=fun D σ H=>tv σ H fun v H1=>td σ H1 fun x H2=>ty σ H2 fun y H3=>∃ a H4,x=.ref a/\wu H3 a y v H4/\D.nx σ H4
section
variable {X:Cx}{o i e value:Expr}{pos pos' tpos:Pos}{td ty tv:TE}
theorem zQ (hu:X.A.units+1<cLine)(ho:PE X o td)(hi:PE X i ty)(hs:D0 i):PE X (.Subscript o i pos) (LP td ty):=by
 intro pins s σ H Q I h
 refine F5 PySem.F.slot_dict_getitem.lookup hs (b9 (ho pins s σ H _ I h) fun u s1 ⟨x,H1,I1,rx,q1⟩=>b9 (hi pins s1 σ H1 _ I1 q1) fun iv s2 ⟨y,H2,I2,ry,a,v,ex,g,q2⟩=>?_)
 subst ex
 obtain rfl:u=Value.ref a:=rx
 exact⟨vR I2 g,z6 hu I2 g ry fun w' s3 I3 rw'=>⟨v,H2,I3,rw',q2⟩⟩
theorem Ir (hu:X.A.units+1<cLine)(hi:PE X i ty)(ho:PE X o td):PC X .In i o (LQ ty td):=by
 intro pins s σ H Q I h
 refine b9 (hi pins s σ H _ I h) fun iv s1 ⟨y,H1,I1,ry,q1⟩=>b9 (ho pins s1 σ H1 _ I1 q1) fun u s2 ⟨x,H2,I2,rx,a,ov,ex,g,q2⟩=>?_
 subst ex
 obtain rfl:u=Value.ref a:=rx
 exact ER hu I2 g ry fun s3 I3=>⟨.bl ov.isSome,H2,I3,rfl,q2⟩
theorem Al (hu:X.A.units+1<cLine)(hi:PE X i ty)(ho:PE X o td):PC X .NotIn i o (zk ty td):=by
 intro pins s σ H Q I h
 refine b9 (hi pins s σ H _ I h) fun iv s1 ⟨y,H1,I1,ry,q1⟩=>b9 (ho pins s1 σ H1 _ I1 q1) fun u s2 ⟨x,H2,I2,rx,a,ov,ex,g,q2⟩=>?_
 subst ex
 obtain rfl:u=Value.ref a:=rx
 exact ET hu I2 g ry fun s3 I3=>⟨.bl (!ov.isSome),H2,I3,rfl,q2⟩
theorem uO (hu:X.A.units+1<cLine)(ho:PE X o td)(hi:PE X i ty)(hv:PE X value tv)(hs:swapsWith value (some (.Subscript o i pos')) pos.line X.env=pure false) :
  PS X (.Assign [.Subscript o i pos'] value pos) (LB td ty tv):=by
 intro pins s σ H D I h
 refine wpAny_Assign_Subscript (b9 (hv pins s σ H _ I h) fun r s1 ⟨v,H1,I1,rv,q1⟩=>b9 (ho pins s1 σ H1 _ I1 q1) fun u s2 ⟨x,H2,I2,rx,q2⟩=>b9 (hi pins s2 σ H2 _ I2 q2) fun iv s3 ⟨y,H3,I3,ry,a,H4,ex,g,q3⟩=>?_) hs
 subst ex
 obtain rfl:u=Value.ref a:=rx
 exact z8 hu I3 g ry rv fun s4 I4=>⟨σ,H4,I4,q3⟩
end
theorem Bs {P:Program}{w:World}{H:Hp}(h:Heap)(hb:sysModules<h.objs.size):bN P w H (h.push { cls:=.type "dict",data:=.dict #[] }) h.objs.size (.dK []) :=
 ⟨Nat.zero_le _,beq_eq_false_iff_ne.mpr (Ne.symm (Nat.ne_of_lt hb)),[],.nil,Heap.DictOf.new h⟩
def JX:TE:=fun _ H Q=>∀ p,H p=none->Q (.ref p) (upd H p (.dK []))
section
variable {X:Cx}{pos:Pos}
theorem Ct:PE X (.Dict [] [] pos) JX:=fun pins s σ H Q I h =>
 wpAny_Dict_empty ⟨.ref s.heap.objs.size,_,I.laid (a:=s.heap.objs.size) (o:=.dK []) (t':=s.toks) (fun _ _ q=>Heap.get?_push_of_some _ q) (Nat.le_refl _) (Bs s.heap I.big),rfl,h _ (I.bp.fresh (Nat.le_refl _))⟩
end
section
variable {X:Cx}{pins:List (Addr × Obj)}{σ:St}{H:Hp}{s:Shared}{a:Addr}{y d:V}{u r:Value}{o:Option V}{A:Around}{E:Value->Shared->Prop}
end
section
variable {X:Cx}{o e f:Expr}{apos cpos:Pos}{td ty tx:TE}
end
section
variable {X:Cx}{pins:List (Addr × Obj)}{σ:St}{H:Hp}{s:Shared}{a:Addr}{kvs:List (Key × V)}{A:Around}{E:Value->Shared->Prop}
end
section
variable {X:Cx}{pins:List (Addr × Obj)}{σ:St}{H:Hp}{s:Shared}{a:Addr}{y:V}{u:Value}{A:Around}{E:Value->Shared->Prop}
end
section
variable {X:Cx}
end
section
variable {κ:Type} [DecidableEq κ]
end
def a_ (X:Cx)(scope:Scope)(cl:List (Str × Addr))(C:Addr)(N:List Str)(fp:List Addr)(s₂:Shared)(H₂:Hp):Cx where
 prog:=X.prog
 w:=X.w
 K:=X.K
 mg:=X.mg
 base:=X.base
 A:=X.A
 N:=N
 s₀:=s₂
 H₀:=H₂
 env:=compEnvC scope cl C X.env
 outer:=X.stack
 stack:=X.stack
 ex:=fp
 fn:=fun _=>false
 calm:=X.calm
 pn:=[]
 xe:=fun _ _=>False
theorem uU {scope:Scope}{env:Env}{y:Str}(nc:∀ z∈scope.names,z.2≠.cell)(h:(relabel scope env).names.lookup y=some .cell\/(relabel scope env).names.lookup y=some .free):scope.names.lookup y=some .free:=by
 have key:∀(l:List (Str × NameKind)),(∀ z∈l,z.2≠.cell)->((l.map fun(n,k)=>if(k == NameKind.free&&env.scope.kind == .function&&env.kindOf n == some .cell) then(n,NameKind.cell) else(n,k)).lookup y=some .cell \/
   (l.map fun(n,k)=>if(k == NameKind.free&&env.scope.kind == .function&&env.kindOf n == some .cell) then(n,NameKind.cell) else(n,k)).lookup y=some .free)->l.lookup y=some .free:=by
  intro l
  induction l with
  | nil=>intro _ h;rcases h with h|h<;>simp at h
  | cons p r ih =>
   obtain⟨n,k⟩:=p
   intro hn h
   have hr:=ih (fun z hz=>hn z (List.mem_cons_of_mem _ hz))
   have hk:k≠.cell:=hn (n,k) List.mem_cons_self
   by_cases hc:(k == NameKind.free&&env.scope.kind == .function&&env.kindOf n == some .cell)=true
   ·have kf:k=.free:=by
     rw [Bool.and_eq_true,Bool.and_eq_true] at hc
     exact eq_of_beq hc.1.1
    subst kf
    simp only [List.map_cons,if_pos hc] at h
    cases hx:y == n with
    | true=>simp only [List.lookup_cons,hx]
    | false =>
     simp only [List.lookup_cons,hx] at h ⊢
     exact hr h
   ·simp only [List.map_cons,if_neg hc] at h
    cases hx:y == n with
    | true =>
     simp only [List.lookup_cons,hx] at h ⊢
     rcases h with h|h
     ·cases h;exact absurd rfl hk
     ·exact h
    | false =>
     simp only [List.lookup_cons,hx] at h ⊢
     exact hr h
 exact key scope.names nc h
theorem tP {scope:Scope}{env:Env}{y:Str}(h:scope.names.lookup y=some .free):(relabel scope env).names.lookup y=some .cell\/(relabel scope env).names.lookup y=some .free:=by
 have key:∀(l:List (Str × NameKind)),l.lookup y=some .free->((l.map fun(n,k)=>if(k == NameKind.free&&env.scope.kind == .function&&env.kindOf n == some .cell) then(n,NameKind.cell) else(n,k)).lookup y=some .cell \/
   (l.map fun(n,k)=>if(k == NameKind.free&&env.scope.kind == .function&&env.kindOf n == some .cell) then(n,NameKind.cell) else(n,k)).lookup y=some .free):=by
  intro l
  induction l with
  | nil=>intro h;simp at h
  | cons p r ih =>
   obtain⟨n,k⟩:=p
   intro h
   by_cases hc:(k == NameKind.free&&env.scope.kind == .function&&env.kindOf n == some .cell)=true
   ·simp only [List.map_cons,if_pos hc]
    cases hx:y == n with
    | true=>simp only [List.lookup_cons,hx];exact .inl trivial
    | false =>
     simp only [List.lookup_cons,hx] at h ⊢
     exact ih h
   ·simp only [List.map_cons,if_neg hc]
    cases hx:y == n with
    | true=>simp only [List.lookup_cons,hx] at h ⊢;exact .inr h
    | false =>
     simp only [List.lookup_cons,hx] at h ⊢
     exact ih h
 exact key scope.names h
structure cC (X:Cx) (scope:Scope) (cl:List (Str × Addr)) (T:List Str) (caps:List Nat) (cn:List Str):Prop where
 kind:scope.kind=.function
 J0:closureFor scope X.env=pure cl
 Gw:∀ y∈scope.names,y.2≠.cell
 names:∀ y∈scope.names,y.2=.local->scope.names.lookup y.1=some .local
 sub:∀ y c,cl.lookup y=some c->X.env.cells.lookup y=some c
 has:∀ y,scope.names.lookup y=some .free->∃ c,cl.lookup y=some c
 NU:Paired (fun(j:Nat) (y:Str)=>X.N[j]?=some y/\(X.env.kindOf y=some .cell\/X.env.kindOf y=some .free)/\scope.names.lookup y=some .free) caps cn
def Av (n:Nat)(caps:List Nat)(σ:St):St:=List.replicate n none++caps.map fun j=>(σ[j]?).getD none
def Le (σ σ':St):Prop:=σ.length=σ'.length/\∀(i:Nat) v,σ[i]?=some (some v)->σ'[i]?=some (some v)
theorem Le.one {r:St}{x:Option V}:Le (none::r) (x::r):=⟨rfl,fun i v h=>by
 cases i with
 | zero=>simp at h
 | succ i=>simpa using h⟩
def ye (X:Cx)(ifs:List Expr)(t:TT):Prop :=
 ∀(pins:List (Addr × Obj)) (s:Shared) (σ:St) (H:Hp) (Q:Bool->Hp->Prop),Inv X pins σ H s->t σ H Q ->
  wpAny (model X.prog X.w) X.A (forIn ifs true fun c r=>if r=true then do let ok <- isTrue c X.env (eval c X.env);pure (ForInStep.yield ok) else pure (ForInStep.yield r)) (TP X pins σ Q) X.xe s
def M_:TT:=fun _ H Q=>Q true H
theorem Fn {X:Cx}:ye X [] M_:=fun pins s σ H Q I h=>wpAny_tests_nil ⟨H,I,h⟩
theorem Fo {X:Cx}{c:Expr}{t:TT}(h:PT X c t):ye X [c] t:=fun pins s σ H Q I q=>wpAny_tests_one (h pins s σ H Q I q)
theorem s_ {prog:Program}{w:World}{A:Around}{R:Result->Shared->Prop}{s:Shared}{elt target iter:Expr}{ifs:List Expr}{scope:Scope}{pos:Pos}{it acc:Value}{env:Env}(I:Nat->Shared->Prop)
  (turn:∀ n s,I n s->wpAny (model prog w) A (pyNext it) (fun r s₁=>match r with
   | none=>R (.ok .next) s₁
   | some v=>wpAny (model prog w) A (letOwnedTupleGo target it v) (fun _ s₀=>wpAny (model prog w) A (assign target env v) (fun _ s₂ =>
     wpAny (model prog w) A (forIn ifs true fun c r=>if r=true then do let ok <- isTrue c env (eval c env);pure (ForInStep.yield ok) else pure (ForInStep.yield r)) (fun ok s₃ =>
      if ok=true then wpAny (model prog w) A (eval elt env) (fun x s₄ =>
       wpAny (model prog w) A (call (.builtin "list.append") [acc,x]) (fun _ s₅=>∃ m,m<n/\I m s₅) (fun _ _=>False) s₄) (fun _ _=>False) s₃
      else ∃ m,m<n/\I m s₃) (fun _ _=>False) s₂) (fun _ _=>False) s₀) (fun _ _=>False) s₁) (fun _ _=>False) s)
  (n:Nat)(h:I n s) :
  codeAny (model prog w) A (.compLoop (.ListComp elt [⟨target,iter,ifs,0⟩] scope pos) 0 it acc env) R s:=by
 refine codeAny_loop rfl I (fun n s hI=>?_) n h
 show wpAny _ A ((compTurn (.ListComp elt [⟨target,iter,ifs,0⟩] scope pos) 0 it acc env).onRaise (fun x=>do noteFrame x env;theTreesLotGoes x)) _ _ s
 refine wpAny_noted ?_
 rw [compTurn_list]
 refine wpAny_bind (wpAny_standAt (wpAny_bind (wpAny_mono (turn n s hI) (fun r s₁ h₁=>?_) fun _ _ h'=>h'.elim)))
 cases r with
 | none=>exact wpAny_pure h₁
 | some v =>
  refine wpAny_bind (wpAny_mono h₁ (fun _ s₀ h₀=>?_) fun _ _ h'=>h'.elim)
  refine wpAny_bind (wpAny_mono h₀ (fun _ s₂ h₂=>wpAny_bind (wpAny_mono h₂ (fun ok s₃ h₃=>?_) fun _ _ h'=>h'.elim)) fun _ _ h'=>h'.elim)
  cases ok with
  | false=>exact wpAny_pure ⟨rfl,h₃⟩
  | true =>
   exact wpAny_bind (wpAny_bind (wpAny_mono h₃ (fun x s₄ h₄=>wpAny_bind (wpAny_mono h₄ (fun _ s₅ h₅=>wpAny_pure (wpAny_pure ⟨rfl,h₅⟩)) fun _ _ h'=>h'.elim)) fun _ _ h'=>h'.elim))
section
variable {X:Cx}{scope:Scope}{cl:List (Str × Addr)}{T cn:List Str}{caps:List Nat}{pins:List (Addr × Obj)}{σ:St}{H2:Hp}{s2:Shared}{C:Addr}{h₁:Heap}{tk:Nat}{fp:List Addr}{ix:Addr}
theorem xC (S:cC X scope cl T caps cn)(I2:Inv X pins σ H2 s2)(f2:∀ b∈fp,jQ X pins H2 b)(fo:∀ b∈fp,b<s2.heap.objs.size)
  (hC:C=s2.heap.objs.size+1)(old:∀ b o,s2.heap.get? b=some o->h₁.get? b=some o)(hacc:∃ n,h₁.get? s2.heap.objs.size=some { cls:=.type "list",data:=.seq #[] n })(hns:h₁.Ns C fun _=>none) :
  Inv (a_ X scope cl C (T++cn) fp s2 H2) [] (Av T.length caps σ) (upd H2 s2.heap.objs.size (.lst [])) { s2 with heap:=h₁,toks:=tk }:=by
 have hfr:H2 s2.heap.objs.size=none:=I2.fresh
 have lt_of:∀ y c,cl.lookup y=some c->c<s2.heap.objs.size:=fun y c e=>by
  obtain⟨v,o,ho,_⟩:=I2.cell y c (S.sub y c e)
  exact Heap.lt_size ho
 refine⟨⟨I2.ok.mod,S.kind,I2.ok.glob,I2.ok.blt,by show s2.heap.objs.size<=C;rw [hC];exact Nat.le_succ _,fun y z c h1 h2=>I2.ok.inj y z c (S.sub y c h1) (S.sub z c h2),fun y hy=>S.has y (uU S.Gw hy),fun y c hf _=>(Bool.false_ne_true hf).elim,
  I2.ok.hd,I2.ok.frames,.inl rfl,fun b hb=>⟨?_,fun y c e=>?_⟩,I2.bs,Nat.le_trans I2.ok.GZ I2.sz,fun b o e hb=>?_,fun b hb hs=>?_,I2.stack,I2.zh⟩,rfl,I2.bare,Un.laid old (Nat.le_refl _) hfr,⟨_,hns,fun i y v e1 e2 e3=>?_⟩,fun y c e=>?_,?_,fun y c e=>?_,fun p hp=>?_,I2.bp.laid old (Nat.le_refl _) ?_,?_⟩
 ·show b≠C
  rw [hC]
  exact Nat.ne_of_lt (Nat.lt_succ_of_lt (fo b hb))
 ·exact(f2 b hb).2.2.2.2.1 y c (S.sub y c e)
 ·have h0:=I2.ok.bs b o e
  rcases(f2 b hb).2.2.2.1 with z|z
  ·exact I2.ok.Cf b o e z
  ·exact absurd (Nat.lt_of_lt_of_le (Heap.lt_size h0.1) z) (Nat.lt_irrefl _)
 ·rcases List.mem_cons.mp (I2.ug b hs) with z|z
  ·exact(f2 b hb).2.1 z
  ·exact(f2 b hb).2.2.1 z
 ·-- the slots
  have hT:T.length<=i:=by
   by_cases hi:i<T.length
   ·unfold Av at e2
    rw [List.getElem?_append_left (by simpa using hi),List.getElem?_replicate] at e2
    split at e2<;>cases e2
   ·omega
  obtain⟨k,rfl⟩:∃ k,i=T.length+k:=⟨i - T.length,by omega⟩
  have e1':cn[k]?=some y:=by
   have q:(T++cn)[T.length+k]?=some y:=e1
   rw [List.getElem?_append_right (by omega)] at q
   simpa using q
  have e2':(caps.map fun j=>(σ[j]?).getD none)[k]?=some (some v):=by
   unfold Av at e2
   rw [List.getElem?_append_right (by simp)] at e2
   simpa using e2
  have pr:∀{cs:List Nat} {ns:List Str} {k:Nat},Paired (fun(j:Nat) (y:Str)=>X.N[j]?=some y/\(X.env.kindOf y=some .cell\/X.env.kindOf y=some .free)/\scope.names.lookup y=some .free) cs ns ->
    ns[k]?=some y->(cs.map fun j=>(σ[j]?).getD none)[k]?=some (some v)->∃(j:Nat),X.N[j]?=some y/\(X.env.kindOf y=some .cell\/X.env.kindOf y=some .free)/\scope.names.lookup y=some .free/\σ[j]?=some (some v):=by
   intro cs ns k p
   induction p generalizing k with
   | nil=>intro q;simp at q
   | cons a t ih =>
    rename_i j0 y0 l1 l2
    cases k with
    | zero =>
     intro q1 q2
     simp at q1 q2
     subst q1
     refine⟨j0,a.1,a.2.1,a.2.2,?_⟩
     cases e:σ[j0]? with
     | none=>rw [e] at q2;simp at q2
     | some z=>rw [e] at q2;simp at q2;rw [q2]
    | succ k=>intro q1 q2;exact ih (by simpa using q1) (by simpa using q2)
  obtain⟨j,n1,kd,fr,sv⟩:=pr S.NU e1' e2'
  obtain⟨m,hn,hl⟩:=I2.loc
  obtain⟨u,r,lk⟩:=hl j y v n1 sv (by rcases kd with z|z;exact .inr (.inl z);exact .inr (.inr z))
  refine⟨u,r,.inr ⟨tP fr,?_⟩⟩
  obtain⟨c,hc⟩:=S.has y fr
  rcases lk with⟨z,_⟩|⟨_,c',hc',hcell⟩
  ·rcases kd with q|q<;>(rw [z] at q;cases q)
  ·have:c=c':=by
    have:=S.sub y c hc
    rw [hc'] at this
    exact(Option.some.inj this).symm
   subst this
   obtain⟨o,ho,hd⟩:=hcell
   exact⟨c,hc,o,old c o ho,hd⟩
 ·obtain⟨v,o,ho,hd⟩:=I2.cell y c (S.sub y c e)
  exact⟨v,o,old c o ho,hd⟩
 ·show upd H2 s2.heap.objs.size (.lst []) C=none
  rw [aG (by rw [hC];exact Nat.succ_ne_self _)]
  exact I2.bp.fresh (by rw [hC];exact Nat.le_succ _)
 ·rw [aG (Nat.ne_of_lt (lt_of y c e))]
  exact I2.fA y c (S.sub y c e)
 ·exact absurd (show p∈([]:List (Addr × Obj)) from hp) (by simp)
 ·obtain⟨n,e⟩:=hacc
  exact⟨Nat.zero_le _,[],n,.nil,e⟩
 ·have hp:∀{cs:List Nat} {ns:List Str} {F:Nat->Str->Prop},Paired F cs ns->cs.length=ns.length:=fun p=>Paired.length p
  show(Av T.length caps σ).length=(T++cn).length
  unfold Av
  rw [List.length_append,List.length_replicate,List.length_map,List.length_append,hp S.NU]
theorem Bi (I2:Inv X pins σ H2 s2)(f2:∀ b∈fp,jQ X pins H2 b)(hC:s2.heap.objs.size<=C){N:List Str}{σ':St}{H':Hp}{s':Shared}(J:Inv (a_ X scope cl C N fp s2 H2) [] σ' H' s') :
  ∃ oC m,s'.heap.get? C=some oC/\s'.heap.Ns C m/\Inv X (pins++[(C,oC)]) σ H' s'/\jQ X pins H' C:=by
 obtain⟨m,hn,_⟩:=J.loc
 obtain⟨oC,es,ep,ho,hd,hrest⟩:=id hn
 have I3:Inv X pins σ H' s':=I2.BY (ch:=fp) J.os J.base J.bp J.bare fun b hb=>⟨(f2 b hb).2.2.2.1,(f2 b hb).2.1,(f2 b hb).2.2.2.2.1,(f2 b hb).2.2.2.2.2⟩
 have fC:jQ X pins H' C:=I2.B6 hC J.free
 refine⟨oC,m,ho,hn,I3.uM fun p hp=>?_,fC⟩
 rcases List.mem_append.mp hp with z|z
 ·exact I3.pin p (List.mem_append_right _ z)
 ·have e:p=(C,oC):=by simpa using z
  subst e
  exact⟨ho,fC.1,fC.2.1,fC.2.2.1,fun v q=>by rw [hd] at q;cases q⟩
end
def GR (J:It)(D:Addr)(H1:Hp)(σ0:St)(g:TG)(tt:TT)(te:TE)(Q:VK):Prop:=∃ W:Nat->Nat->List V->Hp->Prop,(∃ m,W 0 m [] (upd H1 D (.lst []))) /\
 ∀ i m ys H,W i m ys H->H D=some (.lst ys)/\((J.stop i H/\Q (.ref D) H)\/(J.go i H/\∀ x H',J.Dq i H x H'->g x σ0 H' fun σ2 H2=>Le σ0 σ2/\tt σ2 H2 fun b H3 =>
  if b=true then te σ2 H3 fun y H4=>H4 D=some (.lst ys)/\ys.length<sizeLine/\∃ m',m'<m/\W (i+1) m' (ys++[y]) (upd H4 D (.lst (ys++[y]))) else ∃ m',m'<m/\W (i+1) m' ys H3))
def sH (n:Nat)(caps:List Nat)(wi:TI)(g:TG)(tt:TT)(te:TE):TE:=fun σ H Q=>wi σ H fun J H1=>∀ D,H1 D=none->GR J D H1 (Av n caps σ) g tt te Q
section
variable {X:Cx}{scope:Scope}{cl:List (Str × Addr)}{T cn:List Str}{caps:List Nat}{elt tg iter:Expr}{ifs:List Expr}{wi:TI}{g:TG}{tt:TT}{te:TE}{pos:Pos}
theorem p_ (S:cC X scope cl T caps cn)(hc:X.calm=true)(hg:∀ C fp s₂ H₂,PG (a_ X scope cl C (T++cn) fp s₂ H₂) tg g)(ht:∀ C fp s₂ H₂,ye (a_ X scope cl C (T++cn) fp s₂ H₂) ifs tt)
  (he:∀ C fp s₂ H₂,PE (a_ X scope cl C (T++cn) fp s₂ H₂) elt te){pins:List (Addr × Obj)}{σ:St}{H2:Hp}{s2:Shared}{it:Addr}{fp:List Addr}{tn:Nat->Heap->Prop}{J:It}{E:Value->Shared->Prop}{Q:VK}
  {RR:Value->Addr->Result->Shared->Prop}(I2:Inv X pins σ H2 s2)(Tn:Turn X.prog X.w X.K tg J fp it tn)(st2:tn 0 s2.heap)(f2:∀ b∈fp,jQ X pins H2 b)
  (q:∀ D,H2 D=none->GR J D H2 (Av T.length caps σ) g tt te Q)
  (fin:∀ D C oC m H' s',Inv X (pins++[(C,oC)]) σ H' s'->s'.heap.get? C=some oC->s'.heap.Ns C m->jQ X pins H' C->Q (.ref D) H'->RR (.ref D) C (.ok .next) s') :
  wpAny (model X.prog X.w) X.A (newList []) (fun acc s₃=>wpAny (model X.prog X.w) X.A (newFunctionEnv scope X.env.globals cl [] X.env.qual none .none (some X.env)) (fun cenv s₄ =>
   codeAny (model X.prog X.w) X.A (.compStart (.ListComp elt [⟨tg,iter,ifs,0⟩] scope pos) 0 (.ref it) acc { cenv with scope:=relabel scope X.env }) (RR acc cenv.locals) s₄) E s₃) E s2:=by
 refine wpAny_newObj_type (wpAny_newFunctionEnv S.Gw (by intro y hy;simp at hy) (fun h₁ hns₁ hsb₁=>?_) S.kind)
 dsimp only at hns₁ hsb₁ ⊢
 generalize hH2:s2.heap.push { cls:=.type "list",dict:=none,data:=.seq ([]:List Value).toArray }=G2 at hns₁ hsb₁ ⊢
 have hC:G2.objs.size=s2.heap.objs.size+1:=by rw [<- hH2,Heap.size_push]
 have hDC:s2.heap.objs.size≠G2.objs.size:=by omega
 have old:∀ b o,s2.heap.get? b=some o->h₁.get? b=some o:=fun b o e=>hsb₁.extBut b o (by rw [hC];exact Nat.ne_of_lt (Nat.lt_succ_of_lt (Heap.lt_size e))) (Heap.get?_push_of_some _ (hH2 ▸ Heap.get?_push_of_some _ e))
 have hacc:∃ n,h₁.get? s2.heap.objs.size=some { cls:=.type "list",data:=.seq #[] n }:=⟨_,hsb₁.extBut _ _ hDC (Heap.get?_push_of_some _ (hH2 ▸ Heap.get?_push_size _ rfl))⟩
 have fo:∀ b∈fp,b<s2.heap.objs.size:=fun b hb=>by
  obtain⟨o,e,_⟩:=Tn.obj 0 _ st2 b hb
  exact Heap.lt_size e
 obtain⟨W,⟨m0,w0⟩,turn⟩:=q s2.heap.objs.size I2.fresh
 have st1:tn 0 h₁:=Tn.keep 0 _ _ st2 fun b hb o e=>old b o e
 have fr0:∀ b∈fp,upd H2 s2.heap.objs.size (.lst []) b=none:=fun b hb=>by rw [aG (Nat.ne_of_lt (fo b hb))];exact(f2 b hb).1
 have loop:∀ s₃:Shared,s₃={ s2 with heap:=h₁,toks:=s2.toks+([]:List (Str × Value)).length } ->
   codeAny (model X.prog X.w) X.A (.compLoop (.ListComp elt [⟨tg,iter,ifs,0⟩] scope pos) 0 (.ref it) (.ref s2.heap.objs.size) (compEnvC scope cl G2.objs.size X.env)) (RR (.ref s2.heap.objs.size) G2.objs.size) s₃:=by
  intro s₃ hs3
  have I0:Inv (a_ X scope cl G2.objs.size (T++cn) fp s2 H2) [] (Av T.length caps σ) (upd H2 s2.heap.objs.size (.lst [])) s₃:=by
   rw [hs3]
   exact xC S I2 f2 fo hC old hacc (by simpa using hns₁)
  have st3:tn 0 s₃.heap:=by rw [hs3];exact st1
  have stat:∀{H':Hp},(∀ b∈fp,H' b=none)->∀ b∈fp,jQ (a_ X scope cl G2.objs.size (T++cn) fp s2 H2) [] H' b:=fun{H'} hn b hb=>by
   refine⟨hn b hb,?_,fun hs=>?_,.inl hb,fun y c e=>(f2 b hb).2.2.2.2.1 y c (S.sub y c e),fun p hp=>absurd (show p∈([]:List (Addr × Obj)) from hp) (by simp)⟩
   ·show b≠G2.objs.size
    rw [hC]
    exact Nat.ne_of_lt (Nat.lt_succ_of_lt (fo b hb))
   ·rcases List.mem_cons.mp (I2.ug b hs) with z|z
    ·exact(f2 b hb).2.1 z
    ·exact(f2 b hb).2.2.1 z
  refine s_ (fun n s'=>∃ i ys H',Inv (a_ X scope cl G2.objs.size (T++cn) fp s2 H2) [] (Av T.length caps σ) H' s'/\tn i s'.heap/\(∀ b∈fp,H' b=none)/\W i n ys H') ?_ m0 ⟨0,[],_,I0,st3,fr0,w0⟩
  rintro n s4 ⟨i,ys,H4,I4,st4,fr4,w4⟩
  obtain⟨hD,tr⟩:=turn i n ys H4 w4
  rcases tr with⟨stop,qn⟩|⟨go,step⟩
  ·refine b9 (Tn.done (a_ X scope cl G2.objs.size (T++cn) fp s2 H2) rfl rfl rfl hc i [] s4 (Av T.length caps σ) H4 (fun _ _=>False) I4 (stat fr4) st4 stop) fun r s5 ⟨hr,I5⟩=>?_
   subst hr
   obtain⟨oC,m,a1,a2,a3,a4⟩:=Bi I2 f2 (by omega) I5
   exact fin _ _ oC m H4 s5 a3 a1 a2 a4 qn
  ·refine b9 (Tn.item (a_ X scope cl G2.objs.size (T++cn) fp s2 H2) rfl rfl rfl hc i [] s4 (Av T.length caps σ) H4 (fun _ _=>False) I4 (stat fr4) st4 go) fun r s5 ⟨u,hr,h5⟩=>?_
   subst hr
   refine b9 h5 fun _ s6 ⟨x,H6,I6,r6,y6,st6,fr6⟩=>?_
   have I6':=I6.pinned (stat fr6) (Tn.obj _ _ st6)
   refine b9 (hg _ fp s2 H2 _ s6 _ H6 x u _ I6' r6 (step x H6 y6)) fun _ s7 ⟨σ7,H7,I7,le7,q7⟩=>?_
   have again:∀{σ8:St} {H8:Hp} {s8:Shared} {zs:List V} {m':Nat},Le (Av T.length caps σ) σ8->Inv (a_ X scope cl G2.objs.size (T++cn) fp s2 H2) ([]++mV fp s6.heap) σ8 H8 s8->m'<n->W (i+1) m' zs H8 ->
     ∃ m,m<n/\∃ i ys H',Inv (a_ X scope cl G2.objs.size (T++cn) fp s2 H2) [] (Av T.length caps σ) H' s8/\tn i s8.heap/\(∀ b∈fp,H' b=none)/\W i m ys H':=fun{σ8 H8 s8 zs m'} le I8 hm w8=>by
    refine⟨m',hm,i+1,zs,H8,I8.iU.weak le.1 le.2,Tn.keep _ _ _ st6 fun b hb o e=>(I8.pin (b,o) (List.mem_append_right _ (List.mem_append_right _ (f7 hb e)))).1,fun b hb=>?_,w8⟩
    obtain⟨o,e,d⟩:=Tn.obj _ _ st6 b hb
    exact(I8.pin (b,o) (List.mem_append_right _ (List.mem_append_right _ (f7 hb e)))).2.1
   refine b9 (ht _ fp s2 H2 _ s7 σ7 H7 _ I7 q7) fun ok s8 ⟨H8,I8,q8⟩=>?_
   cases ok with
   | false =>
    rw [if_neg Bool.false_ne_true] at q8 ⊢
    obtain⟨m',hm,w8⟩:=q8
    exact again le7 I8 hm w8
   | true =>
    rw [if_pos rfl] at q8 ⊢
    refine b9 (he _ fp s2 H2 _ s8 σ7 H8 _ I8 q8) fun v9 s9 ⟨y,H9,I9,r9,hD9,hz9,m',hm,w9⟩=>?_
    refine b9 (oW _ s9 σ7 H9 (.ref s2.heap.objs.size) [y] (.ref s2.heap.objs.size) [v9] (fun _ H=>H=upd H9 s2.heap.objs.size (.lst (ys++[y]))) I9 rfl (.cons r9 .nil) ⟨_,ys,y,rfl,rfl,hD9,hz9,rfl⟩) fun _ s10 ⟨_,H10,I10,_,e10⟩=>?_
    subst e10
    exact again le7 I10 hm w9
 exact codeAny_compStart_list (loop _ rfl) (Tn.self X.A 0 _ _ _ st1 (loop _ rfl))
theorem Fb (S:cC X scope cl T caps cn)(hc:X.calm=true)(hi:PI X tg iter wi)(hg:∀ C fp s₂ H₂,PG (a_ X scope cl C (T++cn) fp s₂ H₂) tg g)(ht:∀ C fp s₂ H₂,ye (a_ X scope cl C (T++cn) fp s₂ H₂) ifs tt)
  (he:∀ C fp s₂ H₂,PE (a_ X scope cl C (T++cn) fp s₂ H₂) elt te)(hs:∀ x,foldedSetIterable iter X.env x=pure x:=by intro _;rfl) :
  PE X (.ListComp elt [⟨tg,iter,ifs,0⟩] scope pos) (sH T.length caps wi g tt te):=by
 intro pins s σ H Q I h
 rw [eval_ListComp]
 refine wpAny_comprehension_free (use:=none) rfl hs S.J0 S.kind S.names (b9 (hi pins s σ H _ I h) fun v s1 h1=>b9 h1 fun itv s2 h2=>?_)
 obtain⟨it,fp,tn,J,H2,e,I2,Tn,st2,f2,q⟩:=h2
 subst e
 refine p_ (RR:=fun acc C=>compPost (model X.prog X.w) X.A X.xe none (EP X pins σ Q) acc C) S hc hg ht he I2 Tn st2 f2 q fun D C oC m H' s' I' ho hn fC qD=>?_
 refine⟨m,hn,fun h' hs'=>⟨.ref D,H',?_,rfl,qD⟩⟩
 obtain⟨hp,g,d,t,os⟩:=s'
 exact I'.iU.turned (fun b o hb e=>(hs'.2 b hb).trans e) fC.1 fC.2.1 fC.2.2.2.1 fC.2.2.2.2.1 fC.2.2.2.2.2
def G7 (i:Nat)(t:TE):TS:=fun D σ H=>t σ H fun x H1=>D.nx (σ.set i (some x)) H1
theorem uN {i:Nat}{y:Str}{py spos:Pos}(hN:X.N.Nodup)(hi':X.N[i]?=some y)(hy:Loc X.env.scope y)(S:cC X scope cl T caps cn)(hc:X.calm=true)(hi:PI X tg iter wi)
  (hg:∀ C fp s₂ H₂,PG (a_ X scope cl C (T++cn) fp s₂ H₂) tg g)(ht:∀ C fp s₂ H₂,ye (a_ X scope cl C (T++cn) fp s₂ H₂) ifs tt)
  (he:∀ C fp s₂ H₂,PE (a_ X scope cl C (T++cn) fp s₂ H₂) elt te)(hsw:swapsWith (.ListComp elt [⟨tg,iter,ifs,0⟩] scope pos) (some (.Name y py)) spos.line X.env=pure true:=by rfl)
  (hf:X.fn y=true\/X.env.scope.names.lookup y=some .local:=by first|exact .inl rfl|exact .inr rfl|assumption)
  (hs:∀ x,foldedSetIterable iter X.env x=pure x:=by intro _;rfl) :
  PS X (.Assign [.Name y py] (.ListComp elt [⟨tg,iter,ifs,0⟩] scope pos) spos) (G7 i (sH T.length caps wi g tt te)):=by
 intro pins s σ H D I h
 rw [exec_Assign_Name_used _ _ _ _ hsw]
 refine wpAny_bind (wpAny_standAt (wpAny_bind ?_))
 show wpAny _ X.A (do let _ <- comprehension (.ListComp elt [⟨tg,iter,ifs,0⟩] scope pos) scope X.env _ (newList []) false (eval iter X.env) (some (assign (.Name y py) X.env))) _ _ s
 refine wpAny_bind (wpAny_mono (wpAny_comprehension_free (use:=some (assign (.Name y py) X.env)) (Q:=fun _ s'=>SP X pins D .next s') rfl hs S.J0 S.kind S.names
  (b9 (hi pins s σ H _ I h) fun v s1 h1=>b9 h1 fun itv s2 h2=>?_)) (fun _ s' hq=>wpAny_pure (wpAny_pure hq)) fun _ _ e=>e)
 obtain⟨it,fp,tn,J,H2,e,I2,Tn,st2,f2,q⟩:=h2
 subst e
 refine p_ (Q:=fun x H1=>D.nx (σ.set i (some x)) H1) (RR:=fun acc C=>compPost (model X.prog X.w) X.A X.xe (some (assign (.Name y py) X.env)) (fun _ s'=>SP X pins D .next s') acc C) S hc hg ht he I2 Tn st2 f2 q fun Dd C oC m H' s' I' ho hn fC qD=>?_
 show wpAny _ X.A (assign (.Name y py) X.env (.ref Dd)) _ _ s'
 refine b9 (bF (i:=i) hN hi' hy hf (pins++[(C,oC)]) s' σ H' (.ref Dd) (.ref Dd) (fun σ' H1=>σ'=σ.set i (some (.ref Dd))/\H1=H') I' rfl ⟨rfl,rfl⟩) fun _ s'' ⟨σ'',H'',I'',e1,e2⟩=>?_
 subst e1 e2
 have hoC:s''.heap.get? C=some oC:=(I''.pin (C,oC) (List.mem_append_right _ (List.mem_append_right _ (List.mem_singleton.mpr rfl)))).1
 obtain⟨oC',es,ep,ho',r⟩:=hn
 rw [ho] at ho'
 cases ho'
 refine⟨m,⟨oC,es,ep,hoC,r⟩,fun h' hs'=>⟨σ.set i (some (.ref Dd)),H'',?_,qD⟩⟩
 obtain⟨hp,g,d,t,os⟩:=s''
 exact I''.iU.turned (fun b o hb e=>(hs'.2 b hb).trans e) fC.1 fC.2.1 fC.2.2.2.1 fC.2.2.2.2.1 fC.2.2.2.2.2
end
section
variable {X:Cx}
theorem Cn:gx X (compareOp .Is) (fun x y H Q=>∃ a b,x=.bl a/\y=.bl b/\Q (.bl (a == b)) H):=by
 intro pins s σ H x y v u Q I rx ry h
 obtain⟨a,b,rfl,rfl,q⟩:=h
 cases rx
 cases ry
 exact is_bool (bA I q rfl)
theorem wG:gx X (compareOp .IsNot) (fun x y H Q=>∃ a b,x=.bl a/\y=.bl b/\Q (.bl (a != b)) H):=by
 intro pins s σ H x y v u Q I rx ry h
 obtain⟨a,b,rfl,rfl,q⟩:=h
 cases rx
 cases ry
 exact isnot_bool (bA I q rfl)
theorem FT:gx X (binaryOp .Mult) (rI IntMulOk fun i j=>.int (i*j)):=Mp fun _ _ _ _ _ _ _ hc q=>mul_int q hc
end
mutual
inductive mF (K:PySem.W.Frag) (H:Hp):V->PyData->Prop
 | aj:mF K H .aj .none
 | bl (b:Bool):mF K H (.bl b) (.bool b)
 | int (i:Int):mF K H (.int i) (.int i)
 | str (x:Str):mF K H (.str x) (.str x)
 | lst {a:Addr} {xs:List V} {ds:List PyData}:dg K H a xs->jP K H xs ds->mF K H (.ref a) (.list ds)
 | tup {a:Addr} {xs:List V} {ds:List PyData}:iY K H a xs->jP K H xs ds->mF K H (.ref a) (.tuple ds)
inductive jP (K:PySem.W.Frag) (H:Hp):List V->List PyData->Prop
 | nil:jP K H [] []
 | cons {x:V} {d:PyData} {xs:List V} {ds:List PyData}:mF K H x d->jP K H xs ds->jP K H (x::xs) (d::ds)
end
theorem IsTup.of_get {h:Heap}{a:Addr}{its:Array Value}(p:IsTup h a its):∃ o n,h.get? a=some o/\o.cls=.type "tuple"/\o.data=.seq its n:=by
 obtain⟨o,h1,h2,n,h3⟩:=p
 exact⟨o,n,h1,h2,h3⟩
mutual
theorem mF.reads {X:Cx}{pins:List (Addr × Obj)}{σ:St}{H:Hp}{s:Shared}(I:Inv X pins σ H s):∀{v:V} {d:PyData} {u:Value},mF X.K H v d->RelV v u->∃ as,Reads s.heap u d as
 | _,_,u,.aj,r=>by cases(show u=Value.none from r);exact⟨_,.none⟩
 | _,_,u,.bl b,r=>by cases(show u=Value.bool b from r);exact⟨_,.bool b⟩
 | _,_,u,.int i,r=>by obtain⟨t,q⟩:=(show ∃ t,u=Value.int i t from r);cases q;exact⟨_,.int i t⟩
 | _,_,u,.str x,r=>by obtain⟨t,q⟩:=(show ∃ t,u=Value.str x t from r);cases q;exact⟨_,.str x t⟩
 | _,_,u,@mF.lst _ _ a xs ds h1 h2,r=>by
  cases(show u=Value.ref a from r)
  obtain⟨its,rv,pl,_⟩:=I.list h1
  obtain⟨as,q⟩:=jP.reads I h2 rv
  obtain⟨o,n,e1,e2,_,e3⟩:=pl
  exact⟨_,reads_list_at e1 e2 e3 (by simpa using q)⟩
 | _,_,u,@mF.tup _ _ a xs ds h1 h2,r=>by
  cases(show u=Value.ref a from r)
  obtain⟨its,rv,pl,_⟩:=I.tuple h1
  obtain⟨as,q⟩:=jP.reads I h2 rv
  obtain⟨o,n,e1,e2,e3⟩:=IsTup.of_get pl
  exact⟨_,reads_tuple_at e1 e2 e3 (by simpa using q)⟩
theorem jP.reads {X:Cx}{pins:List (Addr × Obj)}{σ:St}{H:Hp}{s:Shared}(I:Inv X pins σ H s):∀{vs:List V} {ds:List PyData} {us:List Value},jP X.K H vs ds->Vals vs us->∃ as,ReadsAll s.heap us ds as
 | _,_,us,.nil,r=>by cases r;exact⟨_,.nil⟩
 | _,_,us,.cons h1 h2,r=>by
  cases r with
  | cons r1 r2 =>
   obtain⟨as,q⟩:=mF.reads I h1 r1
   obtain⟨bs,p⟩:=jP.reads I h2 r2
   exact⟨_,.cons q p⟩
end
def Fs (K:PySem.W.Frag)(neg:Bool):R2:=fun x y H Q=>∃ d e,mF K H x d/\mF K H y e/\SeqAt.shaped d=true/\SeqAt.shaped e=true/\Q (.bl (if neg then !PyData.eqv d e else PyData.eqv d e)) H
section
variable {X:Cx}
theorem Cm (hu:X.A.units+64<cLine):gx X (compareOp .Eq) (Fs X.K false):=by
 intro pins s σ H x y v u Q I rx ry h
 obtain⟨d,e,hx,hy,sx,sy,q⟩:=h
 obtain⟨as,p1⟩:=hx.reads I rx
 obtain⟨bs,p2⟩:=hy.reads I ry
 exact eq_dataH p1 p2 sx sy hu ⟨.bl _,H,I,rfl,q⟩
theorem Io (hu:X.A.units+64<cLine):gx X (compareOp .NotEq) (Fs X.K true):=by
 intro pins s σ H x y v u Q I rx ry h
 obtain⟨d,e,hx,hy,sx,sy,q⟩:=h
 obtain⟨as,p1⟩:=hx.reads I rx
 obtain⟨bs,p2⟩:=hy.reads I ry
 exact ne_dataH p1 p2 sx sy hu ⟨.bl _,H,I,rfl,q⟩
theorem zw {bs:List Bool}:∀{us:List Value},Vals (bs.map V.bl) us->∀(i:Nat) (v:Value),us[i]?=some v->∃ b,bs[i]?=some b/\v=.bool b:=by
 intro us r i v e
 have hl:=r.length
 rw [List.length_map] at hl
 have hi:i<us.length:=(List.getElem?_eq_some_iff.mp e).1
 have hb:bs[i]?=some bs[i]:=List.getElem?_eq_getElem (by omega)
 obtain⟨u,h1,h2⟩:=r.get (i:=i) (x:=V.bl bs[i]) (by rw [List.getElem?_map,hb];rfl)
 rw [e] at h1
 cases h1
 exact⟨_,hb,h2⟩
theorem yF (bs:List Bool):((List.range bs.length).all fun i=>(bs[i]?).getD true)=bs.all id:=PyProof.Rows.LSm.range_all bs
theorem BZ:jO X (.builtin "all") (fun xs H Q=>∃(p:Addr) (bs:List Bool),xs=[.ref p]/\X.A.handled=none/\dg X.K H p (bs.map V.bl)/\Q (.bl (bs.all id)) H):=by
 intro pins s σ H xs us Q I r h
 obtain⟨p,bs,rfl,hh,hS,q⟩:=h
 obtain⟨u,rfl,ru⟩:=vals1 r
 cases(show u=Value.ref p from ru)
 obtain⟨its,rv,pl,_⟩:=I.list hS
 have hl:=pl.isList
 have hlt:p<s.heap.objs.size:=pl.lt
 have hb:=zw rv
 have hlen:its.length=bs.length:=by have:=rv.length;rw [List.length_map] at this;exact this.symm
 refine call_all_walk (wpAny_pyIter_list hl ?_)
 refine⟨s.heap.objs.size,[s.heap.objs.size,p],[s.heap.objs.size],its.toArray.size,_,_,fun i=>(bs[i]?).getD true,rfl,Walks.list (A:=X.A.in1) hh _ p (Nat.ne_of_lt hlt) its.toArray,
  ⟨⟨_,Heap.get?_push_size _ rfl,rfl,rfl⟩,hl.push _⟩,fun i v s' Q' E' hP hQ=>?_,fun h' tk hk=>?_⟩
 ·obtain⟨b,e,rfl⟩:=hb i v (by simpa using hP)
  simp only [e,Option.getD_some] at hQ
  exact wpAny_truthy_bool hQ
 ·have e:((List.range its.toArray.size).all fun i=>(bs[i]?).getD true)=bs.all id:=by
   rw [List.size_toArray,hlen];exact yF bs
  rw [e]
  exact⟨.bl (bs.all id),H,I.kept (PyProof.Rows.LSm.kept_iter hk),rfl,q⟩
end
section
variable {X:Cx}{a b c:Expr}{ta tb:TE}{pos:Pos}{k:Int}{op op':CmpOp}{p p':Int->Int->Bool}
end
theorem aw {H:Hp}{p:Addr}{o:HO}(h:H p=none):aK H (upd H p o):=fun b u e=>by
 rw [aG (bL e h)]
 exact e
theorem PE.imp {X:Cx}{e:Expr}{t t':TE}(h:PE X e t)(f:∀ σ H Q,t' σ H Q->t σ H Q):PE X e t':=fun pins s σ H Q I q=>h pins s σ H Q I (f σ H Q q)
def L8 (x:Str):It:=⟨fun i _=>i<x.cps.size,fun i H v H'=>H'=H/\∃ c,x.cps[i]?=some c/\v=.str ⟨#[c]⟩,fun i _=>x.cps.size<=i⟩
theorem BA {P:Program}{w:World}{K:PySem.W.Frag}{tg:Expr}(x:Str)(t:Tok)(it:Addr):Turn P w K tg (L8 x) [it] it (fun i h=>h.IsStrIter it "str_ascii_iterator" x t i) where
 mem:=by simp
 obj:=fun i h st b hb=>by
  have e:b=it:=by simpa using hb
  subst e
  obtain⟨o,e,c,d⟩:=st
  exact⟨o,e,fun v z=>by rw [d] at z;cases z⟩
 keep:=fun i h h' st k=>by
  obtain⟨o,e,r⟩:=st
  exact⟨o,k it (by simp) o e,r⟩
 item:=by
  intro X hP hw hK hc i pins s σ H E I hf st hg
  subst hP hw hK
  obtain⟨f0,f1,f2,f3,f4,f5⟩:=hf it (by simp)
  have hi:i<x.cps.size:=hg
  refine wpAny_pyNext_ascii_item st (c:=x.cps[i]) (by simp [hi]) fun h' st' sb=>?_
  have I1:Inv X pins σ H { s with heap:=h',toks:=s.toks+1 }:=I.turned (fun b o hb e=>(sb.2 b hb).trans e) f0 f1 f3 f4 f5
  obtain⟨o,e,c,d⟩:=id st'
  exact⟨_,rfl,rX (s:={ s with heap:=h',toks:=s.toks+1 }) e c d (by decide) ⟨.str ⟨#[x.cps[i]]⟩,H,I1,⟨_,rfl⟩,⟨rfl,_,by simp [hi],rfl⟩,st',fun b hb=>(hf b hb).1⟩⟩
 done:=by
  intro X hP hw hK hc i pins s σ H E I hf st hg
  subst hP hw hK
  obtain⟨f0,f1,f2,f3,f4,f5⟩:=hf it (by simp)
  have hi:x.cps.size<=i:=hg
  exact wpAny_pyNext_ascii_end (I.ok.hd hc) st (by simp [hi]) fun h' eb=>⟨rfl,I.turned (t':=s.toks) (fun b o hb e=>eb b o hb e) f0 f1 f3 f4 f5⟩
 self:=fun _ _ _ _ _ st h=>wpAny_pyIter_striter_ascii st h
theorem BB {P:Program}{w:World}{K:PySem.W.Frag}{tg:Expr}(x:Str)(t:Tok)(it:Addr):Turn P w K tg (L8 x) [it] it (fun i h=>h.IsStrIter it "str_iterator" x t i) where
 mem:=by simp
 obj:=fun i h st b hb=>by
  have e:b=it:=by simpa using hb
  subst e
  obtain⟨o,e,c,d⟩:=st
  exact⟨o,e,fun v z=>by rw [d] at z;cases z⟩
 keep:=fun i h h' st k=>by
  obtain⟨o,e,r⟩:=st
  exact⟨o,k it (by simp) o e,r⟩
 item:=by
  intro X hP hw hK hc i pins s σ H E I hf st hg
  subst hP hw hK
  obtain⟨f0,f1,f2,f3,f4,f5⟩:=hf it (by simp)
  have hi:i<x.cps.size:=hg
  refine wpAny_pyNext_wide_item st (c:=x.cps[i]) (by simp [hi]) fun h' st' sb=>?_
  have I1:Inv X pins σ H { s with heap:=h',toks:=s.toks+1 }:=I.turned (fun b o hb e=>(sb.2 b hb).trans e) f0 f1 f3 f4 f5
  obtain⟨o,e,c,d⟩:=id st'
  exact⟨_,rfl,rX (s:={ s with heap:=h',toks:=s.toks+1 }) e c d (by decide) ⟨.str ⟨#[x.cps[i]]⟩,H,I1,⟨_,rfl⟩,⟨rfl,_,by simp [hi],rfl⟩,st',fun b hb=>(hf b hb).1⟩⟩
 done:=by
  intro X hP hw hK hc i pins s σ H E I hf st hg
  subst hP hw hK
  obtain⟨f0,f1,f2,f3,f4,f5⟩:=hf it (by simp)
  have hi:x.cps.size<=i:=hg
  exact wpAny_pyNext_wide_end (I.ok.hd hc) st (by simp [hi]) fun h' eb=>⟨rfl,I.turned (t':=s.toks) (fun b o hb e=>eb b o hb e) f0 f1 f3 f4 f5⟩
 self:=fun _ _ _ _ _ st h=>wpAny_pyIter_striter_wide st h
section
variable {X:Cx}{tg:Expr}
end
theorem sV:∀ l:List (Str × Tok),Vals ((l.map (·.1)).map V.str) (strValues l)
 | []=>.nil
 | (x,t)::r=>.cons ⟨t,rfl⟩ (sV r)
theorem BE (tk:Nat)(ws:List Str):Vals (ws.map V.str) (strsFrom tk ws):=by
 have h:=sV (numbered tk ws)
 rw [numbered_texts,<- strsFrom_eq] at h
 exact h
section
variable {X:Cx}
open Builtin Builtin.Str in
theorem CW:Jr X "str.split" (fun x vs H Q=>∃ z y,x=.str z/\vs=[.str y]/\(y.length == 0)=false/\z.length+2<=sizeLine/\∀ p,H p=none->Q (.ref p) (upd H p (.lst ((Txt.split z y).map V.str)))):=by
 intro pins s σ H x vs v us Q I rx rv h
 obtain⟨z,y,rfl,rfl,hy,hz,q⟩:=h
 obtain⟨t,rfl⟩:=rx
 obtain⟨w',rfl,u,rfl⟩:=rv.one
 have hle:(Txt.split z y).length<=sizeLine:=Nat.le_trans (split_le z y) hz
 have hz0:z.length<=sizeLine:=by omega
 have q:=q s.heap.objs.size I.fresh
 cases h1:(decide (z.length<y.length)||decide (strKind z<strKind y)) with
 | true =>
  have e:Txt.split z y=[z]:=if_pos h1
  rw [e] at q
  refine call_meets F.slot_str_split (typeIs_str _ _ _) F.entry_str_split (F.args_str_split_2 _ _) (meets_str_split_cannot_occur z y t u h1) ?_
  exact⟨.ref s.heap.objs.size,_,I.laid (t':=s.toks) (o:=.lst [.str z]) (fun b ob q=>Heap.get?_push_of_some _ q) (Nat.le_refl _) ⟨by show 1<=sizeLine;decide,_,0,.cons ⟨t,rfl⟩ .nil,Heap.get?_push_size _ rfl⟩,rfl,q⟩
 | false =>
  cases hf:(occurrences z y 0 z.length (z.length+1)).isEmpty with
  | true =>
   have e:Txt.split z y=[z]:=(if_neg (ne_true_of_eq_false h1)).trans (if_pos hf)
   rw [e] at q
   refine call_meets F.slot_str_split (typeIs_str _ _ _) F.entry_str_split (F.args_str_split_2 _ _) (meets_str_split_not_found z y t u h1 hy hf) ?_
   exact⟨.ref s.heap.objs.size,_,I.laid (t':=s.toks) (o:=.lst [.str z]) (fun b ob q=>Heap.get?_push_of_some _ q) (Nat.le_refl _) ⟨by show 1<=sizeLine;decide,_,0,.cons ⟨t,rfl⟩ .nil,Heap.get?_push_size _ rfl⟩,rfl,q⟩
  | false =>
   have e:Txt.split z y=partsBetween z (occurrences z y 0 z.length (z.length+1)) y.length:=(if_neg (ne_true_of_eq_false h1)).trans (if_neg (ne_true_of_eq_false hf))
   rw [e] at q hle
   refine call_meets F.slot_str_split (typeIs_str _ _ _) F.entry_str_split (F.args_str_split_2 _ _) (meets_str_split_sep z y t u h1 hy hf hz0 hle) ?_
   exact⟨.ref s.heap.objs.size,_,I.laid (o:=.lst ((partsBetween z (occurrences z y 0 z.length (z.length+1)) y.length).map V.str)) (fun b ob q=>Heap.get?_push_of_some _ q) (Nat.le_refl _)
    ⟨by rw [List.length_map];exact hle,_,0,BE _ _,Heap.get?_push_size _ rfl⟩,rfl,q⟩
theorem qQ {v:Value}{o:Option Int}(p:IsPart v o):∃ l:Option (Int × Tok),v=partValue l/\o=l.map (·.1):=by
 cases p with
 | none=>exact⟨none,rfl,rfl⟩
 | int i t=>exact⟨some (i,t),rfl,rfl⟩
theorem JV:D3 X (fun x lo hi H Q=>∃ z,x=.str z/\z.length<=sizeLine/\Q (.str (Txt.slice z lo hi)) H):=by
 intro pins s σ H x v vl vu lo hi sl Q I rx hs pl pu h
 obtain⟨z,rfl,hz,q⟩:=h
 obtain⟨t,rfl⟩:=rx
 obtain⟨l,rfl,rfl⟩:=qQ pl
 obtain⟨u,rfl,rfl⟩:=qQ pu
 refine⟨"str",_,F.slot_str_getitem.lookup,typeIs_str _ _ _,wpAny_getItem_str_slice (l:=l) (u:=u) (st:=none) hs rfl ?_⟩
 exact post_val_or_str ⟨Nat.le_trans (Txt.slice_le z _ _) hz,fun t' k=>⟨.str (Txt.slice z _ _),H,I.tok _,⟨t',rfl⟩,q⟩⟩
end
theorem mem_of_lookup {β:Type}{y:Str}{v:β}:∀{l:List (Str × β)},l.lookup y=some v->(y,v)∈l
 | [],h=>by simp at h
 | (x,u)::r,h=>by
  rw [List.lookup_cons] at h
  cases e:y == x with
  | true =>
   rw [e] at h
   have h1:=Option.some.inj h
   have h2:=eq_of_beq e
   subst h1 h2
   exact List.mem_cons_self
  | false =>
   rw [e] at h
   exact List.mem_cons_of_mem _ (mem_of_lookup h)
theorem h_ {X:Cx}{scope:Scope}{T:List Str}(hk:scope.kind=.function)(hc:closureFor scope X.env=pure [])(h1:∀ y∈scope.names,y.2≠.cell)(h2:∀ y∈scope.names,y.2≠.free)
  (h3:∀ y∈scope.names,y.2=.local->scope.names.lookup y.1=some .local):cC X scope [] T [] [] :=
 ⟨hk,hc,h1,h3,fun y c h=>by simp at h,fun y h=>absurd rfl (h2 _ (mem_of_lookup h)),.nil⟩
theorem o6 {X:Cx}{scope:Scope}{T cn:List Str}{caps:List Nat}{cl:List (Str × Addr)}(hk:scope.kind=.function)(hc:closureFor scope X.env=pure cl)(h1:∀ y∈scope.names,y.2≠.cell)
  (h2:∀ y∈scope.names,y.2=.free->(cl.lookup y.1).isSome=true)(h3:∀ y∈scope.names,y.2=.local->scope.names.lookup y.1=some .local)(hs:∀ p∈cl,X.env.cells.lookup p.1=some p.2)
  (hp:Paired (fun(j:Nat) (y:Str)=>X.N[j]?=some y/\(X.env.kindOf y=some .cell\/X.env.kindOf y=some .free)/\scope.names.lookup y=some .free) caps cn):cC X scope cl T caps cn :=
 ⟨hk,hc,h1,h3,fun y c h=>hs (y,c) (mem_of_lookup h),fun y h=>Option.isSome_iff_exists.mp (h2 _ (mem_of_lookup h) rfl),hp⟩
def del (H:Hp)(a:Addr):Hp:=fun b=>if b=a then none else H b
theorem Bp {H:Hp}{a:Addr}:del H a a=none:=if_pos rfl
theorem qF {H:Hp}{a b:Addr}(h:b≠a):del H a b=H b:=if_neg h
section
variable {X:Cx}{pins:List (Addr × Obj)}{σ:St}{H:Hp}{s:Shared}{a:Addr}{ys:List V}
end
section
variable {X:Cx}{e:Expr}{te:TE}{tt:TT}
def qp (te:TE):TE:=fun σ H Q=>∃ D ys,H D=some (.lst ys)/\te σ (del H D) fun y H4=>H4 D=none->Q y (upd H4 D (.lst ys))
def qw (tt:TT):TT:=fun σ H Q=>∃ D ys,H D=some (.lst ys)/\tt σ (del H D) fun b H4=>H4 D=none->Q b (upd H4 D (.lst ys))
end
theorem yo {H:Hp}{a:Addr}{o:HO}(h:H a=none):del (upd H a o) a=H:=by
 funext b
 unfold del upd
 by_cases hb:b=a
 ·rw [if_pos hb,hb,h]
 ·rw [if_neg hb,if_neg hb]
def dM (H:Hp)(a dx:Addr):Hp:=fun b=>if b=a\/b=dx then none else H b
def shown (H:Hp)(a dx C:Addr)(fs:List (Str × V)):Hp:=upd (upd H dx (.own a)) a (.ins C dx fs)
section
variable {X:Cx}{pins:List (Addr × Obj)}{σ:St}{H:Hp}{s:Shared}{a dx C:Addr}{fs:List (Str × V)}
theorem Inv.Cj {o:HO}(I:Inv X pins σ H s)(e:H a=some o):a∉X.fs/\(∀ b o,X.s₀.heap.get? b=some o->X.H₀ b=none->b∉X.ex->b≠a)/\(∀ p∈X.pn++pins,p.1≠a)/\∀ x c,X.env.cells.lookup x=some c->c≠a:=by
 refine⟨fun hb=>?_,fun b o q n hx z=>?_,fun p hp z=>?_,fun x c q z=>?_⟩
 ·have h1:=I.ok.Gp a hb
  obtain⟨_,o,ho,_⟩:=I.ok.oG.mem hb
  have hx:a∉X.ex:=fun hx=>I.ok.B3 a hx hb
  have:=I.base.free a o ho h1 hx
  rw [e] at this
  cases this
 ·have:=I.base.free b o q n hx
  rw [z,e] at this
  cases this
 ·have:=(I.pin p hp).2.1
  rw [z,e] at this
  cases this
 ·have:=I.fA x c q
  rw [z,e] at this
  cases this
end
section
variable {X:Cx}{e:Expr}{te:TE}{st:Stmt}{ts:TS}
def F6 (te:TE):TE:=fun σ H Q=>∃ a dx C fs,H a=some (.ins C dx fs)/\te σ (dM H a dx) fun y H4=>H4 a=none->H4 dx=none->dx≠a->Q y (shown H4 a dx C fs)
def Fv (ts:TS):TS:=fun D σ H=>∃ a dx C fs,H a=some (.ins C dx fs) /\
 ts ⟨fun σ' H4=>H4 a=none->H4 dx=none->dx≠a->D.nx σ' (shown H4 a dx C fs),fun v H4=>H4 a=none->H4 dx=none->dx≠a->D.rt v (shown H4 a dx C fs),
  fun σ' H4=>H4 a=none->H4 dx=none->dx≠a->D.bk σ' (shown H4 a dx C fs),fun σ' H4=>H4 a=none->H4 dx=none->dx≠a->D.ct σ' (shown H4 a dx C fs)⟩ σ (dM H a dx)
theorem lA {H:Hp}{a dx C:Addr}{fs:List (Str × V)}(h1:H a=none)(h2:H dx=none):dM (shown H a dx C fs) a dx=H:=by
 funext b
 unfold dM shown upd
 by_cases hb:b=a
 ·rw [if_pos (.inl hb),hb,h1]
 ·by_cases hb2:b=dx
  ·rw [if_pos (.inr hb2),hb2,h2]
  ·rw [if_neg (fun z=>z.elim hb hb2),if_neg hb,if_neg hb2]
theorem BD {H:Hp}{a dx C:Addr}{fs fs':List (Str × V)}:upd (shown H a dx C fs) a (.ins C dx fs')=shown H a dx C fs':=uo
theorem nq {H:Hp}{a dx C:Addr}{fs:List (Str × V)}:shown H a dx C fs a=some (.ins C dx fs):=aJ
end
def aN (H:Hp)(L:List Addr):Hp:=fun b=>if b∈L then none else H b
def aa (H' H:Hp)(L:List Addr):Hp:=fun b=>if b∈L then H b else H' b
theorem cK {H:Hp}{L:List Addr}{b:Addr}(h:b∈L):aN H L b=none:=if_pos h
theorem bC {H:Hp}{L:List Addr}{b:Addr}(h:b∉L):aN H L b=H b:=if_neg h
theorem iB {H:Hp}{L:List Addr}{b:Addr}(h:H b=none):aN H L b=none:=by unfold aN;split<;>first|rfl|exact h
theorem de {H:Hp}{L:List Addr}{b:Addr}{o:HO}(h:aN H L b=some o):b∉L/\H b=some o:=by
 unfold aN at h
 split at h
 ·cases h
 ·rename_i z;exact⟨z,h⟩
theorem ax {H:Hp}{L:List Addr}:aK (aN H L) H:=fun b o h=>(de h).2
theorem cF {H:Hp}:aN H []=H:=by funext b;exact if_neg (fun h=>nomatch h)
theorem ai {H H':Hp}{L:List Addr}{b:Addr}(h:b∈L):aa H' H L b=H b:=if_pos h
theorem aX {H H':Hp}{L:List Addr}{b:Addr}(h:b∉L):aa H' H L b=H' b:=if_neg h
theorem bK {H H':Hp}{L:List Addr}(h:∀ b∈L,H' b=none):aN (aa H' H L) L=H':=by
 funext b
 by_cases hb:b∈L
 ·rw [cK hb,h b hb]
 ·rw [bC hb,aX hb]
inductive dG (H:Hp) (L:List Addr) (a:Addr):Prop
 | lst (xs:List V) (h:H a=some (.lst xs))
 | dK (kvs:List (Key × V)) (h:H a=some (.dK kvs))
 | ins (C dx:Addr) (fs:List (Str × V)) (h:H a=some (.ins C dx fs)) (hd:dx∈L)
 | own (C b:Addr) (fs:List (Str × V)) (h:H a=some (.own b)) (hb:b∈L) (hi:H b=some (.ins C a fs))
section
variable {X:Cx}{pins:List (Addr × Obj)}{σ:St}{H:Hp}{s:Shared}{L:List Addr}
theorem dG.there {a:Addr}(h:dG H L a):∃ o,H a=some o:=by cases h<;>exact⟨_,by assumption⟩
theorem dG.pG {a:Addr}(h:dG H L a):(∀ xs,H a≠some (.tup xs))/\(∀ o u,H a≠some (.fJ o u))/\(∀ ps,H a≠some (.GA ps))/\∀ b,H a=some (.own b)->b∈L:=by
 cases h with
 | lst xs h=>rw [h];exact⟨fun _ q=>(nomatch q),fun _ _ q=>(nomatch q),fun _ q=>(nomatch q),fun _ q=>(nomatch q)⟩
 | dK xs h=>rw [h];exact⟨fun _ q=>(nomatch q),fun _ _ q=>(nomatch q),fun _ q=>(nomatch q),fun _ q=>(nomatch q)⟩
 | ins C dx fs h hd=>rw [h];exact⟨fun _ q=>(nomatch q),fun _ _ q=>(nomatch q),fun _ q=>(nomatch q),fun _ q=>(nomatch q)⟩
 | own C b fs h hb hi=>rw [h];exact⟨fun _ q=>(nomatch q),fun _ _ q=>(nomatch q),fun _ q=>(nomatch q),fun c q=>by cases q;exact hb⟩
theorem dG.obj {a:Addr}(h:dG H L a)(I:Inv X pins σ H s):∃ o,s.heap.get? a=some o/\∀ v,o.data≠.cell v:=by
 cases h with
 | lst xs h =>
  obtain⟨_,its,n,_,ho⟩:=(show bN X.prog X.w H s.heap a (.lst xs) from I.bp a _ h)
  exact⟨_,ho,fun v q=>by cases q⟩
 | dK kvs h =>
  obtain⟨_,_,vs,_,ob,es,ep,e,c⟩:=(show bN X.prog X.w H s.heap a (.dK kvs) from I.bp a _ h)
  exact⟨_,e,fun v q=>by rw [c.2.1] at q;cases q⟩
 | ins C dx fs h hd =>
  obtain⟨_,_,_,e,_⟩:=(show bN X.prog X.w H s.heap a (.ins C dx fs) from I.bp a _ h)
  exact⟨_,e,fun v q=>by cases q⟩
 | own C b fs h hb hi =>
  obtain⟨_,_,_,_,mA,⟨od,es,ep,e2,c⟩,r⟩:=(show bN X.prog X.w H s.heap b (.ins C a fs) from I.bp b _ hi)
  exact⟨_,e2,fun v q=>by rw [c.1] at q;cases q⟩
theorem mR {G:Prop}(I:Inv X pins σ H s)(hL:∀ a∈L,dG H L a)
  (h:∀ pl:List (Addr × Obj),Inv X (pins++pl) σ (aN H L) s->(∀ b∈L,∃ o,(b,o)∈pl)->(∀(σ':St) (H':Hp) (s':Shared),Inv X (pins++pl) σ' H' s'->(∀ b∈L,H' b=none)/\Inv X pins σ' (aa H' H L) s')->G):G:=by
 have memL:∀{b:Addr} {o:Obj},(b,o)∈mV L s.heap ↔ b∈L/\s.heap.get? b=some o:=fun{b o}=>⟨fun q=>oZ q,fun q=>f7 q.1 q.2⟩
 refine h (mV L s.heap) ?_ (fun b hb=>let ⟨o,e,_⟩:=(hL b hb).obj I;⟨o,memL.mpr ⟨hb,e⟩⟩) fun σ' H' s' J=>?_
 ·refine⟨I.ok,I.os,I.bare,⟨I.base.keep,I.base.slot,fun b o q n hx=>iB (I.base.free b o q n hx),I.base.there,fun b xs q=>?_,fun b o u q=>?_,fun b ps q=>?_⟩,I.loc,I.cell,iB I.free,fun x c q=>iB (I.fA x c q),fun p hp=>?_,fun b o q=>?_,I.len⟩
  ·have z:=I.base.qv b xs q
   rw [bC (fun w=>(hL b w).pG.1 _ z)];exact z
  ·have z:=I.base.oB b o u q
   rw [bC (fun w=>(hL b w).pG.2.1 _ _ z)];exact z
  ·obtain⟨more,z⟩:=I.base.qt b ps q
   exact⟨more,by rw [bC (fun w=>(hL b w).pG.2.2.1 _ z)];exact z⟩
  ·rw [<- List.append_assoc] at hp
   rcases List.mem_append.mp hp with z|z
   ·obtain⟨p1,p2,p3,p4,p5⟩:=I.pin p z
    exact⟨p1,iB p2,p3,p4,p5⟩
   ·obtain⟨z1,z2⟩:=oZ z
    obtain⟨o,e⟩:=(hL p.1 z1).there
    refine⟨z2,cK z1,fun w=>?_,(I.Cj e).1,fun v q=>?_⟩
    ·have f:=I.free
     rw [<- w,e] at f
     cases f
    ·obtain⟨ob,e2,nc⟩:=(hL p.1 z1).obj I
     rw [z2] at e2
     cases e2
     exact nc v q
  ·obtain⟨hb,q⟩:=de q
   refine(I.bp b o q).oq (fun _ _ _ z=>z) (fun c hc=>?_) (fun c xs hc=>?_)
   ·rw [bC (fun w=>hb ((hL c w).pG.2.2.2 _ hc))];exact hc
   ·rw [bC (fun w=>(hL c w).pG.1 _ hc)];exact hc
 ·have pin:∀ b∈L,H' b=none/\∀ o,s.heap.get? b=some o->s'.heap.get? b=some o:=fun b hb=>by
   obtain⟨o,e,_⟩:=(hL b hb).obj I
   obtain⟨g1,g2,_⟩:=J.pin (b,o) (List.mem_append_right _ (List.mem_append_right _ (memL.mpr ⟨hb,e⟩)))
   exact⟨g2,fun o' e'=>by rw [e] at e';cases e';exact g1⟩
  refine⟨fun b hb=>(pin b hb).1,⟨J.ok,J.os,J.bare,⟨J.base.keep,J.base.slot,fun b o q n hx=>?_,J.base.there,fun b xs q=>?_,fun b o u q=>?_,fun b ps q=>?_⟩,J.loc,J.cell,?_,fun x c q=>?_,fun p hp=>?_,fun b o q=>?_,J.len⟩⟩
  ·rw [aX (fun w=>let ⟨o',e⟩:=(hL b w).there;(I.Cj e).2.1 b o q n hx rfl)]
   exact J.base.free b o q n hx
  ·have z:=J.base.qv b xs q
   rw [aX (fun w=>by rw [(pin b w).1] at z;cases z)];exact z
  ·have z:=J.base.oB b o u q
   rw [aX (fun w=>by rw [(pin b w).1] at z;cases z)];exact z
  ·obtain⟨more,z⟩:=J.base.qt b ps q
   exact⟨more,by rw [aX (fun w=>by rw [(pin b w).1] at z;cases z)];exact z⟩
  ·rw [aX (fun w=>let ⟨o',e⟩:=(hL _ w).there;by rw [I.free] at e;cases e)]
   exact J.free
  ·rw [aX (fun w=>let ⟨o',e⟩:=(hL _ w).there;by rw [I.fA x c q] at e;cases e)]
   exact J.fA x c q
  ·obtain⟨p1,p2,p3,p4,p5⟩:=J.pin p (by rw [<- List.append_assoc];exact List.mem_append_left _ hp)
   refine⟨p1,?_,p3,p4,p5⟩
   rw [aX (fun w=>let ⟨o',e⟩:=(hL _ w).there;(I.Cj e).2.2.1 p hp rfl)]
   exact p2
  ·by_cases hb:b∈L
   ·rw [ai hb] at q
    have k:=(pin b hb).2
    have w:=hL b hb
    cases w with
    | lst xs h =>
     rw [h] at q;cases q
     obtain⟨hz,its,n,hv,ho⟩:=(show bN X.prog X.w H s.heap b (.lst xs) from I.bp b _ h)
     exact⟨hz,its,n,hv,k _ ho⟩
    | dK kvs h =>
     rw [h] at q;cases q
     obtain⟨z1,z2,vs,hv,ob,es,ep,e,c⟩:=(show bN X.prog X.w H s.heap b (.dK kvs) from I.bp b _ h)
     exact⟨z1,z2,vs,hv,ob,es,ep,k _ e,c⟩
    | ins C dx fs h hd =>
     rw [h] at q;cases q
     obtain⟨d,z,ne,ea,mA,⟨od,es,ep,e2,c⟩,r⟩:=(show bN X.prog X.w H s.heap b (.ins C dx fs) from I.bp b _ h)
     exact⟨by rw [ai hd];exact d,z,ne,k _ ea,mA,⟨od,es,ep,(pin dx hd).2 _ e2,c⟩,r⟩
    | own C a fs h ha hi =>
     rw [h] at q;cases q
     obtain⟨o,e⟩:=(show bN X.prog X.w H s.heap b (.own a) from I.bp b _ h)
     exact⟨o,k _ e⟩
   ·rw [aX hb] at q
    refine(J.bp b o q).oq (fun _ _ _ z=>z) (fun c hc=>?_) (fun c xs hc=>?_)
    ·rw [aX (fun w=>by rw [(pin c w).1] at hc;cases hc)];exact hc
    ·rw [aX (fun w=>by rw [(pin c w).1] at hc;cases hc)];exact hc
end
section
variable {X:Cx}{e:Expr}{te:TE}{tt:TT}{st:Stmt}{ts:TS}{tg iter:Expr}{wi:TI}
def Nw (te:TE):TE:=fun σ H Q=>∃ L,(∀ a∈L,dG H L a)/\te σ (aN H L) fun y H4=>(∀ b∈L,H4 b=none)->Q y (aa H4 H L)
theorem gA (he:PE X e te):PE X e (Nw te):=by
 intro pins s σ H Q I ⟨L,hL,q⟩
 refine mR I hL fun pl I' _ back=>?_
 refine b9 (he (pins++pl) s σ _ _ I' q) fun v s1 ⟨y,H4,I4,r,k⟩=>?_
 obtain⟨z,J⟩:=back _ _ _ I4
 exact⟨y,_,J,r,k z⟩
def Nx (tt:TT):TT:=fun σ H Q=>∃ L,(∀ a∈L,dG H L a)/\tt σ (aN H L) fun y H4=>(∀ b∈L,H4 b=none)->Q y (aa H4 H L)
def tO (D:Ends)(H:Hp)(L:List Addr):Ends:=⟨fun σ' H4=>(∀ b∈L,H4 b=none)->D.nx σ' (aa H4 H L),fun v H4=>(∀ b∈L,H4 b=none)->D.rt v (aa H4 H L),
 fun σ' H4=>(∀ b∈L,H4 b=none)->D.bk σ' (aa H4 H L),fun σ' H4=>(∀ b∈L,H4 b=none)->D.ct σ' (aa H4 H L)⟩
def MN (ts:TS):TS:=fun D σ H=>∃ L,(∀ a∈L,dG H L a)/\ts (tO D H L) σ (aN H L)
theorem zg {pins pl:List (Addr × Obj)}{D:Ends}{H:Hp}{L:List Addr}{f:Flow}{s1:Shared}(back:∀(σ':St) (H':Hp) (s':Shared),Inv X (pins++pl) σ' H' s'->(∀ b∈L,H' b=none)/\Inv X pins σ' (aa H' H L) s')
  (hq:SP X (pins++pl) (tO D H L) f s1):SP X pins D f s1:=by
 cases f with
 | next=>obtain⟨σ',H',J,k⟩:=hq;obtain⟨z,J'⟩:=back _ _ _ J;exact⟨σ',_,J',k z⟩
 | brk=>obtain⟨σ',H',J,k⟩:=hq;obtain⟨z,J'⟩:=back _ _ _ J;exact⟨σ',_,J',k z⟩
 | cont=>obtain⟨σ',H',J,k⟩:=hq;obtain⟨z,J'⟩:=back _ _ _ J;exact⟨σ',_,J',k z⟩
 | ret u=>obtain⟨v,σ',H',J,r,k⟩:=hq;obtain⟨z,J'⟩:=back _ _ _ J;exact⟨v,σ',_,J',r,k z⟩
theorem C0 (he:PS X st ts):PS X st (MN ts):=by
 intro pins s σ H D I ⟨L,hL,q⟩
 refine mR I hL fun pl I' _ back=>?_
 exact b9 (he (pins++pl) s σ _ _ I' q) fun f s1 hq=>zg back hq
theorem Fj {rest:List Stmt}(he:mG X rest ts):mG X rest (MN ts):=by
 intro pins s σ H D I ⟨L,hL,q⟩
 refine mR I hL fun pl I' _ back=>?_
 exact b9 (he (pins++pl) s σ _ _ I' q) fun f s1 hq=>zg back hq
def NX (wi:TI):TI:=fun σ H R=>∃ L,(∀ a∈L,dG H L a)/\wi σ (aN H L) fun J H4=>(∀ b∈L,H4 b=none)->R J (aa H4 H L)
theorem Cy (he:PI X tg iter wi):PI X tg iter (NX wi):=by
 intro pins s σ H R I ⟨L,hL,q⟩
 refine mR I hL fun pl I' hpl back=>?_
 refine b9 (he (pins++pl) s σ _ _ I' q) fun v s1 h1=>b9 h1 fun itv s2 ⟨it,fp,tn,J,H',e1,I2,T,t0,hf,k⟩=>?_
 obtain⟨z,J2⟩:=back _ _ _ I2
 have hn:∀ b∈fp,b∉L:=fun b hb hl=>let ⟨o,ho⟩:=hpl b hl;(hf b hb).2.2.2.2.2 (b,o) (List.mem_append_right _ (List.mem_append_right _ ho)) rfl
 refine⟨it,fp,tn,J,_,e1,J2,T,t0,fun b hb=>?_,k z⟩
 obtain⟨f1,f2,f3,f4,f5,f6⟩:=hf b hb
 exact⟨by rw [aX (hn b hb)];exact f1,f2,f3,f4,f5,fun p hp=>f6 p (by rw [<- List.append_assoc];exact List.mem_append_left _ hp)⟩
end
theorem vW {H:Hp}{a:Addr}:aN H [a]=del H a:=by
 funext b
 by_cases h:b=a
 ·rw [h,cK List.mem_cons_self,Bp]
 ·rw [bC (fun z=>h (List.mem_singleton.mp z)),qF h]
theorem sL {H H':Hp}{a:Addr}{o:HO}(e:H a=some o):aa H' H [a]=upd H' a o:=by
 funext b
 by_cases h:b=a
 ·rw [h,ai List.mem_cons_self,aJ,e]
 ·rw [aX (fun z=>h (List.mem_singleton.mp z)),aG h]
theorem vX {H:Hp}{a dx:Addr}:aN H [a,dx]=dM H a dx:=by
 funext b
 unfold aN dM
 simp
theorem sM {H H':Hp}{a dx C:Addr}{fs:List (Str × V)}(ea:H a=some (.ins C dx fs))(ed:H dx=some (.own a)):aa H' H [a,dx]=shown H' a dx C fs:=by
 funext b
 unfold shown
 by_cases h:b=a
 ·rw [h,ai List.mem_cons_self,aJ,ea]
 ·rw [aG h]
  by_cases h2:b=dx
  ·rw [h2,ai (List.mem_cons_of_mem _ List.mem_cons_self),aJ,ed]
  ·rw [aX (fun z=>by simp at z;exact z.elim h h2),aG h2]
section
variable {X:Cx}{e:Expr}{te:TE}{tt:TT}{st:Stmt}{ts:TS}
theorem lM (he:PE X e te):PE X e (qp te):=fun pins s σ H Q I ⟨D,ys,hD,q⟩ =>
 gA he pins s σ H Q I ⟨[D],fun a ha=>by rw [List.mem_singleton.mp ha];exact .lst ys hD,by rw [vW];simpa only [sL hD,List.mem_singleton,forall_eq] using q⟩
theorem Fm {ifs:List Expr}(he:ye X ifs tt):ye X ifs (Nx tt):=by
 intro pins s σ H Q I ⟨L,hL,q⟩
 refine mR I hL fun pl I' _ back=>?_
 refine b9 (he (pins++pl) s σ _ _ I' q) fun v s1 ⟨H4,I4,k⟩=>?_
 obtain⟨z,J⟩:=back _ _ _ I4
 exact⟨_,J,k z⟩
theorem iw {ifs:List Expr}(he:ye X ifs tt):ye X ifs (qw tt):=fun pins s σ H Q I ⟨D,ys,hD,q⟩ =>
 Fm he pins s σ H Q I ⟨[D],fun a ha=>by rw [List.mem_singleton.mp ha];exact .lst ys hD,by rw [vW];simpa only [sL hD,List.mem_singleton,forall_eq] using q⟩
theorem Dh {pins:List (Addr × Obj)}{σ:St}{H:Hp}{s:Shared}{a dx C:Addr}{fs:List (Str × V)}(I:Inv X pins σ H s)(ha:H a=some (.ins C dx fs)):H dx=some (.own a)/\dx≠a/\∀ b∈[a,dx],dG H [a,dx] b:=by
 obtain⟨d,_,ne,_⟩:=(show bN X.prog X.w H s.heap a (.ins C dx fs) from I.bp a _ ha)
 refine⟨d,ne,fun b hb=>?_⟩
 rcases List.mem_cons.mp hb with rfl|hb
 ·exact .ins C dx fs ha (by simp)
 ·rw [List.mem_singleton.mp hb];exact .own C a fs d (by simp) ha
theorem yA (he:PE X e te):PE X e (F6 te):=fun pins s σ H Q I ⟨a,dx,C,fs,ha,q⟩=>by
 obtain⟨d,ne,ok⟩:=Dh I ha
 refine gA he pins s σ H Q I ⟨[a,dx],ok,?_⟩
 rw [vX]
 simp only [sM ha d,List.mem_cons,List.not_mem_nil,or_false,forall_eq_or_imp,forall_eq]
 exact(show(fun y H4=>H4 a=none->H4 dx=none->dx≠a->Q y (shown H4 a dx C fs))=fun y H4=>H4 a=none/\H4 dx=none->Q y (shown H4 a dx C fs) by funext y H4;simp [ne]) ▸ q
theorem yD (he:PS X st ts):PS X st (Fv ts):=fun pins s σ H D I ⟨a,dx,C,fs,ha,q⟩=>by
 obtain⟨d,ne,ok⟩:=Dh I ha
 refine C0 he pins s σ H D I ⟨[a,dx],ok,?_⟩
 rw [vX]
 have e:tO D H [a,dx]=⟨fun σ' H4=>H4 a=none->H4 dx=none->dx≠a->D.nx σ' (shown H4 a dx C fs),fun v H4=>H4 a=none->H4 dx=none->dx≠a->D.rt v (shown H4 a dx C fs),
  fun σ' H4=>H4 a=none->H4 dx=none->dx≠a->D.bk σ' (shown H4 a dx C fs),fun σ' H4=>H4 a=none->H4 dx=none->dx≠a->D.ct σ' (shown H4 a dx C fs)⟩:=by
  unfold tO
  simp [sM ha d,ne]
 rw [e]
 exact q
end
end L2
namespace DC
open PySem PySem.Spec PyProof.Rows L2
inductive D where
 | aj|bl (b:Bool)|int (i:Int)|str (x:Str)
 | lst (xs:List D)|tup (xs:List D)
 | obj (C:Addr) (fs:List (Str × D))
 | dK (kvs:List (Key × D))|dT (kvs:List (List Key × D))
 | adr (a:Addr)
 | exc (a C:Addr) (fs:List (Str × D))
def HL (a C:Addr)(dx:Option Addr):HO:=.ext fun h=>∃ oe vs,h.get? a=some oe/\oe.cls=.ref C/\oe.dict=dx/\oe.data=.fields vs/\vs[2]?=some .none
def MB (d:Addr)(fs:List (Str × V)):HO:=.ext fun h=>∃ mA,h.Ns1 d mA/\(∀ f,jN (fs.lookup f) (mA f))/\PySem.Within mA (fs.map (·.1))
def o4 (H:Hp)(dx:Option Addr)(fs:List (Str × V)):Prop:=match dx with
 | none=>fs=[]
 | some d=>Rd H d (MB d fs)
theorem lN {H H':Hp}{a:Addr}{u:HO}(s:aK H H')(r:Rd H a u):Rd H' a u:=by
 rcases r with r|⟨o,r⟩
 ·exact .inl (s _ _ r)
 ·exact .inr ⟨o,s _ _ r⟩
theorem o4.same {H H':Hp}{dx:Option Addr}{fs:List (Str × V)}(s:aK H H')(h:o4 H dx fs):o4 H' dx fs:=by
 cases dx with
 | none=>exact h
 | some d=>exact lN s h
mutual
inductive Dv (K:PySem.W.Frag) (H:Hp):V->D->Prop
 | aj:Dv K H .aj .aj
 | bl (b:Bool):Dv K H (.bl b) (.bl b)
 | int (i:Int):Dv K H (.int i) (.int i)
 | str (x:Str):Dv K H (.str x) (.str x)
 | lst {a:Addr} {xs:List V} {ds:List D}:dg K H a xs->bS K H xs ds->Dv K H (.ref a) (.lst ds)
 | tup {a:Addr} {xs:List V} {ds:List D}:iY K H a xs->bS K H xs ds->Dv K H (.ref a) (.tup ds)
 | obj {a C dx:Addr} {fs:List (Str × V)} {gs:List (Str × D)}:Rd H a (.ins C dx fs)->gM K H fs gs->Dv K H (.ref a) (.obj C gs)
 | dK {a:Addr} {kvs:List (Key × V)} {gs:List (Key × D)}:Rd H a (.dK kvs)->di K H kvs gs->Dv K H (.ref a) (.dK gs)
 | dT {a:Addr} {kvs:List (List Key × V)} {gs:List (List Key × D)}:Rd H a (.dT kvs)->yX K H kvs gs->Dv K H (.ref a) (.dT gs)
 | adr (a:Addr):Dv K H (.ref a) (.adr a)
 | exc {a C:Addr} {dx:Option Addr} {fs:List (Str × V)} {gs:List (Str × D)}:Rd H a (HL a C dx)->o4 H dx fs->gM K H fs gs->Dv K H (.ref a) (.exc a C gs)
inductive bS (K:PySem.W.Frag) (H:Hp):List V->List D->Prop
 | nil:bS K H [] []
 | cons {x:V} {d:D} {xs:List V} {ds:List D}:Dv K H x d->bS K H xs ds->bS K H (x::xs) (d::ds)
inductive gM (K:PySem.W.Frag) (H:Hp):List (Str × V)->List (Str × D)->Prop
 | nil:gM K H [] []
 | cons {k:Str} {x:V} {d:D} {xs:List (Str × V)} {ds:List (Str × D)}:Dv K H x d->gM K H xs ds->gM K H ((k,x)::xs) ((k,d)::ds)
inductive di (K:PySem.W.Frag) (H:Hp):List (Key × V)->List (Key × D)->Prop
 | nil:di K H [] []
 | cons {k:Key} {x:V} {d:D} {xs:List (Key × V)} {ds:List (Key × D)}:Dv K H x d->di K H xs ds->di K H ((k,x)::xs) ((k,d)::ds)
inductive yX (K:PySem.W.Frag) (H:Hp):List (List Key × V)->List (List Key × D)->Prop
 | nil:yX K H [] []
 | cons {k:List Key} {x:V} {d:D} {xs:List (List Key × V)} {ds:List (List Key × D)}:Dv K H x d->yX K H xs ds->yX K H ((k,x)::xs) ((k,d)::ds)
end
theorem wN {K:PySem.W.Frag}{H H':Hp}{a:Addr}{xs:List V}(e:aK H H')(h:iY K H a xs):iY K H' a xs:=by
 rcases h with(h|⟨o,h⟩)|h
 ·exact .inl (.inl (e _ _ h))
 ·exact .inl (.inr ⟨o,e _ _ h⟩)
 ·exact .inr h
section
variable {K:PySem.W.Frag}{H H':Hp}
mutual
theorem Dv.same (s:aK H H'):∀{v:V} {d:D},Dv K H v d->Dv K H' v d
 | _,_,.aj=>.aj
 | _,_,.bl b=>.bl b
 | _,_,.int i=>.int i
 | _,_,.str x=>.str x
 | _,_,.lst h1 h2=>.lst (s.seq h1) (bS.same s h2)
 | _,_,.tup h1 h2=>.tup (wN s h1) (bS.same s h2)
 | _,_,.obj h1 h2=>.obj (lN s h1) (gM.same s h2)
 | _,_,.dK h1 h2=>.dK (lN s h1) (di.same s h2)
 | _,_,.dT h1 h2=>.dT (lN s h1) (yX.same s h2)
 | _,_,.adr a=>.adr a
 | _,_,.exc h1 h2 h3=>.exc (lN s h1) (h2.same s) (gM.same s h3)
theorem bS.same (s:aK H H'):∀{vs:List V} {ds:List D},bS K H vs ds->bS K H' vs ds
 | _,_,.nil=>.nil
 | _,_,.cons h1 h2=>.cons (Dv.same s h1) (bS.same s h2)
theorem gM.same (s:aK H H'):∀{vs:List (Str × V)} {ds:List (Str × D)},gM K H vs ds->gM K H' vs ds
 | _,_,.nil=>.nil
 | _,_,.cons h1 h2=>.cons (Dv.same s h1) (gM.same s h2)
theorem di.same (s:aK H H'):∀{vs:List (Key × V)} {ds:List (Key × D)},di K H vs ds->di K H' vs ds
 | _,_,.nil=>.nil
 | _,_,.cons h1 h2=>.cons (Dv.same s h1) (di.same s h2)
theorem yX.same (s:aK H H'):∀{vs:List (List Key × V)} {ds:List (List Key × D)},yX K H vs ds->yX K H' vs ds
 | _,_,.nil=>.nil
 | _,_,.cons h1 h2=>.cons (Dv.same s h1) (yX.same s h2)
end
theorem bS.length:∀{vs:List V} {ds:List D},bS K H vs ds->vs.length=ds.length
 | _,_,.nil=>rfl
 | _,_,.cons _ h=>congrArg (·+1) (bS.length h)
theorem bS.get:∀{vs:List V} {ds:List D} {i:Nat} {d:D},bS K H vs ds->ds[i]?=some d->∃ v,vs[i]?=some v/\Dv K H v d
 | _,_,_,_,.nil,e=>by simp at e
 | _,_,0,_,.cons h _,e=>by simp at e;subst e;exact⟨_,rfl,h⟩
 | _,_,i+1,d,.cons _ h,e=>by
  obtain⟨v,h1,h2⟩:=bS.get (i:=i) (d:=d) h (by simpa using e)
  exact⟨v,by simpa using h1,h2⟩
theorem bS.Ef:∀{vs:List V} {ds:List D} {i:Nat} {v:V},bS K H vs ds->vs[i]?=some v->∃ d,ds[i]?=some d/\Dv K H v d
 | _,_,_,_,.nil,e=>by simp at e
 | _,_,0,_,.cons h _,e=>by simp at e;subst e;exact⟨_,rfl,h⟩
 | _,_,i+1,v,.cons _ h,e=>by
  obtain⟨d,h1,h2⟩:=bS.Ef (i:=i) (v:=v) h (by simpa using e)
  exact⟨d,by simpa using h1,h2⟩
theorem bS.append:∀{vs ws:List V} {ds es:List D},bS K H vs ds->bS K H ws es->bS K H (vs++ws) (ds++es)
 | _,_,_,_,.nil,h=>h
 | _,_,_,_,.cons a r,h=>.cons a (bS.append r h)
theorem bS.take:∀{vs:List V} {ds:List D} (n:Nat),bS K H vs ds->bS K H (vs.take n) (ds.take n)
 | _,_,0,_=>.nil
 | _,_,_+1,.nil=>.nil
 | _,_,n+1,.cons r t=>.cons r (bS.take n t)
theorem bS.drop:∀{vs:List V} {ds:List D} (n:Nat),bS K H vs ds->bS K H (vs.drop n) (ds.drop n)
 | _,_,0,r=>r
 | _,_,_+1,.nil=>.nil
 | _,_,n+1,.cons _ t=>bS.drop n t
theorem gM.look:∀{fs:List (Str × V)} {gs:List (Str × D)} {f:Str} {d:D},gM K H fs gs->gs.lookup f=some d->∃ v,fs.lookup f=some v/\Dv K H v d
 | _,_,_,_,.nil,e=>by simp at e
 | _,_,f,d,.cons (k:=k) h r,e=>by
  rw [List.lookup_cons] at e ⊢
  cases q:f == k with
  | true =>
   rw [q] at e
   cases e
   exact⟨_,rfl,h⟩
  | false =>
   rw [q] at e
   exact gM.look r e
theorem gM.none:∀{fs:List (Str × V)} {gs:List (Str × D)} {f:Str},gM K H fs gs->gs.lookup f=Option.none->fs.lookup f=Option.none
 | _,_,_,.nil,_=>rfl
 | _,_,f,.cons (k:=k) h r,e=>by
  rw [List.lookup_cons] at e ⊢
  cases q:f == k with
  | true=>rw [q] at e;cases e
  | false =>
   rw [q] at e
   exact gM.none r e
end
section
variable {X:Cx}{pins:List (Addr × Obj)}{σ:L2.St}{H:Hp}{s:Shared}{a C dx:Addr}{fs:List (Str × V)}{f:Str}{v:V}{A:Around}{E:Value->Shared->Prop}
theorem qN {P:Program}{w:World}{h:Heap}(bp:ku P w H h)(e:Rd H a (.ins C dx fs)):∃ mA,u0 h a dx C mA/\(∀ f,jN (fs.lookup f) (mA f))/\PySem.Within mA (fs.map (·.1))/\fs.length<=1000/\H dx=some (.own a):=by
 obtain⟨d,z,ne,ob,mA,n,r,q⟩:=(show bN P w H h a (.ins C dx fs) from e.ok bp)
 exact⟨mA,⟨ob,n,ne⟩,r,q,z,d⟩
theorem vV {b:Bool}{Q:Value->Shared->Prop}(I:Inv X pins σ H s)(e:Rd H a (.ins C dx fs))(c:q_ X.K C)(n:cq X.K C f)(l:fs.lookup f=some v)
  (h:∀ u s',Inv X pins σ H s'->RelV v u->Q u s'):wpAny (model X.prog X.w) A (getAttr (.ref a) f b) Q E s:=by
 obtain⟨mA,O,r,_,_,_⟩:=qN I.bp e
 obtain⟨u,hu,ru⟩:=jN.some_of (v:=v) (o:=mA f) (by rw [<- l];exact r f)
 exact get_map I.uv O (c.get f) c.hd n hu (AE ru) (h u _ (I.tok _) ru)
theorem pB {m:Str}{g:Addr}{pl:Sem Bool}{Q:Value × List Value->Shared->Prop}(I:Inv X pins σ H s)(e:Rd H a (.ins C dx fs))(c:q_ X.K C)(k:Meth X.K C m g)(l:fs.lookup m=none)
  (h:Q (.ref g,[.ref a]) s):wpAny (model X.prog X.w) A (getMethod (.ref a) m pl) Q E s:=by
 obtain⟨mA,O,r,_,_,_⟩:=qN I.bp e
 have hn:mA m=none:=jN.none_of (by rw [<- l];exact r m)
 exact B8 I.uv O (c.get m) k.at_ k.fn hn h
def LS (K:PySem.W.Frag)(ta:TE)(f:Str):TE:=fun σ H Q=>ta σ H fun x H1=>∃ a C dx fs v,x=.ref a/\Rd H1 a (.ins C dx fs)/\q_ K C/\cq K C f/\fs.lookup f=some v/\Q v H1
theorem Fc {e:Expr}{ta:TE}{pos:Pos}(he:PE X e ta)(hb:attributeBase e f X.env (eval e X.env)=eval e X.env):PE X (.Attribute e f pos) (LS X.K ta f):=by
 intro pins s σ H Q I h
 refine D9 hb (b9 (he pins s σ H _ I h) fun u s1 ⟨x,H1,I1,rx,a,C,dx,fs,v,ex,ea,c,n,l,q⟩=>?_)
 subst ex
 obtain rfl:u=Value.ref a:=rx
 exact vV I1 ea c n l fun u' s2 I2 ru=>⟨v,H1,I2,ru,q⟩
end
abbrev SD:=List (Option D)
abbrev ED:=SD->(D->Prop)->Prop
abbrev TD:=SD->(Bool->Prop)->Prop
abbrev AD:=SD->(List D->Prop)->Prop
structure bf (K:PySem.W.Frag) (H:Hp) (σ:L2.St) (δ:SD):Prop where
 len:σ.length=δ.length
 get:∀(i:Nat) (d:D),δ[i]?=some (some d)->∃ v,σ[i]?=some (some v)/\Dv K H v d
theorem bf.same {K:PySem.W.Frag}{H H':Hp}{σ:L2.St}{δ:SD}(r:bf K H σ δ)(s:aK H H'):bf K H' σ δ :=
 ⟨r.len,fun i d h=>let ⟨v,h1,h2⟩:=r.get i d h;⟨v,h1,h2.same s⟩⟩
theorem bf.set {K:PySem.W.Frag}{H:Hp}{σ:L2.St}{δ:SD}(r:bf K H σ δ){v:V}{d:D}(i:Nat)(h:Dv K H v d):bf K H (σ.set i (some v)) (δ.set i (some d)):=by
 refine⟨by rw [List.length_set,List.length_set];exact r.len,fun j e hj=>?_⟩
 rw [List.getElem?_set] at hj ⊢
 split at hj
 ·rename_i q
  subst q
  have hl:=r.len
  split at hj
  ·rename_i q2
   cases hj
   exact⟨v,by rw [if_pos rfl,if_pos (by omega)],h⟩
  ·cases hj
 ·rename_i q
  rw [if_neg q]
  exact r.get j e hj
def kD (K:PySem.W.Frag)(H:Hp)(Q:VK):D->Prop:=fun d=>∀ v H',aK H H'->Dv K H' v d->Q v H'
def kB (H:Hp)(Q:Bool->Hp->Prop):Bool->Prop:=fun b=>∀ H',aK H H'->Q b H'
def kA (K:PySem.W.Frag)(H:Hp)(Q:List V->Hp->Prop):List D->Prop:=fun ds=>∀ vs H',aK H H'->bS K H' vs ds->Q vs H'
theorem kD.on {K:PySem.W.Frag}{H H1:Hp}{Q:VK}{d:D}(s:aK H H1)(h:kD K H Q d):kD K H1 Q d:=fun v H' s' dv=>h v H' (s.trans s') dv
theorem kB.on {H H1:Hp}{Q:Bool->Hp->Prop}{b:Bool}(s:aK H H1)(h:kB H Q b):kB H1 Q b:=fun H' s'=>h H' (s.trans s')
def oE (K:PySem.W.Frag)(t:ED):TE:=fun σ H Q=>∃ δ,bf K H σ δ/\t δ (kD K H Q)
def oT (K:PySem.W.Frag)(t:TD):TT:=fun σ H Q=>∃ δ,bf K H σ δ/\t δ (kB H Q)
def oA (K:PySem.W.Frag)(t:AD):TA:=fun σ H Q=>∃ δ,bf K H σ δ/\t δ (kA K H Q)
abbrev bV (t:ED):Prop:=∀ δ (P P':D->Prop),(∀ d,P d->P' d)->t δ P->t δ P'
structure PD (X:Cx) (e:Expr) (t:ED):Prop where
 pe:PE X e (oE X.K t)
 mono:bV t
structure mH (X:Cx) (e:Expr) (t:TD):Prop where
 pt:PT X e (oT X.K t)
 mono:∀ δ (P P':Bool->Prop),(∀ d,P d->P' d)->t δ P->t δ P'
structure o3 (X:Cx) (e:Expr) (t:TD):Prop where
 pw:PW X e (oT X.K t)
 mono:∀ δ (P P':Bool->Prop),(∀ d,P d->P' d)->t δ P->t δ P'
structure pR (X:Cx) (es:List Expr) (t:AD):Prop where
 pa:PA X es (oA X.K t)
 mono:∀ δ (P P':List D->Prop),(∀ d,P d->P' d)->t δ P->t δ P'
theorem PT.imp {X:Cx}{e:Expr}{t t':TT}(h:PT X e t)(f:∀ σ H Q,t' σ H Q->t σ H Q):PT X e t':=fun pins s σ H Q I q=>h pins s σ H Q I (f σ H Q q)
theorem PW.imp {X:Cx}{e:Expr}{t t':TT}(h:PW X e t)(f:∀ σ H Q,t' σ H Q->t σ H Q):PW X e t':=fun wh pins s σ H Q I q=>h wh pins s σ H Q I (f σ H Q q)
theorem PA.imp {X:Cx}{es:List Expr}{t t':TA}(h:PA X es t)(f:∀ σ H Q,t' σ H Q->t σ H Q):PA X es t':=fun p pins s σ H Q I q=>h p pins s σ H Q I (f σ H Q q)
section
variable {X:Cx}{e a b c:Expr}{es rest:List Expr}{pos:Pos}{ta tb tc:ED}
def ny (i:Nat):ED:=fun δ Q=>∃ d,δ[i]?=some (some d)/\Q d
def vC (d:D):ED:=fun _ Q=>Q d
theorem MJ {i:Nat}(h:PE X e (Ay i)):PD X e (ny i) :=
 ⟨h.imp fun σ H Q ⟨δ,r,d,hd,k⟩=>let ⟨v,hv,dv⟩:=r.get i d hd;⟨v,hv,k v H (aK.refl _) dv⟩,fun δ P P' f ⟨d,hd,k⟩=>⟨d,hd,f d k⟩⟩
theorem dv (i:Nat){x:Str}{pos:Pos}(hN:X.N[i]?=some x:=by rfl)(hv:ur X.env.scope x:=by first|exact Or.inl rfl|exact Or.inr (Or.inl rfl)|exact Or.inr (Or.inr rfl))(hd:(x == ("__debug__":Str))=false:=by decide)
  (hcd:(x == ("__classdict__":Str))=false:=by decide):PD X (.Name x pos) (ny i):=MJ (pv i hN hv hd hcd)
theorem J1 {v:V}{d:D}(h:PE X e (tC v))(hv:∀ H,Dv X.K H v d):PD X e (vC d) :=
 ⟨h.imp fun σ H Q ⟨δ,r,k⟩=>k v H (aK.refl _) (hv H),fun δ P P' f k=>f d k⟩
theorem aD {i j pos}:PD X (.Constant (.int i) j pos) (vC (.int i)):=J1 Iw fun _=>.int i
theorem tF {i j pos}:PD X (.Constant (.bool i) j pos) (vC (.bl i)):=J1 Kx fun _=>.bl i
theorem aZ {i j pos}:PD X (.Constant (.str i) j pos) (vC (.str i)):=J1 I_ fun _=>.str i
theorem jY {j pos}:PD X (.Constant .none j pos) (vC .aj):=J1 Iy fun _=>.aj
theorem dq {x:Str}{v:V}{u:Value}{d:D}{pos:Pos}(hg:Gl X x)(hm:X.mg x=some u)(r:RelV v u)(hv:∀ H,Dv X.K H v d)(hd:(x == ("__debug__":Str))=false:=by decide):PD X (.Name x pos) (vC d):=J1 (zR hg hm r hd) hv
abbrev F2:=D->D->(D->Prop)->Prop
abbrev e7 (f:F2):Prop:=∀ d e (P P':D->Prop),(∀ r,P r->P' r)->f d e P->f d e P'
def qx (f:F2)(ta tb:ED):ED:=fun δ Q=>ta δ fun d=>tb δ fun e=>f d e Q
def hV (K:PySem.W.Frag)(r:R2)(f:F2):Prop:=∀ H x y d e Q,Dv K H x d->Dv K H y e->f d e (kD K H Q)->r x y H Q
theorem vL {t:TE}{r:R2}{f:F2}(hp:PE X e (JZ r (oE X.K ta) (oE X.K tb)))(ma:bV ta)(mb:bV tb)(hd:hV X.K r f)(hf:e7 f):PD X e (qx f ta tb):=by
 refine⟨hp.imp fun σ H Q ⟨δ,r,h⟩=>⟨δ,r,ma _ _ _ (fun d hd' v H1 s1 dv=>⟨δ,r.same s1,mb _ _ _ (fun e he w H2 s2 ew=>hd H2 v w d e Q (dv.same s2) ew (hf d e _ _ (fun z hz=>hz.on (s1.trans s2)) he)) hd'⟩) h⟩,?_⟩
 exact fun δ P P' g h=>ma _ _ _ (fun d h'=>mb _ _ _ (fun e h''=>hf d e _ _ g h'') h') h
theorem z7 {op:Operator}{r:R2}{f:F2}(ho:gx X (binaryOp op) r)(hd:hV X.K r f)(hf:e7 f)(ha:PD X a ta)(hb:PD X b tb):PD X (.BinOp a op b pos) (qx f ta tb) :=
 vL (t:=oE X.K ta) (Ky ho ha.pe hb.pe) ha.mono hb.mono hd hf
theorem rS {op:CmpOp}{r:R2}{f:F2}(ho:gx X (compareOp op) r)(hd:hV X.K r f)(hf:e7 f)(ha:PD X a ta)(hb:PD X b tb)(hm:behindInMarks op b=false):PD X (.Compare a [op] [b] pos) (qx f ta tb) :=
 vL (t:=oE X.K ta) (FZ ho ha.pe hb.pe hm) ha.mono hb.mono hd hf
end
section
variable {X:Cx}
theorem FO:gx X (binaryOp .Add) (fun x y H Q=>∃ a b xs ys,x=.ref a/\y=.ref b/\dg X.K H a xs/\dg X.K H b ys/\xs.length+ys.length<=sizeLine/\∀ p,H p=none->Q (.ref p) (upd H p (.lst (xs++ys)))):=by
 intro pins s σ H x y v u Q I rx ry h
 obtain⟨a,b,xs,ys,rfl,rfl,ha,hb,hz,q⟩:=h
 cases(show v=Value.ref a from rx)
 cases(show u=Value.ref b from ry)
 obtain⟨its,r1,p1,_⟩:=I.list ha
 obtain⟨its2,r2,p2,_⟩:=I.list hb
 have hl1:=r1.length
 have hl2:=r2.length
 obtain⟨⟨cls,dd,data,sl⟩,ho,hc,n,hd⟩:=id p1.isList
 obtain⟨⟨cls2,dd2,data2,sl2⟩,ho2,hc2,n2,hd2⟩:=id p2.isList
 simp only at hc hd hc2 hd2
 subst hc hd hc2 hd2
 have e:its.toArray++its2.toArray=(its++its2).toArray:=by simp
 refine concat_meets ⟨_,ho,rfl⟩ ⟨_,ho2,rfl⟩ noFill_list_add seq_list_add PySem.F.slot_list_add PySem.F.entry_list_add (PySem.F.args_list_add_2 _ _)
  (list_addW a b its.toArray its2.toArray n n2 dd dd2 sl sl2 (by rw [List.size_toArray,List.size_toArray];omega)) ⟨ho,ho2,?_⟩
 rw [e]
 exact⟨.ref _,_,I.Mb (t':=s.toks) (r1.append r2) (by rw [List.length_append];omega),rfl,q _ I.fresh⟩
theorem FP:gx X (binaryOp .Add) (fun x y H Q=>∃ a b ys,x=.ref a/\y=.ref b/\iY X.K H a []/\iY X.K H b ys/\Q (.ref b) H):=by
 intro pins s σ H x y v u Q I rx ry h
 obtain⟨a,b,ys,rfl,rfl,ha,hb,q⟩:=h
 cases(show v=Value.ref a from rx)
 cases(show u=Value.ref b from ry)
 obtain⟨its,r1,p1,_⟩:=I.tuple ha
 obtain⟨its2,r2,p2,_⟩:=I.tuple hb
 have e1:its=[]:=r1.zero
 subst e1
 obtain⟨⟨cls,dd,data,sl⟩,ho,hc,n,hd⟩:=id p1
 obtain⟨⟨cls2,dd2,data2,sl2⟩,ho2,hc2,n2,hd2⟩:=id p2
 simp only at hc hd hc2 hd2
 subst hc hd hc2 hd2
 exact concat_meets ⟨_,ho,rfl⟩ ⟨_,ho2,rfl⟩ noFill_tuple_add seq_tuple_add PySem.F.slot_tuple_add PySem.F.entry_tuple_add (PySem.F.args_tuple_add_2 _ _)
  (tuple_addW0 a b #[] its2.toArray n n2 dd dd2 sl sl2 rfl) ⟨ho,ho2,⟨.ref b,H,I,rfl,q⟩⟩
end
section
variable {K:PySem.W.Frag}
def Eb:F2:=fun d e Q=>match d,e with
 | .int i,.int j=>Q (.int (i+j))
 | .str x,.str y=>x.length+y.length<=sizeLine/\Q (.str (x++y))
 | .lst xs,.lst ys=>xs.length+ys.length<=sizeLine/\Q (.lst (xs++ys))
 | .tup xs,.tup ys=>xs.length+ys.length<=sizeLine/\Q (.tup (xs++ys))
 | _,_=>False
theorem Kh:e7 Eb:=by
 intro d e P P' g h
 unfold Eb at h ⊢
 split at h
 ·exact g _ h
 ·exact⟨h.1,g _ h.2⟩
 ·exact⟨h.1,g _ h.2⟩
 ·exact⟨h.1,g _ h.2⟩
 ·exact h.elim
def G3 (K:PySem.W.Frag):R2:=fun x y H Q=>(∃ i j,x=.int i/\y=.int j/\Q (.int (i+j)) H)\/(∃ i j,x=.str i/\y=.str j/\i.length+j.length<=sizeLine/\Q (.str (i++j)) H) \/
 (∃ a b xs ys,x=.ref a/\y=.ref b/\dg K H a xs/\dg K H b ys/\xs.length+ys.length<=sizeLine/\∀ p,H p=none->Q (.ref p) (upd H p (.lst (xs++ys)))) \/
 G4 K x y H Q\/(∃ a b ys,x=.ref a/\y=.ref b/\iY K H a []/\iY K H b ys/\Q (.ref b) H)
theorem FN {X:Cx}:gx X (binaryOp .Add) (G3 X.K):=Ij.or (xt.or (FO.or (FQ.or FP)))
theorem Bu:hV K (G3 K) Eb:=by
 intro H x y d e Q hx hy h
 cases hx with
 | int i=>cases hy with
  | int j=>exact .inl ⟨i,j,rfl,rfl,h _ H (aK.refl _) (.int _)⟩
  | _=>exact h.elim
 | str i=>cases hy with
  | str j=>exact .inr (.inl ⟨i,j,rfl,rfl,h.1,h.2 _ H (aK.refl _) (.str _)⟩)
  | _=>exact h.elim
 | lst h1 h2=>cases hy with
  | lst g1 g2 =>
   refine .inr (.inr (.inl ⟨_,_,_,_,rfl,rfl,h1,g1,?_,fun p hp=>?_⟩))
   ·rw [h2.length,g2.length];exact h.1
   ·exact h.2 _ _ (aw hp) (.lst (dg.of aJ) ((h2.append g2).same (aw hp)))
  | _=>exact h.elim
 | tup h1 h2=>cases hy with
  | tup g1 g2 =>
   have z:=h.1
   rw [<- h2.length,<- g2.length] at z
   cases h2 with
   | nil=>exact .inr (.inr (.inr (.inr ⟨_,_,_,rfl,rfl,h1,g1,h.2 _ H (aK.refl _) (.tup g1 g2)⟩)))
   | cons a r =>
    refine .inr (.inr (.inr (.inl ⟨_,_,_,_,rfl,rfl,h1,g1,(fun q=>nomatch q),z,fun e=>?_,fun e p hp=>?_⟩)))
    ·subst e
     cases g2
     have q:=h.2
     rw [List.append_nil] at q
     exact q _ H (aK.refl _) (.tup h1 (.cons a r))
    ·exact h.2 _ _ (aw hp) (.tup (iY.of aJ) (((bS.cons a r).append g2).same (aw hp)))
  | _=>exact h.elim
 | _=>exact h.elim
def fI (C:Int->Int->Prop)(g:Int->Int->D):F2:=fun d e Q=>match d,e with
 | .int i,.int j=>C i j/\Q (g i j)
 | _,_=>False
theorem Md {C:Int->Int->Prop}{g:Int->Int->D}:e7 (fI C g):=by
 intro d e P P' f h
 unfold fI at h ⊢
 split at h
 ·exact⟨h.1,f _ h.2⟩
 ·exact h.elim
theorem xF {C:Int->Int->Prop}{g:Int->Int->V}{g':Int->Int->D}(hg:∀ H i j,Dv K H (g i j) (g' i j)):hV K (rI C g) (fI C g'):=by
 intro H x y d e Q hx hy h
 cases hx with
 | int i=>cases hy with
  | int j=>exact⟨i,j,rfl,rfl,h.1,h.2 _ H (aK.refl _) (hg H i j)⟩
  | _=>exact h.elim
 | _=>exact h.elim
def Gh (g:Int->Int->D):F2:=fun d e Q=>match d,e with
 | .int i,.int j=>Q (g i j)
 | _,_=>False
theorem xb {g:Int->Int->D}:e7 (Gh g):=by
 intro d e P P' f h
 unfold Gh at h ⊢
 split at h
 ·exact f _ h
 ·exact h.elim
theorem ie {g:Int->Int->V}{g':Int->Int->D}(hg:∀ H i j,Dv K H (g i j) (g' i j)):hV K (Dw g) (Gh g'):=by
 intro H x y d e Q hx hy h
 cases hx with
 | int i=>cases hy with
  | int j=>exact⟨i,j,rfl,rfl,h _ H (aK.refl _) (hg H i j)⟩
  | _=>exact h.elim
 | _=>exact h.elim
end
section
variable {X:Cx}{a b c:Expr}{es rest:List Expr}{pos:Pos}{ta tb tc:ED}
def La:ED->ED->ED:=qx Eb
def NL:ED->ED->ED:=qx (Gh fun i j=>.int (i - j))
def NJ:ED->ED->ED:=qx (fI IntMulOk fun i j=>.int (i*j))
def NI:ED->ED->ED:=qx (fI (fun _ j=>0<j) fun i j=>.int (i%j))
def NG:ED->ED->ED:=qx (fI HJ fun i j=>.int (i / j))
theorem cA (ha:PD X a ta)(hb:PD X b tb):PD X (.BinOp a .Add b pos) (La ta tb):=z7 FN Bu Kh ha hb
theorem e_ (ha:PD X a ta)(hb:PD X b tb):PD X (.BinOp a .Sub b pos) (NL ta tb):=z7 Ip (ie fun _ _ _=>.int _) xb ha hb
theorem yk (ha:PD X a ta)(hb:PD X b tb):PD X (.BinOp a .Mult b pos) (NJ ta tb):=z7 FT (xF fun _ _ _=>.int _) Md ha hb
theorem bg (ha:PD X a ta)(hb:PD X b tb):PD X (.BinOp a .Mod b pos) (NI ta tb):=z7 Im (xF fun _ _ _=>.int _) Md ha hb
theorem Bk (ha:PD X a ta)(hb:PD X b tb):PD X (.BinOp a .FloorDiv b pos) (NG ta tb):=z7 FR (xF fun _ _ _=>.int _) Md ha hb
def NK (ta:ED):ED:=fun δ Q=>ta δ fun d=>∃ i,d=.int i/\Q (.int (-i))
theorem Gb (ha:PD X a ta):PD X (.UnaryOp .USub a pos) (NK ta) :=
 ⟨(K0 Je ha.pe).imp fun σ H Q ⟨δ,r,h⟩=>⟨δ,r,ha.mono _ _ _ (fun d ⟨i,e,k⟩ v H1 s1 dv=>by subst e;cases dv;exact⟨i,rfl,k _ H1 s1 (.int _)⟩) h⟩,
  fun δ P P' g h=>ha.mono _ _ _ (fun d ⟨i,e,k⟩=>⟨i,e,g _ k⟩) h⟩
def OF:ED->ED->ED:=qx (Gh fun i j=>.bl (decide (i<j)))
def OE:ED->ED->ED:=qx (Gh fun i j=>.bl (decide (i<=j)))
def Nl:ED->ED->ED:=qx (Gh fun i j=>.bl (decide (j<i)))
theorem Hd (ha:PD X a ta)(hb:PD X b tb):PD X (.Compare a [.LtE] [b] pos) (OE ta tb):=rS Co (ie fun _ _ _=>.bl _) xb ha hb (il _)
theorem MG (ha:PD X a ta)(hb:PD X b tb):PD X (.Compare a [.Gt] [b] pos) (Nl ta tb):=rS G0 (ie fun _ _ _=>.bl _) xb ha hb (il _)
end
mutual
def kn:D->PyData
 | .aj=>.none
 | .bl b=>.bool b
 | .int i=>.int i
 | .str x=>.str x
 | .lst xs=>.list (ow xs)
 | .tup xs=>.tuple (ow xs)
 | .obj _ _=>.none
 | .dK _=>.none
 | .dT _=>.none
 | .adr _=>.none
 | .exc _ _ _=>.none
def ow:List D->List PyData
 | []=>[]
 | d::ds=>kn d::ow ds
end
mutual
def plain:D->Bool
 | .lst xs=>mW xs
 | .tup xs=>mW xs
 | .obj _ _=>false
 | .dK _=>false
 | .dT _=>false
 | .adr _=>false
 | .exc _ _ _=>false
 | _=>true
def mW:List D->Bool
 | []=>true
 | d::ds=>plain d&&mW ds
end
section
variable {K:PySem.W.Frag}{H:Hp}
mutual
theorem Dv.dat:∀{v:V} {d:D},plain d=true->Dv K H v d->mF K H v (kn d)
 | _,_,_,.aj=>by rw [kn];exact .aj
 | _,_,_,.bl b=>by rw [kn];exact .bl b
 | _,_,_,.int i=>by rw [kn];exact .int i
 | _,_,_,.str x=>by rw [kn];exact .str x
 | _,_,p,.lst h1 h2=>by rw [kn];rw [plain] at p;exact .lst h1 (bS.dat p h2)
 | _,_,p,.tup h1 h2=>by rw [kn];rw [plain] at p;exact .tup h1 (bS.dat p h2)
 | _,_,p,.obj _ _=>by rw [plain] at p;cases p
 | _,_,p,.dK _ _=>by rw [plain] at p;cases p
 | _,_,p,.dT _ _=>by rw [plain] at p;cases p
 | _,_,p,.adr _=>by rw [plain] at p;cases p
 | _,_,p,.exc _ _ _=>by rw [plain] at p;cases p
theorem bS.dat:∀{vs:List V} {ds:List D},mW ds=true->bS K H vs ds->jP K H vs (ow ds)
 | _,_,_,.nil=>by rw [ow];exact .nil
 | _,_,p,.cons h1 h2=>by
  rw [ow]
  rw [mW,Bool.and_eq_true] at p
  exact .cons (Dv.dat p.1 h1) (bS.dat p.2 h2)
end
end
def tN:D->D->Option Bool
 | .aj,.aj=>some true
 | .bl a,.bl b=>some (decide (a=b))
 | .int i,.int j=>some (decide (i=j))
 | .str x,.str y=>some (decide (x=y))
 | .aj,.bl _=>some false
 | .aj,.int _=>some false
 | .aj,.str _=>some false
 | .bl _,.aj=>some false
 | .bl _,.str _=>some false
 | .int _,.aj=>some false
 | .int _,.str _=>some false
 | .str _,.aj=>some false
 | .str _,.bl _=>some false
 | .str _,.int _=>some false
 | _,_=>none
def AB (neg:Bool):F2:=fun d e Q=>match tN d e with
 | some b=>Q (.bl (if neg then !b else b))
 | none=>plain d=true/\plain e=true/\SeqAt.shaped (kn d)=true/\SeqAt.shaped (kn e)=true/\Q (.bl (if neg then !PyData.eqv (kn d) (kn e) else PyData.eqv (kn d) (kn e)))
theorem IP {neg:Bool}:e7 (AB neg):=by
 intro d e P P' f h
 unfold AB at h ⊢
 split at h
 ·exact f _ h
 ·exact⟨h.1,h.2.1,h.2.2.1,h.2.2.2.1,f _ h.2.2.2.2⟩
theorem yp {K:PySem.W.Frag}:hV K (fun x y H Q=>Ng x y H Q\/Fs K false x y H Q) (AB false):=by
 intro H x y d e Q hx hy h
 unfold AB at h
 split at h
 ·rename_i b hb
  left
  have q:=h _ H (aK.refl _) (.bl _)
  cases hx<;>cases hy<;>simp only [tN,Option.some.injEq,reduceCtorEq] at hb<;>subst hb<;>refine⟨rfl,?_⟩<;>simpa using q
 ·obtain⟨p1,p2,s1,s2,q⟩:=h
  exact .inr ⟨_,_,hx.dat p1,hy.dat p2,s1,s2,q _ H (aK.refl _) (.bl _)⟩
theorem EY {K:PySem.W.Frag}:hV K (fun x y H Q=>Ni x y H Q\/Fs K true x y H Q) (AB true):=by
 intro H x y d e Q hx hy h
 unfold AB at h
 split at h
 ·rename_i b hb
  left
  have q:=h _ H (aK.refl _) (.bl _)
  cases hx<;>cases hy<;>simp only [tN,Option.some.injEq,reduceCtorEq] at hb<;>subst hb<;>refine⟨rfl,?_⟩<;>simpa using q
 ·obtain⟨p1,p2,s1,s2,q⟩:=h
  exact .inr ⟨_,_,hx.dat p1,hy.dat p2,s1,s2,q _ H (aK.refl _) (.bl _)⟩
def Jn (neg:Bool):F2:=fun d e Q=>match e with
 | .aj=>Q (.bl (match d with|.aj=>!neg|_=>neg))
 | .bl b=>∃ a,d=.bl a/\Q (.bl (if neg then a != b else a == b))
 | _=>False
theorem Kk {neg:Bool}:e7 (Jn neg):=by
 intro d e P P' f h
 unfold Jn at h ⊢
 split at h
 ·exact f _ h
 ·obtain⟨a,ha,q⟩:=h;exact⟨a,ha,f _ q⟩
 ·exact h.elim
theorem EW {K:PySem.W.Frag}:hV K (fun x y H Q=>(y=.aj/\Q (.bl (decide (x=.aj))) H)\/∃ a b,x=.bl a/\y=.bl b/\Q (.bl (a == b)) H) (Jn false):=by
 intro H x y d e Q hx hy h
 cases hy with
 | aj =>
  refine .inl ⟨rfl,?_⟩
  have q:=h _ H (aK.refl _) (.bl _)
  cases hx<;>exact q
 | bl b =>
  obtain⟨a,rfl,q⟩:=h
  cases hx
  exact .inr ⟨a,b,rfl,rfl,q _ H (aK.refl _) (.bl _)⟩
 | _=>exact h.elim
theorem xG {K:PySem.W.Frag}:hV K (fun x y H Q=>(y=.aj/\Q (.bl (!decide (x=.aj))) H)\/∃ a b,x=.bl a/\y=.bl b/\Q (.bl (a != b)) H) (Jn true):=by
 intro H x y d e Q hx hy h
 cases hy with
 | aj =>
  refine .inl ⟨rfl,?_⟩
  have q:=h _ H (aK.refl _) (.bl _)
  cases hx<;>exact q
 | bl b =>
  obtain⟨a,rfl,q⟩:=h
  cases hx
  exact .inr ⟨a,b,rfl,rfl,q _ H (aK.refl _) (.bl _)⟩
 | _=>exact h.elim
def fv:D->Bool
 | .aj=>true
 | .bl _=>true
 | .int _=>true
 | .str _=>true
 | _=>false
def tM:D->D->Bool
 | .aj,.aj=>true
 | .bl a,.bl b=>a == b
 | .bl a,.int j=>(if a then 1 else 0) == j
 | .int i,.bl b=>i == (if b then 1 else 0)
 | .int i,.int j=>i == j
 | .str x,.str y=>x == y
 | _,_=>false
def inD (x:D)(xs:List D):Bool:=xs.any fun y=>tM y x
def yO (x y:Str):Bool:=!(Builtin.Str.occurrences y x 0 y.length 1).isEmpty
def Jm (neg:Bool):F2:=fun d e Q=>match e with
 | .lst xs=>fv d=true/\xs.all fv=true/\Q (.bl (if neg then !inD d xs else inD d xs))
 | .tup xs=>fv d=true/\xs.all fv=true/\Q (.bl (if neg then !inD d xs else inD d xs))
 | .str y=>∃ x,d=.str x/\Q (.bl (if neg then !yO x y else yO x y))
 | _=>False
theorem E_ {neg:Bool}:e7 (Jm neg):=by
 intro d e P P' f h
 unfold Jm at h ⊢
 split at h
 ·exact⟨h.1,h.2.1,f _ h.2.2⟩
 ·exact⟨h.1,h.2.1,f _ h.2.2⟩
 ·obtain⟨a,ha,q⟩:=h;exact⟨a,ha,f _ q⟩
 ·exact h.elim
section
variable {K:PySem.W.Frag}{H:Hp}
theorem Dv.flat {v:V}{d:D}(h:Dv K H v d)(f:fv d=true):lV v=true:=by
 cases h<;>first|rfl|cases f
theorem Dv.tM {v w:V}{d e:D}(h:Dv K H v d)(g:Dv K H w e)(f:fv d=true)(f':fv e=true):Ea v w=DC.tM d e:=by
 cases h<;>cases g<;>first|rfl|cases f|cases f'
theorem bS.flat:∀{vs:List V} {ds:List D},bS K H vs ds->ds.all fv=true->vs.all lV=true
 | _,_,.nil,_=>rfl
 | _,_,.cons h r,f=>by
  rw [List.all_cons,Bool.and_eq_true] at f ⊢
  exact⟨h.flat f.1,bS.flat r f.2⟩
theorem bS.Dt {w:V}{e:D}(g:Dv K H w e)(f':fv e=true):∀{vs:List V} {ds:List D},bS K H vs ds->ds.all fv=true->L2.Dt w vs=inD e ds
 | _,_,.nil,_=>rfl
 | _,_,.cons h r,f=>by
  rw [List.all_cons,Bool.and_eq_true] at f
  have q:=bS.Dt g f' r f.2
  unfold L2.Dt inD at q ⊢
  rw [List.any_cons,List.any_cons,q,h.tM g f.1 f']
end
theorem yq {K:PySem.W.Frag}:hV K (fun x y H Q=>Lw K false x y H Q\/∃ i j,x=.str i/\y=.str j/\Q (.bl (!(Builtin.Str.occurrences j i 0 j.length 1).isEmpty)) H) (Jm false):=by
 intro H x y d e Q hx hy h
 cases hy with
 | lst g1 g2=>exact .inl ⟨_,_,rfl,.inl g1,hx.flat h.1,g2.flat h.2.1,by rw [bS.Dt hx h.1 g2 h.2.1];exact h.2.2 _ H (aK.refl _) (.bl _)⟩
 | tup g1 g2=>exact .inl ⟨_,_,rfl,.inr g1,hx.flat h.1,g2.flat h.2.1,by rw [bS.Dt hx h.1 g2 h.2.1];exact h.2.2 _ H (aK.refl _) (.bl _)⟩
 | str j =>
  obtain⟨i,rfl,q⟩:=h
  cases hx
  exact .inr ⟨i,j,rfl,rfl,q _ H (aK.refl _) (.bl _)⟩
 | _=>exact h.elim
theorem qG {K:PySem.W.Frag}:hV K (fun x y H Q=>Lw K true x y H Q\/∃ i j,x=.str i/\y=.str j/\Q (.bl (!(!(Builtin.Str.occurrences j i 0 j.length 1).isEmpty))) H) (Jm true):=by
 intro H x y d e Q hx hy h
 cases hy with
 | lst g1 g2=>exact .inl ⟨_,_,rfl,.inl g1,hx.flat h.1,g2.flat h.2.1,by rw [bS.Dt hx h.1 g2 h.2.1];exact h.2.2 _ H (aK.refl _) (.bl _)⟩
 | tup g1 g2=>exact .inl ⟨_,_,rfl,.inr g1,hx.flat h.1,g2.flat h.2.1,by rw [bS.Dt hx h.1 g2 h.2.1];exact h.2.2 _ H (aK.refl _) (.bl _)⟩
 | str j =>
  obtain⟨i,rfl,q⟩:=h
  cases hx
  exact .inr ⟨i,j,rfl,rfl,q _ H (aK.refl _) (.bl _)⟩
 | _=>exact h.elim
section
variable {X:Cx}{a b c:Expr}{es rest:List Expr}{pos:Pos}{ta tb tc:ED}
def vEq:ED->ED->ED:=qx (AB false)
def OG:ED->ED->ED:=qx (AB true)
def OC:ED->ED->ED:=qx (Jn false)
def Jg:ED->ED->ED:=qx (Jn true)
def Nm:ED->ED->ED:=qx (Jm false)
def yV:ED->ED->ED:=qx (Jm true)
theorem xD (hu:X.A.units+64<cLine)(ha:PD X a ta)(hb:PD X b tb):PD X (.Compare a [.Eq] [b] pos) (vEq ta tb):=rS (Gz.or (Cm hu)) yp IP ha hb (il _)
theorem ER (ha:PD X a ta)(hb:PD X b tb)(hm:behindInMarks .In b=false):PD X (.Compare a [.In] [b] pos) (Nm ta tb):=rS (rp.or rq) yq E_ ha hb hm
theorem EU (ha:PD X a ta)(hb:PD X b tb)(hm:behindInMarks .NotIn b=false):PD X (.Compare a [.NotIn] [b] pos) (yV ta tb):=rS (nH.or nI) qG E_ ha hb hm
end
abbrev hW (t:TD):Prop:=∀ δ (P P':Bool->Prop),(∀ d,P d->P' d)->t δ P->t δ P'
abbrev ml (t:AD):Prop:=∀ δ (P P':List D->Prop),(∀ d,P d->P' d)->t δ P->t δ P'
def gv (t:ED):TD:=fun δ Q=>t δ fun d=>∃ b,d=.bl b/\Q b
theorem CN {t:ED}(m:bV t):hW (gv t):=fun δ P P' g h=>m _ _ _ (fun d ⟨b,e,q⟩=>⟨b,e,g b q⟩) h
theorem GB {K:PySem.W.Frag}{t:ED}(m:bV t){δ:SD}{H:Hp}{Q:Bool->Hp->Prop}(h:gv t δ (kB H Q)):t δ (kD K H fun x H'=>∃ k,x=.bl k/\Q k H') :=
 m _ _ _ (fun d ⟨b,e,q⟩ v H' s dv=>by subst e;cases dv;exact⟨b,rfl,q H' s⟩) h
section
variable {X:Cx}{a b c e:Expr}{es rest:List Expr}{pos:Pos}{ta tb tc:ED}{ua ub:TD}
theorem mH.of {t:TE}{v:ED}(h:PT X e (HF t))(p:∀ σ H Q,oE X.K v σ H Q->t σ H Q)(m:bV v):mH X e (gv v) :=
 ⟨PT.imp h fun σ H Q ⟨δ,r,q⟩=>p σ H _ ⟨δ,r,GB m q⟩,CN m⟩
theorem HS {r:R2}{f:F2}(ma:bV ta)(mb:bV tb)(hd:hV X.K r f)(hf:e7 f):(∀ σ H Q,oE X.K (qx f ta tb) σ H Q->JZ r (oE X.K ta) (oE X.K tb) σ H Q)/\bV (qx f ta tb):=by
 refine⟨fun σ H Q ⟨δ,r,h⟩=>⟨δ,r,ma _ _ _ (fun d hd' v H1 s1 dv=>⟨δ,r.same s1,mb _ _ _ (fun e he w H2 s2 ew=>hd H2 v w d e Q (dv.same s2) ew (hf d e _ _ (fun z hz=>hz.on (s1.trans s2)) he)) hd'⟩) h⟩,?_⟩
 exact fun δ P P' g h=>ma _ _ _ (fun d h'=>mb _ _ _ (fun e h''=>hf d e _ _ g h'') h') h
theorem nu {op:CmpOp}{r:R2}{f:F2}(ho:gx X (compareOp op) r)(hd:hV X.K r f)(hf:e7 f)(ha:PD X a ta)(hb:PD X b tb)(hm:behindInMarks op b=false):mH X (.Compare a [op] [b] pos) (gv (qx f ta tb)) :=
 let q:=HS ha.mono hb.mono hd hf
 mH.of (Fl ho ha.pe hb.pe hm) q.1 q.2
theorem A0 (ha:PD X a ta)(hb:PD X b tb):mH X (.Compare a [.Lt] [b] pos) (gv (OF ta tb)):=nu Kv (ie fun _ _ _=>.bl _) xb ha hb (il _)
theorem DT (ha:PD X a ta)(hb:PD X b tb):mH X (.Compare a [.Gt] [b] pos) (gv (Nl ta tb)):=nu G0 (ie fun _ _ _=>.bl _) xb ha hb (il _)
theorem cW (hu:X.A.units+64<cLine)(ha:PD X a ta)(hb:PD X b tb):mH X (.Compare a [.Eq] [b] pos) (gv (vEq ta tb)):=nu (Gz.or (Cm hu)) yp IP ha hb (il _)
theorem Jb (hu:X.A.units+64<cLine)(ha:PD X a ta)(hb:PD X b tb):mH X (.Compare a [.NotEq] [b] pos) (gv (OG ta tb)):=nu (Kw.or (Io hu)) EY IP ha hb (il _)
theorem NA (ha:PD X a ta)(hb:PD X b tb):mH X (.Compare a [.Is] [b] pos) (gv (OC ta tb)):=nu (Il.or Cn) EW Kk ha hb (il _)
theorem lS (ha:PD X a ta)(hb:PD X b tb):mH X (.Compare a [.IsNot] [b] pos) (gv (Jg ta tb)):=nu (FV.or wG) xG Kk ha hb (il _)
theorem Az (ha:PD X a ta)(hb:PD X b tb)(hm:behindInMarks .In b=false):mH X (.Compare a [.In] [b] pos) (gv (Nm ta tb)):=nu (rp.or rq) yq E_ ha hb hm
theorem lT (ha:PD X a ta)(hb:PD X b tb)(hm:behindInMarks .NotIn b=false):mH X (.Compare a [.NotIn] [b] pos) (gv (yV ta tb)):=nu (nH.or nI) qG E_ ha hb hm
def GG:D->Option Bool
 | .aj=>some false
 | .bl b=>some b
 | .int i=>some (i != 0)
 | .str y=>if y.length<=sizeLine then some ((y.length:Int) != 0) else none
 | .lst xs=>some (!xs.isEmpty)
 | .tup xs=>some (!xs.isEmpty)
 | _=>none
def NM (t:ED):TD:=fun δ Q=>t δ fun d=>∃ b,GG d=some b/\Q b
theorem bS.isEmpty {K:PySem.W.Frag}{H:Hp}{vs:List V}{ds:List D}(h:bS K H vs ds):vs.isEmpty=ds.isEmpty:=by cases h<;>rfl
theorem Dv.N_ {K:PySem.W.Frag}{H:Hp}{v:V}{d:D}{b:Bool}(h:Dv K H v d)(e:GG d=some b):HP K v H b:=by
 cases h with
 | aj=>cases e;rfl
 | bl x=>cases e;rfl
 | int i=>cases e;rfl
 | str x =>
  have e':(if x.length<=sizeLine then some ((x.length:Int) != 0) else none)=some b:=e
  by_cases hz:x.length<=sizeLine
  ·rw [if_pos hz] at e'
   exact⟨hz,(Option.some.inj e').symm⟩
  ·rw [if_neg hz] at e'
   cases e'
 | lst h1 h2=>cases e;exact .inl ⟨_,h1,by rw [h2.isEmpty]⟩
 | tup h1 h2=>cases e;exact .inr (.inl ⟨_,h1,by rw [h2.isEmpty]⟩)
 | dK _ _=>cases e
 | exc _ _ _=>cases e
 | obj _ _=>cases e
 | dT _ _=>cases e
 | adr _=>cases e
theorem gu (ha:PD X a ta)(he:∀ whole,isTrue a X.env whole=(do let v <- whole;standAt a.pos;holding [v] (truthy v)):=by intro _;rfl):mH X a (NM ta) :=
 ⟨PT.imp (C4 ha.pe he) fun σ H Q ⟨δ,r,h⟩=>⟨δ,r,ha.mono _ _ _ (fun d ⟨b,e,q⟩ v H1 s1 dv=>⟨b,dv.N_ e,q H1 s1⟩) h⟩,fun δ P P' g h=>ha.mono _ _ _ (fun d ⟨b,e,q⟩=>⟨b,e,g b q⟩) h⟩
def NC (t:TD):TD:=fun δ Q=>t δ fun b=>Q (!b)
def GK (t u:TD):TD:=fun δ Q=>t δ fun b=>if b=true then u δ Q else Q false
def L5 (t u:TD):TD:=fun δ Q=>t δ fun b=>if b=true then Q true else u δ Q
theorem jL (ha:mH X a ua):mH X (.UnaryOp .Not a pos) (NC ua) :=
 ⟨PT.imp (JG ha.pt) fun σ H Q ⟨δ,r,h⟩=>⟨δ,r,ha.mono _ _ _ (fun b q H' s=>q H' s) h⟩,fun δ P P' g h=>ha.mono _ _ _ (fun b q=>g _ q) h⟩
theorem Kj (ma:hW ua)(mb:hW ub):hW (GK ua ub):=fun δ P P' g h=>ma _ _ _ (fun b q=>by
 cases b with
 | true=>rw [if_pos rfl] at q ⊢;exact mb _ _ _ g q
 | false=>rw [if_neg Bool.false_ne_true] at q ⊢;exact g _ q) h
theorem Mh (ma:hW ua)(mb:hW ub):hW (L5 ua ub):=fun δ P P' g h=>ma _ _ _ (fun b q=>by
 cases b with
 | true=>rw [if_pos rfl] at q ⊢;exact g _ q
 | false=>rw [if_neg Bool.false_ne_true] at q ⊢;exact mb _ _ _ g q) h
theorem o3.td (h:o3 X e ua):mH X e ua:=⟨h.pw.pt,h.mono⟩
theorem kr (ha:mH X a ua):o3 X (.BoolOp .And [a] pos) ua:=⟨Fp ha.pt,ha.mono⟩
theorem mE (ha:mH X a ua):o3 X (.BoolOp .Or [a] pos) ua:=⟨JI ha.pt,ha.mono⟩
theorem w_and (ha:mH X a ua)(hb:o3 X (.BoolOp .And (b::rest) pos) ub):o3 X (.BoolOp .And (a::b::rest) pos) (GK ua ub):=by
 refine⟨PW.imp (JH ha.pt hb.pw) fun σ H Q ⟨δ,r,h⟩=>⟨δ,r,ha.mono _ _ _ (fun b q H' s=>?_) h⟩,Kj ha.mono hb.mono⟩
 cases b with
 | true=>rw [if_pos rfl] at q ⊢;exact⟨δ,r.same s,hb.mono _ _ _ (fun b k=>k.on s) q⟩
 | false=>rw [if_neg Bool.false_ne_true] at q ⊢;exact q H' s
theorem w_or (ha:mH X a ua)(hb:o3 X (.BoolOp .Or (b::rest) pos) ub):o3 X (.BoolOp .Or (a::b::rest) pos) (L5 ua ub):=by
 refine⟨PW.imp (K1 ha.pt hb.pw) fun σ H Q ⟨δ,r,h⟩=>⟨δ,r,ha.mono _ _ _ (fun b q H' s=>?_) h⟩,Mh ha.mono hb.mono⟩
 cases b with
 | true=>rw [if_pos rfl] at q ⊢;exact q H' s
 | false=>rw [if_neg Bool.false_ne_true] at q ⊢;exact⟨δ,r.same s,hb.mono _ _ _ (fun b k=>k.on s) q⟩
def ND (ta tb:ED):ED:=fun δ Q=>ta δ fun d=>∃ b,d=.bl b/\if b=true then tb δ Q else Q (.bl false)
def OH (ta tb:ED):ED:=fun δ Q=>ta δ fun d=>∃ b,d=.bl b/\if b=true then Q (.bl true) else tb δ Q
theorem qC {op}(h:PD X a ta):PD X (.BoolOp op [a] pos) ta:=⟨Iz h.pe,h.mono⟩
theorem vK (ha:PD X a ta)(hb:PD X (.BoolOp .And (b::rest) pos) tb):PD X (.BoolOp .And (a::b::rest) pos) (ND ta tb):=by
 refine⟨(Iu ha.pe hb.pe).imp fun σ H Q ⟨δ,r,h⟩=>⟨δ,r,ha.mono _ _ _ (fun d ⟨b,e,q⟩ v H1 s1 dv=>?_) h⟩,fun δ P P' g h=>ha.mono _ _ _ (fun d ⟨b,e,q⟩=>⟨b,e,?_⟩) h⟩
 ·subst e
  cases dv
  refine⟨b,rfl,?_⟩
  cases b with
  | true=>rw [if_pos rfl] at q ⊢;exact⟨δ,r.same s1,hb.mono _ _ _ (fun b k=>k.on s1) q⟩
  | false=>rw [if_neg Bool.false_ne_true] at q ⊢;exact q _ H1 s1 (.bl _)
 ·cases b with
  | true=>rw [if_pos rfl] at q ⊢;exact hb.mono _ _ _ g q
  | false=>rw [if_neg Bool.false_ne_true] at q ⊢;exact g _ q
theorem J6 (ha:PD X a ta)(hb:PD X (.BoolOp .Or (b::rest) pos) tb):PD X (.BoolOp .Or (a::b::rest) pos) (OH ta tb):=by
 refine⟨(Kz ha.pe hb.pe).imp fun σ H Q ⟨δ,r,h⟩=>⟨δ,r,ha.mono _ _ _ (fun d ⟨b,e,q⟩ v H1 s1 dv=>?_) h⟩,fun δ P P' g h=>ha.mono _ _ _ (fun d ⟨b,e,q⟩=>⟨b,e,?_⟩) h⟩
 ·subst e
  cases dv
  refine⟨b,rfl,?_⟩
  cases b with
  | true=>rw [if_pos rfl] at q ⊢;exact q _ H1 s1 (.bl _)
  | false=>rw [if_neg Bool.false_ne_true] at q ⊢;exact⟨δ,r.same s1,hb.mono _ _ _ (fun b k=>k.on s1) q⟩
 ·cases b with
  | true=>rw [if_pos rfl] at q ⊢;exact g _ q
  | false=>rw [if_neg Bool.false_ne_true] at q ⊢;exact hb.mono _ _ _ g q
def OB (u:TD)(ta tb:ED):ED:=fun δ Q=>u δ fun b=>if b=true then ta δ Q else tb δ Q
theorem MI (hc:mH X c ua)(ha:PD X a ta)(hb:PD X b tb):PD X (.IfExp c a b pos) (OB ua ta tb):=by
 refine⟨(wJ hc.pt ha.pe hb.pe).imp fun σ H Q ⟨δ,r,h⟩=>⟨δ,r,hc.mono _ _ _ (fun k q H1 s1=>?_) h⟩,fun δ P P' g h=>hc.mono _ _ _ (fun k q=>?_) h⟩
 ·cases k with
  | true=>rw [if_pos rfl] at q ⊢;exact⟨δ,r.same s1,ha.mono _ _ _ (fun b k=>k.on s1) q⟩
  | false=>rw [if_neg Bool.false_ne_true] at q ⊢;exact⟨δ,r.same s1,hb.mono _ _ _ (fun b k=>k.on s1) q⟩
 ·cases k with
  | true=>rw [if_pos rfl] at q ⊢;exact ha.mono _ _ _ g q
  | false=>rw [if_neg Bool.false_ne_true] at q ⊢;exact hb.mono _ _ _ g q
def yT (f f':F2)(ta tb tc:ED):ED:=fun δ Q=>ta δ fun x=>tb δ fun y=>f x y fun z=>∃ k,z=.bl k/\if k=true then tc δ fun w=>f' y w Q else Q (.bl false)
theorem Bh {r r':R2}{f f':F2}(ma:bV ta)(mb:bV tb)(mc:bV tc)(hd:hV X.K r f)(hf:e7 f)(hd':hV X.K r' f')(hf':e7 f') :
  (∀ σ H Q,oE X.K (yT f f' ta tb tc) σ H Q->DR r r' (oE X.K ta) (oE X.K tb) (oE X.K tc) σ H Q)/\bV (yT f f' ta tb tc):=by
 refine⟨fun σ H Q ⟨δ,r,h⟩=>⟨δ,r,ma _ _ _ (fun d h1 v H1 s1 dv=>⟨δ,r.same s1,mb _ _ _ (fun e h2 w H2 s2 ew=>hd H2 v w d e _ (dv.same s2) ew (hf d e _ _ (fun z hz u H3 s3 du=>?_) h2)) h1⟩) h⟩,?_⟩
 ·obtain⟨k,rfl,q⟩:=hz
  cases du
  refine⟨k,rfl,?_⟩
  have s:=s1.trans (s2.trans s3)
  cases k with
  | true =>
   rw [if_pos rfl] at q ⊢
   exact⟨δ,r.same s,mc _ _ _ (fun d h3 u H4 s4 du=>hd' H4 w u e d Q (ew.same (s3.trans s4)) du (hf' _ _ _ _ (fun z hz=>hz.on (s.trans s4)) h3)) q⟩
  | false =>
   rw [if_neg Bool.false_ne_true] at q ⊢
   exact q _ H3 s (.bl _)
 ·intro δ P P' g h
  refine ma _ _ _ (fun d h1=>mb _ _ _ (fun e h2=>hf _ _ _ _ (fun z ⟨k,ez,q⟩=>⟨k,ez,?_⟩) h2) h1) h
  cases k with
  | true=>rw [if_pos rfl] at q ⊢;exact mc _ _ _ (fun d h3=>hf' _ _ _ _ g h3) q
  | false=>rw [if_neg Bool.false_ne_true] at q ⊢;exact g _ q
def Ll:F2:=Gh fun i j=>.bl (decide (i<=j))
theorem xE (ha:PD X a ta)(hb:PD X b tb)(hc:PD X c tc)(hm:lastMarks [.LtE,.LtE] [b,c]=false:=by with_unfolding_all rfl):PD X (.Compare a [.LtE,.LtE] [b,c] pos) (yT Ll Ll ta tb tc) :=
 let q:=Bh (X:=X) ha.mono hb.mono hc.mono (r:=Dw fun i j=>.bl (decide (i<=j))) (r':=Dw fun i j=>.bl (decide (i<=j))) (f:=Ll) (f':=Ll) (ie fun _ _ _=>.bl _) xb (ie fun _ _ _=>.bl _) xb
 ⟨(Cr Co Co ha.pe hb.pe hc.pe hm).imp q.1,q.2⟩
end
section
variable {X:Cx}{a b c e:Expr}{es rest:List Expr}{pos:Pos}{ta tb tc:ED}{ua ub:TD}{t:AD}
def sq:AD:=fun _ Q=>Q []
def BU (ta:ED)(t:AD):AD:=fun δ Q=>ta δ fun d=>t δ fun ds=>Q (d::ds)
theorem aC:pR X [] sq:=⟨PA.imp ir fun σ H Q ⟨δ,r,h⟩=>h [] H (aK.refl _) .nil,fun δ P P' g h=>g _ h⟩
theorem aA (ha:PD X e ta)(hr:pR X es t)(hs:starEach (e::es) X.env=(false,eval e X.env)::starEach es X.env:=by rfl):pR X (e::es) (BU ta t) :=
 ⟨PA.imp (d8 ha.pe hr.pa hs) fun σ H Q ⟨δ,r,h⟩=>⟨δ,r,ha.mono _ _ _ (fun d h1 v H1 s1 dv=>⟨δ,r.same s1,hr.mono _ _ _ (fun ds h2 vs H2 s2 dvs=>h2 (v::vs) H2 (s1.trans s2) (.cons (dv.same s2) dvs)) h1⟩) h⟩,
  fun δ P P' g h=>ha.mono _ _ _ (fun d h1=>hr.mono _ _ _ (fun ds h2=>g _ h2) h1) h⟩
def NN (t:AD):ED:=fun δ Q=>t δ fun ds=>ds.length<=sizeLine/\Q (.tup ds)
def NH (t:AD):ED:=fun δ Q=>t δ fun ds=>ds.length<=sizeLine/\Q (.lst ds)
theorem bT {x1}(h:pR X es t):PD X (.Tuple es x1 pos) (NN t) :=
 ⟨(JA h.pa).imp fun σ H Q ⟨δ,r,q⟩=>⟨δ,r,h.mono _ _ _ (fun ds ⟨hl,k⟩ vs H1 s1 dvs=>⟨by rw [dvs.length];exact hl,fun p hp=>k _ _ (s1.trans (aw hp)) (.tup (iY.of aJ) (dvs.same (aw hp)))⟩) q⟩,
  fun δ P P' g q=>h.mono _ _ _ (fun ds ⟨hl,k⟩=>⟨hl,g _ k⟩) q⟩
theorem bb (h:pR X es t):PD X (.List es pos) (NH t) :=
 ⟨(yB h.pa).imp fun σ H Q ⟨δ,r,q⟩=>⟨δ,r,h.mono _ _ _ (fun ds ⟨hl,k⟩ vs H1 s1 dvs=>⟨by rw [dvs.length];exact hl,fun p hp=>k _ _ (s1.trans (aw hp)) (.lst (dg.of aJ) (dvs.same (aw hp)))⟩) q⟩,
  fun δ P P' g q=>h.mono _ _ _ (fun ds ⟨hl,k⟩=>⟨hl,g _ k⟩) q⟩
def tD:Expr->Option D
 | .Constant (.str x) _ _=>some (.str x)
 | .Constant (.int i) _ _=>some (.int i)
 | .Constant (.bool b) _ _=>some (.bl b)
 | .Constant .none _ _=>some .aj
 | .UnaryOp .USub (.Constant (.int i) _ _) _=>some (.int (-i))
 | _=>none
def kz:List Expr->List D
 | []=>[]
 | e::es=>(tD e).getD .aj::kz es
def GY (ds:List D):AD:=fun _ Q=>Q ds
theorem jT:∀{es:List Expr} (_:es.all (fun e=>(tD e).isSome)=true),pR X es (GY (kz es))
 | [],_=>⟨aC.pa,fun δ P P' g h=>g _ h⟩
 | e::es,h=>by
  rw [List.all_cons,Bool.and_eq_true] at h
  have ih:=jT h.2
  obtain⟨v,hv⟩:=Option.isSome_iff_exists.mp h.1
  have e1:kz (e::es)=v::kz es:=by
   show(tD e).getD .aj::kz es=_
   rw [hv]
   rfl
  rw [e1]
  refine⟨?_,fun δ P P' g h=>g _ h⟩
  have one:pR X (e::es) (BU (vC v) (GY (kz es))):=by
   unfold tD at hv
   split at hv
   ·cases hv;exact aA aZ ih rfl
   ·cases hv;exact aA aD ih rfl
   ·cases hv;exact aA tF ih rfl
   ·cases hv;exact aA jY ih rfl
   ·cases hv
    refine aA ⟨(Gb aD).pe.imp ?_,fun δ P P' g h=>g _ h⟩ ih rfl
    exact fun σ H Q ⟨δ,r,q⟩=>⟨δ,r,_,rfl,q⟩
   ·cases hv
  exact one.pa
def Lk:F2:=fun d e Q=>match d,e with
 | .lst xs,.int i=>∃ r,rB xs i=some r/\Q r
 | .tup xs,.int i=>∃ r,rB xs i=some r/\Q r
 | .str z,.int i=>z.length<=sizeLine/\∃ c,rB z.cps.toList i=some c/\Q (.str ⟨#[c]⟩)
 | _,_=>False
theorem Mg:e7 Lk:=by
 intro d e P P' f h
 unfold Lk at h ⊢
 split at h
 ·obtain⟨r,hr,q⟩:=h;exact⟨r,hr,f _ q⟩
 ·obtain⟨r,hr,q⟩:=h;exact⟨r,hr,f _ q⟩
 ·obtain⟨hz,r,hr,q⟩:=h;exact⟨hz,r,hr,f _ q⟩
 ·exact h.elim
theorem bS.rB {K:PySem.W.Frag}{H:Hp}{vs:List V}{ds:List D}{i:Int}{d:D}(h:bS K H vs ds)(e:L2.rB ds i=some d):∃ v,L2.rB vs i=some v/\Dv K H v d:=by
 unfold L2.rB at e ⊢
 rw [h.length]
 cases q:BJ ds.length i with
 | none=>rw [q] at e;cases e
 | some j =>
  rw [q] at e
  exact h.get e
theorem EX {K:PySem.W.Frag}:hV K (Nh K) Lk:=by
 intro H x y d e Q hx hy h
 cases hy with
 | int i=>cases hx with
  | lst h1 h2 =>
   obtain⟨r,hr,q⟩:=h
   obtain⟨v,hv,dv⟩:=h2.rB hr
   exact .inl ⟨_,_,i,v,rfl,rfl,h1,hv,q _ H (aK.refl _) dv⟩
  | tup h1 h2 =>
   obtain⟨r,hr,q⟩:=h
   obtain⟨v,hv,dv⟩:=h2.rB hr
   exact .inr (.inl ⟨_,_,i,v,rfl,rfl,h1,hv,q _ H (aK.refl _) dv⟩)
  | str z =>
   obtain⟨hz,c,hc,q⟩:=h
   exact .inr (.inr ⟨z,i,c,rfl,rfl,hz,hc,q _ H (aK.refl _) (.str _)⟩)
  | _=>exact h.elim
 | _=>cases hx<;>exact h.elim
def Nn:ED->ED->ED:=qx Lk
theorem bU (ha:PD X a ta)(hb:PD X b tb)(hs:sj b):PD X (.Subscript a b pos) (Nn ta tb):=vL (t:=oE X.K ta) (G1 Hu ha.pe hb.pe hs) ha.mono hb.mono EX Mg
def cutD (xs:List D)(lo hi:Option Int):List D:=(xs.drop (HT.dh xs.length 0 lo)).take (HT.dh xs.length xs.length hi - HT.dh xs.length 0 lo)
theorem bS.cut {K:PySem.W.Frag}{H:Hp}{vs:List V}{ds:List D}(h:bS K H vs ds)(lo hi:Option Int):bS K H (vH vs lo hi) (cutD ds lo hi):=by
 unfold vH cutD
 rw [h.length]
 exact(h.drop _).take _
def KC (d:D)(lo hi:Option Int)(Q:D->Prop):Prop:=match d with
 | .lst xs=>Q (.lst (cutD xs lo hi))
 | .tup xs=>¬ (HT.dh xs.length 0 lo=0/\HT.dh xs.length xs.length hi=xs.length)/\Q (.tup (cutD xs lo hi))
 | .str z=>z.length<=sizeLine/\Q (.str (Txt.slice z lo hi))
 | _=>False
theorem Mi {d:D}{lo hi:Option Int}{P P':D->Prop}(f:∀ r,P r->P' r)(h:KC d lo hi P):KC d lo hi P':=by
 unfold KC at h ⊢
 split at h
 ·exact f _ h
 ·exact⟨h.1,f _ h.2⟩
 ·exact⟨h.1,f _ h.2⟩
 ·exact h.elim
theorem My:D3 X (fun x lo hi H Q=>K8 X.K x lo hi H Q\/K9 X.K x lo hi H Q\/∃ z,x=.str z/\z.length<=sizeLine/\Q (.str (Txt.slice z lo hi)) H):=F1.or (JW.or JV)
abbrev OD:=SD->(Option Int->Prop)->Prop
structure Lj (X:Cx) (e:Option Expr) (t:OD):Prop where
 po:PO X e (fun σ H Q=>∃ δ,bf X.K H σ δ/\t δ fun o=>∀ H',aK H H'->Q o H')
 mono:∀ δ (P P':Option Int->Prop),(∀ d,P d->P' d)->t δ P->t δ P'
def Kr:OD:=fun _ Q=>Q none
def Ks (t:ED):OD:=fun δ Q=>t δ fun d=>∃ i,d=.int i/\Q (some i)
theorem PO.imp {e:Option Expr}{t t':TO}(h:PO X e t)(f:∀ σ H Q,t' σ H Q->t σ H Q):PO X e t':=fun pins s σ H Q I q=>h pins s σ H Q I (f σ H Q q)
theorem g8:Lj X none Kr:=⟨PO.imp Fh fun σ H Q ⟨δ,r,h⟩=>h H (aK.refl _),fun δ P P' g h=>g _ h⟩
theorem fM (h:PD X e ta):Lj X (some e) (Ks ta) :=
 ⟨PO.imp (Fi h.pe) fun σ H Q ⟨δ,r,q⟩=>⟨δ,r,h.mono _ _ _ (fun d ⟨i,ed,k⟩ v H1 s1 dv=>by subst ed;cases dv;exact⟨i,rfl,k H1 s1⟩) q⟩,fun δ P P' g q=>h.mono _ _ _ (fun d ⟨i,ed,k⟩=>⟨i,ed,g _ k⟩) q⟩
def OI (ta:ED)(tl th:OD):ED:=fun δ Q=>ta δ fun d=>tl δ fun lo=>th δ fun hi=>KC d lo hi Q
theorem dz {lo hi:Option Expr}{tl th:OD}{p2:Pos}(he:PD X e ta)(hl:Lj X lo tl)(hh:Lj X hi th):PD X (.Subscript e (.Slice lo hi none p2) pos) (OI ta tl th):=by
 refine⟨(Cu My he.pe hl.po hh.po).imp fun σ H Q ⟨δ,r,h⟩=>⟨δ,r,he.mono _ _ _ (fun d h1 v H1 s1 dv=>⟨δ,r.same s1,hl.mono _ _ _ (fun lo h2 H2 s2=>⟨δ,r.same (s1.trans s2),hh.mono _ _ _ (fun hi h3 H3 s3=>?_) h2⟩) h1⟩) h⟩,
  fun δ P P' g h=>he.mono _ _ _ (fun d h1=>hl.mono _ _ _ (fun lo h2=>hh.mono _ _ _ (fun hi h3=>Mi g h3) h2) h1) h⟩
 have s:=s1.trans (s2.trans s3)
 have dv3:=dv.same (s2.trans s3)
 clear h1 h2 dv
 cases dv3 with
 | lst h1 h2=>exact .inl ⟨_,_,rfl,h1,fun p hp=>h3 _ _ (s.trans (aw hp)) (.lst (dg.of aJ) ((h2.cut lo hi).same (aw hp)))⟩
 | tup h1 h2=>exact .inr (.inl ⟨_,_,rfl,h1,by rw [h2.length];exact h3.1,fun p hp=>h3.2 _ _ (s.trans (aw hp)) (.tup (iY.of aJ) ((h2.cut lo hi).same (aw hp)))⟩)
 | str z=>exact .inr (.inr ⟨z,rfl,h3.1,h3.2 _ H3 s (.str _)⟩)
 | _=>exact h3.elim
def GN (K:PySem.W.Frag)(ta:ED)(f:Str):ED:=fun δ Q=>ta δ fun d=>∃ C gs r,d=.obj C gs/\q_ K C/\cq K C f/\gs.lookup f=some r/\Q r
theorem J3 {f:Str}(he:PD X e ta)(hb:attributeBase e f X.env (eval e X.env)=eval e X.env):PD X (.Attribute e f pos) (GN X.K ta f) :=
 ⟨(Fc he.pe hb).imp fun σ H Q ⟨δ,r,h⟩=>⟨δ,r,he.mono _ _ _ (fun d ⟨C,gs,r,ed,hc,hn,hl,k⟩ v H1 s1 dv=>by
   subst ed
   cases dv with
   | obj h1 h2 =>
    obtain⟨w,hw,dw⟩:=h2.look hl
    exact⟨_,_,_,_,w,rfl,h1,hc,hn,hw,k _ H1 s1 dw⟩) h⟩,
  fun δ P P' g h=>he.mono _ _ _ (fun d ⟨C,gs,r,ed,hc,hn,hl,k⟩=>⟨C,gs,r,ed,hc,hn,hl,g _ k⟩) h⟩
abbrev cL:=List D->(D->Prop)->Prop
abbrev cQ (sd:cL):Prop:=∀ ds (P P':D->Prop),(∀ d,P d->P' d)->sd ds P->sd ds P'
def qm (K:PySem.W.Frag)(sd:cL):Sp:=fun vs H Q _=>∃ ds,bS K H vs ds/\sd ds (kD K H Q)
def Dl (sd:cL)(t:AD):ED:=fun δ Q=>t δ fun ds=>sd ds Q
theorem HZ {k:Nat}{f:Addr}{fd:FuncData}{ps:List Str}{x:Str}{p:Pos}{sd:cL}(F:cN X.prog X.w X.K X.mg X.base pQ k f fd ps (qm X.K sd))(ms:cQ sd)(hr:cD k X.A)(hg:Gl X x)(hm:X.mg x=some (.ref f))
  (hk:keepIn X.K (.ref f)=true)(hb:Binds X.K fd ps [])(ha:pR X (e::es) t)(hdb:(x == ("__debug__":Str))=false:=by decide)
  (hp:PE X (.Call (.Name x p) (e::es) [] pos) (HE (qm X.K sd) [] E0 (oA X.K t)):=by exact uL F hr hg hm hk hb .nil rz ha.pa):PD X (.Call (.Name x p) (e::es) [] pos) (Dl sd t) :=
 ⟨hp.imp fun σ H Q ⟨δ,r,h⟩=>⟨δ,r,ha.mono _ _ _ (fun ds h1 vs H1 s1 dvs=>⟨ds,by rw [List.append_nil];exact dvs,ms _ _ _ (fun d k=>k.on s1) h1⟩) h⟩,fun δ P P' g h=>ha.mono _ _ _ (fun ds h1=>ms _ _ _ g h1) h⟩
def vB (sd:cL)(t:AD):ED:=fun δ Q=>t δ fun ds=>sd ds Q
def rK (K:PySem.W.Frag)(r:List V->Hp->VK->Prop)(sd:cL):Prop:=∀ H vs ds Q,bS K H vs ds->sd ds (kD K H Q)->r vs H Q
theorem Bj {r:List V->Hp->VK->Prop}{sd:cL}(hp:PE X e (L0 r (oA X.K t)))(ha:ml t)(hd:rK X.K r sd)(ms:cQ sd):PD X e (vB sd t) :=
 ⟨hp.imp fun σ H Q ⟨δ,r,h⟩=>⟨δ,r,ha _ _ _ (fun ds h1 vs H1 s1 dvs=>hd H1 vs ds Q dvs (ms _ _ _ (fun d k=>k.on s1) h1)) h⟩,fun δ P P' g h=>ha _ _ _ (fun ds h1=>ms _ _ _ g h1) h⟩
end
structure lU where
 nx:SD->Prop
 rt:D->Prop
 bk:SD->Prop:=fun _=>False
 ct:SD->Prop:=fun _=>False
abbrev jS:=lU->SD->Prop
structure lU.Le (E E':lU):Prop where
 nx:∀ δ,E.nx δ->E'.nx δ
 rt:∀ d,E.rt d->E'.rt d
 bk:∀ δ,E.bk δ->E'.bk δ
 ct:∀ δ,E.ct δ->E'.ct δ
abbrev yY (t:jS):Prop:=∀ E E' δ,lU.Le E E'->t E δ->t E' δ
def kS (K:PySem.W.Frag)(H:Hp)(Q:L2.St->Hp->Prop):SD->Prop:=fun δ=>∀ σ H',aK H H'->bf K H' σ δ->Q σ H'
def mQ (K:PySem.W.Frag)(H:Hp)(D:Ends):lU:=⟨kS K H D.nx,kD K H D.rt,kS K H D.bk,kS K H D.ct⟩
theorem kS.on {K:PySem.W.Frag}{H H1:Hp}{Q:L2.St->Hp->Prop}{δ:SD}(s:aK H H1)(h:kS K H Q δ):kS K H1 Q δ:=fun σ H' s' r=>h σ H' (s.trans s') r
theorem tL {K:PySem.W.Frag}{H H1:Hp}{D:Ends}(s:aK H H1):lU.Le (mQ K H D) (mQ K H1 D):=⟨fun _ h=>h.on s,fun _ h=>h.on s,fun _ h=>h.on s,fun _ h=>h.on s⟩
def oS (K:PySem.W.Frag)(t:jS):TS:=fun D σ H=>∃ δ,bf K H σ δ/\t (mQ K H D) δ
structure yZ (X:Cx) (st:Stmt) (t:jS):Prop where
 ps:PS X st (oS X.K t)
 mono:yY t
structure pS (X:Cx) (st:List Stmt) (t:jS):Prop where
 ps:mG X st (oS X.K t)
 mono:yY t
section
variable {X:Cx}{st:Stmt}{rest body els:List Stmt}{t u:jS}{e c:Expr}{te:ED}{uc:TD}{pos:Pos}
theorem PS.imp {t t':TS}(h:PS X st t)(f:∀ D σ H,t' D σ H->t D σ H):PS X st t':=fun pins s σ H D I q=>h pins s σ H D I (f D σ H q)
theorem mG.imp {t t':TS}(h:mG X rest t)(f:∀ D σ H,t' D σ H->t D σ H):mG X rest t':=fun pins s σ H D I q=>h pins s σ H D I (f D σ H q)
def C5:jS:=fun E δ=>E.nx δ
def C6 (t u:jS):jS:=fun E δ=>t { E with nx:=u E } δ
theorem ak:pS X [] C5:=⟨mG.imp uS fun D σ H ⟨δ,r,h⟩=>h σ H (aK.refl _) r,fun E E' δ l h=>l.nx _ h⟩
theorem aI (h1:yZ X st t)(h2:pS X rest u):pS X (st::rest) (C6 t u) :=
 ⟨mG.imp (qd h1.ps h2.ps) fun D σ H ⟨δ,r,h⟩=>⟨δ,r,h1.mono { mQ X.K H D with nx:=u (mQ X.K H D)} _ _ ⟨fun δ' q σ' H' s' r'=>⟨δ',r',h2.mono _ _ _ (tL s') q⟩,fun _ q=>q,fun _ q=>q,fun _ q=>q⟩ h⟩,
  fun E E' δ l h=>h1.mono { E with nx:=u E } _ _ ⟨fun δ' q=>h2.mono _ _ _ l q,l.rt,l.bk,l.ct⟩ h⟩
theorem aF (h1:yZ X st t):pS X [st] t:=⟨uT h1.ps,h1.mono⟩
def Ms (te:ED):jS:=fun E δ=>te δ E.rt
theorem aP (he:PD X e te):yZ X (.Return (some e) pos) (Ms te):=⟨PS.imp (yE he.pe) fun D σ H ⟨δ,r,h⟩=>⟨δ,r,h⟩,fun E E' δ l h=>he.mono _ _ _ l.rt h⟩
def K2 (te:ED):jS:=fun E δ=>te δ fun _=>E.nx δ
theorem bM (he:PD X e te)(hs:swapsWith e none pos.line X.env=pure false:=by rfl):yZ X (.Expr e pos) (K2 te) :=
 ⟨PS.imp (iu he.pe hs) fun D σ H ⟨δ,r,h⟩=>⟨δ,r,he.mono _ _ _ (fun d q v H1 s1 dv=>q σ H1 s1 (r.same s1)) h⟩,fun E E' δ l h=>he.mono _ _ _ (fun d q=>l.nx _ q) h⟩
def Ap (i:Nat)(te:ED):jS:=fun E δ=>te δ fun d=>E.nx (δ.set i (some d))
theorem bI {i:Nat}{x:Str}{pos':Pos}(hN:X.N.Nodup)(hi:X.N[i]?=some x)(hx:Loc X.env.scope x)(he:PD X e te)(hs:swapsWith e (some (.Name x pos')) pos.line X.env=pure false:=by rfl)
  (hf:X.fn x=true\/X.env.scope.names.lookup x=some .local:=by first|exact .inl rfl|exact .inr rfl|assumption):yZ X (.Assign [.Name x pos'] e pos) (Ap i te) :=
 ⟨PS.imp (uQ hN hi hx he.pe hs hf) fun D σ H ⟨δ,r,h⟩=>⟨δ,r,he.mono _ _ _ (fun d q v H1 s1 dv=>q _ H1 s1 ((r.same s1).set i dv)) h⟩,fun E E' δ l h=>he.mono _ _ _ (fun d q=>l.nx _ q) h⟩
def Mr (uc:TD)(t u:jS):jS:=fun E δ=>uc δ fun b=>if b=true then t E δ else u E δ
theorem cG (hc:mH X c uc)(ha:pS X body t)(hb:pS X els u):yZ X (.If c body els pos) (Mr uc t u):=by
 refine⟨PS.imp (C1 hc.pt ha.ps hb.ps) fun D σ H ⟨δ,r,h⟩=>⟨δ,r,hc.mono _ _ _ (fun k q H1 s1=>?_) h⟩,fun E E' δ l h=>hc.mono _ _ _ (fun k q=>?_) h⟩
 ·cases k with
  | true=>rw [if_pos rfl] at q ⊢;exact⟨δ,r.same s1,ha.mono _ _ _ (tL s1) q⟩
  | false=>rw [if_neg Bool.false_ne_true] at q ⊢;exact⟨δ,r.same s1,hb.mono _ _ _ (tL s1) q⟩
 ·cases k with
  | true=>rw [if_pos rfl] at q ⊢;exact ha.mono _ _ _ l q
  | false=>rw [if_neg Bool.false_ne_true] at q ⊢;exact hb.mono _ _ _ l q
def JJ:jS:=fun _ _=>False
theorem jD:yZ X st JJ:=⟨PS.imp C2 fun D σ H ⟨δ,r,h⟩=>h,fun E E' δ l h=>h⟩
end
def cb (N:List Str)(ds:List D):SD:=ds.map some++List.replicate (N.length - ds.length) none
theorem lQ {K:PySem.W.Frag}{H:Hp}{N:List Str}{vs:List V}{ds:List D}(h:bS K H vs ds):bf K H (L2.start N vs) (cb N ds):=by
 unfold L2.start cb
 have hl:=h.length
 refine⟨by rw [List.length_append,List.length_append,List.length_map,List.length_map,List.length_replicate,List.length_replicate,hl],fun i d e=>?_⟩
 by_cases hi:i<ds.length
 ·rw [List.getElem?_append_left (by rw [List.length_map];exact hi),List.getElem?_map] at e
  cases q:ds[i]? with
  | none=>rw [q] at e;cases e
  | some d' =>
   rw [q] at e
   cases e
   obtain⟨v,hv,dv⟩:=h.get q
   exact⟨v,by rw [List.getElem?_append_left (by rw [List.length_map];omega),List.getElem?_map,hv];rfl,dv⟩
 ·rw [List.getElem?_append_right (by rw [List.length_map];omega),List.getElem?_replicate] at e
  split at e<;>cases e
section
variable {P:Program}{w:World}{K:PySem.W.Frag}{mg:Str->Option Value}{base:Heap}
abbrev Bx (P:Program)(w:World)(K:PySem.W.Frag)(mg:Str->Option Value)(base:Heap)(N:List Str)(qual:Str)(st:Stmt)(f:Addr)(cdv:Value)(A:Around)(outer:List Env)(s:Shared)(H:Hp)(E:XK):Cx:=(vJ pQ P w K mg base N qual (aB st) f cdv A outer s H E).IZ
theorem Nb {x qual:Str}{st:Stmt}{f:Addr}{fd:FuncData}{N ps:List Str}{k:Nat}{sd:cL}{t:jS}(F:wy K x qual st f fd)(S:aE N ps (aB st))(len:∀ ds Q,sd ds Q->ds.length=ps.length)
  (hb:∀(cdv:Value) (A:Around) (outer:List Env) (s:Shared) (H:Hp) (E:XK),cD k (A.deeper (envOfC qual (aB st) s.heap.objs.size f cdv))->pS (Bx P w K mg base N qual st f cdv A outer s H E) (bE st) t)
  (hr:∀ ds Q,sd ds Q->t { nx:=fun _=>Q .aj,rt:=Q } (cb N ds)):cN P w K mg base pQ (k+1) f fd ps (qm K sd):=by
 refine F.ok S (fun vs H Q E ⟨ds,dvs,h⟩=>by rw [dvs.length];exact len ds _ h) (fun cdv A outer s H vs Q E hroom ⟨ds,dvs,h⟩=>?_)
 have B:=hb cdv A outer s H E hroom
 refine⟨_,B.ps,cb N ds,lQ dvs,?_⟩
 refine B.mono { nx:=fun _=>kD K H Q .aj,rt:=kD K H Q } _ _ ⟨fun δ q σ H' s' r=>q _ H' s' .aj,fun d q=>q,fun _ q=>q.elim,fun _ q=>q.elim⟩ (hr ds _ h)
end
structure Jh (K:PySem.W.Frag) (J:It) (H1:Hp) (ds:List D):Prop where
 go:∀ i H',aK H1 H'->i<ds.length->J.go i H'
 stop:∀ H',aK H1 H'->J.stop ds.length H'
 Dq:∀ i H' x H'',aK H1 H'->i<ds.length->J.Dq i H' x H''->aK H' H''/\∃ d,ds[i]?=some d/\∃ Hx,aK H1 Hx/\Dv K Hx x d/\(∀ a o,Hx a=some o->H1 a=some o\/H' a=none)/\aK Hx H''
structure PId (X:Cx) (tg iter:Expr) (ti:AD):Prop where
 pi:PI X tg iter (fun σ H R=>∃ δ,bf X.K H σ δ/\ti δ fun ds=>∀ J H1,aK H H1->Jh X.K J H1 ds->R J H1)
 mono:ml ti
def Ht:D->Option (List D)
 | .lst xs=>some xs
 | .tup xs=>some xs
 | .str y=>some (y.cps.toList.map fun c=>.str ⟨#[c]⟩)
 | _=>none
def BV (te:ED):AD:=fun δ Q=>te δ fun d=>∃ ds,Ht d=some ds/\Q ds
section
variable {X:Cx}{tg:Expr}{l:Expr}{te:ED}
theorem PI.imp {wi wi':TI}(h:PI X tg l wi)(f:∀ σ H R,wi' σ H R->wi σ H R):PI X tg l wi':=fun pins s σ H R I q=>h pins s σ H R I (f σ H R q)
theorem JC {tl:TE}(hl:PE X l tl):PI X tg l (fun σ H R=>tl σ H fun x H1=>(∃ a,x=.ref a/\(∃ xs,dg X.K H1 a xs)/\R (NP X.K a) H1)\/(∃ a,x=.ref a/\(∃ xs,iY X.K H1 a xs)/\R (NQ X.K a) H1)\/∃ y,x=.str y/\R (L8 y) H1):=by
 intro pins s σ H R I h
 refine b9 (hl pins s σ H _ I h) fun v s1 ⟨x,H1,I1,r1,q1⟩=>?_
 have hf:∀ b∈[s1.heap.objs.size],jQ X pins H1 b:=fun b hb=>by
  have e:b=s1.heap.objs.size:=by simpa using hb
  subst e
  exact I1.B6 (Nat.le_refl _) (I1.bp.fresh (Nat.le_refl _))
 rcases q1 with⟨a,e,⟨xs,hq⟩,q⟩|⟨a,e,⟨xs,hq⟩,q⟩|⟨y,e,q⟩
 ·subst e
  cases(show v=Value.ref a from r1)
  obtain⟨its,rv,p,hz⟩:=I1.list hq
  exact wpAny_pyIter_list p.isList ⟨s1.heap.objs.size,[s1.heap.objs.size],_,_,H1,rfl,I1.kept (t':=s1.toks) fun b o e=>Heap.get?_push_of_some _ e,A_ a _,⟨_,Heap.get?_push_size _ rfl,rfl,rfl⟩,hf,q⟩
 ·subst e
  cases(show v=Value.ref a from r1)
  obtain⟨its,rv,p,hz⟩:=I1.tuple hq
  exact wpAny_pyIter_tuple (show s1.heap.IsTuple a its.toArray from p) ⟨s1.heap.objs.size,[s1.heap.objs.size],_,_,H1,rfl,I1.kept (t':=s1.toks) fun b o e=>Heap.get?_push_of_some _ e,yS a _,⟨_,Heap.get?_push_size _ rfl,rfl,rfl⟩,hf,q⟩
 ·subst e
  obtain⟨t,rfl⟩:=r1
  cases ha:y.cps.all (·<128)
  ·exact wpAny_pyIter_wide ha ⟨s1.heap.objs.size,[s1.heap.objs.size],_,_,H1,rfl,I1.kept (t':=s1.toks) fun b o e=>Heap.get?_push_of_some _ e,BB y t _,⟨_,Heap.get?_push_size _ rfl,rfl,rfl⟩,hf,q⟩
  ·exact wpAny_pyIter_ascii ha ⟨s1.heap.objs.size,[s1.heap.objs.size],_,_,H1,rfl,I1.kept (t':=s1.toks) fun b o e=>Heap.get?_push_of_some _ e,BA y t _,⟨_,Heap.get?_push_size _ rfl,rfl,rfl⟩,hf,q⟩
theorem br (he:PD X l te):PId X tg l (BV te):=by
 refine⟨PI.imp (JC he.pe) fun σ H R ⟨δ,r,h⟩=>⟨δ,r,he.mono _ _ _ (fun d ⟨ds,e,q⟩ v H1 s1 dv=>?_) h⟩,fun δ P P' g h=>he.mono _ _ _ (fun d ⟨ds,e,q⟩=>⟨ds,e,g _ q⟩) h⟩
 cases dv with
 | lst h1 h2 =>
  cases e
  refine .inl ⟨_,rfl,⟨_,h1⟩,q _ H1 s1 ⟨fun i H' s' hi=>?_,fun H' s'=>⟨_,s'.seq h1,by rw [h2.length];exact Nat.le_refl _⟩,fun i H' x H'' s' hi y=>?_⟩⟩
  ·obtain⟨v,hv,_⟩:=h2.get (List.getElem?_eq_getElem hi)
   exact⟨_,v,s'.seq h1,hv⟩
  ·obtain⟨rfl,y2⟩:=y
   obtain⟨d,hd,dv⟩:=h2.Ef (y2 _ (s'.seq h1))
   exact⟨aK.refl _,d,hd,H1,aK.refl _,dv,fun _ _ z=>.inl z,s'⟩
 | tup h1 h2 =>
  cases e
  refine .inr (.inl ⟨_,rfl,⟨_,h1⟩,q _ H1 s1 ⟨fun i H' s' hi=>?_,fun H' s'=>⟨_,wN s' h1,by rw [h2.length];exact Nat.le_refl _⟩,fun i H' x H'' s' hi y=>?_⟩⟩)
  ·obtain⟨v,hv,_⟩:=h2.get (List.getElem?_eq_getElem hi)
   exact⟨_,v,wN s' h1,hv⟩
  ·obtain⟨rfl,y2⟩:=y
   obtain⟨d,hd,dv⟩:=h2.Ef (y2 _ (wN s' h1))
   exact⟨aK.refl _,d,hd,H1,aK.refl _,dv,fun _ _ z=>.inl z,s'⟩
 | str y =>
  cases e
  refine .inr (.inr ⟨_,rfl,q _ H1 s1 ⟨fun i H' s' hi=>?_,fun H' s'=>?_,fun i H' x H'' s' hi y=>?_⟩⟩)
  ·have hi':i<y.cps.size:=by simpa using hi
   exact hi'
  ·show y.cps.size<=_
   simp
  ·obtain⟨rfl,c,hc,rfl⟩:=y
   refine⟨aK.refl _,.str ⟨#[c]⟩,?_,H1,aK.refl _,.str _,fun _ _ z=>.inl z,s'⟩
   rw [List.getElem?_map,Array.getElem?_toList,hc]
   rfl
 | _=>cases e
def D4 (t:AD):AD:=fun δ Q=>t δ fun ds=>∃ n:Int,ds=[.int n]/\-(2 ^ 62)<=n/\n<2 ^ 62/\Q ((List.range n.toNat).map fun i:Nat=>.int (0+(i:Int)))
theorem CF {K:PySem.W.Frag}{H:Hp}(lo:Int)(n:Nat):Jh K (Lh lo n) H ((List.range n).map fun i:Nat=>.int (lo+(i:Int))):=by
 refine⟨fun i H' s' hi=>?_,fun H' s'=>?_,fun i H' x H'' s' hi y=>?_⟩
 ·have hi':i<n:=by simpa using hi
  exact hi'
 ·show n<=_
  simp
 ·obtain⟨rfl,rfl⟩:=y
  have hi':i<n:=by simpa using hi
  exact⟨aK.refl _,.int (lo+i),by rw [List.getElem?_map,List.getElem?_range hi'];rfl,H,aK.refl _,.int _,fun _ _ z=>.inl z,s'⟩
theorem qM {a:Expr}{ta:AD}{p pos:Pos}(hg:Gl X "range")(hm:X.mg "range"=none)(ha:pR X [a] ta)(hs:starEach [a] X.env=[(false,eval a X.env)]:=by rfl):PId X tg (.Call (.Name "range" p) [a] [] pos) (D4 ta):=by
 refine⟨PI.imp (An hg hm ha.pa hs) fun σ H R ⟨δ,r,h⟩=>⟨δ,r,ha.mono _ _ _ (fun ds ⟨n,e,h1,h2,q⟩ vs H1 s1 dvs=>?_) h⟩,fun δ P P' g h=>ha.mono _ _ _ (fun ds ⟨n,e,h1,h2,q⟩=>⟨n,e,h1,h2,g _ q⟩) h⟩
 subst e
 cases dvs with
 | cons a b =>
  cases a
  cases b
  exact⟨n,rfl,h1,h2,q _ H1 s1 (CF 0 n.toNat)⟩
end
abbrev BS:=D->SD->(SD->Prop)->Prop
structure Jj (X:Cx) (tg:Expr) (g:BS):Prop where
 pg:PG X tg (fun v σ H Q=>∃ d δ,Dv X.K H v d/\bf X.K H σ δ/\g d δ (kS X.K H Q))
 mono:∀ d δ (P P':SD->Prop),(∀ δ,P δ->P' δ)->g d δ P->g d δ P'
def hName (i:Nat):BS:=fun d δ Q=>Q (δ.set i (some d))
section
variable {X:Cx}{tg iter:Expr}{body:List Stmt}{ti:AD}{g:BS}{tb:jS}{pos:Pos}
theorem PG.imp {t t':TG}(h:PG X tg t)(f:∀ v σ H Q,t' v σ H Q->t v σ H Q):PG X tg t':=fun pins s σ H v u Q I r q=>h pins s σ H v u Q I r (f v σ H Q q)
theorem bR {i:Nat}{x:Str}(hN:X.N.Nodup)(hi:X.N[i]?=some x)(hx:Loc X.env.scope x)(hf:X.fn x=true\/X.env.scope.names.lookup x=some .local:=by first|exact .inl rfl|exact .inr rfl|assumption):Jj X (.Name x pos) (hName i) :=
 ⟨PG.imp (bF hN hi hx hf) fun v σ H Q ⟨d,δ,dv,r,q⟩=>q _ H (aK.refl _) (r.set i dv),fun d δ P P' f q=>f _ q⟩
def Mq (ti:AD)(g:BS)(tb:jS):jS:=fun E δ=>ti δ fun ds=>∃ inv:Nat->SD->Prop,inv 0 δ /\
 (∀ i d δ',ds[i]?=some d->inv i δ'->g d δ' fun δ2=>tb { E with nx:=inv (i+1),ct:=inv (i+1),bk:=E.nx } δ2)/\∀ δ',inv ds.length δ'->E.nx δ'
theorem DE (hp:PassesOwn (model X.prog X.w) X.A X.env X.xe)(hc:X.calm=true)(hi:PId X tg iter ti)(hg:Jj X tg g)(hb:pS X body tb)(hs:∀ x,foldedSetIterable iter X.env x=pure x:=by intro _;rfl) :
  yZ X (.For tg iter body [] pos) (Mq ti g tb):=by
 refine⟨PS.imp (uP hp hc hi.pi hg.pg hb.ps hs) fun D σ H ⟨δ,r,h⟩=>⟨δ,r,hi.mono _ _ _ (fun ds ⟨inv,i0,step,fin⟩ J H1 s1 it=>?_) h⟩,fun E E' δ l h=>hi.mono _ _ _ (fun ds ⟨inv,i0,step,fin⟩=>⟨inv,i0,fun i d δ' hd hin=>hg.mono _ _ _ _ (fun δ2 q=>hb.mono { E with nx:=inv (i+1),ct:=inv (i+1),bk:=E.nx } _ _ ⟨fun _ q=>q,l.rt,l.nx,fun _ q=>q⟩ q) (step i d δ' hd hin),fun δ' q=>l.nx _ (fin δ' q)⟩) h⟩
 refine⟨fun i m σ' H'=>m=ds.length - i/\i<=ds.length/\aK H1 H'/\∃ δ',bf X.K H' σ' δ'/\inv i δ',⟨ds.length,rfl,Nat.zero_le _,aK.refl _,δ,r.same s1,i0⟩,?_⟩
 rintro i m σ' H' ⟨rfl,hle,s',δ',r',hin⟩
 by_cases hlt:i<ds.length
 ·refine .inr ⟨it.go i H' s' hlt,fun σ2 H2=>aK H1 H2/\∃ δ2,bf X.K H2 σ2 δ2/\inv (i+1) δ2,fun σ2 H2 ⟨s2,δ2,r2,h2⟩=>⟨ds.length - (i+1),by omega,rfl,hlt,s2,δ2,r2,h2⟩,fun x H'' y=>?_⟩
  obtain⟨s2,d,hd,Hx,_,dvx,_,sx⟩:=it.Dq i H' x H'' s' hlt y
  have dv:=dvx.same sx
  have sA:=s'.trans s2
  refine⟨d,δ',dv,r'.same s2,hg.mono _ _ _ _ (fun δ2 q σ3 H3 s3 r3=>⟨δ2,r3,hb.mono { mQ X.K H D with nx:=inv (i+1),ct:=inv (i+1),bk:=(mQ X.K H D).nx } _ _ ?_ q⟩) (step i d δ' hd hin)⟩
  have sB:=s1.trans (sA.trans s3)
  exact⟨fun δ3 q3 σ4 H4 s4 r4=>⟨sA.trans (s3.trans s4),δ3,r4,q3⟩,fun _ q3=>q3.on sB,fun _ q3=>q3.on sB,fun δ3 q3 σ4 H4 s4 r4=>⟨sA.trans (s3.trans s4),δ3,r4,q3⟩⟩
 ·have e:i=ds.length:=by omega
  subst e
  exact .inl ⟨it.stop H' s',fin δ' hin σ' H' (s1.trans s') r'⟩
end
structure u_ (X:Cx) (ifs:List Expr) (t:TD):Prop where
 Lv:ye X ifs (oT X.K t)
 mono:hW t
def LZ:TD:=fun _ Q=>Q true
section
variable {X:Cx}{c:Expr}{ut:TD}
theorem ye.imp {ifs:List Expr}{t t':TT}(h:ye X ifs t)(f:∀ σ H Q,t' σ H Q->t σ H Q):ye X ifs t':=fun pins s σ H Q I q=>h pins s σ H Q I (f σ H Q q)
theorem dX:u_ X [] LZ:=⟨ye.imp Fn fun σ H Q ⟨δ,r,h⟩=>h H (aK.refl _),fun δ P P' g h=>g _ h⟩
theorem oy (h:mH X c ut):u_ X [c] ut:=⟨Fo h.pt,h.mono⟩
end
def pV (caps:List Nat)(δ:SD):SD:=caps.map fun j=>(δ[j]?).getD none
def nv (caps:List Nat)(ti:AD)(tt:TD)(te:ED):ED:=fun δ Q=>ti δ fun ds=>∃ outs:List (Option D),outs.length=ds.length /\
 (∀(i:Nat) (d:D) (o:Option D),ds[i]?=some d->outs[i]?=some o->tt (some d::pV caps δ) fun b=>b=o.isSome/\(b=true->te (some d::pV caps δ) fun y=>o=some y))/\ds.length<sizeLine/\Q (.lst (outs.filterMap id))
theorem yg {K:PySem.W.Frag}{H:Hp}{σ:L2.St}{δ:SD}(r:bf K H σ δ){x:V}{d:D}(dv:Dv K H x d)(caps:List Nat):bf K H (some x::caps.map fun j=>(σ[j]?).getD none) (some d::pV caps δ):=by
 refine⟨by unfold pV;simp,fun i e h=>?_⟩
 cases i with
 | zero=>simp at h;subst h;exact⟨x,rfl,dv⟩
 | succ i =>
  unfold pV at h
  simp only [List.getElem?_cons_succ,List.getElem?_map] at h ⊢
  cases q:caps[i]? with
  | none=>rw [q] at h;cases h
  | some j =>
   rw [q] at h
   have h':(δ[j]?).getD none=some e:=by simpa using h
   have h2:δ[j]?=some (some e):=by
    cases z:δ[j]? with
    | none=>rw [z] at h';cases h'
    | some o=>rw [z] at h';exact congrArg some h'
   obtain⟨v,hv,dv⟩:=r.get j e h2
   exact⟨v,by simp [hv],dv⟩
theorem qA {K:PySem.W.Frag}{caps:List Nat}{ti:AD}{tt:TD}{te:ED}(mi:ml ti)(mt:hW tt)(me:bV te){σ:L2.St}{H:Hp}{Q:VK}(h:oE K (nv caps ti tt te) σ H Q) :
  sH 1 caps (fun σ H R=>∃ δ,bf K H σ δ/\ti δ fun ds=>∀ J H1,aK H H1->Jh K J H1 ds->R J H1) (eO 0) (qw (oT K tt)) (qp (oE K te)) σ H Q:=by
 obtain⟨δ,r,h⟩:=h
 refine⟨δ,r,mi _ _ _ (fun ds ⟨outs,hol,each,hlen,q⟩ J H1 s1 it D hD=>?_) h⟩
 refine⟨fun i m ys H'=>m=ds.length - i/\i<=ds.length/\∃ H0,H0 D=none/\aK H1 H0/\bS K H0 ys ((outs.take i).filterMap id)/\H'=upd H0 D (.lst ys),⟨ds.length,rfl,Nat.zero_le _,H1,hD,aK.refl _,.nil,rfl⟩,?_⟩
 rintro i m ys H' ⟨rfl,hle,H0,h0,s0,dys,rfl⟩
 refine⟨aJ,?_⟩
 have sU:aK H1 (upd H0 D (.lst ys)):=s0.trans (aw h0)
 by_cases hlt:i<ds.length
 ·refine .inr ⟨it.go i _ sU hlt,fun x H'' y=>?_⟩
  obtain⟨s2,d,hd,Hx,sx1,dvx,only,sx⟩:=it.Dq i _ x H'' sU hlt y
  have hD2:H'' D=some (.lst ys):=s2 _ _ aJ
  have ne1:∀ a o,H1 a=some o->a≠D:=fun a o z=>bL z hD
  have nex:∀ a o,Hx a=some o->a≠D:=fun a o z w=>by
   rcases only a o z with z1|z1
   ·exact ne1 a o z1 w
   ·rw [w,aJ] at z1;cases z1
  have sd1:aK H0 (del H'' D):=fun a o z=>by
   rw [qF (bL z h0)]
   exact s2 a o (aw h0 a o z)
  have sdx:aK Hx (del H'' D):=fun a o z=>by
   rw [qF (nex a o z)]
   exact sx a o z
  obtain⟨o,ho⟩:∃ o,outs[i]?=some o:=⟨_,List.getElem?_eq_getElem (show i<outs.length by omega)⟩
  have rel:bf K (del H'' D) (some x::caps.map fun j=>(σ[j]?).getD none) (some d::pV caps δ):=yg (r.same (s1.trans (s0.trans sd1))) (dvx.same sdx) caps
  refine⟨Le.one,D,ys,hD2,_,rel,mt _ _ _ (fun b ⟨eb,hb⟩ H3 s3 h3=>?_) (each i d o hd ho)⟩
  have ht:outs.take (i+1)=outs.take i++[o]:=by rw [List.take_succ,ho];rfl
  have s03:aK H0 H3:=sd1.trans s3
  cases b with
  | false =>
   refine aW ?_
   refine⟨ds.length - (i+1),by omega,rfl,hlt,H3,h3,s0.trans s03,?_,rfl⟩
   have on:o=none:=by cases o with|none=>rfl|some z=>cases eb
   rw [ht,on,List.filterMap_append]
   simpa using dys.same s03
  | true =>
   refine av ?_
   refine⟨D,ys,aJ,?_⟩
   rw [yo h3]
   refine⟨_,rel.same s3,me _ _ _ (fun y ey v H4 s4 dv h4=>⟨aJ,?_,ds.length - (i+1),by omega,rfl,hlt,H4,h4,s0.trans (s03.trans s4),?_,uo⟩) (hb rfl)⟩
   ·rw [dys.length]
    exact Nat.lt_of_le_of_lt (Nat.le_trans (List.length_filterMap_le _ _) (List.length_take_le' _ _)) (by rw [hol];exact hlen)
   ·rw [ht,ey,List.filterMap_append]
    exact(dys.same (s03.trans s4)).append (.cons dv .nil)
 ·have e:i=ds.length:=by omega
  subst e
  refine .inl ⟨it.stop _ sU,?_⟩
  rw [<- hol,List.take_length] at dys
  exact q _ _ (s1.trans sU) (.lst (dg.of aJ) (dys.same (aw h0)))
section
variable {X:Cx}{scope:Scope}{cl:List (Str × Addr)}{x:Str}{cn:List Str}{caps:List Nat}{elt tg iter:Expr}{ifs:List Expr}{ti:AD}{tt:TD}{te:ED}{pos:Pos}
theorem oV (mi:ml ti):bV (nv caps ti tt te):=fun δ P P' g h=>mi _ _ _ (fun ds ⟨outs,hol,each,hlen,q⟩=>⟨outs,hol,each,hlen,g _ q⟩) h
theorem Ha (S:cC X scope cl [x] caps cn)(hc:X.calm=true)(hi:PId X tg iter ti)(hg:∀ C fp s₂ H₂,PG (a_ X scope cl C ([x]++cn) fp s₂ H₂) tg (eO 0))(ht:∀ C fp s₂ H₂,u_ (a_ X scope cl C ([x]++cn) fp s₂ H₂) ifs tt)
  (he:∀ C fp s₂ H₂,PD (a_ X scope cl C ([x]++cn) fp s₂ H₂) elt te)(mt:hW tt)(me:bV te)(hs:∀ x,foldedSetIterable iter X.env x=pure x:=by intro _;rfl):PD X (.ListComp elt [⟨tg,iter,ifs,0⟩] scope pos) (nv caps ti tt te) :=
 ⟨(Fb S hc hi.pi hg (fun C fp s₂ H₂=>iw (ht C fp s₂ H₂).Lv) (fun C fp s₂ H₂=>lM (he C fp s₂ H₂).pe) hs).imp fun σ H Q h=>qA hi.mono mt me h,oV hi.mono⟩
theorem JQ {i:Nat}{y:Str}{py spos:Pos}(hN:X.N.Nodup)(hi':X.N[i]?=some y)(hy:Loc X.env.scope y)(S:cC X scope cl [x] caps cn)(hc:X.calm=true)(hi:PId X tg iter ti)
  (hg:∀ C fp s₂ H₂,PG (a_ X scope cl C ([x]++cn) fp s₂ H₂) tg (eO 0))(ht:∀ C fp s₂ H₂,u_ (a_ X scope cl C ([x]++cn) fp s₂ H₂) ifs tt)(he:∀ C fp s₂ H₂,PD (a_ X scope cl C ([x]++cn) fp s₂ H₂) elt te)(mt:hW tt)(me:bV te)
  (hsw:swapsWith (.ListComp elt [⟨tg,iter,ifs,0⟩] scope pos) (some (.Name y py)) spos.line X.env=pure true:=by rfl)(hf:X.fn y=true\/X.env.scope.names.lookup y=some .local:=by first|exact .inl rfl|exact .inr rfl|assumption)
  (hs:∀ x,foldedSetIterable iter X.env x=pure x:=by intro _;rfl):yZ X (.Assign [.Name y py] (.ListComp elt [⟨tg,iter,ifs,0⟩] scope pos) spos) (Ap i (nv caps ti tt te)) :=
 ⟨PS.imp (uN hN hi' hy S hc hi.pi hg (fun C fp s₂ H₂=>iw (ht C fp s₂ H₂).Lv) (fun C fp s₂ H₂=>lM (he C fp s₂ H₂).pe) hsw hf hs) fun D σ H ⟨δ,r,h⟩ =>
   qA hi.mono mt me ⟨δ,r,oV hi.mono _ _ _ (fun d q v H1 s1 dv=>q _ H1 s1 ((r.same s1).set i dv)) h⟩,
  fun E E' δ l h=>oV hi.mono _ _ _ (fun d q=>l.nx _ q) h⟩
end
def y_:D->Option String
 | .aj=>some "NoneType"
 | .bl _=>some "bool"
 | .int _=>some "int"
 | .str _=>some "str"
 | .lst _=>some "list"
 | .tup _=>some "tuple"
 | .dK _=>some "dict"
 | .dT _=>some "dict"
 | .obj _ _=>none
 | .adr _=>none
 | .exc _ _ _=>none
structure ft (K:PySem.W.Frag) (C:Addr):Prop where
 cl:q_ K C
 ha:findIn K (.ref C) "__class__"=some (some (.builtin "object.__class__"))
 hn:PySem.W.specialIn K (.builtin "object.__class__") "__get__"=some (some (.builtin "getset_descriptor.__get__"))
 Ny:PySem.W.takesIn K (.builtin "object.__class__")=some true
 hm:PySem.W.mroIn K C (.type "object")=some true
inductive Jl (K:PySem.W.Frag):D->Value->Prop
 | k {d:D} {T:String} (h:y_ d=some T):Jl K d (.type T)
 | o {C:Addr} {gs:List (Str × D)} (h:ft K C):Jl K (.obj C gs) (.ref C)
section
variable {X:Cx}{pins:List (Addr × Obj)}{σ:L2.St}{H:Hp}{s:Shared}
theorem Ek {x:V}{u t:Value}{d:D}(I:Inv X pins σ H s)(rx:RelV x u)(dv:Dv X.K H x d)(ty:Jl X.K d t):∃ Hh,PySem.W.KitX X.K u t Hh/\Hh s.heap/\u≠.builtin "__main__.__loader__#opaque":=by
 cases ty with
 | k h =>
  cases dv with
  | aj=>cases h;cases(show u=Value.none from rx);exact⟨_,PySem.W.kitx_none,True.intro,fun z=>nomatch z⟩
  | bl y=>cases h;cases(show u=Value.bool y from rx);exact⟨_,PySem.W.kitx_bool,True.intro,fun z=>nomatch z⟩
  | int i=>cases h;obtain⟨t,q⟩:=(show ∃ t,u=Value.int i t from rx);cases q;exact⟨_,PySem.W.kitx_int,True.intro,fun z=>nomatch z⟩
  | str y=>cases h;obtain⟨t,q⟩:=(show ∃ t,u=Value.str y t from rx);cases q;exact⟨_,PySem.W.kitx_str,True.intro,fun z=>nomatch z⟩
  | @lst a xs ds h1 h2 =>
   cases h
   cases(show u=Value.ref a from rx)
   obtain⟨its,_,pl,_⟩:=I.list h1
   obtain⟨o,n,e1,e2,_⟩:=pl
   exact⟨_,PySem.W.kitx_list,⟨o,e1,e2⟩,fun z=>nomatch z⟩
  | @tup a xs ds h1 h2 =>
   cases h
   cases(show u=Value.ref a from rx)
   obtain⟨its,_,pl,_⟩:=I.tuple h1
   obtain⟨o,n,e1,e2,_⟩:=IsTup.of_get pl
   exact⟨_,PySem.W.kitx_tuple,⟨o,e1,e2⟩,fun z=>nomatch z⟩
  | @dK a kvs gs h1 h2 =>
   cases h
   cases(show u=Value.ref a from rx)
   obtain⟨_,_,vs,_,p⟩:=(show bN X.prog X.w H s.heap a (.dK kvs) from h1.ok I.bp)
   obtain⟨o,es,ep,g1,g2,_⟩:=p
   exact⟨_,PySem.W.kitx_dict,⟨o,g1,g2.1⟩,fun z=>nomatch z⟩
  | @dT a kvs gs h1 h2 =>
   cases h
   cases(show u=Value.ref a from rx)
   obtain⟨_,_,xs,_,o,es,ep,g1,g2,_⟩:=(show bN X.prog X.w H s.heap a (.dT kvs) from h1.ok I.bp)
   exact⟨_,PySem.W.kitx_dict,⟨o,g1,g2.1⟩,fun z=>nomatch z⟩
  | obj h1 h2=>cases h
  | adr _=>cases h
  | exc _ _ _=>cases h
 | o h =>
  cases dv with
  | @obj a C dx fs gs h1 h2 =>
   cases(show u=Value.ref a from rx)
   obtain⟨mA,O,_⟩:=qN I.bp h1
   obtain⟨od,J,_⟩:=O.look
   exact⟨_,PySem.W.kitx_own (h.cl.get _) h.cl.hd h.ha h.hn h.Ny h.hm,J,fun z=>nomatch z⟩
end
section
variable {X:Cx}{e:Expr}{te:ED}{pos p p2:Pos}
theorem rR {c:Value}{vc:V}(rc:∀ u,RelV vc u->u=c):jO X (.builtin "isinstance") (fun xs H Q=>∃ x d t b,xs=[x,vc]/\Dv X.K H x d/\Jl X.K d t/\kitOne X.K t c=some b/\Q (.bl b) H):=by
 intro pins s σ H xs us Q I r h
 obtain⟨x,d,t,b,rfl,dv,ty,e,q⟩:=h
 obtain⟨u,w',rfl,r1,r2⟩:=vals2 r
 obtain rfl:=rc w' r2
 obtain⟨Hh,Z,hh,hx⟩:=Ek I r1 dv ty
 exact PySem.W.kia_one Z I.uv hh e hx fun tk=>⟨.bl b,H,I.tok _,rfl,q⟩
def Dn (K:PySem.W.Frag)(c:Value)(te:ED):ED:=fun δ Q=>te δ fun d=>∃ t b,Jl K d t/\kitOne K t c=some b/\Q (.bl b)
theorem vN {c:Value}{vc:V}(he:PD X e te){ec:Expr}(hp:PE X (.Call (.Name "isinstance" p) [e,ec] [] pos) (L0 (fun xs H Q=>∃ x d t b,xs=[x,vc]/\Dv X.K H x d/\Jl X.K d t/\kitOne X.K t c=some b/\Q (.bl b) H) (zj (oE X.K te) (zj (tC vc) F7)))) :
  PD X (.Call (.Name "isinstance" p) [e,ec] [] pos) (Dn X.K c te) :=
 ⟨hp.imp fun σ H Q ⟨δ,r,h⟩=>⟨δ,r,he.mono _ _ _ (fun d ⟨t,b,ty,ek,k⟩ v H1 s1 dv=>⟨v,d,t,b,rfl,dv,ty,ek,k _ H1 s1 (.bl _)⟩) h⟩,fun δ P P' g h=>he.mono _ _ _ (fun d ⟨t,b,ty,ek,k⟩=>⟨t,b,ty,ek,g _ k⟩) h⟩
theorem qB {T:String}{x:Str}(he:PD X e te)(hg:Gl X "isinstance")(hm:X.mg "isinstance"=none)(hg2:Gl X x)(hm2:X.mg x=none)(hv2:bootBuiltins x=some (.type T))(hn:x≠"__name__":=by decide)(hd:(x == ("__debug__":Str))=false:=by decide)
  (hs:starEach [e,.Name x p2] X.env=(false,eval e X.env)::starEach [.Name x p2] X.env:=by rfl):PD X (.Call (.Name "isinstance" p) [e,.Name x p2] [] pos) (Dn X.K (.type T) te) :=
 vN (vc:=.ty T) he (iJ (rR fun u z=>z) hg hm boot_isinstance (d8 he.pe (d8 (FY (v:=.ty T) hg2 hm2 hv2 rfl hn hd) ir) hs) (he:=hs))
theorem Hb {C:Addr}{x:Str}(he:PD X e te)(hg:Gl X "isinstance")(hm:X.mg "isinstance"=none)(hg2:Gl X x)(hm2:X.mg x=some (.ref C))(hd:(x == ("__debug__":Str))=false:=by decide)
  (hs:starEach [e,.Name x p2] X.env=(false,eval e X.env)::starEach [.Name x p2] X.env:=by rfl):PD X (.Call (.Name "isinstance" p) [e,.Name x p2] [] pos) (Dn X.K (.ref C) te) :=
 vN (vc:=.ref C) he (iJ (rR fun u z=>z) hg hm boot_isinstance (d8 he.pe (d8 (zR (v:=.ref C) hg2 hm2 rfl hd) ir) hs) (he:=hs))
end
def vi (T:String)(d:D):Option Bool:=(y_ d).map fun k=>k == T||(k == "bool"&&T == "int")
theorem Et {K:PySem.W.Frag}{d:D}{k T:String}(hk:y_ d=some k)(hT:T∈["bool","int","str","list","tuple","dict"]):kitOne K (.type k) (.type T)=some (k == T||(k == "bool"&&T == "int")):=by
 have hk':k∈["NoneType","bool","int","str","list","tuple","dict"]:=by cases d<;>cases hk<;>simp
 simp only [List.mem_cons,List.not_mem_nil,or_false] at hk' hT
 rcases hk' with rfl|rfl|rfl|rfl|rfl|rfl|rfl<;>rcases hT with rfl|rfl|rfl|rfl|rfl|rfl<;>kernel_rfl
def sQ (T:String)(te:ED):ED:=fun δ Q=>te δ fun d=>∃ b,vi T d=some b/\Q (.bl b)
theorem PD.vi {X:Cx}{e:Expr}{te:ED}{T:String}(h:PD X e (Dn X.K (.type T) te))(m:bV te)(hT:T∈["bool","int","str","list","tuple","dict"]):PD X e (sQ T te) :=
 ⟨h.pe.imp fun σ H Q ⟨δ,r,q⟩=>⟨δ,r,m _ _ _ (fun d ⟨b,eb,k⟩=>by
   unfold DC.vi at eb
   cases hk:y_ d with
   | none=>rw [hk] at eb;cases eb
   | some kk =>
    rw [hk] at eb
    have e1:(kk == T||(kk == "bool"&&T == "int"))=b:=by simpa using eb
    exact⟨_,b,.k hk,by rw [Et hk hT,e1],k⟩) q⟩,fun δ P P' g q=>m _ _ _ (fun d ⟨b,eb,k⟩=>⟨b,eb,g _ k⟩) q⟩
def Ma:D->Option Int
 | .str x=>if x.length<=sizeLine then some x.length else none
 | .lst xs=>some xs.length
 | .tup xs=>some xs.length
 | _=>none
def DJ:cL:=fun ds Q=>∃ d n,ds=[d]/\Ma d=some n/\Q (.int n)
theorem Kl:cQ DJ:=fun ds P P' g ⟨d,n,e,h,q⟩=>⟨d,n,e,h,g _ q⟩
theorem By {K:PySem.W.Frag}:rK K (fun xs H Q=>∃ x n,xs=[x]/\Jq K x H n/\Q (.int n) H) DJ:=by
 intro H vs ds Q dvs ⟨d,n,e,h,q⟩
 subst e
 cases dvs with
 | cons dv r =>
  cases r
  cases dv with
  | str x =>
   have h':(if x.length<=sizeLine then some (x.length:Int) else none)=some n:=h
   by_cases hz:x.length<=sizeLine
   ·rw [if_pos hz] at h'
    cases h'
    exact⟨_,x.length,rfl,⟨hz,rfl⟩,q _ H (aK.refl _) (.int _)⟩
   ·rw [if_neg hz] at h'
    cases h'
  | lst h1 h2=>cases h;exact⟨_,_,rfl,.inl ⟨_,h1,rfl⟩,by rw [h2.length];exact q _ H (aK.refl _) (.int _)⟩
  | tup h1 h2=>cases h;exact⟨_,_,rfl,.inr ⟨_,h1,rfl⟩,by rw [h2.length];exact q _ H (aK.refl _) (.int _)⟩
  | _=>cases h
section
variable {X:Cx}{e:Expr}{es:List Expr}{t:AD}{pos p:Pos}
theorem dt (hg:Gl X "len")(hm:X.mg "len"=none)(ha:pR X (e::es) t)(h1:starEach (e::es) X.env=(false,eval e X.env)::starEach es X.env:=by rfl)(h2:(backTo pos (starEach es X.env)).any (·.1)=false:=by rfl) :
  PD X (.Call (.Name "len" p) (e::es) [] pos) (vB DJ t):=Bj (iJ Ba hg hm PySem.boot_len ha.pa (he:=h1) (hpl:=h2)) ha.mono By Kl
theorem boot_str:bootBuiltins "str"=some (.type "str"):=by decide +kernel
theorem zy:bootBuiltins "int"=some (.type "int"):=by decide +kernel
theorem xA:bootBuiltins "bool"=some (.type "bool"):=by decide +kernel
theorem boot_tuple:bootBuiltins "tuple"=some (.type "tuple"):=by decide +kernel
theorem boot_list:bootBuiltins "list"=some (.type "list"):=by decide +kernel
theorem zx:bootBuiltins "all"=some (.builtin "all"):=by decide +kernel
def DG:cL:=fun ds Q=>∃(bs:List Bool),ds=[.lst (bs.map D.bl)]/\Q (.bl (bs.all id))
theorem Ki:cQ DG:=fun ds P P' g ⟨bs,e,q⟩=>⟨bs,e,g _ q⟩
theorem zm {K:PySem.W.Frag}{H:Hp}:∀{vs:List V} {bs:List Bool},bS K H vs (bs.map D.bl)->vs=bs.map V.bl
 | [],[],_=>rfl
 | _,_::_,.cons (.bl _) r=>by rw [zm r];rfl
theorem Bv {K:PySem.W.Frag}{A:Around}(hh:A.handled=none):rK K (fun xs H Q=>∃(p:Addr) (bs:List Bool),xs=[.ref p]/\A.handled=none/\dg K H p (bs.map V.bl)/\Q (.bl (bs.all id)) H) DG:=by
 intro H vs ds Q dvs ⟨bs,e,q⟩
 subst e
 cases dvs with
 | cons dv r =>
  cases r
  cases dv with
  | lst h1 h2 =>
   rw [zm h2] at h1
   exact⟨_,bs,rfl,hh,h1,q _ H (aK.refl _) (.bl _)⟩
theorem Ga (hh:X.A.handled=none)(hg:Gl X "all")(hm:X.mg "all"=none)(ha:pR X (e::es) t)(h1:starEach (e::es) X.env=(false,eval e X.env)::starEach es X.env:=by rfl)(h2:(backTo pos (starEach es X.env)).any (·.1)=false:=by rfl):PD X (.Call (.Name "all" p) (e::es) [] pos) (vB DG t):=Bj (iJ BZ hg hm zx ha.pa (he:=h1) (hpl:=h2)) ha.mono (Bv hh) Ki
end
structure Np (X:Cx) (C:Addr) (m:Str) (sd:cL) (dd:List D) (k:Nat) (f:Addr) (fd:FuncData) (ps:List Str) (dvs:List V) (ds:List Value):Prop where
 cls:q_ X.K C
 Kn:Meth X.K C m f
 fn:cN X.prog X.w X.K X.mg X.base pQ k f fd ps (qm X.K sd)
 mono:cQ sd
 room:cD k X.A
 binds:Binds X.K fd ps ds
 vals:Vals dvs ds
 dflt:∀ H,bS X.K H dvs dd
structure MH (X:Cx) (C:Addr) (m:Str) (sd:cL) (dd:List D):Prop where
 ex:∃ k f fd ps dvs ds,Np X C m sd dd k f fd ps dvs ds
def pP (ok:Addr->Prop)(m:Str)(sd:Addr->cL)(dd:List D)(ta:ED)(t:AD):ED:=fun δ Q=>ta δ fun d=>∃ C gs,d=.obj C gs/\gs.lookup m=none/\ok C/\t δ fun ds=>sd C (d::(ds++dd)) Q
section
variable {X:Cx}{ok:Addr->Prop}{o e:Expr}{es:List Expr}{m:Str}{sd:Addr->cL}{dd:List D}{ta:ED}{t:AD}{pos apos:Pos}
def DS (X:Cx)(m:Str)(sd:Addr->cL)(dd:List D)(ta:TE)(t:TA):TE:=fun σ H Q=>ta σ H fun x H1=>∃ a C dx fs,x=.ref a/\Rd H1 a (.ins C dx fs)/\fs.lookup m=none/\MH X C m (sd C) dd /\
 ∀ dvs,(∀ H,bS X.K H dvs dd)->t σ H1 fun vs H2=>qm X.K (sd C) (x::(vs++dvs)) H2 Q E0
theorem Am {ta:TE}{pl:Sem Bool}(he:PE X o ta)
  (ht:eval (.Call (.Attribute o m apos) [] [] pos) X.env=(do
   let ov <- eval o X.env
   standAt apos.atName
   let (f,first) <- holding [ov] (getMethod ov m pl)
   callWith pos f first (backTo pos (starEach [] X.env)) (backToKw pos (keywordEach [] X.env))):=by rfl) :
  PE X (.Call (.Attribute o m apos) [] [] pos) (DS X m sd dd ta F7):=by
 intro pins s σ H Q I h
 refine PySem.W.methodCall_KW (pl:=pl) (b9 (he pins s σ H _ I h) fun u s1 ⟨x,H1,I1,rx,a,C,dx,fs,ex,ea,l,⟨k,f,fd,ps,dvs,ds,M⟩,q⟩=>?_) ht
 subst ex
 obtain rfl:u=Value.ref a:=rx
 refine pB I1 ea M.cls M.Kn l ?_
 exact PySem.W.callWith_K0 (first:=[.ref a]) I1.uv M.Kn.kp (yG (us:=[.ref a]) (vs:=[.ref a]) M.fn M.room M.binds M.vals rz I1 (.cons rfl .nil) (q dvs M.dflt))
theorem IS (hM:∀ C,ok C->MH X C m (sd C) dd)(ma:bV ta)(mt:ml t):bV (pP ok m sd dd ta t):=fun δ P P' g h=>ma _ _ _ (fun d ⟨C,gs,e,l,M,q⟩=>⟨C,gs,e,l,M,mt _ _ _ (fun ds k=>by
 obtain⟨_,_,_,_,_,_,M'⟩:=hM C M
 exact M'.mono _ _ _ g k) q⟩) h
theorem FG (hM:∀ C,ok C->MH X C m (sd C) dd)(ma:bV ta)(mt:ml t){σ:L2.St}{H:Hp}{Q:VK}(h:oE X.K (pP ok m sd dd ta t) σ H Q):DS X m sd dd (oE X.K ta) (oA X.K t) σ H Q:=by
 obtain⟨δ,r,h⟩:=h
 refine⟨δ,r,ma _ _ _ (fun d ⟨C,gs,ed,l,M,q⟩ v H1 s1 dv=>?_) h⟩
 subst ed
 cases dv with
 | @obj a C dx fs gs h1 h2 =>
  refine⟨_,C,dx,fs,rfl,h1,h2.none l,hM C M,fun dvs hd=>⟨δ,r.same s1,mt _ _ _ (fun ds k vs H2 s2 dvs'=>?_) q⟩⟩
  obtain⟨_,_,_,_,_,_,M'⟩:=hM C M
  exact⟨_,.cons (Dv.same s2 (.obj h1 h2)) (dvs'.append (hd H2)),M'.mono _ _ _ (fun d k=>k.on (s1.trans s2)) k⟩
theorem ES {pl:Sem Bool}(hM:∀ C,ok C->MH X C m (sd C) dd)(he:PD X o ta)
  (ht:eval (.Call (.Attribute o m apos) [] [] pos) X.env=(do
   let ov <- eval o X.env
   standAt apos.atName
   let (f,first) <- holding [ov] (getMethod ov m pl)
   callWith pos f first (backTo pos (starEach [] X.env)) (backToKw pos (keywordEach [] X.env))):=by rfl) :
  PD X (.Call (.Attribute o m apos) [] [] pos) (pP ok m sd dd ta sq) :=
 ⟨(Am he.pe ht).imp fun σ H Q h=>by
   have q:=FG (t:=sq) hM he.mono (fun δ P P' g h=>g _ h) h
   obtain⟨δ,r,h'⟩:=q
   refine⟨δ,r,he.mono _ _ _ (fun d k v H1 s1 dv=>?_) h'⟩
   obtain⟨a,C,dx,fs,e1,e2,l,M,z⟩:=k v H1 s1 dv
   refine⟨a,C,dx,fs,e1,e2,l,M,fun dvs hd=>?_⟩
   obtain⟨δ',r',z'⟩:=z dvs hd
   exact z' [] H1 (aK.refl _) .nil,IS hM he.mono fun δ P P' g h=>g _ h⟩
end
abbrev FD:=List (Str × D)
structure rL where
 nx:SD->FD->Prop
 rt:FD->Prop
 fin:FD->Prop
abbrev zr:=rL->SD->FD->Prop
structure rL.Le (E E':rL):Prop where
 nx:∀ δ gs,E.nx δ gs->E'.nx δ gs
 rt:∀ gs,E.rt gs->E'.rt gs
 fin:∀ gs,E.fin gs->E'.fin gs
abbrev GU (t:zr):Prop:=∀ E E' δ gs,rL.Le E E'->t E δ gs->t E' δ gs
def putD (f:Str)(d:D):FD->FD
 | []=>[(f,d)]
 | (g,e)::r=>if g=f then(g,d)::r else(g,e)::putD f d r
structure BH (K:PySem.W.Frag) (C a dx:Addr) (H:Hp) (gs:FD):Prop where
 ex:∃ fs,H a=some (.ins C dx fs)/\gM K (dM H a dx) fs gs
 ne:dx≠a
def tK (K:PySem.W.Frag)(C a dx:Addr)(H:Hp)(D:Ends):rL :=
 ⟨fun δ gs=>∀ σ H',aK (dM H a dx) (dM H' a dx)->bf K (dM H' a dx) σ δ->BH K C a dx H' gs->D.nx σ H',fun gs=>∀ H',aK (dM H a dx) (dM H' a dx)->BH K C a dx H' gs->D.rt .aj H',fun gs=>∀ σ H',aK (dM H a dx) (dM H' a dx)->BH K C a dx H' gs->D.nx σ H'⟩
def oI (K:PySem.W.Frag)(C:Addr)(t:Addr->zr):TS:=fun D σ H=>∃ a dx δ gs,bf K (dM H a dx) σ δ/\BH K C a dx H gs/\t a (tK K C a dx H D) δ gs
structure Jk (X:Cx) (C:Addr) (st:List Stmt) (t:Addr->zr):Prop where
 ps:mG X st (oI X.K C t)
 mono:∀ a,GU (t a)
structure Li (X:Cx) (C:Addr) (st:Stmt) (t:Addr->zr):Prop where
 ps:PS X st (oI X.K C t)
 mono:∀ a,GU (t a)
section
variable {X:Cx}{C:Addr}{st:Stmt}{rest:List Stmt}{t u:Addr->zr}{e:Expr}{te:ED}{pos pos' p:Pos}{f:Str}
theorem EZ {K:PySem.W.Frag}{a dx:Addr}{H H1:Hp}{D:Ends}(s:aK (dM H a dx) (dM H1 a dx)):rL.Le (tK K C a dx H D) (tK K C a dx H1 D) :=
 ⟨fun _ _ h σ H' s' r g=>h σ H' (s.trans s') r g,fun _ h H' s' g=>h H' (s.trans s') g,fun _ h σ H' s' g=>h σ H' (s.trans s') g⟩
def MW (t u:Addr->zr):Addr->zr:=fun a E δ gs=>t a { nx:=u a E,rt:=E.rt,fin:=fun _=>False } δ gs
theorem aq (h1:Li X C st t)(h2:Jk X C rest u):Jk X C (st::rest) (MW t u) :=
 ⟨mG.imp (qd h1.ps h2.ps) fun D σ H ⟨a,dx,δ,gs,r,g,h⟩=>⟨a,dx,δ,gs,r,g,h1.mono a { nx:=u a (tK X.K C a dx H D),rt:=(tK X.K C a dx H D).rt,fin:=fun _=>False } _ _ _
   ⟨fun δ' gs' q σ' H' s' r' g'=>⟨a,dx,δ',gs',r',g',h2.mono a _ _ _ _ (EZ s') q⟩,fun gs' q=>q,fun gs' q=>q.elim⟩ h⟩,
  fun a E E' δ gs l h=>h1.mono a { nx:=u a E,rt:=E.rt,fin:=fun _=>False } _ _ _ ⟨fun δ' gs' q=>h2.mono a _ _ _ _ l q,l.rt,fun _ q=>q.elim⟩ h⟩
def KO (C:Addr)(t:jS):Addr->zr:=fun a E δ gs=>t { nx:=fun _=>E.fin gs,rt:=fun d=>d=.aj/\E.rt gs } (δ.set 0 (some (.obj C gs)))
def MV:Addr->zr:=fun a E δ gs=>E.fin gs
theorem yw:Jk X C [] MV:=⟨mG.imp uS fun D σ H ⟨a,dx,δ,gs,r,g,h⟩=>h σ H (aK.refl _) g,fun a E E' δ gs l h=>l.fin _ h⟩
def KN (t:jS):Addr->zr:=fun a E δ gs=>t { nx:=fun δ'=>E.nx δ' gs,rt:=fun d=>d=.aj/\E.rt gs } δ
theorem d6 {t:jS}(h:yZ X st t):Li X C st (KN t):=by
 refine⟨PS.imp (yD h.ps) fun D σ H ⟨a,dx,δ,gs,r,⟨⟨fs,ha,hf⟩,ne⟩,q⟩=>⟨a,dx,C,fs,ha,δ,r,?_⟩,fun a E E' δ gs l q=>h.mono { nx:=fun δ'=>E.nx δ' gs,rt:=fun d=>d=.aj/\E.rt gs } _ _ ⟨fun δ' k=>l.nx _ _ k,fun d k=>⟨k.1,l.rt _ k.2⟩,fun _ k=>k,fun _ k=>k⟩ q⟩
 refine h.mono { nx:=fun δ'=>(tK X.K C a dx H D).nx δ' gs,rt:=fun d=>d=.aj/\(tK X.K C a dx H D).rt gs } _ _ ⟨fun δ' k σ' H' s' r' z1 z2 _=>?_,fun d k v H' s' dv z1 z2 _=>?_,fun _ k=>k.elim,fun _ k=>k.elim⟩ q
 ·have hs:dM (shown H' a dx C fs) a dx=H':=lA z1 z2
  exact k σ' _ (by rw [hs];exact s') (by rw [hs];exact r') ⟨⟨fs,nq,by rw [hs];exact gM.same s' hf⟩,ne⟩
 ·have hs:dM (shown H' a dx C fs) a dx=H':=lA z1 z2
  obtain⟨e,k⟩:=k
  subst e
  cases dv
  exact k _ (by rw [hs];exact s') ⟨⟨fs,nq,by rw [hs];exact gM.same s' hf⟩,ne⟩
theorem gM.put {K:PySem.W.Frag}{H:Hp}{v:V}{d:D}(dv:Dv K H v d):∀{fs:List (Str × V)} {gs:FD},gM K H fs gs->gM K H (iy f v fs) (putD f d gs)
 | _,_,.nil=>.cons dv .nil
 | _,_,.cons (k:=k) h r=>by
  unfold iy putD
  by_cases q:k=f
  ·rw [if_pos q,if_pos q];exact .cons dv r
  ·rw [if_neg q,if_neg q];exact .cons h (gM.put dv r)
theorem gM.length {K:PySem.W.Frag}{H:Hp}:∀{fs:List (Str × V)} {gs:FD},gM K H fs gs->fs.length=gs.length
 | _,_,.nil=>rfl
 | _,_,.cons _ r=>congrArg (·+1) (gM.length r)
def KQ (K:PySem.W.Frag)(C:Addr)(f:Str)(te:ED):Addr->zr:=fun a E δ gs=>te δ fun d=>δ[0]?=some (some (.adr a))/\q_ K C/\cq K C f/\gs.length<1000/\E.nx δ (putD f d gs)
theorem KR {x:Str}(hN:X.N[0]?=some x)(hv:ur X.env.scope x)(he:PD X e te)(hs:swapsWith e (some (.Attribute (.Name x p) f pos')) pos.line X.env=pure false:=by rfl)(hd:(x == ("__debug__":Str))=false:=by decide)
  (hcd:(x == ("__classdict__":Str))=false:=by decide):Li X C (.Assign [.Attribute (.Name x p) f pos'] e pos) (KQ X.K C f te):=by
 refine⟨PS.imp (JF (dW hN hv hd hcd) (yA he.pe) hs) fun D σ H ⟨a,dx,δ,gs,r,⟨⟨fs,ha,hf⟩,ne⟩,q⟩=>⟨a,dx,C,fs,ha,δ,r,?_⟩,fun a E E' δ gs l q=>he.mono _ _ _ (fun d ⟨k0,k1,k2,k3,k⟩=>⟨k0,k1,k2,k3,l.nx _ _ k⟩) q⟩
 refine he.mono _ _ _ (fun d ⟨k0,k1,k2,k3,k⟩ v H' s' dv z1 z2 _=>?_) q
 obtain⟨w,hw,dw⟩:=r.get 0 _ k0
 cases dw
 refine⟨_,hw,a,C,dx,fs,rfl,nq,k1,k2,by rw [hf.length];exact k3,?_⟩
 rw [BD]
 have hs:dM (shown H' a dx C (iy f v fs)) a dx=H':=lA z1 z2
 exact k σ _ (by rw [hs];exact s') (by rw [hs];exact r.same s') ⟨⟨_,nq,by rw [hs];exact(gM.same s' hf).put dv⟩,ne⟩
theorem qL {H:Hp}{a dx:Addr}:aK (dM H a dx) H:=fun b o h=>by
 unfold dM at h
 split at h
 ·cases h
 ·exact h
theorem BH.dv {K:PySem.W.Frag}{a dx:Addr}{H:Hp}{gs:FD}(g:BH K C a dx H gs):Dv K H (.ref a) (.obj C gs):=by
 obtain⟨⟨fs,h,hf⟩,_⟩:=g
 exact .obj (.of h) (gM.same qL hf)
theorem BH.on {K:PySem.W.Frag}{a dx:Addr}{H H':Hp}{gs:FD}(g:BH K C a dx H gs)(s:aK H H'):BH K C a dx H' gs:=by
 obtain⟨⟨fs,h,hf⟩,ne⟩:=g
 refine⟨⟨fs,s _ _ h,gM.same (fun b o q=>?_) hf⟩,ne⟩
 unfold dM at q ⊢
 split at q
 ·cases q
 ·rename_i z;rw [if_neg z];exact s _ _ q
theorem wO {H H':Hp}{a dx:Addr}(s:aK H H'):aK (dM H a dx) (dM H' a dx):=fun b o q=>by
 unfold dM at q ⊢
 split at q
 ·cases q
 ·rename_i z;rw [if_neg z];exact s _ _ q
theorem j_ {t:jS}(h:pS X rest t):Jk X C rest (fun a E δ gs=>δ[0]?=some (some (.adr a))/\KO C t a E δ gs):=by
 refine⟨mG.imp h.ps fun D σ H ⟨a,dx,δ,gs,r,g,k0,q⟩=>⟨δ.set 0 (some (.obj C gs)),?_,?_⟩,fun a E E' δ gs l ⟨k0,q⟩=>⟨k0,h.mono { nx:=fun _=>E.fin gs,rt:=fun d=>d=.aj/\E.rt gs } _ _ ⟨fun δ' k=>l.fin _ k,fun d k=>⟨k.1,l.rt _ k.2⟩,fun _ k=>k,fun _ k=>k⟩ q⟩⟩
 ·obtain⟨w,hw,dw⟩:=r.get 0 _ k0
  cases dw
  have z:=(r.same qL).set 0 g.dv
  rw [show σ.set 0 (some (.ref a))=σ from by
   refine List.ext_getElem? fun i=>?_
   rw [List.getElem?_set]
   split
   ·rename_i q2
    subst q2
    split
    ·exact hw.symm
    ·rename_i q3
     rw [List.getElem?_eq_none (by omega)] at hw
     cases hw
   ·rfl] at z
  exact z
 ·refine h.mono { nx:=fun _=>(tK X.K C a dx H D).fin gs,rt:=fun d=>d=.aj/\(tK X.K C a dx H D).rt gs } _ _ ⟨fun δ' k σ' H' s' r'=>k σ' H' (wO s') (g.on s'),fun d k v H' s' dv=>?_,fun _ k=>k.elim,fun _ k=>k.elim⟩ q
  obtain⟨e,k⟩:=k
  subst e
  cases dv
  exact k H' (wO s') (g.on s')
end
abbrev GV:=List D->(FD->Prop)->Prop
abbrev wz (sd:GV):Prop:=∀ ds (P P':FD->Prop),(∀ d,P d->P' d)->sd ds P->sd ds P'
def Mz (K:PySem.W.Frag)(C:Addr)(sd:GV):Sp:=fun vs H Q _=>∃ a dx vs' ds,vs=.ref a::vs'/\BH K C a dx H []/\bS K (dM H a dx) vs' ds/\sd ds fun gs=>∀ H',aK (dM H a dx) (dM H' a dx)->BH K C a dx H' gs->Q .aj H'
section
variable {P:Program}{w:World}{K:PySem.W.Frag}{mg:Str->Option Value}{base:Heap}
structure Dy (K:PySem.W.Frag) (x qual:Str) (st:Stmt) (f:Addr) (fd:FuncData):Prop where
 ex:∃(oc:Value) (od:Option Addr) (dV kV doc pm:Value) (an:Option Addr) (cdv ct:Value) (osl:Array (Option Value)),
  fd=fnOf x qual (cz st) (bE st) (aB st) dV kV doc pm an cdv ct/\K.lookup f=some ⟨oc,od,.func fd,osl⟩/\codeIn K cdv qual=true
 kp:keepIn K (.ref f)=true
theorem Dy.ok {P:Program}{w:World}{K:PySem.W.Frag}{mg:Str->Option Value}{base:Heap}{x qual:Str}{st:Stmt}{f:Addr}{fd:FuncData}{N ps:List Str}{k:Nat}{sp:Sp}(F:Dy K x qual st f fd)(S:aE N ps (aB st))(len:∀ vs H Q E,sp vs H Q E->vs.length=ps.length)
  (hbody:∀(cdv:Value) (A:Around) (outer:List Env) (s:Shared) (H:Hp) (vs:List V) (Q:VK) (E:XK),cD k (A.deeper (envOfC qual (aB st) s.heap.objs.size f cdv))->sp vs H Q E ->
   ∃ t,mG (vJ pQ P w K mg base N qual (aB st) f cdv A outer s H E).IZ (bE st) t/\t { nx:=fun _ H'=>Q .aj H',rt:=Q } (L2.start N vs) H):cN P w K mg base pQ (k+1) f fd ps sp:=by
 obtain⟨oc,od,dV,kV,doc,pm,an,cdv,ct,osl,rfl,lk,hcd⟩:=F.ex
 refine Gn lk hcd S len fun A outer s H vs Q E hr hsp=>?_
 obtain⟨t,h,q⟩:=hbody cdv A outer s H vs Q E hr hsp
 exact⟨t,h.IZ,q⟩
theorem N3 {x qual:Str}{st:Stmt}{f C:Addr}{fd:FuncData}{N ps:List Str}{k:Nat}{sd:GV}{t:Addr->zr}(F:Dy K x qual st f fd)(S:aE N ps (aB st))(len:∀ ds Q,sd ds Q->ds.length+1=ps.length)
  (hb:∀(cdv:Value) (A:Around) (outer:List Env) (s:Shared) (H:Hp) (E:XK),cD k (A.deeper (envOfC qual (aB st) s.heap.objs.size f cdv))->Jk (Bx P w K mg base N qual st f cdv A outer s H E) C (bE st) t)
  (hr:∀ a ds Q,sd ds Q->t a { nx:=fun _=>Q,rt:=Q,fin:=Q } (cb N (.adr a::ds)) []):cN P w K mg base pQ (k+1) f fd ps (Mz K C sd):=by
 refine F.ok S (fun vs H Q E ⟨a,dx,vs',ds,e,g,dvs,h⟩=>by rw [e,List.length_cons,dvs.length];exact len ds _ h) (fun cdv A outer s H vs Q E hroom ⟨a,dx,vs',ds,e,g,dvs,h⟩=>?_)
 have B:=hb cdv A outer s H E hroom
 subst e
 refine⟨_,B.ps,a,dx,cb N (.adr a::ds),[],lQ (.cons (.adr a) dvs),g,?_⟩
 let Q':FD->Prop:=fun gs=>∀ H',aK (dM H a dx) (dM H' a dx)->BH K C a dx H' gs->Q .aj H'
 exact B.mono a { nx:=fun _=>Q',rt:=Q',fin:=Q' } _ _ _ ⟨fun δ gs q σ H' s' r' g'=>q H' s' g',fun gs q H' s' g'=>q H' s' g',fun gs q σ H' s' g'=>q H' s' g'⟩ (hr a ds _ h)
end
section
variable {X:Cx}{C f:Addr}{fd:FuncData}{ps:List Str}{sd:GV}{dd:List D}{dvs:List V}{dls:List Value}{k:Nat}{x:Str}{e:Expr}{es:List Expr}{t:AD}{p pos:Pos}
def HH (C:Addr)(sd:GV)(dd:List D)(t:AD):ED:=fun δ Q=>t δ fun ds=>sd (ds++dd) fun gs=>Q (.obj C gs)
theorem He (M:Mk X.K C f)(F:cN X.prog X.w X.K X.mg X.base pQ k f fd ps (Mz X.K C sd))(ms:wz sd)(hr:cD (k+1) X.A)(hg:Gl X x)(hm:X.mg x=some (.ref C))(hb:Binds X.K fd ps dls)(hv:Vals dvs dls)(hd:∀ H,bS X.K H dvs dd)
  (ha:pR X (e::es) t)(hdb:(x == ("__debug__":Str))=false:=by decide)(he:starEach (e::es) X.env=(false,eval e X.env)::starEach es X.env:=by rfl)(hpl:(backTo pos (starEach es X.env)).any (·.1)=false:=by rfl) :
  PD X (.Call (.Name x p) (e::es) [] pos) (HH C sd dd t):=by
 refine⟨(Fd M F hr hg hm hb hv rz ha.pa hdb he hpl).imp fun σ H Q ⟨δ,r,h⟩=>⟨δ,r,ha.mono _ _ _ (fun ds q vs H1 s1 dvs' y dx hy hdx ne=>?_) h⟩,fun δ P P' g h=>ha.mono _ _ _ (fun ds q=>ms _ _ _ (fun gs z=>g _ z) q) h⟩
 have hs:dM (shown H1 y dx C []) y dx=H1:=lA hy hdx
 refine⟨y,dx,_,_,rfl,⟨⟨[],nq,.nil⟩,ne⟩,?_,ms _ _ _ (fun gs z H' s' g'=>⟨rfl,z _ H' ?_ g'.dv⟩) q⟩
 ·show bS X.K (dM (shown H1 y dx C []) y dx) _ _
  rw [hs]
  exact dvs'.append (hd H1)
 ·have s2:aK (dM (shown H1 y dx C []) y dx) (dM H' y dx):=s'
  rw [hs] at s2
  exact s1.trans (s2.trans qL)
end
end DC
namespace L2
open PySem PySem.Spec PyProof.Rows
section
variable {X:Cx}
theorem vh {ns:List Int}:∀{us:List Value},Vals (ns.map V.int) us->IntsAre us ns:=by
 induction ns with
 | nil=>intro us r;cases r;exact .nil
 | cons n ns ih =>
  intro us r
  cases r with
  | cons a r =>
   obtain⟨t,e⟩:=a
   subst e
   exact .cons _ _ (ih r)
theorem Bc:jO X (.builtin "sum") (fun xs H Q=>∃(p:Addr) (ns:List Int),xs=[.ref p]/\X.A.handled=none/\dg X.K H p (ns.map V.int)/\Q (.int ns.sum) H):=by
 intro pins s σ H xs us Q I r h
 obtain⟨p,ns,rfl,hh,hS,q⟩:=h
 obtain⟨u,rfl,ru⟩:=vals1 r
 cases(show u=Value.ref p from ru)
 obtain⟨its,rv,pl,_⟩:=I.list hS
 have hl:=pl.isList
 have hi:=vh rv
 obtain⟨xs,hx⟩:=hi.allInts.items
 have hl':s.heap.IsList p (intItems xs):=hx ▸ hl
 refine sum_intListG hh hl' fun h' tk t' hk=>?_
 have e1:ns=xs.toList.map (·.1):=by
  rw [<- nums_intItems,<- hx]
  exact(show numsOf its.toArray.toList=ns from hi.numsOf).symm
 have e2:preSum (numAt xs) xs.size=ns.sum:=by
  rw [preSum_eq,List.take_of_length_le (by simp),e1]
 rw [e2]
 exact⟨.int ns.sum,H,I.kept hk,⟨_,rfl⟩,q⟩
end
section
variable {prog:Program}{w:World}{A:Around}{R:Result->Shared->Prop}{I:Addr}{fp wr:List Addr}{n:Nat}{P:Nat->Value->Prop}{St:Nat->Heap->Prop}{E:Value->Shared->Prop}{s:Shared}{Q:Value->Shared->Prop}
abbrev bestAt (S:Addr)(items:Array Value)(h:Heap):Prop:=∃ c,h.get? S=some { cls:=.type "list",dict:=none,data:=.seq items c,slots:=#[] }
theorem CQ {kw:List (Str × Value)}(W:Walks prog w A.in1 I fp wr n P St)(bt:Nat->Nat->Bool)(hcmp:CmpOf prog w A.in1 .Gt P bt)(S:Addr)(hSf:S∉fp) :
  ∀(k j:Nat) (s:Shared) (vb:Value),j+1+k=n->St (j+1) s.heap->P (argBest bt j) vb->bestAt S #[vb,vb] s.heap ->
  (∀ v h' tk,P (argBest bt (n - 1)) v->(∀ b o,b∉wr->b≠S->s.heap.get? b=some o->h'.get? b=some o)->R (.ok (.ret v)) { s with heap:=h',toks:=tk }) ->
  codeAny (model prog w) A (.builtin "max.loop" ⟨[.ref I,.none,.ref S],kw⟩) R s:=by
 have hSw:S∉wr:=fun h=>hSf (W.sub _ h)
 have hname:(toString "max"++toString ".loop":String)="max.loop":=by decide
 intro k
 induction k with
 | zero =>
  intro j s vb hj hst hP ⟨c,hS⟩ hR
  refine codeAny_builtin F.entry_max_loop ?_
  rw [Around.under_plainId F.plain_max_loop _]
  show wpAny _ A.in1 (seqItems? (.ref S) >>= _) _ _ s
  refine wpAny_bind (wpAny_seqItems hS rfl ?_)
  show wpAny _ A.in1 (tryCatch (pyNext (.ref I)) _ >>= _) _ _ s
  refine wpAny_bind (wpAny_tryCatch (W.done s _ _ ((show j+1=n by omega) ▸ hst) fun h' tk hk=>?_))
  show wpAny _ A.in1 (updateSeq S (fun _=>#[]) >>= _) _ _ _
  refine wpAny_bind (wpAny_updateSeq (hk S _ hSw hS) rfl (wpAny_bind (wpAny_letGo (wpAny_pure ?_))))
  exact hR vb _ tk (by rw [show n - 1=j by omega];exact hP) fun b o h1 h2 e=>(Heap.get?_update_other _ _ (Ne.symm h2)).trans (hk b o h1 e)
 | succ k ih =>
  intro j s vb hj hst hP ⟨c,hS⟩ hR
  refine codeAny_builtin F.entry_max_loop ?_
  rw [Around.under_plainId F.plain_max_loop _]
  show wpAny _ A.in1 (seqItems? (.ref S) >>= _) _ _ s
  refine wpAny_bind (wpAny_seqItems hS rfl ?_)
  show wpAny _ A.in1 (tryCatch (pyNext (.ref I)) _ >>= _) _ _ s
  refine wpAny_bind (wpAny_tryCatch (W.item (j+1) s _ _ (by omega) hst fun v h' tk hv hst' hk=>?_))
  have hS':=hk S _ hSw hS
  show wpAny _ A.in1 (tryCatch (holding [v,v] (richCompare .Gt v vb >>= _)) _ >>= _) _ _ _
  refine wpAny_bind (wpAny_tryCatch (wpAny_holding (wpAny_bind (hcmp (j+1) (argBest bt j) v vb _ _ _ hv hP ?_))))
  refine wpAny_bind (wpAny_holding (wpAny_truthy_bool (wpAny_bind (wpAny_letGo (wpAny_pure ?_)))))
  cases hb:bt (j+1) (argBest bt j) with
  | true =>
   simp only [if_true]
   refine wpAny_bind (wpAny_updateSeq hS' rfl (wpAny_bind (wpAny_letGo ?_)))
   rw [hname]
   refine wpAny_pure ⟨plainId_quiet F.plain_max_loop _,ih (j+1) _ v (by omega) (W.frame _ _ _ hst' fun b hbf o e=>?_) (by simp only [argBest,hb,if_true];exact hv) ⟨_,Heap.get?_update_self _ hS' rfl⟩ fun v' h2 tk2 hp2 hk2=>?_⟩
   ·exact(Heap.get?_update_other _ _ (fun h:S=b=>hSf (by rw [h];exact hbf))).trans e
   ·exact hR v' h2 tk2 hp2 fun b o h1 h3 e=>hk2 b o h1 h3 ((Heap.get?_update_other _ _ (Ne.symm h3)).trans (hk b o h1 e))
  | false =>
   simp only [Bool.false_eq_true,if_false]
   refine wpAny_bind (wpAny_letGo ?_)
   rw [hname]
   refine wpAny_pure ⟨plainId_quiet F.plain_max_loop _,ih (j+1) _ vb (by omega) hst' (by simp only [argBest,hb,Bool.false_eq_true,if_false];exact hP) ⟨c,hS'⟩ fun v' h2 tk2 hp2 hk2=>?_⟩
   exact hR v' h2 tk2 hp2 fun b o h1 h3 e=>hk2 b o h1 h3 (hk b o h1 e)
theorem CP {d:Value}(W:Walks prog w A.in1 I fp wr n P St)(bt:Nat->Nat->Bool)(hcmp:CmpOf prog w A.in1 .Gt P bt)(S:Addr)(hSf:S∉fp){s:Shared}(hst:St 0 s.heap)(hS:bestAt S #[] s.heap)
  (hR:∀ v h' tk,(if n=0 then v=d else P (argBest bt (n - 1)) v)->(∀ b o,b∉wr->b≠S->s.heap.get? b=some o->h'.get? b=some o)->R (.ok (.ret v)) { s with heap:=h',toks:=tk }) :
  codeAny (model prog w) A (.builtin "max.loop" ⟨[.ref I,.none,.ref S],[("default",d)]⟩) R s:=by
 have hSw:S∉wr:=fun h=>hSf (W.sub _ h)
 have hname:(toString "max"++toString ".loop":String)="max.loop":=by decide
 obtain⟨c,hS⟩:=hS
 refine codeAny_builtin F.entry_max_loop ?_
 rw [Around.under_plainId F.plain_max_loop _]
 show wpAny _ A.in1 (seqItems? (.ref S) >>= _) _ _ s
 refine wpAny_bind (wpAny_seqItems hS rfl ?_)
 show wpAny _ A.in1 (tryCatch (pyNext (.ref I)) _ >>= _) _ _ s
 by_cases hn:n=0
 ·refine wpAny_bind (wpAny_tryCatch (W.done s _ _ (hn ▸ hst) fun h' tk hk=>?_))
  refine wpAny_bind (wpAny_rule (wpAny_pure ?_))
  exact hR d h' tk (by rw [if_pos hn]) fun b o h1 _ e=>hk b o h1 e
 ·refine wpAny_bind (wpAny_tryCatch (W.item 0 s _ _ (by omega) hst fun v h' tk hv hst' hk=>?_))
  have hS':=hk S _ hSw hS
  show wpAny _ A.in1 (updateSeq S (fun _=>#[v,v]) >>= _) _ _ _
  refine wpAny_bind (wpAny_updateSeq hS' rfl ?_)
  rw [hname]
  refine wpAny_pure ⟨plainId_quiet F.plain_max_loop _,CQ W bt hcmp S hSf (n - 1) 0 _ v (by omega) (W.frame _ _ _ hst' fun b hbf o e=>?_) hv ⟨_,Heap.get?_update_self _ hS' rfl⟩ fun v' h2 tk2 hp2 hk2=>?_⟩
  ·exact(Heap.get?_update_other _ _ (fun h:S=b=>hSf (by rw [h];exact hbf))).trans e
  ·exact hR v' h2 tk2 (by rw [if_neg hn];exact hp2) fun b o h1 h3 e=>hk2 b o h1 h3 ((Heap.get?_update_other _ _ (Ne.symm h3)).trans (hk b o h1 e))
end
def rF (d:Int):List Int->Int
 | []=>d
 | x::xs=>xs.foldl max x
theorem mz:∀(xs:List Int) (a:Int),a<=xs.foldl max a/\∀ x∈xs,x<=xs.foldl max a
 | [],a=>⟨Int.le_refl _,fun x h=>nomatch h⟩
 | y::ys,a=>by
  obtain⟨h1,h2⟩:=mz ys (max a y)
  refine⟨Int.le_trans (Int.le_max_left _ _) h1,fun x h=>?_⟩
  rcases List.mem_cons.mp h with rfl|h
  ·exact Int.le_trans (Int.le_max_right _ _) h1
  ·exact h2 x h
theorem lW:∀(xs:List Int) (a:Int),xs.foldl max a=a\/xs.foldl max a∈xs
 | [],a=>.inl rfl
 | y::ys,a=>by
  rcases lW ys (max a y) with h|h
  ·rw [List.foldl_cons,h]
   rcases Int.le_total a y with q|q
   ·rw [Int.max_eq_right q];exact .inr (List.mem_cons_self)
   ·rw [Int.max_eq_left q];exact .inl rfl
  ·exact .inr (List.mem_cons_of_mem _ h)
theorem FE {d m:Int}{ns:List Int}(h:m∈ns)(g:∀ x∈ns,x<=m):rF d ns=m:=by
 cases ns with
 | nil=>cases h
 | cons x xs =>
  obtain⟨h1,h2⟩:=mz xs x
  have a1:m<=rF d (x::xs):=by
   rcases List.mem_cons.mp h with rfl|h
   ·exact h1
   ·exact h2 m h
  have a2:rF d (x::xs)<=m:=by
   rcases lW xs x with q|q
   ·show xs.foldl max x<=m
    rw [q];exact g x List.mem_cons_self
   ·exact g _ (List.mem_cons_of_mem _ q)
  exact Int.le_antisymm a2 a1
theorem o5 (val:Nat->Int):∀ k,argBest (fun i j=>decide (val i > val j)) k<=k/\∀ i,i<=k->val i<=val (argBest (fun i j=>decide (val i > val j)) k)
 | 0=>⟨Nat.le_refl _,fun i h=>by cases Nat.le_zero.mp h;exact Int.le_refl _⟩
 | k+1=>by
  obtain⟨h1,h2⟩:=o5 val k
  rw [argBest]
  by_cases q:val (k+1) > val (argBest (fun i j=>decide (val i > val j)) k)
  ·rw [if_pos (decide_eq_true q)]
   refine⟨Nat.le_refl _,fun i h=>?_⟩
   rcases Nat.lt_or_ge i (k+1) with z|z
   ·exact Int.le_trans (h2 i (by omega)) (Int.le_of_lt q)
   ·rw [show i=k+1 by omega];exact Int.le_refl _
  ·rw [if_neg (by simpa using q)]
   refine⟨Nat.le_succ_of_le h1,fun i h=>?_⟩
   rcases Nat.lt_or_ge i (k+1) with z|z
   ·exact h2 i (by omega)
   ·rw [show i=k+1 by omega];exact Int.not_lt.mp q
section
variable {X:Cx}
theorem zv (a d:Value):argsOk "max" ⟨[a],[("default",d)]⟩:=by unfold argsOk;kernel_rfl
theorem IU {pins:List (Addr × Obj)}{s:Shared}{σ:St}{H:Hp}{Q:VK}{p:Addr}{ns:List Int}{d:Int}{t:Tok}(I:Inv X pins σ H s)(hh:X.A.handled=none)(hS:dg X.K H p (ns.map V.int))(q:Q (.int (rF d ns)) H) :
  wpAny (model X.prog X.w) X.A (call (.builtin "max") [.ref p] [("default",.int d t)]) (EP X pins σ Q) X.xe s:=by
 obtain⟨its,rv,pl,_⟩:=I.list hS
 have hl:=pl.isList
 have hi:=vh rv
 have hlt:p<s.heap.objs.size:=pl.lt
 have hlen:its.length=ns.length:=by have:=rv.length;rw [List.length_map] at this;exact this.symm
 have hname:(toString "max"++toString ".loop":String)="max.loop":=by decide
 have hval:∀(i:Nat) (v:Value),its.toArray[i]?=some v->∃ t,v=.int (ns.getD i 0) t:=fun i v e=>by
  have e':its[i]?=some v:=by simpa using e
  have hb:i<ns.length:=by have:=(List.getElem?_eq_some_iff.mp e').1;omega
  obtain⟨u,h1,h2⟩:=rv.get (i:=i) (x:=V.int ns[i]) (by rw [List.getElem?_map,List.getElem?_eq_getElem hb];rfl)
  rw [e'] at h1
  cases h1
  obtain⟨t,ht⟩:=(show ∃ t,v=Value.int ns[i] t from h2)
  exact⟨t,by rw [ht,List.getD_eq_getElem?_getD,List.getElem?_eq_getElem hb];rfl⟩
 refine wpAny_call (codeAny_call_builtin F.plain_max F.entry_max ?_)
 simp only [checkBuiltinCall,F.kind_max]
 have ha:argsOk "max" ⟨[.ref p],[("default",.int d t)]⟩:=zv _ _
 have body:wpAny (model X.prog X.w) X.A.in1 (Builtin.«max» ⟨[.ref p],[("default",.int d t)]⟩) (fun fin s'=>match fin with
   | .done f=>(match (Except.ok f:Result) with|.ok (.ret v)=>EP X pins σ Q v s'|.ok _=>False|.error e=>X.xe e s')
   | .again c'=>c'.quiet=true/\codeAny (model X.prog X.w) X.A c' (fun r s'=>match r with|.ok (.ret v)=>EP X pins σ Q v s'|.ok _=>False|.error e=>X.xe e s') s') X.xe s:=by
  show wpAny _ X.A.in1 (Builtin.Builtins.bindParams "max" ["key","default"] 0 ⟨[],[("default",.int d t)]⟩ >>= _) _ _ s
  refine wpAny_bind (wpAny_of_eq (show Builtin.Builtins.bindParams "max" ["key","default"] 0 ⟨[],[("default",.int d t)]⟩=pure [none,some (.int d t)] from rfl) ?_)
  refine wpAny_bind (wpAny_pure ?_)
  refine wpAny_bind (wpAny_pyIter_list hl ?_)
  refine wpAny_bind (wpAny_newObj_type ?_)
  rw [hname]
  have W:=Walks.list (prog:=X.prog) (w:=X.w) (A:=X.A.in1) hh s.heap.objs.size p (Nat.ne_of_lt hlt) its.toArray
  refine wpAny_pure ⟨plainId_quiet F.plain_max_loop _,CP W _ (CmpOf.ints_gt (fun i=>ns.getD i 0) hval) ((s.heap.push _).objs.size) (fun hm=>?_) (W.frame _ _ _ ⟨⟨_,Heap.get?_push_size _ rfl,rfl,rfl⟩,hl.push _⟩ fun b _ o e=>Heap.get?_push_of_some _ e) ⟨_,Heap.get?_push_size _ rfl⟩ fun v h' tk hv hk=>?_⟩
  ·have hsz:(s.heap.push { cls:=.type "list_iterator",data:=.fields #[.ref p,.int 0 0] }).objs.size=s.heap.objs.size+1:=Heap.size_push ..
   rcases List.mem_cons.mp hm with z|z
   ·exact absurd (hsz.symm.trans z) (Nat.succ_ne_self _)
   ·exact absurd (hsz.symm.trans (List.mem_singleton.mp z)) (Nat.ne_of_gt (Nat.lt_succ_of_lt hlt))
  ·have hkept:∀ b o,s.heap.get? b=some o->h'.get? b=some o:=fun b o e=>hk b o (fun hm=>by
    exact absurd (List.mem_singleton.mp hm) (Nat.ne_of_lt (Heap.lt_size e))) (fun hm=>by
    rw [Heap.size_push] at hm
    exact absurd hm (Nat.ne_of_lt (Nat.lt_succ_of_lt (Heap.lt_size e)))) (Heap.get?_push_of_some _ (Heap.get?_push_of_some _ e))
   have ev:∃ t,v=.int (rF d ns) t:=by
    by_cases hn:its.toArray.size=0
    ·rw [if_pos hn] at hv
     have hz:ns=[]:=List.length_eq_zero_iff.mp (by rw [<- hlen];simpa using hn)
     rw [hz]
     exact⟨_,hv⟩
    ·rw [if_neg hn] at hv
     obtain⟨b1,b2⟩:=o5 (fun i=>ns.getD i 0) (its.toArray.size - 1)
     have hsz:its.toArray.size=ns.length:=by rw [List.size_toArray,hlen]
     obtain⟨t',e⟩:=hval _ v hv
     refine⟨t',?_⟩
     rw [e,FE (m:=ns.getD (argBest (fun i j=>decide (ns.getD i 0 > ns.getD j 0)) (its.toArray.size - 1)) 0) ?_ fun x hx=>?_]
     ·rw [List.getD_eq_getElem?_getD,List.getElem?_eq_getElem (by omega)]
      exact List.getElem_mem _
     ·obtain⟨i,hi',rfl⟩:=List.getElem_of_mem hx
      have z:=b2 i (by omega)
      simp only [List.getD_eq_getElem?_getD,List.getElem?_eq_getElem hi',Option.getD_some] at z
      simpa only [List.getD_eq_getElem?_getD] using z
   obtain⟨t',rfl⟩:=ev
   exact⟨.int (rF d ns),H,I.kept hkept,⟨_,rfl⟩,q⟩
 cases hsig:Manifest.signature? "max" with
 | none=>exact wpAny_pure body
 | some sig =>
  simp only [argsOk,hsig] at ha
  have h2:Bind.checkArgs "max" sig ⟨[.ref p],[("default",.int d t)]⟩=pure ():=ha
  show wpAny _ X.A.in1 (Bind.checkArgs "max" sig ⟨[.ref p],[("default",.int d t)]⟩) _ _ s
  rw [h2];exact wpAny_pure body
end
section
variable {X:Cx}{e c:Expr}{te tc:TE}{p pos kp:Pos}
def C7 (X:Cx)(x y:V)(H:Hp)(Q:VK):Prop:=∃(l:Addr) (ns:List Int) (d:Int),x=.ref l/\y=.int d/\X.A.handled=none/\dg X.K H l (ns.map V.int)/\Q (.int (rF d ns)) H
def one (F:V->Hp->Prop)(vs:List V)(H:Hp):Prop:=match vs with
 | [x]=>F x H
 | _=>False
theorem Fe (hg:Gl X "max")(hm:X.mg "max"=none)(he:PE X e te)(hc:PE X c tc)(h1:starEach [e] X.env=(false,eval e X.env)::starEach [] X.env:=by rfl)(hv:bootBuiltins "max"=some (.builtin "max"):=by decide +kernel) :
  PE X (.Call (.Name "max" p) [e] [⟨some "default",c,kp⟩] pos) (JZ (C7 X) te tc):=by
 intro pins s σ H Q I h
 refine wpAny_Call_Name_kw (oP I hg hm hv ?_)
 refine callWith_kw (env:=X.env) ?_ (by rw [h1];rfl) (by rw [h1];rfl) rfl rfl
 refine b9 ((d8 he ir h1) pos pins s σ H (one fun x H1=>tc σ H1 fun y H2=>C7 X x y H2 Q) I h) fun us s1 ⟨vs,H1,I1,r1,q⟩=>?_
 match vs,r1,q with
 | [x],r1,q =>
  obtain⟨u,rfl,ru⟩:=vals1 r1
  refine b9 ((Fg (nm:=some "default") (kpos:=kp) hc JD) pos pins s1 σ H1 (one fun y H2=>C7 X x y H2 Q) I1 q) fun ws s2 ⟨zs,H2,I2,r2,k⟩=>?_
  match zs,r2,k with
  | [y],r2,k =>
   obtain⟨l,ns,d,e1,e2,hh,hS,kk⟩:=k
   subst e1 e2
   obtain⟨w,rfl,rw'⟩:=vals1 r2
   obtain⟨t,rfl⟩:=(show ∃ t,w=Value.int d t from rw')
   cases(show u=Value.ref l from ru)
   exact IU I2 hh hS kk
end
end L2
namespace DC
open PySem PySem.Spec PyProof.Rows L2
section
variable {X:Cx}{e c:Expr}{te tc:ED}{p pos kp:Pos}{es:List Expr}{t:AD}
theorem boot_sum:bootBuiltins "sum"=some (.builtin "sum"):=by decide +kernel
def DM:cL:=fun ds Q=>∃(ns:List Int),ds=[.lst (ns.map D.int)]/\Q (.int ns.sum)
theorem Km:cQ DM:=fun ds P P' g ⟨bs,e,q⟩=>⟨bs,e,g _ q⟩
theorem q9 {K:PySem.W.Frag}{H:Hp}:∀{vs:List V} {bs:List Int},bS K H vs (bs.map D.int)->vs=bs.map V.int
 | [],[],_=>rfl
 | _,_::_,.cons (.int _) r=>by rw [q9 r];rfl
theorem Bz {K:PySem.W.Frag}{A:Around}(hh:A.handled=none):rK K (fun xs H Q=>∃(p:Addr) (ns:List Int),xs=[.ref p]/\A.handled=none/\dg K H p (ns.map V.int)/\Q (.int ns.sum) H) DM:=by
 intro H vs ds Q dvs ⟨bs,e,q⟩
 subst e
 cases dvs with
 | cons dv r =>
  cases r
  cases dv with
  | lst h1 h2 =>
   rw [q9 h2] at h1
   exact⟨_,bs,rfl,hh,h1,q _ H (aK.refl _) (.int _)⟩
theorem J7 (hh:X.A.handled=none)(hg:Gl X "sum")(hm:X.mg "sum"=none)(ha:pR X (e::es) t)(h1:starEach (e::es) X.env=(false,eval e X.env)::starEach es X.env:=by rfl)(h2:(backTo pos (starEach es X.env)).any (·.1)=false:=by rfl):PD X (.Call (.Name "sum" p) (e::es) [] pos) (vB DM t):=Bj (iJ Bc hg hm boot_sum ha.pa (he:=h1) (hpl:=h2)) ha.mono (Bz hh) Km
def Gi:F2:=fun d e Q=>∃(ns:List Int) (i:Int),d=.lst (ns.map D.int)/\e=.int i/\Q (.int (rF i ns))
theorem IQ:e7 Gi:=fun d e P P' g ⟨ns,i,e1,e2,q⟩=>⟨ns,i,e1,e2,g _ q⟩
def Lc:ED->ED->ED:=qx Gi
theorem Hf (hh:X.A.handled=none)(hg:Gl X "max")(hm:X.mg "max"=none)(he:PD X e te)(hc:PD X c tc)(h1:starEach [e] X.env=(false,eval e X.env)::starEach [] X.env:=by rfl):PD X (.Call (.Name "max" p) [e] [⟨some "default",c,kp⟩] pos) (Lc te tc):=by
 refine vL (t:=oE X.K te) (Fe hg hm he.pe hc.pe h1) he.mono hc.mono ?_ IQ
 intro H x y d e Q hx hy ⟨ns,i,e1,e2,q⟩
 subst e1 e2
 cases hy
 cases hx with
 | lst g1 g2 =>
  rw [q9 g2] at g1
  exact⟨_,ns,i,rfl,rfl,hh,g1,q _ H (aK.refl _) (.int _)⟩
end
inductive MD where
 | lst (ds:List D)|ins (C:Addr) (gs:FD)|dK (kvs:List (Key × D))
abbrev Mu:=List (Addr × MD)
def HI (K:PySem.W.Frag)(H:Hp)(L:List Addr)(a:Addr):MD->Prop
 | .lst ds=>∃ vs,H a=some (.lst vs)/\bS K (aN H L) vs ds
 | .ins C gs=>∃ dx fs,H a=some (.ins C dx fs)/\H dx=some (.own a)/\dx∈L/\gM K (aN H L) fs gs
 | .dK kvs=>∃ ws,H a=some (.dK ws)/\di K (aN H L) ws kvs
structure cy (K:PySem.W.Frag) (H:Hp) (μ:Mu) (L:List Addr):Prop where
 at_:∀ p∈μ,p.1∈L/\HI K H L p.1 p.2
 Ce:(μ.map (·.1)).Nodup
 dM:∀ b∈L,dG H L b
 EN:∀ b∈L,(∃ m,(b,m)∈μ)\/∃ a,H b=some (.own a)
section
variable {K:PySem.W.Frag}{H H1 H4:Hp}{μ:Mu}{L:List Addr}
theorem bq (s:aK H H1):aK (aN H L) (aN H1 L):=fun b o h=>by
 obtain⟨h1,h2⟩:=de h
 rw [bC h1]
 exact s _ _ h2
theorem HI.on {a:Addr}(s:aK H H1):∀{m:MD},HI K H L a m->HI K H1 L a m
 | .lst _,⟨vs,h,d⟩=>⟨vs,s _ _ h,bS.same (bq s) d⟩
 | .ins _ _,⟨dx,fs,h,h2,h3,d⟩=>⟨dx,fs,s _ _ h,s _ _ h2,h3,gM.same (bq s) d⟩
 | .dK _,⟨ws,h,d⟩=>⟨ws,s _ _ h,di.same (bq s) d⟩
theorem Hq {a:Addr}(s:aK H H1)(h:dG H L a):dG H1 L a:=by
 cases h with
 | lst xs h=>exact .lst xs (s _ _ h)
 | dK xs h=>exact .dK xs (s _ _ h)
 | ins C dx fs h hd=>exact .ins C dx fs (s _ _ h) hd
 | own C b fs h hb hi=>exact .own C b fs (s _ _ h) hb (s _ _ hi)
theorem cy.on (g:cy K H μ L)(s:aK H H1):cy K H1 μ L :=
 ⟨fun p hp=>⟨(g.at_ p hp).1,(g.at_ p hp).2.on s⟩,g.Ce,fun b hb=>Hq s (g.dM b hb),fun b hb=>(g.EN b hb).imp id fun⟨a,q⟩=>⟨a,s _ _ q⟩⟩
theorem cy.show (g:cy K H μ L)(z:∀ b∈L,H4 b=none)(s:aK (aN H L) H4):cy K (aa H4 H L) μ L:=by
 have e:aN (aa H4 H L) L=H4:=bK z
 refine⟨fun p hp=>⟨(g.at_ p hp).1,?_⟩,g.Ce,fun b hb=>?_,fun b hb=>(g.EN b hb).imp id fun⟨a,q⟩=>⟨a,by rw [ai hb];exact q⟩⟩
 ·obtain⟨hp1,ha⟩:=g.at_ p hp
  obtain⟨a,m⟩:=p
  cases m with
  | lst ds=>obtain⟨vs,h,d⟩:=ha;exact⟨vs,by rw [ai hp1];exact h,by rw [e];exact bS.same s d⟩
  | ins C gs=>obtain⟨dx,fs,h,h2,h3,d⟩:=ha;exact⟨dx,fs,by rw [ai hp1];exact h,by rw [ai h3];exact h2,h3,by rw [e];exact gM.same s d⟩
  | dK kvs=>obtain⟨ws,h,d⟩:=ha;exact⟨ws,by rw [ai hp1];exact h,by rw [e];exact di.same s d⟩
 ·have w:=g.dM b hb
  cases w with
  | lst xs h=>exact .lst xs (by rw [ai hb];exact h)
  | dK xs h=>exact .dK xs (by rw [ai hb];exact h)
  | ins C dx fs h hd=>exact .ins C dx fs (by rw [ai hb];exact h) hd
  | own C c fs h hc hi=>exact .own C c fs (by rw [ai hb];exact h) hc (by rw [ai hc];exact hi)
theorem cy.nil:cy K H [] []:=⟨fun p hp=>(nomatch hp),List.nodup_nil,fun b hb=>(nomatch hb),fun b hb=>(nomatch hb)⟩
def MD.d:MD->D
 | .lst ds=>.lst ds
 | .ins C gs=>.obj C gs
 | .dK kvs=>.dK kvs
def ay (μ:Mu):D->D
 | .adr a=>((μ.lookup a).map MD.d).getD (.adr a)
 | d=>d
def bZ (μ:Mu)(δ:SD):SD:=δ.map (Option.map (ay μ))
theorem mem_of_lookup {a:Addr}{m:MD}:∀{μ:Mu},μ.lookup a=some m->(a,m)∈μ
 | [],h=>by cases h
 | (b,n)::r,h=>by
  rw [List.lookup_cons] at h
  cases q:a == b with
  | true=>rw [q] at h;cases h;rw [beq_iff_eq.mp q];exact List.mem_cons_self
  | false=>rw [q] at h;exact List.mem_cons_of_mem _ (mem_of_lookup h)
theorem cy.view (g:cy K H μ L){v:V}{d:D}(h:Dv K (aN H L) v d):Dv K H v (ay μ d):=by
 cases h with
 | adr a =>
  show Dv K H (.ref a) (((μ.lookup a).map MD.d).getD (.adr a))
  cases q:μ.lookup a with
  | none=>exact .adr a
  | some m =>
   show Dv K H (.ref a) m.d
   obtain⟨_,ha⟩:=g.at_ _ (mem_of_lookup q)
   cases m with
   | lst ds=>obtain⟨vs,h,d⟩:=ha;exact .lst (dg.of h) (bS.same ax d)
   | ins C gs=>obtain⟨dx,fs,h,h2,h3,d⟩:=ha;exact .obj (.of h) (gM.same ax d)
   | dK kvs=>obtain⟨ws,h,d⟩:=ha;exact .dK (.of h) (di.same ax d)
 | aj=>exact .aj
 | bl b=>exact .bl b
 | int i=>exact .int i
 | str x=>exact .str x
 | lst h1 h2=>exact Dv.same ax (.lst h1 h2)
 | tup h1 h2=>exact Dv.same ax (.tup h1 h2)
 | obj h1 h2=>exact Dv.same ax (.obj h1 h2)
 | dK h1 h2=>exact Dv.same ax (.dK h1 h2)
 | dT h1 h2=>exact Dv.same ax (.dT h1 h2)
 | exc h1 h2 h3=>exact Dv.same ax (.exc h1 h2 h3)
theorem cy.bZ (g:cy K H μ L){σ:L2.St}{δ:SD}(r:bf K (aN H L) σ δ):bf K H σ (bZ μ δ):=by
 refine⟨by unfold DC.bZ;rw [List.length_map];exact r.len,fun i d h=>?_⟩
 unfold DC.bZ at h
 rw [List.getElem?_map] at h
 cases q:δ[i]? with
 | none=>rw [q] at h;cases h
 | some o =>
  rw [q] at h
  cases o with
  | none=>cases h
  | some d' =>
   cases h
   obtain⟨v,hv,dv⟩:=r.get i d' q
   exact⟨v,hv,g.view dv⟩
end
structure gN where
 nx:SD->Mu->Prop
 rt:D->Mu->Prop
 bk:SD->Mu->Prop:=fun _ _=>False
 ct:SD->Mu->Prop:=fun _ _=>False
abbrev eY:=gN->SD->Mu->Prop
structure gN.Le (E E':gN):Prop where
 nx:∀ δ μ,E.nx δ μ->E'.nx δ μ
 rt:∀ d μ,E.rt d μ->E'.rt d μ
 bk:∀ δ μ,E.bk δ μ->E'.bk δ μ
 ct:∀ δ μ,E.ct δ μ->E'.ct δ μ
abbrev uz (t:eY):Prop:=∀ E E' δ μ,gN.Le E E'->t E δ μ->t E' δ μ
def kM (K:PySem.W.Frag)(H:Hp)(L:List Addr)(Q:L2.St->Hp->Prop):SD->Mu->Prop:=fun δ μ=>∀ σ H' L',aK (aN H L) (aN H' L')->bf K (aN H' L') σ δ->cy K H' μ L'->Q σ H'
def kR (K:PySem.W.Frag)(H:Hp)(L:List Addr)(Q:VK):D->Mu->Prop:=fun d μ=>∀ v H' L',aK (aN H L) (aN H' L')->cy K H' μ L'->Dv K (aN H' L') v d->Q v H'
def mP (K:PySem.W.Frag)(H:Hp)(L:List Addr)(D:Ends):gN:=⟨kM K H L D.nx,kR K H L D.rt,kM K H L D.bk,kM K H L D.ct⟩
theorem gP {K:PySem.W.Frag}{H H1:Hp}{L L1:List Addr}{D:Ends}(s:aK (aN H L) (aN H1 L1)):gN.Le (mP K H L D) (mP K H1 L1 D) :=
 ⟨fun _ _ h σ H' L' s' r g=>h σ H' L' (s.trans s') r g,fun _ _ h v H' L' s' g d=>h v H' L' (s.trans s') g d,fun _ _ h σ H' L' s' r g=>h σ H' L' (s.trans s') r g,fun _ _ h σ H' L' s' r g=>h σ H' L' (s.trans s') r g⟩
def oM (K:PySem.W.Frag)(t:eY):TS:=fun D σ H=>∃ δ μ L,bf K (aN H L) σ δ/\cy K H μ L/\t (mP K H L D) δ μ
structure p6 (X:Cx) (st:Stmt) (t:eY):Prop where
 ps:PS X st (oM X.K t)
 mono:uz t
structure rA (X:Cx) (st:List Stmt) (t:eY):Prop where
 ps:mG X st (oM X.K t)
 mono:uz t
section
variable {X:Cx}{st:Stmt}{rest body els:List Stmt}{t u:eY}{e c:Expr}{te:ED}{uc:TD}{pos:Pos}
def vq:eY:=fun E δ μ=>E.nx δ μ
def qW (t u:eY):eY:=fun E δ μ=>t { E with nx:=u E } δ μ
theorem dS:rA X [] vq:=⟨mG.imp uS fun D σ H ⟨δ,μ,L,r,g,h⟩=>h σ H L (aK.refl _) r g,fun E E' δ μ l h=>l.nx _ _ h⟩
theorem aM (h1:p6 X st t)(h2:rA X rest u):rA X (st::rest) (qW t u) :=
 ⟨mG.imp (qd h1.ps h2.ps) fun D σ H ⟨δ,μ,L,r,g,h⟩=>⟨δ,μ,L,r,g,h1.mono { mP X.K H L D with nx:=u (mP X.K H L D)} _ _ _ ⟨fun δ' μ' q σ' H' L' s' r' g'=>⟨δ',μ',L',r',g',h2.mono _ _ _ _ (gP s') q⟩,fun _ _ q=>q,fun _ _ q=>q,fun _ _ q=>q⟩ h⟩,
  fun E E' δ μ l h=>h1.mono { E with nx:=u E } _ _ _ ⟨fun δ' μ' q=>h2.mono _ _ _ _ l q,l.rt,l.bk,l.ct⟩ h⟩
theorem aU (h1:p6 X st t):rA X [st] t:=⟨uT h1.ps,h1.mono⟩
def zF (t:jS):eY:=fun E δ μ=>t { nx:=fun δ'=>E.nx δ' μ,rt:=fun d=>E.rt d μ,bk:=fun δ'=>E.bk δ' μ,ct:=fun δ'=>E.ct δ' μ } δ
theorem zB {t:jS}(m:yY t){D:Ends}{σ:L2.St}{H:Hp}(h:oM X.K (zF t) D σ H):MN (oS X.K t) D σ H:=by
 obtain⟨δ,μ,L,r,g,h⟩:=h
 refine⟨L,g.dM,δ,r,?_⟩
 refine m { nx:=fun δ'=>(mP X.K H L D).nx δ' μ,rt:=fun d=>(mP X.K H L D).rt d μ,bk:=fun δ'=>(mP X.K H L D).bk δ' μ,ct:=fun δ'=>(mP X.K H L D).ct δ' μ } _ _ ⟨fun δ' q σ' H' s' r' z=>?_,fun d q v H' s' dv z=>?_,fun δ' q σ' H' s' r' z=>?_,fun δ' q σ' H' s' r' z=>?_⟩ h
 ·have e:aN (aa H' H L) L=H':=bK z
  exact q σ' _ L (by rw [e];exact s') (by rw [e];exact r') (g.show z s')
 ·have e:aN (aa H' H L) L=H':=bK z
  exact q v _ L (by rw [e];exact s') (g.show z s') (by rw [e];exact dv)
 ·have e:aN (aa H' H L) L=H':=bK z
  exact q σ' _ L (by rw [e];exact s') (by rw [e];exact r') (g.show z s')
 ·have e:aN (aa H' H L) L=H':=bK z
  exact q σ' _ L (by rw [e];exact s') (by rw [e];exact r') (g.show z s')
theorem CM {t:jS}(m:yY t):uz (zF t):=fun E E' δ μ l h=>m { nx:=fun δ'=>E.nx δ' μ,rt:=fun d=>E.rt d μ,bk:=fun δ'=>E.bk δ' μ,ct:=fun δ'=>E.ct δ' μ } _ _ ⟨fun _ q=>l.nx _ _ q,fun _ q=>l.rt _ _ q,fun _ q=>l.bk _ _ q,fun _ q=>l.ct _ _ q⟩ h
theorem bw {t:jS}(h:yZ X st t):p6 X st (zF t):=⟨PS.imp (C0 h.ps) fun D σ H q=>zB h.mono q,CM h.mono⟩
theorem v7 {t:jS}(h:pS X rest t):rA X rest (zF t):=⟨mG.imp (Fj h.ps) fun D σ H q=>zB h.mono q,CM h.mono⟩
def II (uc:TD)(t u:eY):eY:=fun E δ μ=>uc (bZ μ δ) fun b=>if b=true then t E δ μ else u E δ μ
theorem gU (hc:mH X c uc)(ha:rA X body t)(hb:rA X els u):p6 X (.If c body els pos) (II uc t u):=by
 refine⟨PS.imp (C1 hc.pt ha.ps hb.ps) fun D σ H ⟨δ,μ,L,r,g,h⟩=>⟨_,g.bZ r,hc.mono _ _ _ (fun k q H1 s1=>?_) h⟩,fun E E' δ μ l h=>hc.mono _ _ _ (fun k q=>?_) h⟩
 ·have s2:aK (aN H L) (aN H1 L):=bq s1
  cases k with
  | true =>
   show if true=true then _ else _
   rw [if_pos rfl] at q ⊢;exact⟨δ,μ,L,r.same s2,g.on s1,ha.mono _ _ _ _ (gP s2) q⟩
  | false =>
   show if false=true then _ else _
   rw [if_neg Bool.false_ne_true] at q ⊢;exact⟨δ,μ,L,r.same s2,g.on s1,hb.mono _ _ _ _ (gP s2) q⟩
 ·cases k with
  | true=>rw [if_pos rfl] at q ⊢;exact ha.mono _ _ _ _ l q
  | false=>rw [if_neg Bool.false_ne_true] at q ⊢;exact hb.mono _ _ _ _ l q
theorem Dv.Ee {K:PySem.W.Frag}{H H':Hp}{v:V}{d:D}(h:Dv K H v d)(f:fv d=true):Dv K H' v d:=by
 cases h with
 | aj=>exact .aj
 | bl b=>exact .bl b
 | int i=>exact .int i
 | str x=>exact .str x
 | _=>cases f
def IJ (te:ED):eY:=fun E δ μ=>te (bZ μ δ) fun d=>E.rt d []
theorem fK (he:PD X e te):p6 X (.Return (some e) pos) (IJ te) :=
 ⟨PS.imp (yE he.pe) fun D σ H ⟨δ,μ,L,r,g,h⟩=>⟨_,g.bZ r,he.mono _ _ _ (fun d q v H1 s1 dv=>q v H1 [] (by rw [cF];exact ax.trans s1) cy.nil (by rw [cF];exact dv)) h⟩,
  fun E E' δ μ l h=>he.mono _ _ _ (fun d q=>l.rt _ _ q) h⟩
end
def fZ (a:Addr)(m:MD)(μ:Mu):Mu:=μ.map fun p=>if p.1=a then(a,m) else p
theorem sG (a:Addr)(m:MD)(μ:Mu):(fZ a m μ).map (·.1)=μ.map (·.1):=by
 unfold fZ
 rw [List.map_map]
 refine List.map_congr_left fun p _=>?_
 show(if p.1=a then(a,m) else p).1=p.1
 split
 ·rename_i h;exact h.symm
 ·rfl
section
variable {K:PySem.W.Frag}{H:Hp}{μ:Mu}{L:List Addr}{a:Addr}{vs ys:List V}{ds:List D}
theorem cu {o:HO}(h:a∈L):aN (upd H a o) L=aN H L:=by
 funext b
 by_cases hb:b∈L
 ·rw [cK hb,cK hb]
 ·rw [bC hb,bC hb,aG (fun z=>hb (by rw [z];exact h))]
theorem cy.putL (g:cy K H μ L)(ha:a∈L)(hv:H a=some (.lst vs))(d:bS K (aN H L) ys ds):cy K (upd H a (.lst ys)) (fZ a (.lst ds) μ) L:=by
 have e:aN (upd H a (.lst ys)) L=aN H L:=cu ha
 refine⟨fun p hp=>?_,by rw [sG];exact g.Ce,fun b hb=>?_,fun b hb=>?_⟩
 ·obtain⟨q,hq,rfl⟩:=List.mem_map.mp hp
  by_cases hqa:q.1=a
  ·rw [if_pos hqa]
   exact⟨ha,ys,aJ,by rw [e];exact d⟩
  ·rw [if_neg hqa]
   obtain⟨h1,h2⟩:=g.at_ q hq
   refine⟨h1,?_⟩
   obtain⟨b,m⟩:=q
   cases m with
   | lst ds=>obtain⟨ws,h,d⟩:=h2;exact⟨ws,by rw [aG hqa];exact h,by rw [e];exact d⟩
   | ins C gs=>obtain⟨dx,fs,h,h2,h3,d⟩:=h2;exact⟨dx,fs,by rw [aG hqa];exact h,by rw [aG (fun z=>by rw [z,hv] at h2;cases h2)];exact h2,h3,by rw [e];exact d⟩
   | dK kvs=>obtain⟨ws,h,d⟩:=h2;exact⟨ws,by rw [aG hqa];exact h,by rw [e];exact d⟩
 ·by_cases hba:b=a
  ·rw [hba];exact .lst ys aJ
  ·have w:=g.dM b hb
   cases w with
   | lst xs h=>exact .lst xs (by rw [aG hba];exact h)
   | dK xs h=>exact .dK xs (by rw [aG hba];exact h)
   | ins C dx fs h hd=>exact .ins C dx fs (by rw [aG hba];exact h) hd
   | own C c fs h hc hi=>exact .own C c fs (by rw [aG hba];exact h) hc (by rw [aG (fun z=>by rw [z,hv] at hi;cases hi)];exact hi)
 ·rcases g.EN b hb with⟨m,h⟩|⟨c,h⟩
  ·by_cases hba:b=a
   ·exact .inl ⟨.lst ds,List.mem_map.mpr ⟨_,h,by rw [if_pos hba,hba]⟩⟩
   ·exact .inl ⟨m,List.mem_map.mpr ⟨_,h,if_neg hba⟩⟩
  ·exact .inr ⟨c,by rw [aG (fun z=>by rw [z,hv] at h;cases h)];exact h⟩
theorem cy.IW (g:cy K H μ L)(hn:H a=none)(d:bS K (aN H L) ys ds):cy K (upd H a (.lst ys)) ((a,.lst ds)::μ) (a::L)/\aN (upd H a (.lst ys)) (a::L)=aN H L:=by
 have haL:a∉L:=fun h=>by obtain⟨o,q⟩:=(g.dM a h).there;rw [hn] at q;cases q
 have e:aN (upd H a (.lst ys)) (a::L)=aN H L:=by
  funext b
  by_cases hb:b=a
  ·rw [hb,cK List.mem_cons_self,iB hn]
  ·by_cases hb2:b∈L
   ·rw [cK (List.mem_cons_of_mem _ hb2),cK hb2]
   ·rw [bC (fun z=>(List.mem_cons.mp z).elim hb hb2),bC hb2,aG hb]
 have ne:∀{b:Addr} {o:HO},H b=some o->b≠a:=fun h=>bL h hn
 refine⟨⟨fun p hp=>?_,?_,fun b hb=>?_,fun b hb=>?_⟩,e⟩
 ·rcases List.mem_cons.mp hp with rfl|hp
  ·exact⟨List.mem_cons_self,ys,aJ,by rw [e];exact d⟩
  ·obtain⟨h1,h2⟩:=g.at_ p hp
   refine⟨List.mem_cons_of_mem _ h1,?_⟩
   obtain⟨b,m⟩:=p
   cases m with
   | lst ds=>obtain⟨ws,h,d⟩:=h2;exact⟨ws,by rw [aG (ne h)];exact h,by rw [e];exact d⟩
   | ins C gs=>obtain⟨dx,fs,h,h2,h3,d⟩:=h2;exact⟨dx,fs,by rw [aG (ne h)];exact h,by rw [aG (ne h2)];exact h2,List.mem_cons_of_mem _ h3,by rw [e];exact d⟩
   | dK kvs=>obtain⟨ws,h,d⟩:=h2;exact⟨ws,by rw [aG (ne h)];exact h,by rw [e];exact d⟩
 ·rw [List.map_cons,List.nodup_cons]
  refine⟨fun h=>?_,g.Ce⟩
  obtain⟨p,hp,hpa⟩:=List.mem_map.mp h
  have:p.1=a:=hpa
  exact haL (this ▸ (g.at_ p hp).1)
 ·rcases List.mem_cons.mp hb with rfl|hb
  ·exact .lst ys aJ
  ·have w:=g.dM b hb
   cases w with
   | lst xs h=>exact .lst xs (by rw [aG (ne h)];exact h)
   | dK xs h=>exact .dK xs (by rw [aG (ne h)];exact h)
   | ins C dx fs h hd=>exact .ins C dx fs (by rw [aG (ne h)];exact h) (List.mem_cons_of_mem _ hd)
   | own C c fs h hc hi=>exact .own C c fs (by rw [aG (ne h)];exact h) (List.mem_cons_of_mem _ hc) (by rw [aG (ne hi)];exact hi)
 ·rcases List.mem_cons.mp hb with rfl|hb
  ·exact .inl ⟨_,List.mem_cons_self⟩
  ·rcases g.EN b hb with⟨m,h⟩|⟨c,h⟩
   ·exact .inl ⟨m,List.mem_cons_of_mem _ h⟩
   ·exact .inr ⟨c,by rw [aG (ne h)];exact h⟩
end
section
variable {X:Cx}{e:Expr}{te:ED}{es:List Expr}{t:AD}{i:Nat}{x:Str}{p pos pos' apos cpos:Pos}
def Ka (i:Nat)(t:AD):eY:=fun E δ μ=>t δ fun ds=>ds.length<=sizeLine/\∀ a,(∀ m,(a,m)∉μ)->E.nx (δ.set i (some (.adr a))) ((a,.lst ds)::μ)
theorem lG (hN:X.N.Nodup)(hi:X.N[i]?=some x)(hx:Loc X.env.scope x)(h:pR X es t)(hs:swapsWith (.List es p) (some (.Name x pos')) pos.line X.env=pure false:=by rfl)
  (hf:X.fn x=true\/X.env.scope.names.lookup x=some .local:=by first|exact .inl rfl|exact .inr rfl|assumption):p6 X (.Assign [.Name x pos'] (.List es p) pos) (Ka i t):=by
 refine⟨PS.imp (uQ hN hi hx (gA (yB h.pa)) hs hf) fun D σ H ⟨δ,μ,L,r,g,q⟩=>⟨L,g.dM,δ,r,h.mono _ _ _ (fun ds ⟨hz,k⟩ vs H1 s1 dvs=>⟨by rw [dvs.length];exact hz,fun a ha z=>?_⟩) q⟩,
  fun E E' δ μ l q=>h.mono _ _ _ (fun ds ⟨hz,k⟩=>⟨hz,fun a ha=>l.nx _ _ (k a ha)⟩) q⟩
 have haL:a∉L:=fun hl=>by have:=z a hl;rw [aJ] at this;cases this
 have nb:∀{b:Addr},b∈L->b≠a:=fun hb w=>haL (by rw [<- w];exact hb)
 have z1:∀ b∈L,H1 b=none:=fun b hb=>by have:=z b hb;rwa [aG (nb hb)] at this
 have eS:aa (upd H1 a (.lst vs)) H L=upd (aa H1 H L) a (.lst vs):=by
  funext b
  by_cases hb:b∈L
  ·rw [ai hb,aG (nb hb),ai hb]
  ·rw [aX hb]
   by_cases hba:b=a
   ·rw [hba,aJ,aJ]
   ·rw [aG hba,aG hba,aX hb]
 have e1:aN (aa H1 H L) L=H1:=bK z1
 have g1:cy X.K (aa H1 H L) μ L:=g.show z1 s1
 have hn:aa H1 H L a=none:=by rw [aX haL];exact ha
 obtain⟨g2,e2⟩:=g1.IW hn (ys:=vs) (ds:=ds) (by rw [e1];exact dvs)
 rw [eS]
 refine k a (fun m hm=>haL (g.at_ _ hm).1) _ _ (a::L) (by rw [e2,e1];exact s1) ?_ g2
 rw [e2,e1]
 exact(r.same s1).set i (.adr a)
def E2 (i:Nat)(te:ED):eY:=fun E δ μ=>∃ a ds,δ[i]?=some (some (.adr a))/\μ.lookup a=some (.lst ds)/\ds.length<sizeLine/\te δ fun d=>E.nx δ (fZ a (.lst (ds++[d])) μ)
theorem lF (hi:X.N[i]?=some x)(hv:ur X.env.scope x)(he:PD X e te)(hd:(x == ("__debug__":Str))=false:=by decide)(hcd:(x == ("__classdict__":Str))=false:=by decide)
  (hst:starEach [e] X.env=(false,eval e X.env)::starEach [] X.env:=by rfl)(hline:(apos.endLine == cpos.line)=true:=by rfl)
  (hfew:((backTo cpos (starEach [e] X.env)).all (fun x=>!x.1)&&(backToKw cpos (keywordEach [] X.env)).all (fun x=>x.1.isSome)&&decide ([e].length+([]:List Keyword).length+(if([]:List Keyword).isEmpty then 0 else 1)<30))=true:=by rfl)
  (hs:swapsWith (.Call (.Attribute (.Name x p) "append" apos) [e] [] cpos) none pos.line X.env=pure false:=by rfl)
  (hb:attributeBase (.Name x p) "append" X.env (eval (.Name x p) X.env)=eval (.Name x p) X.env:=by rfl) :
  p6 X (.Expr (.Call (.Attribute (.Name x p) "append" apos) [e] [] cpos) pos) (E2 i te):=by
 refine⟨PS.imp (iu (r8 PySem.F.plainAttrs_list PySem.F.slot_list_append PySem.F.type_list_append oW (dW hi hv hd hcd) (d8 (gA he.pe) ir hst) hb hfew hline hst) hs) fun D σ H ⟨δ,μ,L,r,g,q⟩=>?_,
  fun E E' δ μ l ⟨a,ds,k1,k2,k3,q⟩=>⟨a,ds,k1,k2,k3,he.mono _ _ _ (fun d k=>l.nx _ _ k) q⟩⟩
 obtain⟨a,ds,k1,k2,k3,q⟩:=q
 obtain⟨v,hv1,dv⟩:=r.get i _ k1
 cases dv
 have hm:=mem_of_lookup k2
 obtain⟨haL,vs,hH,dvs⟩:=g.at_ _ hm
 refine⟨_,hv1,.inl ⟨rfl,_,dg.of hH⟩,L,g.dM,δ,r,he.mono _ _ _ (fun d k w H1 s1 dw z=>?_) q⟩
 have e1:aN (aa H1 H L) L=H1:=bK z
 have g1:cy X.K (aa H1 H L) μ L:=g.show z s1
 have hH1:aa H1 H L a=some (.lst vs):=by rw [ai haL];exact hH
 refine⟨a,vs,w,rfl,rfl,hH1,by rw [dvs.length];exact k3,?_⟩
 have g2:=g1.putL haL hH1 (ys:=vs++[w]) (ds:=ds++[d]) (by rw [e1];exact(bS.same s1 dvs).append (.cons dw .nil))
 have e2:aN (upd (aa H1 H L) a (.lst (vs++[w]))) L=H1:=by rw [cu haL,e1]
 exact k σ _ L (by rw [e2];exact s1) (by rw [e2];exact r.same s1) g2
end
end DC
namespace L2
open PySem PySem.Spec PyProof.Rows
section
variable {X:Cx}{tg:Expr}{g:TG}
def NW (g:TG):TG:=fun v σ H Q=>∃ L,(∀ a∈L,dG H L a)/\g v σ (aN H L) fun σ' H4=>(∀ b∈L,H4 b=none)->Q σ' (aa H4 H L)
theorem Cv (h:PG X tg g):PG X tg (NW g):=by
 intro pins s σ H v u Q I r ⟨L,hL,q⟩
 refine mR I hL fun pl I' _ back=>?_
 refine b9 (h (pins++pl) s σ _ v u _ I' r q) fun _ s1 ⟨σ',H4,I4,k⟩=>?_
 obtain⟨z,J⟩:=back _ _ _ I4
 exact⟨σ',_,J,k z⟩
end
end L2
namespace DC
open PySem PySem.Spec PyProof.Rows L2
section
variable {X:Cx}{tg iter:Expr}{body:List Stmt}{ti:AD}{g:BS}{tb:eY}{pos:Pos}
abbrev w6:=List D->SD->(SD->Prop)->Prop
structure D2 (X:Cx) (ts:List Expr) (g:w6):Prop where
 pg:Ds X ts (fun vs σ H Q=>∃ ds δ,bS X.K H vs ds/\bf X.K H σ δ/\g ds δ (kS X.K H Q))
 mono:∀ ds δ (P P':SD->Prop),(∀ δ,P δ->P' δ)->g ds δ P->g ds δ P'
def MT:w6:=fun ds δ Q=>ds=[]/\Q δ
def KJ (t:BS)(u:w6):w6:=fun ds δ Q=>∃ d r,ds=d::r/\t d δ fun δ'=>u r δ' Q
theorem Ds.imp {ts:List Expr}{t t':GW}(h:Ds X ts t)(f:∀ v σ H Q,t' v σ H Q->t v σ H Q):Ds X ts t':=fun pins s σ H v u Q I r q=>h pins s σ H v u Q I r (f v σ H Q q)
theorem tQ:D2 X [] MT:=⟨Ds.imp zS fun vs σ H Q ⟨ds,δ,dv,r,e,q⟩=>by subst e;cases dv;exact⟨rfl,q σ H (aK.refl _) r⟩,fun ds δ P P' f ⟨e,q⟩=>⟨e,f _ q⟩⟩
theorem eZ {e:Expr}{es:List Expr}{t:BS}{u:w6}(h1:Jj X e t)(h2:D2 X es u)(hs:(assignEach (e::es) X.env).map (·.2)=assign e X.env::(assignEach es X.env).map (·.2):=by rfl):D2 X (e::es) (KJ t u):=by
 refine⟨Ds.imp (kL h1.pg h2.pg hs) fun vs σ H Q ⟨ds,δ,dv,r,d,dr,e,q⟩=>?_,fun ds δ P P' f ⟨d,r,e,q⟩=>⟨d,r,e,h1.mono _ _ _ _ (fun δ' k=>h2.mono _ _ _ _ f k) q⟩⟩
 subst e
 cases dv with
 | cons a b=>exact⟨_,_,rfl,d,δ,a,r,h1.mono _ _ _ _ (fun δ' k σ' H' s' r'=>⟨dr,δ',bS.same s' b,r',h2.mono _ _ _ _ (fun δ'' z=>z.on s') k⟩) q⟩
def MU (n:Nat)(u:w6):BS:=fun d δ Q=>∃ ds,d=.tup ds/\ds.length=n/\u ds δ Q
theorem yv {es:List Expr}{k:Nat}{u:w6}{n:Nat}(hc:X.calm=true)(h:D2 X es u)(hn:(assignEach es X.env).length=n:=by rfl)(hst:(assignEach es X.env).findIdx? (·.1)=none:=by rfl):Jj X (.Tuple es k pos) (MU n u):=by
 refine⟨PG.imp (Cw hc h.pg hn hst) fun v σ H Q ⟨d,δ,dv,r,ds,e,hl,q⟩=>?_,fun d δ P P' f ⟨ds,e,hl,q⟩=>⟨ds,e,hl,h.mono _ _ _ _ f q⟩⟩
 subst e
 cases dv with
 | tup h1 h2=>exact⟨_,_,rfl,h1,by rw [h2.length];exact hl,ds,δ,h2,r,q⟩
def E5 (ti:AD)(g:BS)(tb:eY):eY:=fun E δ μ=>ti δ fun ds=>∃ inv:Nat->SD->Mu->Prop,inv 0 δ μ /\
 (∀ i d δ' μ',ds[i]?=some d->inv i δ' μ'->g d δ' fun δ2=>tb { E with nx:=inv (i+1),ct:=inv (i+1),bk:=E.nx } δ2 μ')/\∀ δ' μ',inv ds.length δ' μ'->E.nx δ' μ'
theorem cY (hp:PassesOwn (model X.prog X.w) X.A X.env X.xe)(hc:X.calm=true)(hi:PId X tg iter ti)(hg:Jj X tg g)(hb:rA X body tb)(hs:∀ x,foldedSetIterable iter X.env x=pure x:=by intro _;rfl) :
  p6 X (.For tg iter body [] pos) (E5 ti g tb):=by
 refine⟨PS.imp (uP hp hc (Cy hi.pi) (Cv hg.pg) hb.ps hs) fun D σ H ⟨δ,μ,L,r,st,h⟩=>⟨L,st.dM,δ,r,hi.mono _ _ _ (fun ds ⟨inv,i0,step,fin⟩ J H1 s1 it z=>?_) h⟩,fun E E' δ μ l h=>hi.mono _ _ _ (fun ds ⟨inv,i0,step,fin⟩=>⟨inv,i0,fun i d δ' μ' hd hin=>hg.mono _ _ _ _ (fun δ2 q=>hb.mono { E with nx:=inv (i+1),ct:=inv (i+1),bk:=E.nx } _ _ _ ⟨fun _ _ q=>q,l.rt,l.nx,fun _ _ q=>q⟩ q) (step i d δ' μ' hd hin),fun δ' μ' q=>l.nx _ _ (fin δ' μ' q)⟩) h⟩
 have e1:aN (aa H1 H L) L=H1:=bK z
 refine⟨fun i m σ' H'=>m=ds.length - i/\i<=ds.length/\∃ δ' μ' L',aK H1 (aN H' L')/\bf X.K (aN H' L') σ' δ'/\cy X.K H' μ' L'/\inv i δ' μ',⟨ds.length,rfl,Nat.zero_le _,δ,μ,L,by rw [e1];exact aK.refl _,by rw [e1];exact r.same s1,st.show z s1,i0⟩,?_⟩
 rintro i m σ' H' ⟨rfl,hle,δ',μ',L',s',r',st',hin⟩
 have sf:aK H1 H':=s'.trans ax
 by_cases hlt:i<ds.length
 ·refine .inr ⟨it.go i H' sf hlt,fun σ2 H2=>∃ δ2 μ2 L2,aK H1 (aN H2 L2)/\bf X.K (aN H2 L2) σ2 δ2/\cy X.K H2 μ2 L2/\inv (i+1) δ2 μ2,fun σ2 H2 ⟨δ2,μ2,L2,q⟩=>⟨ds.length - (i+1),by omega,rfl,hlt,δ2,μ2,L2,q⟩,fun x H'' y=>?_⟩
  obtain⟨s2,d,hd,Hx,_,dvx,hx,sx⟩:=it.Dq i H' x H'' sf hlt y
  have sA:aK (aN H' L') (aN H'' L'):=bq s2
  have sX:aK Hx (aN H'' L'):=fun b o hb=>by
   have nb:b∉L':=by
    intro hbL
    rcases hx b o hb with q|q
    ·have:=s' _ _ q
     rw [cK hbL] at this
     cases this
    ·obtain⟨o',q'⟩:=(st'.dM b hbL).there
     rw [q] at q'
     cases q'
   rw [bC nb]
   exact sx _ _ hb
  have st2:cy X.K H'' μ' L':=st'.on s2
  refine⟨L',st2.dM,d,δ',dvx.same sX,r'.same sA,hg.mono _ _ _ _ (fun δ2 q σ3 H3 s3 r3 z3=>?_) (step i d δ' μ' hd hin)⟩
  have e3:aN (aa H3 H'' L') L'=H3:=bK z3
  have st3:cy X.K (aa H3 H'' L') μ' L':=st2.show z3 s3
  have sB:aK H1 H3:=s'.trans (sA.trans s3)
  refine⟨δ2,μ',L',by rw [e3];exact r3,st3,hb.mono { mP X.K H L D with nx:=inv (i+1),ct:=inv (i+1),bk:=(mP X.K H L D).nx } _ _ _ ?_ q⟩
  have sC:aK (aN H L) (aN (aa H3 H'' L') L'):=by rw [e3];exact s1.trans sB
  have l:=gP (K:=X.K) (D:=D) sC
  refine⟨fun δ4 μ4 q4 σ4 H4 L4 s4 r4 st4=>⟨δ4,μ4,L4,?_,r4,st4,q4⟩,fun _ _ q4=>l.rt _ _ q4,fun _ _ q4=>l.nx _ _ q4,fun δ4 μ4 q4 σ4 H4 L4 s4 r4 st4=>⟨δ4,μ4,L4,?_,r4,st4,q4⟩⟩
  ·rw [e3] at s4;exact sB.trans s4
  ·rw [e3] at s4;exact sB.trans s4
 ·have e:i=ds.length:=by omega
  subst e
  exact .inl ⟨it.stop H' sf,fin δ' μ' hin σ' H' L' (s1.trans s') r' st'⟩
end
section
variable {P:Program}{w:World}{K:PySem.W.Frag}{mg:Str->Option Value}{base:Heap}
theorem Mo {x qual:Str}{st:Stmt}{f:Addr}{fd:FuncData}{N ps:List Str}{k:Nat}{sd:cL}{t:eY}(F:wy K x qual st f fd)(S:aE N ps (aB st))(len:∀ ds Q,sd ds Q->ds.length=ps.length)
  (hb:∀(cdv:Value) (A:Around) (outer:List Env) (s:Shared) (H:Hp) (E:XK),cD k (A.deeper (envOfC qual (aB st) s.heap.objs.size f cdv))->rA (Bx P w K mg base N qual st f cdv A outer s H E) (bE st) t)
  (hr:∀ ds Q,sd ds Q->t { nx:=fun _ _=>Q .aj,rt:=fun d μ=>Q (ay μ d)} (cb N ds) []):cN P w K mg base pQ (k+1) f fd ps (qm K sd):=by
 refine F.ok S (fun vs H Q E ⟨ds,dvs,h⟩=>by rw [dvs.length];exact len ds _ h) (fun cdv A outer s H vs Q E hroom ⟨ds,dvs,h⟩=>?_)
 have B:=hb cdv A outer s H E hroom
 refine⟨_,B.ps,cb N ds,[],[],by rw [cF];exact lQ dvs,cy.nil,?_⟩
 refine B.mono { nx:=fun _ _=>kD K H Q .aj,rt:=fun d μ=>kD K H Q (ay μ d)} _ _ _ ⟨fun δ μ q σ H' L' s' r g=>?_,fun d μ q v H' L' s' g dv=>?_,fun _ _ q=>q.elim,fun _ _ q=>q.elim⟩ (hr ds _ h)
 ·rw [cF] at s'
  exact q _ H' (s'.trans ax) .aj
 ·rw [cF] at s'
  exact q _ H' (s'.trans ax) (g.view dv)
end
structure az (P:Program) (w:World) (K:PySem.W.Frag) (mg:Str->Option Value) (base:Heap) (k:Nat) (x:Str) (ps:List Str) (sd:cL):Prop where
 ex:∃ f fd,cN P w K mg base pQ k f fd ps (qm K sd)/\mg x=some (.ref f)/\keepIn K (.ref f)=true/\Binds K fd ps []
 ms:cQ sd
section
variable {P:Program}{w:World}{K:PySem.W.Frag}{mg:Str->Option Value}{base:Heap}
theorem az.up {j k:Nat}{x:Str}{ps:List Str}{sd:cL}(c:az P w K mg base j x ps sd)(h:j<=k):az P w K mg base k x ps sd :=
 ⟨let ⟨f,fd,F,r⟩:=c.ex;⟨f,fd,F.mono h,r⟩,c.ms⟩
structure Df (K:PySem.W.Frag) (mg:Str->Option Value) (x:Str) (st:Stmt) (ps:List Str):Prop where
 ex:∃ f fd,wy K x x st f fd/\mg x=some (.ref f)/\Binds K fd ps []
theorem Df.cp {k:Nat}{x:Str}{st:Stmt}{ps N:List Str}{sd:cL}{t:jS}(d:Df K mg x st ps)(S:aE N ps (aB st))(ms:cQ sd)(len:∀ ds Q,sd ds Q->ds.length=ps.length)
  (hb:∀(f:Addr) (cdv:Value) (A:Around) (outer:List Env) (s:Shared) (H:Hp) (E:XK),cD k (A.deeper (envOfC x (aB st) s.heap.objs.size f cdv))->pS (Bx P w K mg base N x st f cdv A outer s H E) (bE st) t)
  (hr:∀ ds Q,sd ds Q->t { nx:=fun _=>Q .aj,rt:=Q } (cb N ds)):az P w K mg base (k+1) x ps sd:=by
 obtain⟨f,fd,F,m,b⟩:=d.ex
 exact⟨⟨f,fd,Nb F S len (hb f) hr,m,F.kp,b⟩,ms⟩
theorem Df.n_ {k:Nat}{x:Str}{st:Stmt}{ps N:List Str}{sd:cL}{t:eY}(d:Df K mg x st ps)(S:aE N ps (aB st))(ms:cQ sd)(len:∀ ds Q,sd ds Q->ds.length=ps.length)
  (hb:∀(f:Addr) (cdv:Value) (A:Around) (outer:List Env) (s:Shared) (H:Hp) (E:XK),cD k (A.deeper (envOfC x (aB st) s.heap.objs.size f cdv))->rA (Bx P w K mg base N x st f cdv A outer s H E) (bE st) t)
  (hr:∀ ds Q,sd ds Q->t { nx:=fun _ _=>Q .aj,rt:=fun d μ=>Q (ay μ d)} (cb N ds) []):az P w K mg base (k+1) x ps sd:=by
 obtain⟨f,fd,F,m,b⟩:=d.ex
 exact⟨⟨f,fd,Mo F S len (hb f) hr,m,F.kp,b⟩,ms⟩
end
section
variable {X:Cx}{e:Expr}{es:List Expr}{t:AD}{j k:Nat}{x:Str}{ps:List Str}{sd:cL}{p pos:Pos}
theorem aH (c:az X.prog X.w X.K X.mg X.base j x ps sd)(hr:cD k X.A)(hj:j<=k)(hg:Gl X x)(ha:pR X (e::es) t)(hdb:(x == ("__debug__":Str))=false:=by decide)
  (h1:starEach (e::es) X.env=(false,eval e X.env)::starEach es X.env:=by rfl)(h2:(backTo pos (starEach es X.env)).any (·.1)=false:=by rfl):PD X (.Call (.Name x p) (e::es) [] pos) (Dl sd t):=by
 obtain⟨f,fd,F,m,kp,b⟩:=c.ex
 exact HZ F c.ms (hr.mono hj) hg m kp b ha hdb (uL F (hr.mono hj) hg m kp b .nil rz ha.pa hdb h1 h2)
end
section
variable {X:Cx}{scope:Scope}{cl:List (Str × Addr)}{x:Str}{caps:List Nat}{cn:List Str}{tg iter elt:Expr}{ifs:List Expr}{ti:AD}{tt:TD}{te:ED}{pos:Pos}
theorem mN (S:cC X scope cl [x] caps cn)(hc:X.calm=true)(hi:PId X tg iter ti)(hg:∀ C fp s₂ H₂,PG (a_ X scope cl C ([x]++cn) fp s₂ H₂) tg (eO 0))(ht:∀ C fp s₂ H₂,u_ (a_ X scope cl C ([x]++cn) fp s₂ H₂) ifs tt)
  (he:∀ C fp s₂ H₂,PD (a_ X scope cl C ([x]++cn) fp s₂ H₂) elt te)(hs:∀ x,foldedSetIterable iter X.env x=pure x:=by intro _;rfl):PD X (.ListComp elt [⟨tg,iter,ifs,0⟩] scope pos) (nv caps ti tt te) :=
 Ha S hc hi hg ht he (ht 0 [] X.s₀ X.H₀).mono (he 0 [] X.s₀ X.H₀).mono hs
theorem JR {i:Nat}{y:Str}{py spos:Pos}(hN:X.N.Nodup)(hi':X.N[i]?=some y)(hy:Loc X.env.scope y)(S:cC X scope cl [x] caps cn)(hc:X.calm=true)(hi:PId X tg iter ti)
  (hg:∀ C fp s₂ H₂,PG (a_ X scope cl C ([x]++cn) fp s₂ H₂) tg (eO 0))(ht:∀ C fp s₂ H₂,u_ (a_ X scope cl C ([x]++cn) fp s₂ H₂) ifs tt)(he:∀ C fp s₂ H₂,PD (a_ X scope cl C ([x]++cn) fp s₂ H₂) elt te)
  (hsw:swapsWith (.ListComp elt [⟨tg,iter,ifs,0⟩] scope pos) (some (.Name y py)) spos.line X.env=pure true:=by rfl)(hf:X.fn y=true\/X.env.scope.names.lookup y=some .local:=by first|exact .inl rfl|exact .inr rfl|assumption)
  (hs:∀ x,foldedSetIterable iter X.env x=pure x:=by intro _;rfl):yZ X (.Assign [.Name y py] (.ListComp elt [⟨tg,iter,ifs,0⟩] scope pos) spos) (Ap i (nv caps ti tt te)) :=
 JQ hN hi' hy S hc hi hg ht he (ht 0 [] X.s₀ X.H₀).mono (he 0 [] X.s₀ X.H₀).mono hsw hf hs
theorem isSome_of {cl:List (Str × Addr)}{y:Str}:y∈cl.map (·.1)->(cl.lookup y).isSome=true:=by
 induction cl with
 | nil=>intro h;cases h
 | cons p r ih =>
  intro h
  rw [List.lookup_cons]
  cases q:y == p.1 with
  | true=>rfl
  | false =>
   rw [List.map_cons,List.mem_cons] at h
   rcases h with h|h
   ·rw [h] at q;simp at q
   ·exact ih h
theorem gR {cl:List (Str × Addr)}(ks:List Str)(hk:cl.map (·.1)=ks)(h:∀ y∈scope.names,y.2=.free->y.1∈ks):∀ y∈scope.names,y.2=.free->(cl.lookup y.1).isSome=true:=fun y hy e=>isSome_of (by rw [hk];exact h y hy e)
theorem dY {f:Str × Addr->Prop}:∀ p∈([]:List (Str × Addr)),f p:=fun p h=>nomatch h
theorem b_ {f:Str × Addr->Prop}{a:Str × Addr}{r:List (Str × Addr)}(h:f a)(hr:∀ p∈r,f p):∀ p∈a::r,f p:=List.forall_mem_cons.mpr ⟨h,hr⟩
end
section
variable {X:Cx}{e:Expr}{te:ED}{p p2 pos:Pos}
theorem vj (hg:Gl X "isinstance")(hm:X.mg "isinstance"=none)(hg2:Gl X "bool")(hm2:X.mg "bool"=none)(he:PD X e te)(hs:starEach [e,.Name "bool" p2] X.env=(false,eval e X.env)::starEach [.Name "bool" p2] X.env:=by rfl):PD X (.Call (.Name "isinstance" p) [e,.Name "bool" p2] [] pos) (sQ "bool" te):=(qB he hg hm hg2 hm2 xA (by decide) (by decide) hs).vi he.mono (by decide)
theorem Ej (hg:Gl X "isinstance")(hm:X.mg "isinstance"=none)(hg2:Gl X "int")(hm2:X.mg "int"=none)(he:PD X e te)(hs:starEach [e,.Name "int" p2] X.env=(false,eval e X.env)::starEach [.Name "int" p2] X.env:=by rfl):PD X (.Call (.Name "isinstance" p) [e,.Name "int" p2] [] pos) (sQ "int" te):=(qB he hg hm hg2 hm2 zy (by decide) (by decide) hs).vi he.mono (by decide)
theorem El (hg:Gl X "isinstance")(hm:X.mg "isinstance"=none)(hg2:Gl X "str")(hm2:X.mg "str"=none)(he:PD X e te)(hs:starEach [e,.Name "str" p2] X.env=(false,eval e X.env)::starEach [.Name "str" p2] X.env:=by rfl):PD X (.Call (.Name "isinstance" p) [e,.Name "str" p2] [] pos) (sQ "str" te):=(qB he hg hm hg2 hm2 boot_str (by decide) (by decide) hs).vi he.mono (by decide)
theorem CD (hg:Gl X "isinstance")(hm:X.mg "isinstance"=none)(hg2:Gl X "list")(hm2:X.mg "list"=none)(he:PD X e te)(hs:starEach [e,.Name "list" p2] X.env=(false,eval e X.env)::starEach [.Name "list" p2] X.env:=by rfl):PD X (.Call (.Name "isinstance" p) [e,.Name "list" p2] [] pos) (sQ "list" te):=(qB he hg hm hg2 hm2 boot_list (by decide) (by decide) hs).vi he.mono (by decide)
end
structure bY (P:Program) (w:World) (K:PySem.W.Frag) (mg:Str->Option Value) (base:Heap) (j:Nat) (C:Addr) (m:Str) (sd:cL) (dd:List D):Prop where
 ex:∃ f fd ps dvs ds,q_ K C/\Meth K C m f/\cN P w K mg base pQ j f fd ps (qm K sd)/\Binds K fd ps ds/\Vals dvs ds/\∀ H,bS K H dvs dd
 ms:cQ sd
theorem bY.mh {X:Cx}{j k:Nat}{C:Addr}{m:Str}{sd:cL}{dd:List D}(c:bY X.prog X.w X.K X.mg X.base j C m sd dd)(hr:cD k X.A)(hj:j<=k):MH X C m sd dd :=
 let ⟨f,fd,ps,dvs,ds,h1,h2,h3,h4,h5,h6⟩:=c.ex
 ⟨j,f,fd,ps,dvs,ds,h1,h2,h3,c.ms,hr.mono hj,h4,h5,h6⟩
theorem bY.up {P:Program}{w:World}{K:PySem.W.Frag}{mg:Str->Option Value}{base:Heap}{i j:Nat}{C:Addr}{m:Str}{sd:cL}{dd:List D}(c:bY P w K mg base i C m sd dd)(h:i<=j):bY P w K mg base j C m sd dd :=
 ⟨let ⟨f,fd,ps,dvs,ds,h1,h2,h3,r⟩:=c.ex;⟨f,fd,ps,dvs,ds,h1,h2,h3.mono h,r⟩,c.ms⟩
structure Dm (K:PySem.W.Frag) (C:Addr) (m qual:Str) (st:Stmt) (ps:List Str):Prop where
 ex:∃ f fd,wy K m qual st f fd/\Meth K C m f/\q_ K C/\Binds K fd ps []
section
variable {P:Program}{w:World}{K:PySem.W.Frag}{mg:Str->Option Value}{base:Heap}
theorem Dm.cp {k:Nat}{C:Addr}{m qual:Str}{st:Stmt}{ps N:List Str}{sd:cL}{t:jS}(d:Dm K C m qual st ps)(S:aE N ps (aB st))(ms:cQ sd)(len:∀ ds Q,sd ds Q->ds.length=ps.length)
  (hb:∀(f:Addr) (cdv:Value) (A:Around) (outer:List Env) (s:Shared) (H:Hp) (E:XK),cD k (A.deeper (envOfC qual (aB st) s.heap.objs.size f cdv))->pS (Bx P w K mg base N qual st f cdv A outer s H E) (bE st) t)
  (hr:∀ ds Q,sd ds Q->t { nx:=fun _=>Q .aj,rt:=Q } (cb N ds)):bY P w K mg base (k+1) C m sd []:=by
 obtain⟨f,fd,F,M,c,b⟩:=d.ex
 exact⟨⟨f,fd,ps,[],[],c,M,Nb F S len (hb f) hr,b,.nil,fun _=>.nil⟩,ms⟩
structure n6 (P:Program) (w:World) (K:PySem.W.Frag) (mg:Str->Option Value) (base:Heap) (j:Nat) (x:Str) (C:Addr) (sd:GV) (dd:List D):Prop where
 ex:∃ f fd ps dvs ds,Mk K C f/\cN P w K mg base pQ j f fd ps (Mz K C sd)/\mg x=some (.ref C)/\Binds K fd ps ds/\Vals dvs ds/\∀ H,bS K H dvs dd
 ms:wz sd
structure Di (K:PySem.W.Frag) (mg:Str->Option Value) (x:Str) (C:Addr) (qual:Str) (st:Stmt) (ps:List Str) (dd:List D):Prop where
 ex:∃ f fd dvs ds,Dy K "__init__" qual st f fd/\Mk K C f/\mg x=some (.ref C)/\Binds K fd ps ds/\Vals dvs ds/\∀ H,bS K H dvs dd
theorem Di.BK {k:Nat}{x:Str}{C:Addr}{qual:Str}{st:Stmt}{ps N:List Str}{dd:List D}{sd:GV}{t:Addr->zr}(d:Di K mg x C qual st ps dd)(S:aE N ps (aB st))(ms:wz sd)(len:∀ ds Q,sd ds Q->ds.length+1=ps.length)
  (hb:∀(f:Addr) (cdv:Value) (A:Around) (outer:List Env) (s:Shared) (H:Hp) (E:XK),cD k (A.deeper (envOfC qual (aB st) s.heap.objs.size f cdv))->Jk (Bx P w K mg base N qual st f cdv A outer s H E) C (bE st) t)
  (hr:∀ a ds Q,sd ds Q->t a { nx:=fun _=>Q,rt:=Q,fin:=Q } (cb N (.adr a::ds)) []):n6 P w K mg base (k+1) x C sd dd:=by
 obtain⟨f,fd,dvs,ds,F,M,m,b,v,h⟩:=d.ex
 exact⟨⟨f,fd,ps,dvs,ds,M,N3 F S len (hb f) hr,m,b,v,h⟩,ms⟩
end
section
variable {X:Cx}{ok:Addr->Prop}{o e:Expr}{es:List Expr}{m x:Str}{sd:Addr->cL}{dd:List D}{ta:ED}{t:AD}{pos apos p:Pos}{j k:Nat}{C:Addr}{si:GV}
theorem cE {pl:Sem Bool}(hM:∀ C,ok C->bY X.prog X.w X.K X.mg X.base j C m (sd C) dd)(hr:cD k X.A)(hj:j<=k)(he:PD X o ta)
  (ht:eval (.Call (.Attribute o m apos) [] [] pos) X.env=(do
   let ov <- eval o X.env
   standAt apos.atName
   let (f,first) <- holding [ov] (getMethod ov m pl)
   callWith pos f first (backTo pos (starEach [] X.env)) (backToKw pos (keywordEach [] X.env))):=by rfl) :
  PD X (.Call (.Attribute o m apos) [] [] pos) (pP ok m sd dd ta sq):=ES (fun C h=>(hM C h).mh hr hj) he ht
theorem pW (c:n6 X.prog X.w X.K X.mg X.base j x C si dd)(hr:cD k X.A)(hj:j+1<=k)(hg:Gl X x)(ha:pR X (e::es) t)(hdb:(x == ("__debug__":Str))=false:=by decide)
  (h1:starEach (e::es) X.env=(false,eval e X.env)::starEach es X.env:=by rfl)(h2:(backTo pos (starEach es X.env)).any (·.1)=false:=by rfl):PD X (.Call (.Name x p) (e::es) [] pos) (HH C si dd t):=by
 obtain⟨f,fd,ps,dvs,ds,M,F,m,b,v,h⟩:=c.ex
 exact He M F c.ms (hr.mono hj) hg m b v h ha hdb h1 h2
end
section
variable {X:Cx}{e:Expr}{te:ED}{p p2 pos pos':Pos}{f x:Str}{C:Addr}
theorem aT (K:PySem.W.Frag)(hK:X.K=K)(he:PD X e te)(hb:attributeBase e f X.env (eval e X.env)=eval e X.env):PD X (.Attribute e f pos) (GN K te f):=by subst hK;exact J3 he hb
theorem Hc (K:PySem.W.Frag)(hK:X.K=K)(he:PD X e te)(hg:Gl X "isinstance")(hm:X.mg "isinstance"=none)(hg2:Gl X x)(hm2:X.mg x=some (.ref C))(hd:(x == ("__debug__":Str))=false:=by decide)
  (hs:starEach [e,.Name x p2] X.env=(false,eval e X.env)::starEach [.Name x p2] X.env:=by rfl):PD X (.Call (.Name "isinstance" p) [e,.Name x p2] [] pos) (Dn K (.ref C) te):=by subst hK;exact Hb he hg hm hg2 hm2 hd hs
theorem bW (K:PySem.W.Frag)(hK:X.K=K)(hN:X.N[0]?=some x)(hv:ur X.env.scope x)(he:PD X e te)(hs:swapsWith e (some (.Attribute (.Name x p) f pos')) pos.line X.env=pure false:=by rfl)(hd:(x == ("__debug__":Str))=false:=by decide)
  (hcd:(x == ("__classdict__":Str))=false:=by decide):Li X C (.Assign [.Attribute (.Name x p) f pos'] e pos) (KQ K C f te):=by subst hK;exact KR hN hv he hs hd hcd
end
section
variable {X:Cx}{o e:Expr}{es:List Expr}{to te:ED}{t:AD}{p p1 p2 tp pos apos cpos:Pos}
def Fy (z:D):cL:=fun ds Q=>∃ x y,z=.str x/\ds=[.str y]/\(y.length == 0)=false/\x.length+2<=sizeLine/\Q (.lst ((Txt.split x y).map D.str))
theorem qH {K:PySem.W.Frag}{H:Hp}:∀(ws:List Str),bS K H (ws.map V.str) (ws.map D.str)
 | []=>.nil
 | w::ws=>.cons (.str w) (qH ws)
theorem wq {K:PySem.W.Frag}{H:Hp}:∀{vs:List V} {ws:List Str},bS K H vs (ws.map D.str)->vs=ws.map V.str
 | [],[],_=>rfl
 | _,_::_,.cons (.str _) r=>by rw [wq r];rfl
def isStr:D->Prop:=fun d=>∃ x,d=.str x
def NF (sd:D->cL)(to:ED)(t:AD):ED:=fun δ Q=>to δ fun z=>isStr z/\t δ fun ds=>sd z ds Q
theorem EV (ho:PD X o to)(ha:pR X (e::es) t)(hbase:attributeBase o "split" X.env (eval o X.env)=eval o X.env:=by rfl)
  (hfew:((backTo cpos (starEach (e::es) X.env)).all (fun x=>!x.1)&&(backToKw cpos (keywordEach [] X.env)).all (fun x=>x.1.isSome)&&decide ((e::es).length+([]:List Keyword).length+(if([]:List Keyword).isEmpty then 0 else 1)<30))=true:=by rfl)
  (hline:(apos.endLine == cpos.line)=true:=by rfl)(hs:starEach (e::es) X.env=(false,eval e X.env)::starEach es X.env:=by rfl)(hplain:(backTo cpos (starEach es X.env)).any (·.1)=false:=by rfl) :
  PD X (.Call (.Attribute o "split" apos) (e::es) [] cpos) (NF Fy to t):=by
 refine⟨(r8 PySem.F.plainAttrs_str PySem.F.slot_str_split PySem.F.type_str_split CW ho.pe ha.pa hbase hfew hline hs hplain).imp fun σ H Q ⟨δ,r,h⟩=>⟨δ,r,ho.mono _ _ _ (fun z ⟨⟨x,ez⟩,q⟩ v H1 s1 dv=>?_) h⟩,
  fun δ P P' g h=>ho.mono _ _ _ (fun z ⟨i,q⟩=>⟨i,ha.mono _ _ _ (fun ds ⟨x,y,e1,e2,c1,c2,k⟩=>⟨x,y,e1,e2,c1,c2,g _ k⟩) q⟩) h⟩
 subst ez
 cases dv
 refine⟨rfl,δ,r.same s1,ha.mono _ _ _ (fun ds ⟨x',y,e1,e2,c1,c2,k⟩ vs H2 s2 dvs=>?_) q⟩
 cases e1
 subst e2
 cases dvs with
 | cons a b =>
  cases a
  cases b
  exact⟨_,y,rfl,rfl,c1,c2,fun p hp=>k _ _ ((s1.trans s2).trans (aw hp)) (.lst (dg.of aJ) (qH _))⟩
end
end DC
namespace L2
open PySem PySem.Spec PyProof.Rows
section
variable {X:Cx}
end
end L2
namespace DC
open PySem PySem.Spec PyProof.Rows L2
section
variable {X:Cx}{e:Expr}{es:List Expr}{t:AD}{p pos:Pos}
end
end DC
namespace L2
open PySem PySem.Spec PyProof.Rows
section
variable {prog:Program}{w:World}{A:Around}{E:Value->Shared->Prop}{s:Shared}
end
section
variable {prog:Program}{w:World}{A:Around}
end
section
variable {prog:Program}{w:World}{A:Around}{E:Value->Shared->Prop}{s:Shared}{z TI TO i1 i2 l1 l2:Addr}{k1 k2:Nat}{xs ys:Array Value}{x y a b:Value}{S1 S2:Nat->Heap->Prop}
end
section
variable {prog:Program}{w:World}{A:Around}{E:Value->Shared->Prop}{s:Shared}{z TI TO i1 i2 l1 l2:Addr}{k1 k2:Nat}{xs ys:Array Value}{x y a b:Value}{S1 S2:Nat->Heap->Prop}
end
section
variable {X:Cx}{pins:List (Addr × Obj)}{σ:St}{H:Hp}{s:Shared}{a:Addr}{xs ys:List V}
theorem Inv.GJ {h':Heap}{t':Nat}{ch:List Addr}{T:Addr}{u1 u2:Value}{x y:V}(I:Inv X pins σ H s)(hk:∀ b o,b∉ch->s.heap.get? b=some o->h'.get? b=some o)(hf:∀ b∈ch,jQ X pins H b)
  (hT:s.heap.objs.size<=T)(hp:IsPair h' T u1 u2)(r1:RelV x u1)(r2:RelV y u2):Inv X pins σ (upd H T (.tup [x,y])) { s with heap:=h',toks:=t' }:=by
 have hn:H T=none:=I.bp.fresh hT
 have nT:∀{b:Addr} {o:Obj},s.heap.get? b=some o->b≠T:=fun e=>Nat.ne_of_lt (Nat.lt_of_lt_of_le (Heap.lt_size e) hT)
 have nch:∀{b:Addr} {o:HO},H b=some o->b∉ch:=fun e hb=>by rw [(hf _ hb).1] at e;cases e
 refine I.BY (ch:=ch) rfl ⟨fun b o e n hb hc=>hk b o hc e,fun b o e n hb hc=>⟨o.slots,hk b o hc e⟩,fun b o e n hc=>by rw [aG (nT e)];exact n,fun b o e hc=>⟨o,hk b o hc e⟩,
  fun b zs e=>by rw [aG (bL e hn)];exact e,fun b o u e=>by rw [aG (bL e hn)];exact e,fun b ps e=>⟨#[],by rw [aG (bL e hn),e];simp⟩⟩ (fun b o e=>?_) I.bare fun b hb=>?_
 ·by_cases hb:b=T
  ·rw [hb,aJ] at e
   cases e
   rw [hb]
   exact⟨(show 2<=sizeLine by decide),[u1,u2],.cons r1 (.cons r2 .nil),_,hp,rfl,_,rfl⟩
  ·rw [aG hb] at e
   refine(I.bp b o e).oq (fun c u hc q=>hk c u ?_ q) (fun c hc=>by rw [aG (bL hc hn)];exact hc) (fun c zs hc=>by rw [aG (bL hc hn)];exact hc)
   rcases hc with rfl|hc
   ·exact nch e
   ·exact nch hc
 ·obtain⟨_,f2,f3,f4,f5,f6⟩:=hf b hb
  exact⟨f4,f2,f5,f6⟩
theorem Inv.GH {h':Heap}{t':Nat}{ch:List Addr}(I:Inv X pins σ H s)(hk:∀ b o,b∉ch->s.heap.get? b=some o->h'.get? b=some o)(hf:∀ b∈ch,jQ X pins H b):Inv X pins σ H { s with heap:=h',toks:=t' }:=by
 have nch:∀{b:Addr} {o:HO},H b=some o->b∉ch:=fun e hb=>by rw [(hf _ hb).1] at e;cases e
 refine I.BY (ch:=ch) rfl ⟨fun b o e n hb hc=>hk b o hc e,fun b o e n hb hc=>⟨o.slots,hk b o hc e⟩,fun b o e n hc=>n,fun b o e hc=>⟨o,hk b o hc e⟩,fun b zs e=>e,fun b o u e=>e,fun b ps e=>⟨#[],by rw [e];simp⟩⟩ (fun b o e=>?_) I.bare fun b hb=>?_
 ·refine(I.bp b o e).oq (fun c u hc q=>hk c u ?_ q) (fun c hc=>hc) (fun c zs hc=>hc)
  rcases hc with rfl|hc
  ·exact nch e
  ·exact nch hc
 ·obtain⟨_,f2,f3,f4,f5,f6⟩:=hf b hb
  exact⟨f4,f2,f5,f6⟩
end
section
variable {X:Cx}{e1 e2:Expr}{ta:TA}{p pos tp:Pos}{elts:List Expr}{c:Nat}
end
end L2
namespace DC
open PySem PySem.Spec PyProof.Rows L2
section
variable {X:Cx}{e1 e2:Expr}{ta:AD}{p pos tp:Pos}{elts:List Expr}{c:Nat}
end
theorem nM {K:PySem.W.Frag}{H:Hp}{σ:L2.St}{δ:SD}(r:bf K H σ δ){x:V}{d:D}(dv:Dv K H x d):bf K H (some x::σ) (some d::δ):=by
 refine⟨by rw [List.length_cons,List.length_cons,r.len],fun i e h=>?_⟩
 cases i with
 | zero=>simp at h;subst h;exact⟨x,rfl,dv⟩
 | succ i=>simpa using r.get i e (by simpa using h)
theorem Be {K:PySem.W.Frag}{H:Hp}{σ:L2.St}{δ:SD}(r:bf K H σ δ)(caps:List Nat):bf K H (caps.map fun j=>(σ[j]?).getD none) (pV caps δ):=by
 have q:=yg r (Dv.aj) caps
 refine⟨by simpa using q.len,fun i d h=>?_⟩
 simpa using q.get (i+1) d (by simpa using h)
section
variable {X:Cx}{scope:Scope}{cl:List (Str × Addr)}{x y:Str}{cn:List Str}{caps:List Nat}{elt tg iter:Expr}{ifs:List Expr}{ti:AD}{tt:TD}{te:ED}{pos px py tp:Pos}{c:Nat}
end
section
variable {K:PySem.W.Frag}{H H':Hp}{μ μ':Mu}{L L':List Addr}
theorem cy.join (g:cy K H μ L)(g':cy K H' μ' L')(z:∀ b∈L,H' b=none)(s:aK (aN H L) (aN H' L')):cy K (aa H' H L) (μ'++μ) (L'++L)/\aN (aa H' H L) (L'++L)=aN H' L':=by
 have nL:∀{b:Addr} {o:HO},H' b=some o->b∉L:=fun e hb=>by rw [z _ hb] at e;cases e
 have e:aN (aa H' H L) (L'++L)=aN H' L':=by
  funext b
  by_cases h1:b∈L'
  ·rw [cK (List.mem_append_left _ h1),cK h1]
  ·by_cases h2:b∈L
   ·rw [cK (List.mem_append_right _ h2),bC h1,z b h2]
   ·rw [bC (fun q=>(List.mem_append.mp q).elim h1 h2),bC h1,aX h2]
 refine⟨⟨fun p hp=>?_,?_,fun b hb=>?_,fun b hb=>?_⟩,e⟩
 ·rcases List.mem_append.mp hp with hp|hp
  ·obtain⟨h1,h2⟩:=g'.at_ p hp
   refine⟨List.mem_append_left _ h1,?_⟩
   obtain⟨b,m⟩:=p
   cases m with
   | lst ds=>obtain⟨ws,h,d⟩:=h2;exact⟨ws,by rw [aX (nL h)];exact h,by rw [e];exact d⟩
   | ins C gs=>obtain⟨dx,fs,h,h2,h3,d⟩:=h2;exact⟨dx,fs,by rw [aX (nL h)];exact h,by rw [aX (nL h2)];exact h2,List.mem_append_left _ h3,by rw [e];exact d⟩
   | dK kvs=>obtain⟨ws,h,d⟩:=h2;exact⟨ws,by rw [aX (nL h)];exact h,by rw [e];exact d⟩
  ·obtain⟨h1,h2⟩:=g.at_ p hp
   refine⟨List.mem_append_right _ h1,?_⟩
   obtain⟨b,m⟩:=p
   cases m with
   | lst ds=>obtain⟨ws,h,d⟩:=h2;exact⟨ws,by rw [ai h1];exact h,by rw [e];exact bS.same s d⟩
   | ins C gs=>obtain⟨dx,fs,h,h2,h3,d⟩:=h2;exact⟨dx,fs,by rw [ai h1];exact h,by rw [ai h3];exact h2,List.mem_append_right _ h3,by rw [e];exact gM.same s d⟩
   | dK kvs=>obtain⟨ws,h,d⟩:=h2;exact⟨ws,by rw [ai h1];exact h,by rw [e];exact di.same s d⟩
 ·rw [List.map_append,List.nodup_append]
  refine⟨g'.Ce,g.Ce,fun a ha b hb hab=>?_⟩
  obtain⟨p,hp,rfl⟩:=List.mem_map.mp ha
  obtain⟨q,hq,rfl⟩:=List.mem_map.mp hb
  obtain⟨o,ho⟩:=(g'.dM _ (g'.at_ p hp).1).there
  rw [show p.1=q.1 from hab,z _ (g.at_ q hq).1] at ho
  cases ho
 ·rcases List.mem_append.mp hb with hb|hb
  ·have w:=g'.dM b hb
   cases w with
   | lst xs h=>exact .lst xs (by rw [aX (nL h)];exact h)
   | dK xs h=>exact .dK xs (by rw [aX (nL h)];exact h)
   | ins C dx fs h hd=>exact .ins C dx fs (by rw [aX (nL h)];exact h) (List.mem_append_left _ hd)
   | own C c fs h hc hi=>exact .own C c fs (by rw [aX (nL h)];exact h) (List.mem_append_left _ hc) (by rw [aX (nL hi)];exact hi)
  ·have w:=g.dM b hb
   cases w with
   | lst xs h=>exact .lst xs (by rw [ai hb];exact h)
   | dK xs h=>exact .dK xs (by rw [ai hb];exact h)
   | ins C dx fs h hd=>exact .ins C dx fs (by rw [ai hb];exact h) (List.mem_append_right _ hd)
   | own C c fs h hc hi=>exact .own C c fs (by rw [ai hb];exact h) (List.mem_append_right _ hc) (by rw [ai hc];exact hi)
 ·rcases List.mem_append.mp hb with hb|hb
  ·rcases g'.EN b hb with⟨m,h⟩|⟨c,h⟩
   ·exact .inl ⟨m,List.mem_append_left _ h⟩
   ·exact .inr ⟨c,by rw [aX (nL h)];exact h⟩
  ·rcases g.EN b hb with⟨m,h⟩|⟨c,h⟩
   ·exact .inl ⟨m,List.mem_append_right _ h⟩
   ·exact .inr ⟨c,by rw [ai hb];exact h⟩
end
abbrev EF:=SD->(D->Mu->Prop)->Prop
def kF (K:PySem.W.Frag)(H:Hp)(Q:VK):D->Mu->Prop:=fun d μ=>∀ v H' L',aK H (aN H' L')->cy K H' μ L'->Dv K (aN H' L') v d->Q v H'
theorem kF.on {K:PySem.W.Frag}{H H1:Hp}{Q:VK}{d:D}{μ:Mu}(s:aK H H1)(h:kF K H Q d μ):kF K H1 Q d μ:=fun v H' L' s' g dv=>h v H' L' (s.trans s') g dv
structure PF (X:Cx) (e:Expr) (t:EF):Prop where
 pe:PE X e (fun σ H Q=>∃ δ,bf X.K H σ δ/\t δ (kF X.K H Q))
 mono:∀ δ (P P':D->Mu->Prop),(∀ d μ,P d μ->P' d μ)->t δ P->t δ P'
abbrev pZ:=List D->(D->Mu->Prop)->Prop
abbrev iX (sd:pZ):Prop:=∀ ds (P P':D->Mu->Prop),(∀ d μ,P d μ->P' d μ)->sd ds P->sd ds P'
def Ly (K:PySem.W.Frag)(sd:pZ):Sp:=fun vs H Q _=>∃ ds,bS K H vs ds/\sd ds (kF K H Q)
section
variable {P:Program}{w:World}{K:PySem.W.Frag}{mg:Str->Option Value}{base:Heap}
theorem Nc {x qual:Str}{st:Stmt}{f:Addr}{fd:FuncData}{N ps:List Str}{k:Nat}{sd:pZ}{t:eY}(F:wy K x qual st f fd)(S:aE N ps (aB st))(len:∀ ds Q,sd ds Q->ds.length=ps.length)
  (hb:∀(cdv:Value) (A:Around) (outer:List Env) (s:Shared) (H:Hp) (E:XK),cD k (A.deeper (envOfC qual (aB st) s.heap.objs.size f cdv))->rA (Bx P w K mg base N qual st f cdv A outer s H E) (bE st) t)
  (hr:∀ ds Q,sd ds Q->t { nx:=fun _ μ=>Q .aj μ,rt:=Q } (cb N ds) []):cN P w K mg base pQ (k+1) f fd ps (Ly K sd):=by
 refine F.ok S (fun vs H Q E ⟨ds,dvs,h⟩=>by rw [dvs.length];exact len ds _ h) (fun cdv A outer s H vs Q E hroom ⟨ds,dvs,h⟩=>?_)
 have B:=hb cdv A outer s H E hroom
 refine⟨_,B.ps,cb N ds,[],[],by rw [cF];exact lQ dvs,cy.nil,?_⟩
 refine B.mono { nx:=fun _ μ=>kF K H Q .aj μ,rt:=kF K H Q } _ _ _ ⟨fun δ μ q σ H' L' s' r g=>?_,fun d μ q v H' L' s' g dv=>?_,fun _ _ q=>q.elim,fun _ _ q=>q.elim⟩ (hr ds _ h)
 ·rw [cF] at s'
  exact q _ H' L' s' g .aj
 ·rw [cF] at s'
  exact q v H' L' s' g dv
theorem yN {sd:pZ}{se:cL}(ms:iX sd)(h:∀ ds Q,se ds Q->sd ds fun d μ=>Q (ay μ d)):∀ vs H Q E,qm K se vs H Q E->Ly K sd vs H Q E:=fun vs H Q E ⟨ds,dvs,q⟩ =>
 ⟨ds,dvs,ms _ _ _ (fun d μ k v H' L' s g dv=>k v H' (s.trans ax) (g.view dv)) (h ds _ q)⟩
end
structure fq (P:Program) (w:World) (K:PySem.W.Frag) (mg:Str->Option Value) (base:Heap) (k:Nat) (x:Str) (ps:List Str) (sd:pZ):Prop where
 ex:∃ f fd,cN P w K mg base pQ k f fd ps (Ly K sd)/\mg x=some (.ref f)/\keepIn K (.ref f)=true/\Binds K fd ps []
 ms:iX sd
structure jR (P:Program) (w:World) (K:PySem.W.Frag) (mg:Str->Option Value) (base:Heap) (j:Nat) (C:Addr) (m:Str) (sd:pZ):Prop where
 ex:∃ f fd ps,q_ K C/\Meth K C m f/\cN P w K mg base pQ j f fd ps (Ly K sd)/\Binds K fd ps []
 ms:iX sd
section
variable {X:Cx}{o e:Expr}{es:List Expr}{ta:ED}{t:AD}{tf:EF}{j k:Nat}{x m:Str}{ps:List Str}{sd:pZ}{sm:Addr->pZ}{ok:Addr->Prop}{p pos pos' apos:Pos}{i:Nat}
def J_ (sd:pZ)(t:AD):EF:=fun δ Q=>t δ fun ds=>sd ds Q
theorem rV (c:fq X.prog X.w X.K X.mg X.base j x ps sd)(hr:cD k X.A)(hj:j<=k)(hg:Gl X x)(ha:pR X (e::es) t)(hdb:(x == ("__debug__":Str))=false:=by decide)
  (h1:starEach (e::es) X.env=(false,eval e X.env)::starEach es X.env:=by rfl)(h2:(backTo pos (starEach es X.env)).any (·.1)=false:=by rfl):PF X (.Call (.Name x p) (e::es) [] pos) (J_ sd t):=by
 obtain⟨f,fd,F,m,kp,b⟩:=c.ex
 refine⟨(uL F (hr.mono hj) hg m kp b .nil rz ha.pa hdb h1 h2).imp fun σ H Q ⟨δ,r,h⟩=>⟨δ,r,ha.mono _ _ _ (fun ds q vs H1 s1 dvs=>⟨ds,by rw [List.append_nil];exact dvs,c.ms _ _ _ (fun d μ k=>k.on s1) q⟩) h⟩,fun δ P P' g h=>ha.mono _ _ _ (fun ds q=>c.ms _ _ _ g q) h⟩
def Gj (ok:Addr->Prop)(m:Str)(sm:Addr->pZ)(ta:ED):EF:=fun δ Q=>ta δ fun d=>∃ C gs,d=.obj C gs/\gs.lookup m=none/\ok C/\sm C [d] Q
theorem Ed {pl:Sem Bool}(hM:∀ C,ok C->jR X.prog X.w X.K X.mg X.base j C m (sm C))(hr:cD k X.A)(hj:j<=k)(he:PD X o ta)
  (ht:eval (.Call (.Attribute o m apos) [] [] pos) X.env=(do
   let ov <- eval o X.env
   standAt apos.atName
   let (f,first) <- holding [ov] (getMethod ov m pl)
   callWith pos f first (backTo pos (starEach [] X.env)) (backToKw pos (keywordEach [] X.env))):=by rfl) :
  PF X (.Call (.Attribute o m apos) [] [] pos) (Gj ok m sm ta):=by
 refine⟨fun pins s σ H Q I ⟨δ,r,h⟩=>?_,fun δ P P' g h=>he.mono _ _ _ (fun d ⟨C,gs,e,l,M,q⟩=>⟨C,gs,e,l,M,(hM C M).ms _ _ _ g q⟩) h⟩
 refine PySem.W.methodCall_KW (pl:=pl) (b9 (he.pe pins s σ H _ I ⟨δ,r,he.mono _ _ _ (fun d k v H1 s1 dv=>(show ∃ C gs dx fs a,v=.ref a/\Rd H1 a (.ins C dx fs)/\gM X.K H1 fs gs/\gs.lookup m=none/\ok C/\sm C [.obj C gs] (kF X.K H1 Q) from ?_)) h⟩) fun u s1 ⟨v,H1,I1,rx,C,gs,dx,fs,a,ev,ha,hf,l,M,q⟩=>?_) ht
 ·obtain⟨C,gs,ed,l,M,q⟩:=k
  subst ed
  cases dv with
  | obj h1 h2=>exact⟨_,_,_,_,_,rfl,h1,h2,l,M,(hM _ M).ms _ _ _ (fun d μ z=>z.on s1) q⟩
 ·subst ev
  obtain rfl:u=Value.ref a:=rx
  obtain⟨f,fd,ps,c,mt,F,b⟩:=(hM C M).ex
  refine pB I1 ha c mt (hf.none l) ?_
  exact PySem.W.callWith_K0 (first:=[.ref a]) I1.uv mt.kp (yG (us:=[.ref a]) (vs:=[.ref a]) F (hr.mono hj) b .nil rz I1 (.cons rfl .nil) ⟨[.obj C gs],.cons (.obj ha hf) .nil,q⟩)
def Kb (tf:EF):eY:=fun E δ μ=>tf δ fun d μ'=>E.rt d (μ'++μ)
theorem gW (he:PF X e tf):p6 X (.Return (some e) pos) (Kb tf):=by
 refine⟨PS.imp (yE (gA he.pe)) fun D σ H ⟨δ,μ,L,r,g,h⟩=>⟨L,g.dM,δ,r,he.mono _ _ _ (fun d μ' k v H' L' s' g' dv z=>?_) h⟩,fun E E' δ μ l h=>he.mono _ _ _ (fun d μ' q=>l.rt _ _ q) h⟩
 obtain⟨g2,e2⟩:=g.join g' z s'
 exact k v _ (L'++L) (by rw [e2];exact s') g2 (by rw [e2];exact dv)
end
inductive n5:List (Str × V)->List DictEntry->Prop
 | nil:n5 [] []
 | cons {x:Str} {t:Tok} {v:V} {e:DictEntry} {kvs:List (Str × V)} {es:List DictEntry}:e.key=.str x t->RelV v e.val->n5 kvs es->n5 ((x,v)::kvs) (e::es)
structure KTab (w:World) (K:PySem.W.Frag) (a:Addr) (kvs:List (Str × V)):Prop where
 ex:∃(es:Array DictEntry) (n:Nat),K.lookup a=some ⟨.type "dict",none,.dict es n,#[]⟩/\PySem.W.KeysLit w.params es.toList/\n5 kvs es.toList
 sys:(a == sysModules)=false
theorem n5.has {x:Str}:∀{kvs:List (Str × V)} {es:List DictEntry},n5 kvs es->((es.find? fun d=>Value.isStrOf x d.key).map (·.val)).isSome=kvs.any fun p=>p.1 == x
 | _,_,.nil=>rfl
 | _,_,.cons (x:=y) (e:=e) hk hv r=>by
  have ih:=n5.has (x:=x) r
  rw [List.find?_cons,hk,List.any_cons]
  show(Option.map (·.val) (match (y == x) with|true=>some e|false=>_)).isSome=(y == x||_)
  cases h:(y == x) with
  | true=>rfl
  | false=>exact ih
theorem n5.get {x:Str}{v:V}:∀{kvs:List (Str × V)} {es:List DictEntry},n5 kvs es->kvs.lookup x=some v->∃ u,(es.find? fun d=>Value.isStrOf x d.key).map (·.val)=some u/\RelV v u
 | _,_,.nil,h=>by cases h
 | _,_,.cons (x:=y) (e:=e) hk hv r,h=>by
  rw [List.lookup_cons] at h
  rw [List.find?_cons,hk]
  show ∃ u,Option.map (·.val) (match (y == x) with|true=>some e|false=>_)=some u/\RelV v u
  rw [show(y == x)=(x == y) from Bool.beq_comm]
  cases q:(x == y) with
  | true=>rw [q] at h;cases h;exact⟨_,rfl,hv⟩
  | false=>rw [q] at h;exact n5.get r h
section
variable {X:Cx}{a:Addr}{kvs:List (Str × V)}
theorem Ik (T:KTab X.w X.K a kvs):gx X (compareOp .In) (fun x y H Q=>∃ z,x=.str z/\y=.ref a/\Q (.bl (kvs.any fun p=>p.1 == z)) H):=by
 intro pins s σ H x y v u Q I rx ry h
 obtain⟨z,rfl,rfl,q⟩:=h
 obtain⟨t,rfl⟩:=(show ∃ t,v=Value.str z t from rx)
 cases(show u=Value.ref a from ry)
 obtain⟨es,n,hl,hk,he⟩:=T.ex
 refine wpAny_in_of (strKind_is X.prog X.w z t) T.sys (mapOf_K (prog:=X.prog) I.uv hl hk) ?_
 have e:(findBy Value.isStrOf es z).isSome=kvs.any fun p=>p.1 == z:=by
  unfold findBy
  obtain⟨l⟩:=es
  rw [List.find?_toArray]
  exact he.has
 rw [e]
 exact⟨.bl _,H,I.tok _,rfl,q⟩
theorem Ae (T:KTab X.w X.K a kvs):gx X (compareOp .NotIn) (fun x y H Q=>∃ z,x=.str z/\y=.ref a/\Q (.bl (!kvs.any fun p=>p.1 == z)) H):=by
 intro pins s σ H x y v u Q I rx ry h
 obtain⟨z,rfl,rfl,q⟩:=h
 obtain⟨t,rfl⟩:=(show ∃ t,v=Value.str z t from rx)
 cases(show u=Value.ref a from ry)
 obtain⟨es,n,hl,hk,he⟩:=T.ex
 refine wpAny_notIn_of (strKind_is X.prog X.w z t) T.sys (mapOf_K (prog:=X.prog) I.uv hl hk) ?_
 have e:(findBy Value.isStrOf es z).isSome=kvs.any fun p=>p.1 == z:=by
  unfold findBy
  obtain⟨l⟩:=es
  rw [List.find?_toArray]
  exact he.has
 rw [e]
 exact⟨.bl _,H,I.tok _,rfl,q⟩
theorem Eo (T:KTab X.w X.K a kvs):Dr X (fun x y H Q=>∃ z r,x=.ref a/\y=.str z/\kvs.lookup z=some r/\Q r H):=by
 intro value slice pins s σ H x y v u Q I rx ry h hs
 obtain⟨z,r,rfl,rfl,hr,q⟩:=h
 obtain⟨t,rfl⟩:=(show ∃ t,u=Value.str z t from ry)
 cases(show v=Value.ref a from rx)
 obtain⟨es,n,hl,hk,he⟩:=T.ex
 have hm:=mapOf_K (prog:=X.prog) (w:=X.w) I.uv hl hk
 obtain⟨b,hb,rb⟩:=he.get hr
 have e:findBy Value.isStrOf es z=some b:=by
  unfold findBy
  obtain⟨l⟩:=es
  rw [List.find?_toArray]
  exact hb
 exact tail_any hm.typeIs slot_dict_getitem.lookup (wpAny_getItem_of (strKind_is X.prog X.w z t) hm e ⟨r,H,I.tok _,rb,q⟩) hs
end
inductive Tb (K:PySem.W.Frag):List (Str × V)->List (Str × D)->Prop
 | nil:Tb K [] []
 | cons {x:Str} {v:V} {d:D} {kvs:List (Str × V)} {tab:List (Str × D)}:(∀ H,Dv K H v d)->Tb K kvs tab->Tb K ((x,v)::kvs) ((x,d)::tab)
structure Dz (w:World) (K:PySem.W.Frag) (mg:Str->Option Value) (x:Str) (a:Addr) (tab:List (Str × D)):Prop where
 at_:mg x=some (.ref a)
 ex:∃ kvs,KTab w K a kvs/\Tb K kvs tab
theorem Tb.any {K:PySem.W.Frag}{z:Str}:∀{kvs:List (Str × V)} {tab:List (Str × D)},Tb K kvs tab->(kvs.any fun p=>p.1 == z)=tab.any fun p=>p.1 == z
 | _,_,.nil=>rfl
 | _,_,.cons h r=>by rw [List.any_cons,List.any_cons,Tb.any r]
theorem Tb.look {K:PySem.W.Frag}{z:Str}{d:D}:∀{kvs:List (Str × V)} {tab:List (Str × D)},Tb K kvs tab->tab.lookup z=some d->∃ v,kvs.lookup z=some v/\∀ H,Dv K H v d
 | _,_,.nil,h=>by cases h
 | _,_,.cons (x:=x) h r,e=>by
  rw [List.lookup_cons] at e ⊢
  cases q:z == x with
  | true=>rw [q] at e;cases e;exact⟨_,rfl,h⟩
  | false=>rw [q] at e;exact Tb.look r e
theorem PD.weak {X:Cx}{e:Expr}{t t':ED}(h:PD X e t)(m:bV t')(f:∀ δ Q,t' δ Q->t δ Q):PD X e t':=⟨h.pe.imp fun σ H Q ⟨δ,r,q⟩=>⟨δ,r,f _ _ q⟩,m⟩
theorem mH.weak {X:Cx}{e:Expr}{t t':TD}(h:mH X e t)(m:hW t')(f:∀ δ Q,t' δ Q->t δ Q):mH X e t':=⟨PT.imp h.pt fun σ H Q ⟨δ,r,q⟩=>⟨δ,r,f _ _ q⟩,m⟩
def Jf (neg:Bool)(tab:List (Str × D))(te:ED):ED:=fun δ Q=>te δ fun d=>∃ z,d=.str z/\Q (.bl (if neg then !tab.any fun p=>p.1 == z else tab.any fun p=>p.1 == z))
theorem Gv {neg:Bool}{tab:List (Str × D)}{te:ED}(m:bV te):bV (Jf neg tab te):=fun δ P P' g h=>m _ _ _ (fun d ⟨z,e,q⟩=>⟨z,e,g _ q⟩) h
def Hm (neg:Bool)(a:Addr)(tab:List (Str × D)):F2:=fun d e Q=>∃ z,d=.str z/\e=.adr a/\Q (.bl (if neg then !tab.any fun p=>p.1 == z else tab.any fun p=>p.1 == z))
theorem CK {neg:Bool}{a:Addr}{tab:List (Str × D)}:e7 (Hm neg a tab):=fun d e P P' g ⟨z,e1,e2,q⟩=>⟨z,e1,e2,g _ q⟩
def Lb (tab:List (Str × D))(te:ED):ED:=fun δ Q=>te δ fun d=>∃ z r,d=.str z/\tab.lookup z=some r/\Q r
def Gg (a:Addr)(tab:List (Str × D)):F2:=fun e d Q=>∃ z r,e=.adr a/\d=.str z/\tab.lookup z=some r/\Q r
theorem E8 {a:Addr}{tab:List (Str × D)}:e7 (Gg a tab):=fun d e P P' g ⟨z,r,e1,e2,l,q⟩=>⟨z,r,e1,e2,l,g _ q⟩
section
variable {X:Cx}{a:Addr}{tab:List (Str × D)}{kvs:List (Str × V)}{x:Str}{p pos:Pos}{e:Expr}{te:ED}
theorem Bw (t:Tb X.K kvs tab):hV X.K (fun x y H Q=>∃ z,x=.str z/\y=.ref a/\Q (.bl (kvs.any fun p=>p.1 == z)) H) (Hm false a tab):=by
 rintro H v u d e Q hv hu ⟨z,rfl,rfl,q⟩
 cases hv
 cases hu
 exact⟨z,rfl,rfl,by rw [t.any];exact q _ H (aK.refl _) (.bl _)⟩
theorem vS (t:Tb X.K kvs tab):hV X.K (fun x y H Q=>∃ z,x=.str z/\y=.ref a/\Q (.bl (!kvs.any fun p=>p.1 == z)) H) (Hm true a tab):=by
 rintro H v u d e Q hv hu ⟨z,rfl,rfl,q⟩
 cases hv
 cases hu
 exact⟨z,rfl,rfl,by rw [t.any];exact q _ H (aK.refl _) (.bl _)⟩
theorem z_ (t:Tb X.K kvs tab):hV X.K (fun x y H Q=>∃ z r,x=.ref a/\y=.str z/\kvs.lookup z=some r/\Q r H) (Gg a tab):=by
 rintro H v u d e Q hv hu ⟨z,r,rfl,rfl,l,q⟩
 cases hv
 cases hu
 obtain⟨b,hb,db⟩:=t.look l
 exact⟨z,b,rfl,rfl,hb,q _ H (aK.refl _) (db H)⟩
theorem J5 (T:Dz X.w X.K X.mg x a tab)(hg:Gl X x)(he:PD X e te)(hm:behindInMarks .In (.Name x p)=false:=by rfl)(hd:(x == ("__debug__":Str))=false:=by decide):PD X (.Compare e [.In] [.Name x p] pos) (Jf false tab te):=by
 obtain⟨kvs,k,t⟩:=T.ex
 exact(rS (Ik k) (Bw t) CK he (dq (v:=.ref a) hg T.at_ rfl (fun _=>.adr a) hd) hm).weak (Gv he.mono) fun δ Q h=>he.mono _ _ _ (fun d ⟨z,e1,q⟩=>⟨z,e1,rfl,q⟩) h
theorem DU (T:Dz X.w X.K X.mg x a tab)(hg:Gl X x)(he:PD X e te)(hm:behindInMarks .NotIn (.Name x p)=false:=by rfl)(hd:(x == ("__debug__":Str))=false:=by decide):mH X (.Compare e [.NotIn] [.Name x p] pos) (gv (Jf true tab te)):=by
 obtain⟨kvs,k,t⟩:=T.ex
 exact(nu (Ae k) (vS t) CK he (dq (v:=.ref a) hg T.at_ rfl (fun _=>.adr a) hd) hm).weak (CN (Gv he.mono)) fun δ Q h=>he.mono _ _ _ (fun d ⟨z,e1,q⟩=>⟨z,e1,rfl,q⟩) h
theorem Bl (T:Dz X.w X.K X.mg x a tab)(hg:Gl X x)(he:PD X e te)(hs:sj e)(hd:(x == ("__debug__":Str))=false:=by decide):PD X (.Subscript (.Name x p) e pos) (Lb tab te):=by
 obtain⟨kvs,k,t⟩:=T.ex
 have q:=dq (X:=X) (pos:=p) (v:=.ref a) hg T.at_ rfl (fun _=>.adr a) hd
 exact(vL (t:=oE X.K (vC (.adr a))) (G1 (Eo k) q.pe he.pe hs) q.mono he.mono (z_ t) E8).weak (fun δ P P' g h=>he.mono _ _ _ (fun d ⟨z,r,e,l,q⟩=>⟨z,r,e,l,g _ q⟩) h) fun δ Q h=>he.mono _ _ _ (fun d ⟨z,r,e1,l,q⟩=>⟨z,r,rfl,e1,l,q⟩) h
end
def ML (t:AD):EF:=fun δ Q=>t δ fun ds=>ds.length<=sizeLine/\∀ a,Q (.adr a) [(a,.lst ds)]
theorem qI {X:Cx}{es:List Expr}{t:AD}{pos:Pos}(h:pR X es t):PF X (.List es pos) (ML t):=by
 refine⟨(yB h.pa).imp fun σ H Q ⟨δ,r,q⟩=>⟨δ,r,h.mono _ _ _ (fun ds ⟨hl,k⟩ vs H1 s1 dvs=>⟨by rw [dvs.length];exact hl,fun p hp=>?_⟩) q⟩,fun δ P P' g q=>h.mono _ _ _ (fun ds ⟨hl,k⟩=>⟨hl,fun a=>g _ _ (k a)⟩) q⟩
 obtain⟨g2,e2⟩:=(cy.nil (K:=X.K) (H:=H1)).IW hp (ds:=ds) (by rw [cF];exact dvs)
 exact k p (.ref p) _ [p] (by rw [e2,cF];exact s1) g2 (.adr p)
def mO (g:D->D)(ds:List D):List (Option D):=ds.map fun d=>some (g d)
theorem oU {g:D->D}{ds:List D}:(mO g ds).length=ds.length:=by simp [mO]
theorem rg {g:D->D}{ds:List D}{i:Nat}{d:D}{o:Option D}(h1:ds[i]?=some d)(h2:(mO g ds)[i]?=some o):d∈ds/\o=some (g d):=by
 unfold mO at h2
 rw [List.getElem?_map,h1] at h2
 exact⟨List.mem_of_getElem? h1,by simpa using h2.symm⟩
theorem mS {g:D->D}:∀{ds:List D},(mO g ds).filterMap id=ds.map g
 | []=>rfl
 | d::ds=>by
  have ih:=mS (g:=g) (ds:=ds)
  unfold mO at ih ⊢
  rw [List.map_cons,List.map_cons,<- ih]
  rfl
section
variable {X:Cx}{e:Expr}{tf:EF}{x:Str}{pos pos':Pos}{i:Nat}
def Kc (i:Nat)(tf:EF):eY:=fun E δ μ=>tf δ fun d μ'=>((μ'++μ).map (·.1)).Nodup->E.nx (δ.set i (some d)) (μ'++μ)
theorem dQ (hN:X.N.Nodup)(hi:X.N[i]?=some x)(hx:Loc X.env.scope x)(he:PF X e tf)(hs:swapsWith e (some (.Name x pos')) pos.line X.env=pure false:=by rfl)
  (hf:X.fn x=true\/X.env.scope.names.lookup x=some .local:=by first|exact .inl rfl|exact .inr rfl|assumption):p6 X (.Assign [.Name x pos'] e pos) (Kc i tf):=by
 refine⟨PS.imp (uQ hN hi hx (gA he.pe) hs hf) fun D σ H ⟨δ,μ,L,r,g,h⟩=>⟨L,g.dM,δ,r,he.mono _ _ _ (fun d μ' k v H' L' s' g' dv z=>?_) h⟩,fun E E' δ μ l h=>he.mono _ _ _ (fun d μ' q n=>l.nx _ _ (q n)) h⟩
 obtain⟨g2,e2⟩:=g.join g' z s'
 refine k g2.Ce _ _ (L'++L) (by rw [e2];exact s') ?_ g2
 rw [e2]
 exact(r.same s').set i dv
end
end DC
namespace L2
open PySem PySem.Spec PyProof.Rows
section
variable {X:Cx}{es:List Expr}{t:TA}
def Nv (t:TA):TA:=fun σ H Q=>∃ L,(∀ a∈L,dG H L a)/\t σ (aN H L) fun vs H4=>(∀ b∈L,H4 b=none)->Q vs (aa H4 H L)
theorem Iq (ha:PA X es t):PA X es (Nv t):=by
 intro pos pins s σ H Q I ⟨L,hL,q⟩
 refine mR I hL fun pl I' _ back=>?_
 refine b9 (ha pos (pins++pl) s σ _ _ I' q) fun v s1 ⟨vs,H4,I4,r,k⟩=>?_
 obtain⟨z,J⟩:=back _ _ _ I4
 exact⟨vs,_,J,r,k z⟩
end
end L2
namespace DC
open PySem PySem.Spec PyProof.Rows L2
section
variable {P:Program}{w:World}{K:PySem.W.Frag}{mg:Str->Option Value}{base:Heap}
end
section
variable {P:Program}{w:World}{K:PySem.W.Frag}{mg:Str->Option Value}{base:Heap}
end
section
variable {X:Cx}{o e:Expr}{es:List Expr}{ta:ED}{t:AD}{j k:Nat}{x y m:Str}{ps:List Str}{sd:Nr}{sm:Addr->Nr}{ok:Addr->Prop}{p pos pos' pos2 apos:Pos}{i:Nat}
end
end DC
namespace L2
open PySem PySem.Spec PyProof.Rows
section
variable {M:Model}{A:Around}{E:Value->Shared->Prop}{s:Shared}{B:Heap}{env:Env}{outer:List Env}{L e C:Addr}{dx:Option Addr}{Q:Unit->Shared->Prop}
end
section
variable {P:Program}{w:World}{H H':Hp}{h h':Heap}{a d:Addr}{u:HO}
end
section
variable {P:Program}{w:World}{H H':Hp}{h h':Heap}{b:Addr}{u:HO}{fs:List Addr}
def HO.data:HO->Prop
 | .own _=>False
 | .fJ _ _=>False
 | _=>True
end
section
variable {X:Cx}{pins:List (Addr × Obj)}{σ:St}{H:Hp}{s s':Shared}{E:XK}{e:Value}
end
section
variable {X:Cx}{k:Nat}{f C:Addr}{fd:FuncData}{ps:List Str}{sp:Sp}{dvs:List V}{ds:List Value}
end
theorem dg.rd {K:PySem.W.Frag}{H H':Hp}{a:Addr}{xs:List V}(f:∀ b u,HO.data u->Rd H b u->Rd H' b u)(h:dg K H a xs):dg K H' a xs:=by
 rcases h with h|h
 ·exact .inl (f _ _ True.intro h)
 ·exact .inr h
theorem iY.rd {K:PySem.W.Frag}{H H':Hp}{a:Addr}{xs:List V}(f:∀ b u,HO.data u->Rd H b u->Rd H' b u)(h:iY K H a xs):iY K H' a xs:=by
 rcases h with h|h
 ·exact .inl (f _ _ True.intro h)
 ·exact .inr h
end L2
namespace DC
open PySem PySem.Spec PyProof.Rows L2
section
variable {K:PySem.W.Frag}{H H':Hp}
theorem o4.rd (f:∀ b u,HO.data u->Rd H b u->Rd H' b u){dx:Option Addr}{fs:List (Str × V)}(h:o4 H dx fs):o4 H' dx fs:=by
 cases dx with
 | none=>exact h
 | some d=>exact f _ _ True.intro h
mutual
theorem Dv.rd (f:∀ b u,HO.data u->Rd H b u->Rd H' b u):∀{v:V} {d:D},Dv K H v d->Dv K H' v d
 | _,_,.aj=>.aj
 | _,_,.bl b=>.bl b
 | _,_,.int i=>.int i
 | _,_,.str x=>.str x
 | _,_,.lst h1 h2=>.lst (h1.rd f) (bS.rd f h2)
 | _,_,.tup h1 h2=>.tup (h1.rd f) (bS.rd f h2)
 | _,_,.obj h1 h2=>.obj (f _ _ True.intro h1) (gM.rd f h2)
 | _,_,.dK h1 h2=>.dK (f _ _ True.intro h1) (di.rd f h2)
 | _,_,.dT h1 h2=>.dT (f _ _ True.intro h1) (yX.rd f h2)
 | _,_,.adr a=>.adr a
 | _,_,.exc h1 h2 h3=>.exc (f _ _ True.intro h1) (o4.rd f h2) (gM.rd f h3)
theorem bS.rd (f:∀ b u,HO.data u->Rd H b u->Rd H' b u):∀{vs:List V} {ds:List D},bS K H vs ds->bS K H' vs ds
 | _,_,.nil=>.nil
 | _,_,.cons h1 h2=>.cons (Dv.rd f h1) (bS.rd f h2)
theorem gM.rd (f:∀ b u,HO.data u->Rd H b u->Rd H' b u):∀{vs:List (Str × V)} {ds:List (Str × D)},gM K H vs ds->gM K H' vs ds
 | _,_,.nil=>.nil
 | _,_,.cons h1 h2=>.cons (Dv.rd f h1) (gM.rd f h2)
theorem di.rd (f:∀ b u,HO.data u->Rd H b u->Rd H' b u):∀{vs:List (Key × V)} {ds:List (Key × D)},di K H vs ds->di K H' vs ds
 | _,_,.nil=>.nil
 | _,_,.cons h1 h2=>.cons (Dv.rd f h1) (di.rd f h2)
theorem yX.rd (f:∀ b u,HO.data u->Rd H b u->Rd H' b u):∀{vs:List (List Key × V)} {ds:List (List Key × D)},yX K H vs ds->yX K H' vs ds
 | _,_,.nil=>.nil
 | _,_,.cons h1 h2=>.cons (Dv.rd f h1) (yX.rd f h2)
end
end
section
variable {X:Cx}{e:Expr}{es:List Expr}{t:AD}{pos p:Pos}{x:Str}{k:Nat}{f:Addr}{fd:FuncData}{ps:List Str}{sx:Nt}{xk:SD->XR}{dvs:List V}{dls:List Value}{dd:List D}
end
section
variable {P:Program}{w:World}{K:PySem.W.Frag}{mg:Str->Option Value}{base:Heap}
end
end DC
namespace L2
open PySem PySem.Spec PyProof.Rows
section
variable {P:Program}{w:World}{H:Hp}{h:Heap}{C:Addr}{fs ex:List Addr}
end
section
variable {X:Cx}{k:Nat}{f C:Addr}{fd:FuncData}{ps:List Str}{sp:Sp}{dvs:List V}{ds:List Value}
end
end L2
namespace DC
open PySem PySem.Spec PyProof.Rows L2
section
variable {X:Cx}{o e:Expr}{es:List Expr}{ta:ED}{t:AD}{pos p apos:Pos}{x m:Str}{j k:Nat}{f C:Addr}{fd:FuncData}{ps:List Str}{sx:Nq}{sm:Addr->Nt}{ok:Addr->Prop}{xk:SD->XR}{dvs:List V}{dls:List Value}{dd:List D}
end
section
variable {P:Program}{w:World}{K:PySem.W.Frag}{mg:Str->Option Value}{base:Heap}
end
end DC
namespace L2
open PySem PySem.Spec PyProof.Rows
end L2
namespace DC
open PySem PySem.Spec PyProof.Rows L2
section
variable {X:Cx}{scope:Scope}{cl:List (Str × Addr)}{N:List Str}{R:XR}{C:Addr}{fp:List Addr}{pins:List (Addr × Obj)}{σ:L2.St}{H2:Hp}{s s2:Shared}
end
section
variable {X:Cx}{scope:Scope}{cl:List (Str × Addr)}{T cn:List Str}{caps:List Nat}{elt tg iter:Expr}{ifs:List Expr}{wi:TI}{g:TG}{tt:TT}{te:TE}{pos:Pos}{R:XR}
end
section
variable {X:Cx}{scope:Scope}{cl:List (Str × Addr)}{x:Str}{cn:List Str}{caps:List Nat}{elt tg iter:Expr}{ifs:List Expr}{ti:AD}{tt:TD}{te:ED}{pos:Pos}{R:XR}
end
end DC
namespace L2
open PySem PySem.Spec PyProof.Rows
section
variable {X:Cx}{pins:List (Addr × Obj)}{σ:St}{H:Hp}{s:Shared}{A:Around}{E:Value->Shared->Prop}
end
end L2
namespace DC
open PySem PySem.Spec PyProof.Rows L2
section
variable {X:Cx}{st:Stmt}{rest:List Stmt}{t u:jS}
end
end DC
namespace L2
open PySem PySem.Spec PyProof.Rows
section
variable {X:Cx}{k:Nat}{f:Addr}{fd:FuncData}{ps:List Str}{sp:Sp}
end
end L2
namespace DC
open PySem PySem.Spec PyProof.Rows L2
section
variable {P:Program}{w:World}{K:PySem.W.Frag}{mg:Str->Option Value}{base:Heap}
end
section
variable {X:Cx}{e:Expr}{es:List Expr}{t:AD}{pos p:Pos}{x:Str}{j k:Nat}{ps:List Str}{sd:cL}{ea:Addr}
end
end DC
namespace L2
open PySem PySem.Spec PyProof.Rows
section
variable {prog:Program}{w:World}{A:Around}{E:Value->Shared->Prop}{s:Shared}
end
section
variable {prog:Program}{w:World}{A:Around}{E:Value->Shared->Prop}{s:Shared}{K:PySem.W.Frag}{x C:Addr}{ox:Obj}{od:Option Obj}{name:Str}{tk:Tok}
end
section
variable {X:Cx}
end
end L2
namespace DC
open PySem PySem.Spec PyProof.Rows L2
section
variable {X:Cx}{o e:Expr}{es:List Expr}{te to:ED}{t:AD}{pos p p2 apos cpos:Pos}
end
end DC
namespace L2
open PySem PySem.Spec PyProof.Rows
open Builtin Builtin.ObjectAttr
section
variable {prog:Program}{w:World}{A:Around}{E:Value->Shared->Prop}{s:Shared}{K:PySem.W.Frag}{x C:Addr}{R:Result->Shared->Prop}{name:Str}{v:Value}{o:Obj}
end
open DC (HL MB)
section
variable {X:Cx}{pins:List (Addr × Obj)}{σ:St}{H:Hp}{s:Shared}{a C d:Addr}{f:Str}{v:V}{u:Value}{Q:Unit->Shared->Prop}{E:Value->Shared->Prop}{A:Around}{fs:List (Str × V)}{p:Array Value->Prop}
end
open DC (HL MB)
section
variable {prog:Program}{w:World}{A:Around}{E:Value->Shared->Prop}{h:Heap}{g:Array GenState}{d:Drawn}{t:Nat}{os:OsState}
variable {nm q:Str}{C N:Addr}{bs bm:List Value}{hdct:Bool}{sn:List Str}{sub:List Value}{ab:Bool}{col:Option Bool}{dd:Option Addr}{k0 k1 k2 k3 k5:Option Value}
end
end L2
namespace DC
open PySem PySem.Spec PyProof.Rows L2
section
variable {X:Cx}{x p f:Str}{j:Nat}{pa pv pos pos':Pos}
end
section
variable {P:Program}{w:World}{K:PySem.W.Frag}{mg:Str->Option Value}{base:Heap}
end
section
variable {X:Cx}{e:Expr}{es:List Expr}{t:AD}{pos p:Pos}{x:Str}{j k:Nat}{C:Addr}{fl:List Str}
end
section
variable {X:Cx}{c e:Expr}{es:List Expr}{body:List Stmt}{uc:TD}{te:ED}{tb:jS}{g:BS}{pos tp:Pos}{k:Nat}
end
section
variable {X:Cx}{a b:Expr}{rest:List Expr}{pos:Pos}{ta tb:TE}
end
section
variable {X:Cx}{a b:Expr}{rest:List Expr}{pos:Pos}{ta tb:ED}
end
end DC
namespace L2
open PySem PySem.Spec PyProof.Rows
section
variable {X:Cx}{pins:List (Addr × Obj)}{σ:St}{H:Hp}{s:Shared}{a C d:Addr}{t:Heap->Prop}
end
section
variable {prog:Program}{w:World}{A:Around}{E:Value->Shared->Prop}{s:Shared}{K:PySem.W.Frag}{env:Env}
end
end L2
namespace DC
open PySem PySem.Spec PyProof.Rows L2
section
variable {X:Cx}{e:Expr}{es:List Expr}{t:AD}{pos cpos p:Pos}{x:Str}{j k:Nat}{C:Addr}{fl:List Str}{xk:SD->XR}
end
end DC
namespace L2
open PySem PySem.Spec PyProof.Rows
def L7 (K:PySem.W.Frag)(l:Addr):It where
 go:=fun i H=>∃ xs x,dg K H l xs/\xs[i]?=some x
 Dq:=fun i H v H'=>∃ p x,H p=none/\v=.ref p/\H'=upd H p (.tup [.int (i:Int),x])/\∀ xs,dg K H l xs->xs[i]?=some x
 stop:=fun i H=>∃ xs,dg K H l xs/\xs[i]?=none
theorem A9 {P:Program}{w:World}{K:PySem.W.Frag}{elts:List Expr}{c:Nat}{tp:Pos}{e it l:Addr}(hei:e≠it)(hle:l≠e)(hli:l≠it) :
  Turn P w K (.Tuple elts c tp) (L7 K l) [e,it] e (fun i h=>(∃ old,IsEnum h e it i old)/\h.IsListIter it l i) where
 mem:=by simp
 obj:=fun i h ⟨⟨old,he⟩,hit⟩ q hq=>by
  simp only [List.mem_cons,List.not_mem_nil,or_false] at hq
  rcases hq with rfl|rfl
  ·exact⟨_,he,fun v z=>by cases z⟩
  ·obtain⟨o,z,_,d⟩:=hit
   exact⟨o,z,fun v y=>by rw [d] at y;cases y⟩
 keep:=fun i h h' ⟨⟨old,he⟩,hit⟩ k=>⟨⟨old,k _ (by simp) _ he⟩,hit.at fun o z=>k it (by simp) o z⟩
 item:=by
  intro X hP hw hK hc i pins s σ H E I hf st hg
  subst hP hw hK
  obtain⟨⟨old,he⟩,hit⟩:=st
  obtain⟨xs,x,hq,hx⟩:=hg
  obtain⟨its,rv,p,hz⟩:=I.list hq
  obtain⟨u,hu,ru⟩:=rv.get hx
  refine wpAny_pyNext_enum_item he hit p.isList (x:=u) (by simpa using hu) hei fun h' ho hit' hT hsz hk=>?_
  refine⟨_,rfl,wpAny_letOwnedTupleGo_enum ho fun h'' he' sb=>?_⟩
  have elt:e<s.heap.objs.size:=Heap.lt_size he
  have ilt:it<s.heap.objs.size:=by obtain⟨o,z,_⟩:=hit;exact Heap.lt_size z
  have up:∀ b o,b≠e->h'.get? b=some o->h''.get? b=some o:=fun b o nb q=>(sb.2 b nb).trans q
  have I':=I.GJ (h':=h'') (t':=s.toks+1) (ch:=[e,it]) (T:=s.heap.objs.size) (u1:=.int (i:Int) s.toks) (u2:=u) (x:=.int (i:Int)) (y:=x)
   (fun b o hb q=>by
    simp only [List.mem_cons,List.not_mem_nil,or_false,not_or] at hb
    exact up b o hb.1 (hk b o hb.1 hb.2 q)) hf (Nat.le_refl _) (up _ _ (Nat.ne_of_gt elt) hT) ⟨_,rfl⟩ ru
  refine⟨.ref s.heap.objs.size,_,I',rfl,⟨_,x,I.fresh,rfl,rfl,fun zs hz'=>by rw [I.vo hz' hq];exact hx⟩,⟨⟨_,he'⟩,hit'.at fun o z=>up it o (Ne.symm hei) z⟩,fun b hb=>?_⟩
  have hfb:=(hf b hb).1
  rw [aG]
  ·exact hfb
  ·intro z
   have lt:b<s.heap.objs.size:=by
    simp only [List.mem_cons,List.not_mem_nil,or_false] at hb
    rcases hb with rfl|rfl
    ·exact elt
    ·exact ilt
   rw [z] at lt
   exact Nat.lt_irrefl _ lt
 done:=by
  intro X hP hw hK hc i pins s σ H E I hf st hg
  subst hP hw hK
  obtain⟨⟨old,he⟩,hit⟩:=st
  obtain⟨xs,hq,hx⟩:=hg
  obtain⟨its,rv,p,hz⟩:=I.list hq
  have hl:=rv.length
  refine wpAny_pyNext_enum_end (I.ok.hd hc) he hit p.isList (by simp only [List.getElem?_toArray];rw [List.getElem?_eq_none_iff] at hx ⊢;omega) fun h' eb=>⟨rfl,I.GH (t':=s.toks) (ch:=[e,it]) (fun b o hb q=>?_) hf⟩
  simp only [List.mem_cons,List.not_mem_nil,or_false,not_or] at hb
  exact eb b o hb.2 q
 self:=fun _ _ _ _ _ st h=>let ⟨⟨_,he⟩,_⟩:=st;wpAny_pyIter_enum he h
section
variable {X:Cx}{e1:Expr}{ta:TA}{p pos tp:Pos}{elts:List Expr}{c:Nat}
def KL (K:PySem.W.Frag)(ta:TA):TI:=fun σ H R=>ta σ H fun vs H1=>∃ l xs,vs=[.ref l]/\dg K H1 l xs/\R (L7 K l) H1
theorem Ff (hg:Gl X "enumerate")(hm:X.mg "enumerate"=none)(ha:PA X [e1] ta)(hs:starEach [e1] X.env=[(false,eval e1 X.env)]:=by rfl) :
  PI X (.Tuple elts c tp) (.Call (.Name "enumerate" p) [e1] [] pos) (KL X.K ta):=by
 intro pins s σ H R I h
 refine Call_ (oP I hg hm boot_enumerate (PyProof.Rows.callWith_type1 (b9 (ha pos pins s σ H _ I h) fun us s1 ⟨vs,H1,I1,r1,q1⟩=>?_) (by rw [hs];rfl) rfl))
 obtain⟨l,xs,e,hq,q⟩:=q1
 subst e
 obtain⟨u,rfl,ru⟩:=r1.one
 cases(show u=Value.ref l from ru)
 obtain⟨its,rv,pl,hz⟩:=I1.list hq
 have llt:l<s1.heap.objs.size:=by obtain⟨o,n,z,_⟩:=pl;exact Heap.lt_size z
 refine call_enumerate_list pl.isList fun h' a1 a2 a3 a4=>wpAny_pyIter_enum a1 ?_
 have I2:Inv X pins σ H1 { s1 with heap:=h' }:=I1.kept (t':=s1.toks) a4
 refine⟨_,[s1.heap.objs.size+1,s1.heap.objs.size],_,_,H1,rfl,I2,A9 (l:=l) (Nat.succ_ne_self _) (Nat.ne_of_lt (Nat.lt_succ_of_lt llt)) (Nat.ne_of_lt llt),⟨⟨_,a1⟩,a2⟩,fun b hb=>?_,q⟩
 have hb':s1.heap.objs.size<=b:=by
  simp only [List.mem_cons,List.not_mem_nil,or_false] at hb
  rcases hb with rfl|rfl
  ·exact Nat.le_add_right _ _
  ·exact Nat.le_refl _
 exact I1.B6 hb' (I1.bp.fresh hb')
end
end L2
namespace DC
open PySem PySem.Spec PyProof.Rows L2
def Ge:Nat->List D->List D
 | _,[]=>[]
 | k,x::xs=>.tup [.int (k:Int),x]::Ge (k+1) xs
theorem mx:∀(k:Nat) (xs:List D),(Ge k xs).length=xs.length
 | _,[]=>rfl
 | k,_::xs=>by rw [Ge,List.length_cons,List.length_cons,mx (k+1) xs]
theorem tJ:∀(k i:Nat) (xs:List D),(Ge k xs)[i]?=(xs[i]?).map fun x=>.tup [.int ((k+i:Nat):Int),x]
 | _,_,[]=>rfl
 | k,0,_::_=>rfl
 | k,i+1,_::xs=>by
  rw [Ge,List.getElem?_cons_succ,List.getElem?_cons_succ,tJ (k+1) i xs,show k+1+i=k+(i+1) by omega]
theorem Em {K:PySem.W.Frag}{H:Hp}{l:Addr}{xs:List V}{ds:List D}(h1:dg K H l xs)(d1:bS K H xs ds):Jh K (L7 K l) H (Ge 0 ds):=by
 have hl:=mx 0 ds
 refine⟨fun i H' s' hi=>?_,fun H' s'=>⟨xs,s'.seq h1,?_⟩,fun i H' x H'' s' hi y=>?_⟩
 ·rw [hl] at hi
  obtain⟨v1,g1,_⟩:=d1.get (List.getElem?_eq_getElem hi)
  exact⟨xs,v1,s'.seq h1,g1⟩
 ·rw [hl,List.getElem?_eq_none_iff,d1.length]
  exact Nat.le_refl _
 ·obtain⟨q,u,hn,rfl,rfl,y1⟩:=y
  obtain⟨a1,g1,v1⟩:=d1.Ef (y1 _ (s'.seq h1))
  have hnH:H q=none:=s'.free hn
  refine⟨aw hn,.tup [.int (i:Int),a1],by rw [tJ,g1,Nat.zero_add];rfl,upd H q (.tup [.int (i:Int),u]),aw hnH,.tup (iY.of aJ) (.cons (.int _) (.cons (v1.same (aw hnH)) .nil)),fun a o z=>?_,fun a o z=>?_⟩
  ·by_cases ha:a=q
   ·rw [ha];exact .inr hn
   ·rw [aG ha] at z;exact .inl z
  ·by_cases ha:a=q
   ·rw [ha] at z ⊢;rw [aJ] at z ⊢;exact z
   ·rw [aG ha] at z ⊢;exact s' _ _ z
section
variable {X:Cx}{e1:Expr}{ta:AD}{p pos tp:Pos}{elts:List Expr}{c:Nat}
def Jw (ta:AD):AD:=fun δ Q=>ta δ fun ds=>∃ xs,ds=[.lst xs]/\Q (Ge 0 xs)
theorem xM (hg:Gl X "enumerate")(hm:X.mg "enumerate"=none)(ha:pR X [e1] ta)(hs:starEach [e1] X.env=[(false,eval e1 X.env)]:=by rfl) :
  PId X (.Tuple elts c tp) (.Call (.Name "enumerate" p) [e1] [] pos) (Jw ta):=by
 refine⟨PI.imp (Ff hg hm ha.pa hs) fun σ H R ⟨δ,r,h⟩=>⟨δ,r,ha.mono _ _ _ (fun ds ⟨xs,ed,q⟩ vs H1 sm dvs=>?_) h⟩,fun δ P P' g h=>ha.mono _ _ _ (fun ds ⟨xs,ed,q⟩=>⟨xs,ed,g _ q⟩) h⟩
 subst ed
 cases dvs with
 | cons a r =>
  cases r
  cases a with
  | lst g1 v1=>exact⟨_,_,rfl,g1,q _ H1 sm (Em g1 v1)⟩
end
section
variable {X:Cx}{scope:Scope}{cl:List (Str × Addr)}{x y:Str}{cn:List Str}{caps:List Nat}{elt iter:Expr}{ifs:List Expr}{ti:AD}{tt:TD}{te:ED}{pos px py tp:Pos}{c:Nat}{R:XR}
end
def xY:D->Option Key
 | .int i=>some (.inl i)
 | .str x=>some (.inr x)
 | _=>none
def eP (kvs:List (Key × D))(k:Key):Option D:=(kvs.find? fun kv=>decide (kv.1=k)).map (·.2)
def HG (td ty:ED):ED:=fun δ Q=>td δ fun d=>ty δ fun y=>∃ kvs k r,d=.dK kvs/\xY y=some k/\eP kvs k=some r/\Q r
theorem di.look {K:PySem.W.Frag}{H:Hp}{k:Key}{r:D}:∀{vs:List (Key × V)} {ds:List (Key × D)},di K H vs ds->eP ds k=some r->∃ v,nz vs k=some v/\Dv K H v r
 | _,_,.nil,e=>by cases e
 | _,_,.cons (k:=k') (x:=x) (d:=d) (xs:=xs) (ds:=ds) h t,e=>by
  unfold eP at e
  unfold nz
  rw [List.find?_cons] at e ⊢
  by_cases q:k'=k
  ·simp only [q,decide_true] at e ⊢
   cases e
   exact⟨x,rfl,h⟩
  ·simp only [q,decide_false] at e ⊢
   exact di.look t e
section
variable {X:Cx}{o i:Expr}{pos:Pos}{td ty:ED}
theorem cH (hu:X.A.units+64<cLine)(ho:PD X o td)(hi:PD X i ty)(hs:D0 i):PD X (.Subscript o i pos) (HG td ty):=by
 refine⟨(zQ (by omega) ho.pe hi.pe hs).imp fun σ H Q ⟨δ,r,h⟩=>⟨δ,r,ho.mono _ _ _ (fun d hd v H1 s1 dv=>⟨δ,r.same s1,hi.mono _ _ _ (fun y hy u H2 s2 du=>?_) hd⟩) h⟩,fun δ P P' g h=>ho.mono _ _ _ (fun d h'=>hi.mono _ _ _ (fun e ⟨kvs,k,z,h1,h2,h3,h4⟩=>⟨kvs,k,z,h1,h2,h3,g _ h4⟩) h') h⟩
 obtain⟨kvs,k,z,e1,e2,e3,q⟩:=hy
 subst e1
 cases dv with
 | dK g1 g2 =>
  obtain⟨v,ev,dv'⟩:=(g2.same s2).look e3
  refine⟨_,v,rfl,.inl ⟨_,k,lN s2 g1,?_,ev.symm⟩,q v H2 (s1.trans s2) dv'⟩
  cases du<;>cases e2<;>rfl
end
section
variable {X:Cx}{rest:List Stmt}{st:Stmt}{t:eY}
def zE (t:eY):eY:=fun E δ μ=>t E (bZ μ δ) []
theorem Eg (m:uz t){D:Ends}{σ:L2.St}{H:Hp}(h:oM X.K (zE t) D σ H):oM X.K t D σ H:=by
 obtain⟨δ,μ,L,r,g,h⟩:=h
 exact⟨bZ μ δ,[],[],by rw [cF];exact g.bZ r,cy.nil,m _ _ _ _ (gP (by rw [cF];exact ax)) h⟩
theorem v5 (h:rA X rest t):rA X rest (zE t):=⟨mG.imp h.ps fun D σ H q=>Eg h.mono q,fun E E' δ μ l q=>h.mono _ _ _ _ l q⟩
end
section
variable {K:PySem.W.Frag}{H:Hp}{μ:Mu}{L:List Addr}{a:Addr}{vs ys:List (Key × V)}{ds:List (Key × D)}
theorem cy.putK (g:cy K H μ L)(ha:a∈L)(hv:H a=some (.dK vs))(d:di K (aN H L) ys ds):cy K (upd H a (.dK ys)) (fZ a (.dK ds) μ) L:=by
 have e:aN (upd H a (.dK ys)) L=aN H L:=cu ha
 refine⟨fun p hp=>?_,by rw [sG];exact g.Ce,fun b hb=>?_,fun b hb=>?_⟩
 ·obtain⟨q,hq,rfl⟩:=List.mem_map.mp hp
  by_cases hqa:q.1=a
  ·rw [if_pos hqa]
   exact⟨ha,ys,aJ,by rw [e];exact d⟩
  ·rw [if_neg hqa]
   obtain⟨h1,h2⟩:=g.at_ q hq
   refine⟨h1,?_⟩
   obtain⟨b,m⟩:=q
   cases m with
   | lst ds=>obtain⟨ws,h,d⟩:=h2;exact⟨ws,by rw [aG hqa];exact h,by rw [e];exact d⟩
   | ins C gs=>obtain⟨dx,fs,h,h2,h3,d⟩:=h2;exact⟨dx,fs,by rw [aG hqa];exact h,by rw [aG (fun z=>by rw [z,hv] at h2;cases h2)];exact h2,h3,by rw [e];exact d⟩
   | dK kvs=>obtain⟨ws,h,d⟩:=h2;exact⟨ws,by rw [aG hqa];exact h,by rw [e];exact d⟩
 ·by_cases hba:b=a
  ·rw [hba];exact .dK ys aJ
  ·have w:=g.dM b hb
   cases w with
   | lst xs h=>exact .lst xs (by rw [aG hba];exact h)
   | dK xs h=>exact .dK xs (by rw [aG hba];exact h)
   | ins C dx fs h hd=>exact .ins C dx fs (by rw [aG hba];exact h) hd
   | own C c fs h hc hi=>exact .own C c fs (by rw [aG hba];exact h) hc (by rw [aG (fun z=>by rw [z,hv] at hi;cases hi)];exact hi)
 ·rcases g.EN b hb with⟨m,h⟩|⟨c,h⟩
  ·by_cases hba:b=a
   ·exact .inl ⟨.dK ds,List.mem_map.mpr ⟨_,h,by rw [if_pos hba,hba]⟩⟩
   ·exact .inl ⟨m,List.mem_map.mpr ⟨_,h,if_neg hba⟩⟩
  ·exact .inr ⟨c,by rw [aG (fun z=>by rw [z,hv] at h;cases h)];exact h⟩
theorem cy.Mj (hn:H a=none)(d:di K H ys ds):cy K (upd H a (.dK ys)) [(a,.dK ds)] [a]/\aN (upd H a (.dK ys)) [a]=H:=by
 have e:aN (upd H a (.dK ys)) [a]=H:=by
  funext b
  by_cases hb:b=a
  ·rw [hb,cK List.mem_cons_self,hn]
  ·rw [bC (fun z=>hb (List.mem_singleton.mp z)),aG hb]
 refine⟨⟨fun p hp=>?_,?_,fun b hb=>?_,fun b hb=>?_⟩,e⟩
 ·rw [List.mem_singleton.mp hp]
  exact⟨List.mem_cons_self,ys,aJ,by rw [e];exact d⟩
 ·rw [List.map_cons,List.map_nil];exact List.nodup_cons.mpr ⟨(fun h=>nomatch h),List.nodup_nil⟩
 ·rw [List.mem_singleton.mp hb];exact .dK ys aJ
 ·rw [List.mem_singleton.mp hb];exact .inl ⟨_,List.mem_cons_self⟩
end
def gY (kvs:List (Key × D))(k:Key)(v:D):List (Key × D) :=
 if(kvs.any fun kv=>decide (kv.1=k))=true then kvs.map (fun kv=>if kv.1=k then(kv.1,v) else kv) else kvs++[(k,v)]
section
variable {K:PySem.W.Frag}{H:Hp}
theorem di.length:∀{vs:List (Key × V)} {ds:List (Key × D)},di K H vs ds->vs.length=ds.length
 | _,_,.nil=>rfl
 | _,_,.cons _ h=>congrArg (·+1) (di.length h)
theorem di.any {k:Key}:∀{vs:List (Key × V)} {ds:List (Key × D)},di K H vs ds->(vs.any fun kv=>decide (kv.1=k))=ds.any fun kv=>decide (kv.1=k)
 | _,_,.nil=>rfl
 | _,_,.cons _ h=>by rw [List.any_cons,List.any_cons,di.any h]
theorem di.snoc {k:Key}{v:V}{d:D}(hv:Dv K H v d):∀{vs:List (Key × V)} {ds:List (Key × D)},di K H vs ds->di K H (vs++[(k,v)]) (ds++[(k,d)])
 | _,_,.nil=>.cons hv .nil
 | _,_,.cons h r=>.cons h (di.snoc hv r)
theorem di.xh {k:Key}{v:V}{d:D}(hv:Dv K H v d):∀{vs:List (Key × V)} {ds:List (Key × D)},di K H vs ds->di K H (vs.map fun kv=>if kv.1=k then(kv.1,v) else kv) (ds.map fun kv=>if kv.1=k then(kv.1,d) else kv)
 | _,_,.nil=>.nil
 | _,_,.cons (k:=j) (x:=x) (d:=y) h r=>by
  rw [List.map_cons,List.map_cons]
  by_cases e:j=k
  ·rw [if_pos (show((j,x):Key × V).1=k from e),if_pos (show((j,y):Key × D).1=k from e)]
   exact .cons hv (di.xh hv r)
  ·rw [if_neg (show¬((j,x):Key × V).1=k from e),if_neg (show¬((j,y):Key × D).1=k from e)]
   exact .cons h (di.xh hv r)
theorem di.put {k:Key}{v:V}{d:D}(hv:Dv K H v d){vs:List (Key × V)}{ds:List (Key × D)}(h:di K H vs ds):di K H (putK vs k v) (gY ds k d):=by
 unfold putK gY
 rw [h.any]
 split
 ·exact h.xh hv
 ·exact h.snoc hv
theorem tZ {y:V}{d:D}{k:Key}(h:Dv K H y d)(e:xY d=some k):y=kV k:=by cases h<;>cases e<;>rfl
end
section
variable {X:Cx}{e ke:Expr}{te tk:ED}{i:Nat}{x:Str}{p pos pos':Pos}
def Hl:EF:=fun _ Q=>∀ a,Q (.adr a) [(a,.dK [])]
theorem gQ:PF X (.Dict [] [] pos) Hl:=by
 refine⟨Ct.imp fun σ H Q ⟨δ,r,q⟩ a hn=>?_,fun δ P P' g q a=>g _ _ (q a)⟩
 obtain⟨g2,e2⟩:=cy.Mj (K:=X.K) (ds:=[]) hn .nil
 exact q a (.ref a) _ [a] (by rw [e2];exact aK.refl _) g2 (.adr a)
def KZ (i:Nat)(tk te:ED):eY:=fun E δ μ=>te δ fun d=>∃ a kvs,δ[i]?=some (some (.adr a))/\μ.lookup a=some (.dK kvs)/\kvs.length<sizeLine/\tk δ fun y=>∃ k,xY y=some k/\E.nx δ (fZ a (.dK (gY kvs k d)) μ)
theorem fX (hu:X.A.units+64<cLine)(hi:X.N[i]?=some x)(hv:ur X.env.scope x)(hk:PD X ke tk)(he:PD X e te)(hd:(x == ("__debug__":Str))=false:=by decide)(hcd:(x == ("__classdict__":Str))=false:=by decide)
  (hs:swapsWith e (some (.Subscript (.Name x p) ke pos')) pos.line X.env=pure false:=by rfl):p6 X (.Assign [.Subscript (.Name x p) ke pos'] e pos) (KZ i tk te):=by
 refine⟨PS.imp (uO (by omega) (dW hi hv hd hcd) (gA hk.pe) (gA he.pe) hs) fun D σ H ⟨δ,μ,L,r,g,q⟩=>⟨L,g.dM,δ,r,he.mono _ _ _ (fun d ⟨a,kvs,k1,k2,k3,q⟩ v H1 s1 dv z=>?_) q⟩,
  fun E E' δ μ l q=>he.mono _ _ _ (fun d ⟨a,kvs,k1,k2,k3,q⟩=>⟨a,kvs,k1,k2,k3,hk.mono _ _ _ (fun y ⟨k,e1,q⟩=>⟨k,e1,l.nx _ _ q⟩) q⟩) q⟩
 have e1:aN (aa H1 H L) L=H1:=bK z
 have g1:cy X.K (aa H1 H L) μ L:=g.show z s1
 have r1:bf X.K (aN (aa H1 H L) L) σ δ:=by rw [e1];exact r.same s1
 obtain⟨w,hv1,dvw⟩:=r.get i _ k1
 cases dvw
 refine⟨_,hv1,L,g1.dM,δ,r1,hk.mono _ _ _ (fun y ⟨k,ek,q⟩ u H2 s2 du z2=>?_) q⟩
 have e2:aN (aa H2 (aa H1 H L) L) L=H2:=bK z2
 have g2:cy X.K (aa H2 (aa H1 H L) L) μ L:=g1.show z2 s2
 obtain⟨haL,ws,hH,dvk⟩:=g2.at_ _ (mem_of_lookup k2)
 rw [e1] at s2
 have dk2:di X.K H2 ws kvs:=by rw [e2] at dvk;exact dvk
 rw [tZ du ek]
 refine⟨a,_,rfl,wu.k hH (by rw [dk2.length];exact k3),?_⟩
 have e3:aN (upd (aa H2 (aa H1 H L) L) a (.dK (L2.putK ws k v))) L=H2:=by rw [cu haL,e2]
 exact q σ _ L (by rw [e3];exact s1.trans s2) (by rw [e3];exact r.same (s1.trans s2)) (g2.putK haL hH (by rw [e2];exact dk2.put (dv.same s2)))
end
section
variable {X:Cx}{scope:Scope}{cl:List (Str × Addr)}{x:Str}{cn:List Str}{caps:List Nat}{elt tg iter:Expr}{ifs:List Expr}{ti:AD}{tt:TD}{te:ED}{pos:Pos}
end
section
variable {X:Cx}{e ke:Expr}{te tk:ED}{i:Nat}{x:Str}{p pos pos':Pos}
theorem bS.setAt {K:PySem.W.Frag}{H:Hp}{v:V}{d:D}(hv:Dv K H v d):∀{vs:List V} {ds:List D} (j:Nat),bS K H vs ds->bS K H (vs.set j v) (ds.set j d)
 | _,_,_,.nil=>.nil
 | _,_,0,.cons _ r=>.cons hv r
 | _,_,j+1,.cons h r=>.cons h (bS.setAt hv j r)
end
def uZ:cL:=fun ds Q=>∃ xs,(ds=[.lst xs]\/ds=[.tup xs])/\Q (.tup xs)
theorem FC:cQ uZ:=fun ds P P' g ⟨xs,e,q⟩=>⟨xs,e,g _ q⟩
theorem xI {K:PySem.W.Frag}:rK K (fun xs H Q=>∃ p ys,xs=[.ref p]/\((dg K H p ys/\∀ l,H l=none->Q (.ref l) (upd H l (.tup ys)))\/(iY K H p ys/\Q (.ref p) H))) uZ:=by
 intro H vs ds Q dvs ⟨xs,e,q⟩
 rcases e with e|e
 ·subst e
  cases dvs with
  | cons dv r =>
   cases r
   cases dv with
   | lst h1 h2=>exact⟨_,_,rfl,.inl ⟨h1,fun l hl=>q _ _ (aw hl) (.tup (iY.of aJ) (h2.same (aw hl)))⟩⟩
 ·subst e
  cases dvs with
  | cons dv r =>
   cases r
   cases dv with
   | tup h1 h2=>exact⟨_,_,rfl,.inr ⟨h1,q _ H (aK.refl _) (.tup h1 h2)⟩⟩
theorem boot_dict:bootBuiltins "dict"=some (.type "dict"):=by decide +kernel
section
variable {X:Cx}{o e:Expr}{es:List Expr}{t:AD}{to te:ED}{pos p p1 p2 tp apos cpos:Pos}
theorem ic (hg:Gl X "tuple")(hm:X.mg "tuple"=none)(ha:pR X (e::es) t)(h1:starEach (e::es) X.env=(false,eval e X.env)::starEach es X.env:=by rfl)(h2:(backTo pos (starEach es X.env)).any (·.1)=false:=by rfl):PD X (.Call (.Name "tuple" p) (e::es) [] pos) (vB uZ t):=Bj (lL rE hg hm boot_tuple ha.pa (he:=h1) (hpl:=h2)) ha.mono xI FC
theorem sN:∀{ws:List Str} {us:List Value},Vals (ws.map V.str) us->∀ y∈us,∃ z t,y=Value.str z t
 | [],_,.nil,y,h=>nomatch h
 | z::ws,_,.cons h r,y,hy=>by
  obtain⟨t,rfl⟩:=h
  rcases List.mem_cons.mp hy with rfl|hy
  ·exact⟨z,t,rfl⟩
  ·exact sN r y hy
end
section
variable {X:Cx}{a b:Expr}{ta tb:ED}{pos:Pos}{k:Nat}
end
end DC
namespace L2
open PySem PySem.Spec PyProof.Rows
open AutoSeq1 (wpAny_loadPart')
section
variable {prog:Program}{w:World}{A:Around}{E:Value->Shared->Prop}{s:Shared}
end
section
variable {X:Cx}{e1:Expr}{ta:TA}{p pos tp:Pos}{elts:List Expr}{c:Nat}
end
end L2
namespace DC
open PySem PySem.Spec PyProof.Rows L2
section
variable {X:Cx}{e1:Expr}{ta:AD}{p pos tp:Pos}{elts:List Expr}{c:Nat}
end
section
variable {P:Program}{w:World}{K:PySem.W.Frag}{mg:Str->Option Value}{base:Heap}
end
section
variable {X:Cx}{scope:Scope}{cl:List (Str × Addr)}{x:Str}{cn:List Str}{caps:List Nat}{elt tg iter:Expr}{ifs:List Expr}{ti:AD}{tt:TD}{te:ED}{pos:Pos}
end
section
variable {X:Cx}{e:Expr}{te:ED}{p p2 pos:Pos}
theorem CC (hg:Gl X "isinstance")(hm:X.mg "isinstance"=none)(hg2:Gl X "dict")(hm2:X.mg "dict"=none)(he:PD X e te)(hs:starEach [e,.Name "dict" p2] X.env=(false,eval e X.env)::starEach [.Name "dict" p2] X.env:=by rfl):PD X (.Call (.Name "isinstance" p) [e,.Name "dict" p2] [] pos) (sQ "dict" te):=(qB he hg hm hg2 hm2 boot_dict (by decide) (by decide) hs).vi he.mono (by decide)
end
section
variable {X:Cx}{a b:Expr}{pos:Pos}{ta tb:ED}
end
section
variable {X:Cx}{o e:Expr}{es:List Expr}{t:AD}{to te:ED}{pos p p1 p2 tp apos cpos:Pos}{i:Nat}{x:Str}
end
end DC
namespace L2
open PySem PySem.Spec PyProof.Rows
section
variable {X:Cx}
def Mt (z:Str)(k:Nat):Str:=⟨(List.replicate k z.cps).foldl (·++·) #[]⟩
def CY (z:Str)(k:Int):Str:=if k=1 then z else Mt z k.toNat
def K6:R2:=fun x y H Q=>∃ z k,x=.str z/\y=.int k/\0<k/\k<1000/\0<z.length/\z.length<1000/\Q (.str (CY z k)) H
theorem FU:gx X (binaryOp .Mult) K6:=by
 intro pins s σ H x y v u Q I rx ry h
 obtain⟨z,k,rfl,rfl,h0,h1,h2,h3,q⟩:=h
 obtain⟨t,rfl⟩:=rx
 obtain⟨t',rfl⟩:=ry
 have hp:z.length*k.toNat<=1000000:=Nat.le_trans (Nat.mul_le_mul (Nat.le_of_lt h3) (show k.toNat<=1000 by omega)) (by decide)
 have hl:Builtin.Str.tooLong (z.length*k.toNat)=false:=by
  unfold Builtin.Str.tooLong
  exact decide_eq_false (Nat.not_lt.mpr (Nat.le_trans hp (by decide)))
 refine P.mul_str (by rw [decide_eq_false (by omega),decide_eq_false (by omega)];rfl) (fun _ _=>?_) (fun _ _=>hl) ?_
 ·have:(1000:Int)<=(2 ^ 63 - 1) / k:=(Int.le_ediv_iff_mul_le h0).mpr (Int.le_trans (show(1000:Int)*k<=1000*1000 from Int.mul_le_mul_of_nonneg_left (by omega) (by decide)) (by decide))
  omega
 ·rw [if_neg (by omega)]
  unfold CY at q
  by_cases e:k=1
  ·rw [if_pos (by rw [e];rfl)]
   rw [if_pos e] at q
   exact⟨.str z,H,I,⟨_,rfl⟩,q⟩
  ·rw [if_neg (by simp only [Bool.or_eq_true,beq_iff_eq];omega)]
   rw [if_neg e] at q
   refine⟨?_,.str _,H,I.tok _,⟨_,rfl⟩,q⟩
   exact fits_reps hl
end
end L2
namespace DC
open PySem PySem.Spec PyProof.Rows L2
section
variable {X:Cx}{a b e:Expr}{es:List Expr}{ta tb te:ED}{t:AD}{pos p p2:Pos}
def KA:F2:=fun d e Q=>∃ z k,d=.str z/\e=.int k/\0<k/\k<1000/\0<z.length/\z.length<1000/\Q (.str (CY z k))
def Ld:ED->ED->ED:=qx KA
theorem Hg (ha:PD X a ta)(hb:PD X b tb):PD X (.BinOp a .Mult b pos) (Ld ta tb):=z7 FU (fun H x y d e Q hx hy ⟨z,k,h1,h2,a1,a2,a3,a4,q⟩=>by
 subst h1;subst h2;cases hx;cases hy
 exact⟨z,k,rfl,rfl,a1,a2,a3,a4,q _ H (aK.refl _) (.str _)⟩) (fun d e P P' f ⟨z,k,h1,h2,a1,a2,a3,a4,q⟩=>⟨z,k,h1,h2,a1,a2,a3,a4,f _ q⟩) ha hb
end
end DC
namespace L2
open PySem PySem.Spec PyProof.Rows
section
variable {X:Cx}
theorem ot:∀{vs:List Value} {ss:List Str},Vals (ss.map V.str) vs->StrsAre vs ss
 | _,[],.nil=>.nil
 | _,_::_,.cons ⟨t,e⟩ h=>by subst e;exact .cons _ t (ot h)
end
end L2
namespace DC
open PySem PySem.Spec PyProof.Rows L2
theorem uJ {K:PySem.W.Frag}{H:Hp}:∀{vs:List V} {ss:List Str},bS K H vs (ss.map D.str)->vs=ss.map V.str
 | _,[],.nil=>rfl
 | _,x::ss,.cons (.str _) h=>by rw [List.map_cons,uJ h]
section
variable {X:Cx}{e:Expr}{es:List Expr}{t:AD}{pos p:Pos}
end
section
variable {X:Cx}{i:Nat}{x:Str}{p pos apos cpos:Pos}
theorem AY:Jr X "dict.clear" (fun x vs H Q=>∃ l kvs,x=.ref l/\vs=[]/\H l=some (.dK kvs)/\Q .aj (upd H l (.dK []))):=by
 intro pins s σ H x vs v us Q I rx rv h
 obtain⟨l,kvs,rfl,rfl,hH,q⟩:=h
 cases rx
 have hus:=rv.zero
 subst hus
 exact EO I hH fun s' I'=>⟨.aj,_,I',rfl,q⟩
def E3 (i:Nat):eY:=fun E δ μ=>∃ a kvs,δ[i]?=some (some (.adr a))/\μ.lookup a=some (.dK kvs)/\E.nx δ (fZ a (.dK []) μ)
theorem AV (hi:X.N[i]?=some x)(hv:ur X.env.scope x)(hd:(x == ("__debug__":Str))=false:=by decide)(hcd:(x == ("__classdict__":Str))=false:=by decide)(hline:(apos.endLine == cpos.line)=true:=by rfl)
  (hs:swapsWith (.Call (.Attribute (.Name x p) "clear" apos) [] [] cpos) none pos.line X.env=pure false:=by rfl)
  (hb:attributeBase (.Name x p) "clear" X.env (eval (.Name x p) X.env)=eval (.Name x p) X.env:=by rfl) :
  p6 X (.Expr (.Call (.Attribute (.Name x p) "clear" apos) [] [] cpos) pos) (E3 i):=by
 refine⟨PS.imp (iu (Iv PySem.F.plainAttrs_dict PySem.F.slot_dict_clear PySem.F.type_dict_clear AY (dW hi hv hd hcd) hb hline) hs) fun D σ H ⟨δ,μ,L,r,g,q⟩=>?_,
  fun E E' δ μ l ⟨a,ds,k1,k2,q⟩=>⟨a,ds,k1,k2,l.nx _ _ q⟩⟩
 obtain⟨a,kvs,k1,k2,q⟩:=q
 obtain⟨v,hv1,dv⟩:=r.get i _ k1
 cases dv
 obtain⟨haL,vs,hH,dvs⟩:=g.at_ _ (mem_of_lookup k2)
 refine⟨_,hv1,.inr (.inr (.inl ⟨rfl,.inl ⟨_,hH⟩⟩)),a,vs,rfl,rfl,hH,?_⟩
 have e2:aN (upd H a (.dK [])) L=aN H L:=cu haL
 exact q σ _ L (by rw [e2];exact aK.refl _) (by rw [e2];exact r) (g.putK haL hH .nil)
end
theorem JK {H:Hp}{L:List Addr}{a:Addr}{xs:List V}(hL:∀ b∈L,dG H L b)(h:Rd H a (.tup xs)):Rd (aN H L) a (.tup xs):=by
 have nb:a∉L:=fun hb=>by
  rcases h with h|⟨o,h⟩
  ·exact(hL a hb).pG.1 _ h
  ·exact(hL a hb).pG.2.1 _ _ h
 unfold Rd
 rw [bC nb]
 exact h
section
variable {X:Cx}{e:Expr}{te:ED}{i:Nat}{x:Str}{p pos apos cpos:Pos}
end
section
variable {uc:TD}{t u r:eY}{te:ED}{E:gN}{δ δ':SD}{μ:Mu}
theorem yx (e:bZ μ δ=δ')(h:uc δ' fun b=>if b=true then t { E with nx:=r E } δ μ else u { E with nx:=r E } δ μ):qW (II uc t u) r E δ μ:=by
 unfold qW II
 rw [e]
 exact h
theorem k_ (e:bZ μ δ=δ')(h:t E δ' []):zE t E δ μ:=by
 unfold zE
 rw [e]
 exact h
theorem F3 (I:SD->Mu->Prop)(hI:∀ δ μ,I δ μ->u E δ μ)(hA:∀ N:SD->Mu->Prop,(∀ δ μ,I δ μ->N δ μ)->t { E with nx:=N } δ μ):qW t u E δ μ:=hA (u E) hI
theorem b7 {a:Addr}{m:MD}:List.lookup a [(a,m)]=some m:=by simp [List.lookup]
theorem kN {a:Addr}{m m':MD}:fZ a m' [(a,m)]=[(a,m')]:=by simp [fZ]
theorem gw {a:Addr}{m:MD}:ay [(a,m)] (.adr a)=m.d:=by simp [ay,List.lookup]
end
section
variable {X:Cx}{body:List Stmt}{t:eY}{h₀:ExceptHandler}{hs:List ExceptHandler}{pos:Pos}
end
section
variable {P:Program}{w:World}{K:PySem.W.Frag}{mg:Str->Option Value}{base:Heap}
theorem cN.sub {cx:yW}{f:Addr}{fd:FuncData}{ps:List Str}{k:Nat}{sp sp':Sp}(F:cN P w K mg base cx k f fd ps sp)(h:∀ vs H Q E,sp' vs H Q E->sp vs H Q E):cN P w K mg base cx k f fd ps sp' :=
 ⟨fun vs H Q E q=>F.len vs H Q E (h _ _ _ _ q),fun A outer s H args us vs Q E hr e0 hb r q=>F.run A outer s H args us vs Q E hr e0 hb r (h _ _ _ _ q)⟩
theorem Df.pU {k:Nat}{x:Str}{st:Stmt}{ps N:List Str}{sd:pZ}{t:eY}(d:Df K mg x st ps)(S:aE N ps (aB st))(ms:iX sd)(len:∀ ds Q,sd ds Q->ds.length=ps.length)
  (hb:∀(f:Addr) (cdv:Value) (A:Around) (outer:List Env) (s:Shared) (H:Hp) (E:XK),cD k (A.deeper (envOfC x (aB st) s.heap.objs.size f cdv))->rA (Bx P w K mg base N x st f cdv A outer s H E) (bE st) t)
  (hr:∀ ds Q,sd ds Q->t { nx:=fun _ μ=>Q .aj μ,rt:=Q } (cb N ds) []):fq P w K mg base (k+1) x ps sd:=by
 obtain⟨f,fd,F,m,b⟩:=d.ex
 exact⟨⟨f,fd,Nc F S len (hb f) hr,m,F.kp,b⟩,ms⟩
theorem fq.cp {k:Nat}{x:Str}{ps:List Str}{sd:pZ}{se:cL}(c:fq P w K mg base k x ps sd)(ms:cQ se)(h:∀ ds Q,se ds Q->sd ds fun d μ=>Q (ay μ d)):az P w K mg base k x ps se:=by
 obtain⟨f,fd,F,m,kp,b⟩:=c.ex
 exact⟨⟨f,fd,cN.sub F (yN c.ms h),m,kp,b⟩,ms⟩
theorem fq.up {j k:Nat}{x:Str}{ps:List Str}{sd:pZ}(c:fq P w K mg base j x ps sd)(h:j<=k):fq P w K mg base k x ps sd:=⟨let ⟨f,fd,F,r⟩:=c.ex;⟨f,fd,F.mono h,r⟩,c.ms⟩
end
theorem di.has {K:PySem.W.Frag}{H:Hp}{k:Key}:∀{vs:List (Key × V)} {ds:List (Key × D)},di K H vs ds->(nz vs k).isSome=(eP ds k).isSome
 | _,_,.nil=>rfl
 | _,_,.cons (k:=k') (x:=x) (d:=d) (xs:=xs) (ds:=ds) h t=>by
  have ih:=di.has (k:=k) t
  unfold eP nz at ih ⊢
  rw [List.find?_cons,List.find?_cons]
  by_cases q:k'=k
  ·simp only [q,decide_true]
   rfl
  ·simp only [q,decide_false]
   exact ih
section
variable {X:Cx}{o i:Expr}{pos:Pos}{td ty:ED}
def GL (neg:Bool)(ty td:ED):ED:=fun δ Q=>ty δ fun y=>td δ fun d=>∃ kvs k,d=.dK kvs/\xY y=some k/\Q (.bl (if neg=true then !(eP kvs k).isSome else(eP kvs k).isSome))
theorem Gu {neg:Bool}(hi:bV ty)(ho:bV td):bV (GL neg ty td):=fun δ P P' g h=>hi _ _ _ (fun y h'=>ho _ _ _ (fun d ⟨kvs,k,e1,e2,q⟩=>⟨kvs,k,e1,e2,g _ q⟩) h') h
theorem Br {neg:Bool}(hi:PD X i ty)(ho:PD X o td){σ:L2.St}{H:Hp}{Q:VK}(h:oE X.K (GL neg ty td) σ H Q):(if neg=true then zk (oE X.K ty) (oE X.K td) else LQ (oE X.K ty) (oE X.K td)) σ H Q:=by
 obtain⟨δ,r,h⟩:=h
 have key:∀(y:D) (u:V) (d:D) (v:V) (H1 H2:Hp),aK H H1->aK H1 H2->Dv X.K H1 u y->Dv X.K H2 v d->(∃ kvs k,d=.dK kvs/\xY y=some k/\kD X.K H Q (.bl (if neg=true then !(eP kvs k).isSome else(eP kvs k).isSome))) ->
   ∃ a oo,v=.ref a/\ux H2 a u oo/\Q (.bl (if neg=true then !oo.isSome else oo.isSome)) H2:=fun y u d v H1 H2 s1 s2 du dv ⟨kvs,k,e1,e2,q⟩=>by
  subst e1
  cases dv with
  | dK g1 g2 =>
   refine⟨_,_,rfl,.inl ⟨_,k,g1,tZ du e2,rfl⟩,?_⟩
   rw [g2.has]
   exact q _ H2 (s1.trans s2) (.bl _)
 cases neg with
 | true =>
  rw [if_pos rfl]
  exact⟨δ,r,hi.mono _ _ _ (fun y hy u H1 s1 du=>⟨δ,r.same s1,ho.mono _ _ _ (fun d hd v H2 s2 dv=>key y u d v H1 H2 s1 s2 du dv hd) hy⟩) h⟩
 | false =>
  rw [if_neg Bool.false_ne_true]
  exact⟨δ,r,hi.mono _ _ _ (fun y hy u H1 s1 du=>⟨δ,r.same s1,ho.mono _ _ _ (fun d hd v H2 s2 dv=>key y u d v H1 H2 s1 s2 du dv hd) hy⟩) h⟩
theorem J4 (hu:X.A.units+64<cLine)(hi:PD X i ty)(ho:PD X o td)(hm:behindInMarks .In o=false):PD X (.Compare i [.In] [o] pos) (GL false ty td) :=
 ⟨(Cs (Ir (by omega) hi.pe ho.pe) hm).imp fun σ H Q h=>Br (neg:=false) hi ho h,Gu hi.mono ho.mono⟩
theorem Bn (hu:X.A.units+64<cLine)(hi:PD X i ty)(ho:PD X o td)(hm:behindInMarks .NotIn o=false):PD X (.Compare i [.NotIn] [o] pos) (GL true ty td) :=
 ⟨(Cs (Al (by omega) hi.pe ho.pe) hm).imp fun σ H Q h=>Br (neg:=true) hi ho h,Gu hi.mono ho.mono⟩
end
section
variable {X:Cx}{e:Expr}{tf:EF}{i:Nat}{x:Str}{p pos apos cpos:Pos}
def E4 (i:Nat)(tf:EF):eY:=fun E δ μ=>∃ a ds,δ[i]?=some (some (.adr a))/\μ.lookup a=some (.lst ds)/\tf δ fun d μ'=>∃ b es,d=.adr b/\μ'.lookup b=some (.lst es)/\ds.length+es.length<=sizeLine/\E.nx δ (fZ a (.lst (ds++es)) μ)
theorem iE (hi:X.N[i]?=some x)(hv:ur X.env.scope x)(he:PF X e tf)(hd:(x == ("__debug__":Str))=false:=by decide)(hcd:(x == ("__classdict__":Str))=false:=by decide)
  (hst:starEach [e] X.env=(false,eval e X.env)::starEach [] X.env:=by rfl)(hline:(apos.endLine == cpos.line)=true:=by rfl)
  (hfew:((backTo cpos (starEach [e] X.env)).all (fun x=>!x.1)&&(backToKw cpos (keywordEach [] X.env)).all (fun x=>x.1.isSome)&&decide ([e].length+([]:List Keyword).length+(if([]:List Keyword).isEmpty then 0 else 1)<30))=true:=by rfl)
  (hs:swapsWith (.Call (.Attribute (.Name x p) "extend" apos) [e] [] cpos) none pos.line X.env=pure false:=by rfl)
  (hb:attributeBase (.Name x p) "extend" X.env (eval (.Name x p) X.env)=eval (.Name x p) X.env:=by rfl) :
  p6 X (.Expr (.Call (.Attribute (.Name x p) "extend" apos) [e] [] cpos) pos) (E4 i tf):=by
 refine⟨PS.imp (iu (r8 PySem.F.plainAttrs_list PySem.F.slot_list_extend PySem.F.type_list_extend AZ (dW hi hv hd hcd) (d8 (gA he.pe) ir hst) hb hfew hline hst) hs) fun D σ H ⟨δ,μ,L,r,g,q⟩=>?_,
  fun E E' δ μ l ⟨a,ds,k1,k2,q⟩=>⟨a,ds,k1,k2,he.mono _ _ _ (fun d μ' ⟨b,es,e1,e2,e3,k⟩=>⟨b,es,e1,e2,e3,l.nx _ _ k⟩) q⟩⟩
 obtain⟨a,ds,k1,k2,q⟩:=q
 obtain⟨v,hv1,dv⟩:=r.get i _ k1
 cases dv
 obtain⟨haL,vs,hH,dvs⟩:=g.at_ _ (mem_of_lookup k2)
 refine⟨_,hv1,.inl ⟨rfl,_,dg.of hH⟩,L,g.dM,δ,r,he.mono _ _ _ (fun d μ' k w H' L' s' g' dw z=>?_) q⟩
 obtain⟨b,es,ed,hbl,hlen,k⟩:=k
 subst ed
 cases dw
 obtain⟨hbL,ws,hB,dws⟩:=g'.at_ _ (mem_of_lookup hbl)
 have nbL:b∉L:=fun hb=>by rw [z b hb] at hB;cases hB
 have sf:aK (aN H L) H':=s'.trans ax
 have e1:aN (aa H' H L) L=H':=bK z
 have g1:cy X.K (aa H' H L) μ L:=g.show z sf
 have hA1:aa H' H L a=some (.lst vs):=by rw [ai haL];exact hH
 have hB1:aa H' H L b=some (.lst ws):=by rw [aX nbL];exact hB
 refine⟨a,b,vs,ws,rfl,rfl,hA1,hB1,by rw [dvs.length,dws.length];exact hlen,?_⟩
 have g2:=g1.putL haL hA1 (ys:=vs++ws) (ds:=ds++es) (by rw [e1];exact(bS.same sf dvs).append (bS.same ax dws))
 have e2:aN (upd (aa H' H L) a (.lst (vs++ws))) L=H':=by rw [cu haL,e1]
 exact k σ _ L (by rw [e2];exact sf) (by rw [e2];exact r.same sf) g2
end
section
variable {X:Cx}{c:Expr}{body:List Stmt}{uc:TD}{tb:eY}{pos:Pos}
def IK (uc:TD)(tb:eY):eY:=fun E δ μ=>∃ inv:Nat->SD->Mu->Prop,(∃ m,inv m δ μ)/\∀ m δ' μ',inv m δ' μ'->uc (bZ μ' δ') fun b=>if b=true then tb { E with nx:=fun δ2 μ2=>∃ m',m'<m/\inv m' δ2 μ2,ct:=fun δ2 μ2=>∃ m',m'<m/\inv m' δ2 μ2,bk:=E.nx } δ' μ' else E.nx δ' μ'
theorem CV (hp:PassesOwn (model X.prog X.w) X.A X.env X.xe)(hc:mH X c uc)(hb:rA X body tb):p6 X (.While c body [] pos) (IK uc tb):=by
 refine⟨PS.imp (C3 hp hc.pt hb.ps) fun D σ H ⟨δ,μ,L,r,g,inv,⟨m0,i0⟩,step⟩=>⟨fun m σ' H'=>∃ δ' μ' L',aK (aN H L) (aN H' L')/\bf X.K (aN H' L') σ' δ'/\cy X.K H' μ' L'/\inv m δ' μ',⟨m0,δ,μ,L,aK.refl _,r,g,i0⟩,?_⟩,fun E E' δ μ l ⟨inv,i0,step⟩=>⟨inv,i0,fun m δ' μ' hi=>hc.mono _ _ _ (fun b q=>?_) (step m δ' μ' hi)⟩⟩
 ·rintro m σ' H' ⟨δ',μ',L',s',r',g',hi⟩
  refine⟨_,g'.bZ r',hc.mono _ _ _ (fun b q H1 s1=>?_) (step m δ' μ' hi)⟩
  have s2:aK (aN H' L') (aN H1 L'):=bq s1
  cases b with
  | false =>
   show if false=true then _ else _
   rw [if_neg Bool.false_ne_true] at q ⊢
   exact q σ' H1 L' (s'.trans s2) (r'.same s2) (g'.on s1)
  | true =>
   show if true=true then _ else _
   rw [if_pos rfl] at q ⊢
   refine⟨fun σ2 H2=>∃ δ2 μ2 L2,aK (aN H L) (aN H2 L2)/\bf X.K (aN H2 L2) σ2 δ2/\cy X.K H2 μ2 L2/\∃ m',m'<m/\inv m' δ2 μ2,fun σ2 H2 ⟨δ2,μ2,L2,s2,r2,g2,m',hm,h2⟩=>⟨m',hm,δ2,μ2,L2,s2,r2,g2,h2⟩,δ',μ',L',r'.same s2,g'.on s1,
    hb.mono { mP X.K H L D with nx:=fun δ2 μ2=>∃ m',m'<m/\inv m' δ2 μ2,ct:=fun δ2 μ2=>∃ m',m'<m/\inv m' δ2 μ2,bk:=(mP X.K H L D).nx } _ _ _ ⟨?_,?_,?_,?_⟩ q⟩
   ·exact fun δ2 μ2 h2 σ2 H2 L2 s3 r2 g2=>⟨δ2,μ2,L2,(s'.trans s2).trans s3,r2,g2,h2⟩
   ·exact fun d μ2 h2 v H2 L2 s3 g2 dv=>h2 v H2 L2 ((s'.trans s2).trans s3) g2 dv
   ·exact fun δ2 μ2 h2 σ2 H2 L2 s3 r2 g2=>h2 σ2 H2 L2 ((s'.trans s2).trans s3) r2 g2
   ·exact fun δ2 μ2 h2 σ2 H2 L2 s3 r2 g2=>⟨δ2,μ2,L2,(s'.trans s2).trans s3,r2,g2,h2⟩
 ·cases b with
  | false =>
   rw [if_neg Bool.false_ne_true] at q ⊢
   exact l.nx _ _ q
  | true =>
   rw [if_pos rfl] at q ⊢
   exact hb.mono { E with nx:=fun δ2 μ2=>∃ m',m'<m/\inv m' δ2 μ2,ct:=fun δ2 μ2=>∃ m',m'<m/\inv m' δ2 μ2,bk:=E.nx } _ _ _ ⟨fun _ _ z=>z,l.rt,fun _ _ z=>l.nx _ _ z,fun _ _ z=>z⟩ q
end
section
variable {X:Cx}{c a b e:Expr}{es:List Expr}{uc:TD}{ta tb:EF}{t:AD}{pos p:Pos}
def Nu (uc:TD)(ta tb:EF):EF:=fun δ Q=>uc δ fun k=>if k=true then ta δ Q else tb δ Q
theorem MM (hc:mH X c uc)(ha:PF X a ta)(hb:PF X b tb):PF X (.IfExp c a b pos) (Nu uc ta tb):=by
 refine⟨(wJ hc.pt ha.pe hb.pe).imp fun σ H Q ⟨δ,r,h⟩=>⟨δ,r,hc.mono _ _ _ (fun k q H1 s1=>?_) h⟩,fun δ P P' g h=>hc.mono _ _ _ (fun k q=>?_) h⟩
 ·cases k with
  | true =>
   show if true=true then _ else _
   rw [if_pos rfl] at q ⊢
   exact⟨δ,r.same s1,ha.mono _ _ _ (fun d μ z=>z.on s1) q⟩
  | false =>
   show if false=true then _ else _
   rw [if_neg Bool.false_ne_true] at q ⊢
   exact⟨δ,r.same s1,hb.mono _ _ _ (fun d μ z=>z.on s1) q⟩
 ·cases k with
  | true=>rw [if_pos rfl] at q ⊢;exact ha.mono _ _ _ g q
  | false=>rw [if_neg Bool.false_ne_true] at q ⊢;exact hb.mono _ _ _ g q
def Ec (t:AD):EF:=fun δ Q=>t δ fun ds=>∃ xs,(ds=[.lst xs]\/ds=[.tup xs])/\∀ a,Q (.adr a) [(a,.lst xs)]
theorem rW (hg:Gl X "list")(hm:X.mg "list"=none)(ha:pR X (e::es) t)(h1:starEach (e::es) X.env=(false,eval e X.env)::starEach es X.env:=by rfl)(h2:(backTo pos (starEach es X.env)).any (·.1)=false:=by rfl):PF X (.Call (.Name "list" p) (e::es) [] pos) (Ec t):=by
 refine⟨(lL su hg hm boot_list ha.pa (he:=h1) (hpl:=h2)).imp fun σ H Q ⟨δ,r,h⟩=>⟨δ,r,ha.mono _ _ _ (fun ds ⟨xs,e,k⟩ vs H1 s1 dvs=>?_) h⟩,fun δ P P' g h=>ha.mono _ _ _ (fun ds ⟨xs,e,k⟩=>⟨xs,e,fun a=>g _ _ (k a)⟩) h⟩
 have fin:∀{ys:List V},bS X.K H1 ys xs->∀ l,H1 l=none->Q (.ref l) (upd H1 l (.lst ys)):=fun{ys} dy l hl=>by
  obtain⟨g2,e2⟩:=(cy.nil (K:=X.K) (H:=H1)).IW hl (ds:=xs) (by rw [cF];exact dy)
  exact k l (.ref l) _ [l] (by rw [e2,cF];exact s1) g2 (.adr l)
 rcases e with e|e
 ·subst e
  cases dvs with
  | cons dv r2 =>
   cases r2
   cases dv with
   | lst q1 q2=>exact⟨_,_,rfl,.inl q1,fin q2⟩
 ·subst e
  cases dvs with
  | cons dv r2 =>
   cases r2
   cases dv with
   | tup q1 q2=>exact⟨_,_,rfl,.inr q1,fin q2⟩
theorem jR.cp {P:Program}{w:World}{K:PySem.W.Frag}{mg:Str->Option Value}{base:Heap}{j:Nat}{C:Addr}{m:Str}{sd:pZ}{se:cL}(c:jR P w K mg base j C m sd)(ms:cQ se)(h:∀ ds Q,se ds Q->sd ds fun d μ=>Q (ay μ d)):bY P w K mg base j C m se []:=by
 obtain⟨f,fd,ps,h1,h2,F,b⟩:=c.ex
 exact⟨⟨f,fd,ps,[],[],h1,h2,cN.sub F (fun vs H Q E ⟨ds,dv,q⟩=>yN c.ms h vs H Q E ⟨ds,dv,q⟩),b,.nil,fun _=>.nil⟩,ms⟩
end
end DC
namespace L2
open PySem PySem.Spec PyProof.Rows
theorem F_ {ss:List Str}{i:Nat}{x:Str}(hx:ss[i]?=some x)(k:Str):(decide (k∈ss.take i)||decide (k=x))=decide (k∈ss.take (i+1)):=by
 rw [List.take_succ,hx]
 by_cases h1:k∈ss.take i
 ·simp [h1]
 ·by_cases h2:k=x
  ·simp [h2]
  ·simp [h1,h2]
theorem DW {ss:List Str}(hd:ss.Nodup){i:Nat}{x:Str}(hx:ss[i]?=some x):decide (x∈ss.take i)=false:=decide_eq_false fun h=>by
 obtain⟨m,hm⟩:=List.mem_iff_getElem?.mp h
 rw [List.getElem?_take] at hm
 split at hm
 ·rename_i hlt
  have:=(List.getElem?_inj (List.getElem?_eq_some_iff.mp hm).1 hd).mp (hm.trans hx.symm)
  omega
 ·cases hm
section
variable {prog:Program}{w:World}{A:Around}{E:Value->Shared->Prop}{s:Shared}
abbrev sk (prog:Program)(w:World):=PySem.strKind prog w
theorem HD (x:Str)(t:Tok):(sk prog w).is x (.str x t)=true:=by show Value.isStrOf x (.str x t)=true;simp [Value.isStrOf]
theorem wW {R:Result->Shared->Prop}{I:Addr}{fp wr:List Addr}{G:Array GenState->Array GenState->Prop}{n:Nat}{P:Nat->Value->Prop}{St:Nat->Shared->Prop}
  (W:WalksS prog w A.in1 I fp wr G n P St)(B:Addr)(hB:B∉fp){ss:List Str}(hn:ss.length=n)(hd:ss.Nodup)(hv:∀ i v,P i v->∃ x t,ss[i]?=some x/\v=.str x t)(hb:n+1<scanBound) :
  ∀(d i:Nat) (s:Shared),n - i=d->i<=n->St i s->s.heap.SetOf (sk prog w) B (fun k=>decide (k∈ss.take i)) i ->
   (∀ s',Moved (B::wr) G s s'->s'.heap.SetOf (sk prog w) B (fun k=>decide (k∈ss.take n)) n->R (.ok (.ret .none)) s') ->
   codeAny (model prog w) A (.builtin "set.update.loop" ⟨[.ref B,.ref I],[]⟩) R s
 | 0,i,s,h0,hi,st,hS,fin=>by
  have e:i=n:=by omega
  subst e
  refine codeAny_builtin F.entry_set_update_loop ?_
  rw [Around.under_plainId F.plain_set_update_loop _]
  refine(show wpAny _ A.in1 (pyNext (.ref I) >>= _) _ _ s from wpAny_bind (W.done s _ _ st fun s1 mv=>?_))
  refine(show wpAny _ A.in1 (ret Value.none) _ _ s1 from wpAny_pure (fin s1 (mv.mono fun b q=>List.mem_cons_of_mem _ q) ?_))
  obtain⟨ob,es,ep,tb,ho,more⟩:=hS
  exact⟨ob,es,ep,tb,mv.heap B _ (fun q=>hB (W.sub _ q)) ho,more⟩
 | d+1,i,s,h0,hi,st,hS,fin=>by
  have lt:i<n:=by omega
  refine codeAny_builtin F.entry_set_update_loop ?_
  rw [Around.under_plainId F.plain_set_update_loop _]
  refine(show wpAny _ A.in1 (pyNext (.ref I) >>= _) _ _ s from wpAny_bind (W.item i s _ _ lt st fun v s1 hP st1 mv=>?_))
  obtain⟨x,t,hx,rfl⟩:=hv i v hP
  have hS1:s1.heap.SetOf (sk prog w) B (fun k=>decide (k∈ss.take i)) i:=by
   obtain⟨ob,es,ep,tb,ho,more⟩:=hS
   exact⟨ob,es,ep,tb,mv.heap B _ (fun q=>hB (W.sub _ q)) ho,more⟩
  refine(show wpAny _ A.in1 (holding [Value.str x t] (setAdd B (.str x t)) >>= _) _ _ s1 from wpAny_bind (wpAny_holding ?_))
  unfold setAdd
  refine wpAny_holding (wpAny_bind ((sk prog w).pyHash (k:=x) (HD x t) ?_))
  refine wpAny_setAddHashed_of (knd:=sk prog w) (s:={ s1 with toks:=s1.toks+1 }) (HD x t) rfl hS1 (by omega) fun h2 same hS2=>?_
  have hS3:h2.SetOf (sk prog w) B (fun k=>decide (k∈ss.take (i+1))) (i+1):=by
   have e1:(fun k'=>decide (k'∈ss.take i)||decide (k'=x))=fun k=>decide (k∈ss.take (i+1)):=funext fun k=>F_ hx k
   have e2:(if decide (x∈ss.take i)=true then i else i+1)=i+1:=by rw [DW hd hx];rfl
   have z:h2.SetOf (sk prog w) B (fun k'=>decide (k'∈ss.take i)||decide (k'=x)) (if decide (x∈ss.take i)=true then i else i+1):=hS2
   rw [e1,e2] at z
   exact z
  refine wpAny_pure ⟨plainId_quiet F.plain_set_update_loop _,wW W B hB hn hd hv hb d (i+1) _ (by omega) lt (W.frame _ s1 _ _ st1 (Nat.le_succ _) fun b hb2 o e=>?_) hS3 fun s3 mv3 hS4=>?_⟩
  ·rw [same.2 b (fun q=>hB (by rw [<- q];exact hb2))]
   exact e
  ·refine fin s3 (Moved.trans W.gtrans ((mv.mono fun b q=>List.mem_cons_of_mem _ q).then_heap (Nat.le_succ _) fun b o hb2 e=>?_) mv3) hS4
   rw [same.2 b (fun q=>hb2 (by rw [q];exact List.mem_cons_self))]
   exact e
end
abbrev bh (led:Bool):Obj:={ cls:=.type "set",dict:=none,data:=.set #[] 0 (.fresh 0 0 led)}
structure GX (h:Heap) (l:Addr) (T:String) (ss:List Str):Prop where
 ex:∃(o:Obj) (its:Array Value),h.get? l=some o/\o.cls=.type T/\StrsAre its.toList ss/\((T="list"/\h.IsList l its)\/(T="tuple"/\h.IsTuple l its))
theorem zi:∀{vs:List Value} {ss:List Str},StrsAre vs ss->∀{i:Nat} {v:Value},vs[i]?=some v->∃ x t,ss[i]?=some x/\v=.str x t
 | _,_,.nil,i,v,h=>by cases h
 | _,_,.cons x t r,0,v,h=>by cases h;exact⟨x,t,rfl,rfl⟩
 | _,_,.cons x t r,i+1,v,h=>zi r (i:=i) h
theorem strs_size:∀{vs:List Value} {ss:List Str},StrsAre vs ss->vs.length=ss.length
 | _,_,.nil=>rfl
 | _,_,.cons _ _ r=>congrArg (·+1) (strs_size r)
section
variable {prog:Program}{w:World}{A:Around}{E:Value->Shared->Prop}{s:Shared}
theorem xW {l:Addr}{T:String}{ss:List Str}{its:Array Value}(hh:A.handled=none)(hS:StrsAre its.toList ss)(hk:(T="list"/\s.heap.IsList l its)\/(T="tuple"/\s.heap.IsTuple l its))(hl:l<s.heap.objs.size) :
  ∃(oI:Obj) (St:Nat->Shared->Prop),(∀(A':Around) (E':Value->Shared->Prop) (Q:Value->Shared->Prop),Q (.ref s.heap.objs.size) { s with heap:=s.heap.push oI }->wpAny (model prog w) A' (pyIter (.ref l)) Q E' s) /\
   WalksS prog w A s.heap.objs.size [s.heap.objs.size,l] [s.heap.objs.size] (fun a b=>b=a) ss.length (fun i v=>its[i]?=some v) St/\St 0 { s with heap:=s.heap.push oI }:=by
 have en:its.size=ss.length:=by rw [<- strs_size hS,Array.length_toList]
 have ne:l≠s.heap.objs.size:=Nat.ne_of_lt hl
 rcases hk with⟨_,hL⟩|⟨_,hL⟩
 ·exact⟨_,_,fun A' E' Q q=>wpAny_pyIter_list hL q,en ▸ (Walks.list hh _ l ne its).toS,⟨⟨_,Heap.get?_push_size _ rfl,rfl,rfl⟩,hL.push _⟩⟩
 ·exact⟨_,_,fun A' E' Q q=>wpAny_pyIter_tuple hL q,en ▸ (Walks.tuple hh _ l ne its).toS,⟨⟨_,Heap.get?_push_size _ rfl,rfl,rfl⟩,hL.push _⟩⟩
theorem Bb {l:Addr}{T:String}{ss:List Str}{Q:Value->Shared->Prop}(hh:A.handled=none)(tx:GX s.heap l T ss)(hd:ss.Nodup)(hb:ss.length+1<scanBound)
  (fin:∀ h' tk,h'.SetOf (sk prog w) s.heap.objs.size (fun k=>decide (k∈ss.take ss.length)) ss.length->(∀ b o,s.heap.get? b=some o->h'.get? b=some o)->Q (.ref s.heap.objs.size) { s with heap:=h',toks:=tk }) :
  wpAny (model prog w) A (call (.type "set") [.ref l]) Q E s:=by
 obtain⟨ol,its,hol,hcl,hS,hk⟩:=tx.ex
 have hlt:l<s.heap.objs.size:=Heap.lt_size hol
 obtain⟨k0,k1,mro⟩:=F.called_set.mro
 have made:=F.called_set.made
 have isub:=F.called_set.sub
 refine wpAny_call (codeAny_of_tree (show wpAny _ _ (callAny (.type "set") _) _ _ _ from wpAny_pure ⟨Code.quiet_builtin _ (by decide +kernel),codeAny_builtin F.entry_type_call ?_⟩))
 rw [Around.under_plain (weight_type_call_type "set" [.ref l] []) rfl]
 have nt:=F.called_set.notType
 have cc:=F.called_set.canCreate
 have tc:=F.typeCall_set_1 (.ref l)
 repeat (any_goals (first|assumption|wp_step))
 refine codeAny_mono (code_set_new_1 (.ref l) (E:=E) (Q₁:=fun v s1=>∃ led:Bool,v=.ref s.heap.objs.size/\s1={ s with heap:=s.heap.push (bh led)}) fun led=>⟨led,rfl,rfl⟩) fun r s1 hr=>?_
 match r,hr with
 | .error e,hr=>exact hr
 | .ok .next,hr=>exact hr.elim
 | .ok .brk,hr=>exact hr.elim
 | .ok .cont,hr=>exact hr.elim
 | .ok (.ret v),hr =>
  obtain⟨led,rfl,rfl⟩:=hr
  have hB:(s.heap.push (bh led)).get? s.heap.objs.size=some (bh led):=Heap.get?_push_size _ rfl
  have tB:Shared.TypeIs { s with heap:=s.heap.push (bh led)} (.ref s.heap.objs.size) "set":=⟨_,hB,rfl⟩
  have li:=F.called_set.init.lookup
  have bi:=F.called_set.init.bind (.ref s.heap.objs.size)
  repeat (any_goals (first|assumption|wp_step))
  refine codeAny_mono (codeAny_call_builtin (R:=wants (fun r s2=>r=.none/\∃ h' tk,s2={ s with heap:=h',toks:=tk }/\h'.SetOf (sk prog w) s.heap.objs.size (fun k=>decide (k∈ss.take ss.length)) ss.length /\
   (∀ b o,s.heap.get? b=some o->h'.get? b=some o)) E) F.called_set.init.plain F.entry_set_init (check_set_init_1 tB ?_)) fun r2 s2 hr2=>?_
  ·have done:∀(A':Around),A'.in1.handled=none ->
     ∃ oI:Obj,(∀(A2:Around) (E':Value->Shared->Prop) (Q:Value->Shared->Prop),Q (.ref (s.heap.push (bh led)).objs.size) { s with heap:=(s.heap.push (bh led)).push oI }->wpAny (model prog w) A2 (pyIter (.ref l)) Q E' { s with heap:=s.heap.push (bh led)}) /\
      ∀(R:Result->Shared->Prop),(∀ h' tk,h'.SetOf (sk prog w) s.heap.objs.size (fun k=>decide (k∈ss.take ss.length)) ss.length->(∀ b o,s.heap.get? b=some o->h'.get? b=some o)->R (.ok (.ret .none)) { s with heap:=h',toks:=tk }) ->
       codeAny (model prog w) A' (.builtin "set.update.loop" ⟨[.ref s.heap.objs.size,.ref (s.heap.push (bh led)).objs.size],[]⟩) R { s with heap:=(s.heap.push (bh led)).push oI }:=fun A' ha=>by
    have hk2:(T="list"/\(s.heap.push (bh led)).IsList l its)\/(T="tuple"/\(s.heap.push (bh led)).IsTuple l its):=hk.imp (fun z=>⟨z.1,z.2.push _⟩) fun z=>⟨z.1,z.2.push _⟩
    have hl2:l<(s.heap.push (bh led)).objs.size:=by rw [Heap.size_push];exact Nat.lt_succ_of_lt hlt
    obtain⟨oI,St,it,W,st⟩:=xW (prog:=prog) (w:=w) (A:=A'.in1) (s:={ s with heap:=s.heap.push (bh led)}) ha hS hk2 hl2
    refine⟨oI,it,fun R hR=>?_⟩
    have nB:s.heap.objs.size∉[(s.heap.push (bh led)).objs.size,l]:=by
     rw [Heap.size_push]
     simp only [List.mem_cons,List.not_mem_nil,or_false,not_or]
     exact⟨Nat.ne_of_lt (Nat.lt_succ_self _),Nat.ne_of_gt hlt⟩
    refine wW W s.heap.objs.size nB rfl hd (fun i v hv=>zi hS (by rw [Array.getElem?_toList];exact hv)) hb (ss.length - 0) 0 _ rfl (Nat.zero_le _) st ?_ fun s' mv z=>?_
    ·have g0:((s.heap.push (bh led)).push oI).get? s.heap.objs.size=some (bh led):=Heap.get?_push_of_some _ hB
     have z:=(setObjOf_fresh (knd:=sk prog w) led).setOf g0 (by unfold scanBound;omega)
     have e:(fun _:Str=>false)=fun k=>decide (k∈ss.take 0):=funext fun k=>by simp
     rw [e] at z
     exact z
    ·obtain⟨h',g',d',tk',os'⟩:=s'
     have eg:g'=s.gens:=mv.gens
     have ed:d'=s.drawn:=mv.drawn
     have eo:os'=s.os:=mv.os
     subst eg ed eo
     refine hR h' tk' z fun b o q=>?_
     have lb:=Heap.lt_size q
     refine mv.heap b o ?_ (Heap.get?_push_of_some _ (Heap.get?_push_of_some _ q))
     rw [Heap.size_push]
     simp only [List.mem_cons,List.not_mem_nil,or_false,not_or]
     exact⟨Nat.ne_of_lt lb,Nat.ne_of_lt (Nat.lt_succ_of_lt lb)⟩
   have hol2:(s.heap.push (bh led)).get? l=some ol:=Heap.get?_push_of_some _ hol
   obtain⟨oc,odd,oda,osl⟩:=ol
   have hcl:oc=.type T:=hcl
   subst hcl
   rcases hk with⟨rfl,_⟩|⟨rfl,_⟩
   ·have s1:=F.sub_list_set
    have s2:=F.sub_list_frozenset
    have s3:(Value.type "list" == Value.type "dict")=false:=by decide
    unfold Builtin.«set.__init__» noKeywords Builtin.Frozenset.updateFrom
    generalize hPI:pyIter=PI
    wp_walk
    subst hPI
    obtain⟨oI,it,lp⟩:=done A.in1.in1 (by simp [hh])
    refine it _ _ _ (wpAny_bind (wpAny_runValue (lp _ fun h' tk z1 z2=>?_)))
    show wpAny _ _ _ _ _ _
    refine wpAny_pure ?_
    show wpAny _ _ (ret Value.none) _ _ _
    exact wpAny_pure ⟨rfl,h',tk,rfl,z1,z2⟩
   ·have s1:=F.sub_tuple_set
    have s2:=F.sub_tuple_frozenset
    have s3:(Value.type "tuple" == Value.type "dict")=false:=by decide
    unfold Builtin.«set.__init__» noKeywords Builtin.Frozenset.updateFrom
    generalize hPI:pyIter=PI
    wp_walk
    subst hPI
    obtain⟨oI,it,lp⟩:=done A.in1.in1 (by simp [hh])
    refine it _ _ _ (wpAny_bind (wpAny_runValue (lp _ fun h' tk z1 z2=>?_)))
    show wpAny _ _ _ _ _ _
    refine wpAny_pure ?_
    show wpAny _ _ (ret Value.none) _ _ _
    exact wpAny_pure ⟨rfl,h',tk,rfl,z1,z2⟩
  ·match r2,hr2 with
   | .error e,hr2=>exact hr2
   | .ok .next,hr2=>exact hr2.elim
   | .ok .brk,hr2=>exact hr2.elim
   | .ok .cont,hr2=>exact hr2.elim
   | .ok (.ret v),hr2 =>
    obtain⟨rfl,h',tk,rfl,z1,z2⟩:=hr2
    repeat (any_goals (first|assumption|wp_step))
    exact fin _ _ z1 z2
end
def vA (a:Addr)(n:Nat):HO:=.ext fun h=>∃ o es ep t,h.get? a=some o/\o.ExactSet/\o.data=.set es ep t/\t.fits es.size=true/\es.size=n
section
variable {X:Cx}
theorem rD (hh:X.A.handled=none):jO X (.type "set") (fun xs H Q=>∃(p:Addr) (ss:List Str),xs=[.ref p]/\(dg X.K H p (ss.map V.str)\/iY X.K H p (ss.map V.str))/\ss.Nodup/\ss.length+1<scanBound/\∀ l,H l=none->Q (.ref l) (upd H l (vA l ss.length))):=by
 intro pins s σ H xs us Q I r h
 obtain⟨p,ss,rfl,hq,hd,hb,q⟩:=h
 obtain⟨u,rfl,rx⟩:=vals1 r
 cases rx
 have go:∀ T:String,GX s.heap p T ss->wpAny (model X.prog X.w) X.A (call (.type "set") [.ref p]) (EP X pins σ Q) X.xe s:=fun T tx =>
  Bb hh tx hd hb fun h' tk ⟨o,es,ep,t,z1,z2,z3,_,_,_,z4,z5⟩ keep =>
   ⟨.ref s.heap.objs.size,_,I.laid (t':=tk) keep (Nat.le_refl _) (show bN X.prog X.w _ h' _ (vA _ _) from⟨⟨o,es,ep,t,z1,z2,z3,z4,z5⟩,⟨o,z1⟩,fun h1 h2 ⟨o,es,ep,t,y1,y⟩ k=>⟨o,es,ep,t,k _ y1,y⟩⟩),rfl,q _ (I.bp.fresh (Nat.le_refl _))⟩
 rcases hq with hq|hq
 ·obtain⟨its,r',pl,hz⟩:=I.list hq
  obtain⟨o,ho,hc,n,hdt⟩:=pl.isList
  exact go "list" ⟨o,its.toArray,ho,hc,ot r',.inl ⟨rfl,⟨o,ho,hc,n,hdt⟩⟩⟩
 ·obtain⟨its,r',pl,hz⟩:=I.tuple hq
  obtain⟨o,ho,hc,n,hdt⟩:=pl
  exact go "tuple" ⟨o,its.toArray,ho,hc,ot r',.inr ⟨rfl,⟨o,ho,hc,n,hdt⟩⟩⟩
theorem rC:jO X (.builtin "len") (fun xs H Q=>∃ p n,xs=[.ref p]/\H p=some (vA p n)/\n<1000000/\Q (.int n) H):=by
 intro pins s σ H xs us Q I r h
 obtain⟨p,n,rfl,hp,hn,q⟩:=h
 obtain⟨u,rfl,rx⟩:=vals1 r
 cases rx
 obtain⟨⟨o,es,ep,t,z1,z2,z3,z4,z5⟩,_⟩:=(show bN X.prog X.w H s.heap p (vA p n) from I.bp p _ hp)
 exact call_len_set z1 z2 z3 z4 (by omega) ⟨.int n,H,I.tok _,⟨_,by rw [z5]⟩,q⟩
end
end L2
namespace DC
open PySem PySem.Spec PyProof.Rows L2
section
variable {X:Cx}{e:Expr}{te:ED}{p p1 p2 pos:Pos}
theorem boot_set:bootBuiltins "set"=some (.type "set"):=by kernel_rfl
def GP (te:ED):ED:=fun δ Q=>te δ fun d=>∃ ss:List Str,(d=.lst (ss.map D.str)\/d=.tup (ss.map D.str))/\ss.Nodup/\ss.length<=200/\Q (.int ss.length)
theorem Bm (hh:X.A.handled=none)(hg:Gl X "len")(hm:X.mg "len"=none)(hg2:Gl X "set")(hm2:X.mg "set"=none)(he:PD X e te)
  (h1:starEach [e] X.env=(false,eval e X.env)::starEach [] X.env:=by rfl)(h2:(backTo p2 (starEach [] X.env)).any (·.1)=false:=by rfl)
  (h3:starEach [.Call (.Name "set" p1) [e] [] p2] X.env=(false,eval (.Call (.Name "set" p1) [e] [] p2) X.env)::starEach [] X.env:=by rfl)(h4:(backTo pos (starEach [] X.env)).any (·.1)=false:=by rfl) :
  PD X (.Call (.Name "len" p) [.Call (.Name "set" p1) [e] [] p2] [] pos) (GP te):=by
 refine⟨(iJ rC hg hm PySem.boot_len (d8 (lL (rD hh) hg2 hm2 boot_set (d8 he.pe ir h1) (he:=h1) (hpl:=h2)) ir h3) (he:=h3) (hpl:=h4)).imp fun σ H Q ⟨δ,r,h⟩=>⟨δ,r,he.mono _ _ _ (fun d ⟨ss,ed,nd,hl,k⟩ v H1 s1 dv=>?_) h⟩,
  fun δ P P' g h=>he.mono _ _ _ (fun d ⟨ss,ed,nd,hl,k⟩=>⟨ss,ed,nd,hl,g _ k⟩) h⟩
 have fin:∀ l,H1 l=none->∃ p n,[V.ref l]=[.ref p]/\upd H1 l (vA l ss.length) p=some (vA p n)/\n<1000000/\Q (.int n) (upd H1 l (vA l ss.length)):=fun l hl' =>
  ⟨l,ss.length,rfl,aJ,by omega,k _ _ (s1.trans (aw hl')) (.int _)⟩
 rcases ed with ed|ed
 ·subst ed
  cases dv with
  | lst q1 q2=>exact⟨_,ss,rfl,.inl (uJ q2 ▸ q1),nd,by unfold scanBound;omega,fin⟩
 ·subst ed
  cases dv with
  | tup q1 q2=>exact⟨_,ss,rfl,.inr (uJ q2 ▸ q1),nd,by unfold scanBound;omega,fin⟩
end
section
variable {P:Program}{w:World}{K:PySem.W.Frag}{mg:Str->Option Value}{base:Heap}
theorem Dm.pU {k:Nat}{C:Addr}{m qual:Str}{st:Stmt}{ps N:List Str}{sd:pZ}{t:eY}(d:Dm K C m qual st ps)(S:aE N ps (aB st))(ms:iX sd)(len:∀ ds Q,sd ds Q->ds.length=ps.length)
  (hb:∀(f:Addr) (cdv:Value) (A:Around) (outer:List Env) (s:Shared) (H:Hp) (E:XK),cD k (A.deeper (envOfC qual (aB st) s.heap.objs.size f cdv))->rA (Bx P w K mg base N qual st f cdv A outer s H E) (bE st) t)
  (hr:∀ ds Q,sd ds Q->t { nx:=fun _ μ=>Q .aj μ,rt:=Q } (cb N ds) []):jR P w K mg base (k+1) C m sd:=by
 obtain⟨f,fd,F,M,c,b⟩:=d.ex
 exact⟨⟨f,fd,ps,c,M,Nc F S len (hb f) hr,b⟩,ms⟩
end
section
variable {X:Cx}{e:Expr}{te:ED}{pos:Pos}
def IH (te:ED):eY:=fun E δ μ=>te (bZ μ δ) fun _=>E.nx δ μ
theorem vz (he:PD X e te)(hs:swapsWith e none pos.line X.env=pure false:=by rfl):p6 X (.Expr e pos) (IH te) :=
 ⟨PS.imp (iu he.pe hs) fun D σ H ⟨δ,μ,L,r,g,h⟩=>⟨_,g.bZ r,he.mono _ _ _ (fun d q v H1 s1 dv=>q σ H1 L (bq s1) (r.same (bq s1)) (g.on s1)) h⟩,fun E E' δ μ l h=>he.mono _ _ _ (fun d q=>l.nx _ _ q) h⟩
variable {E:gN}{δ δ':SD}{μ:Mu}{uc:TD}{t u r:eY}
end
section
variable {P:Program}{w:World}{K:PySem.W.Frag}{mg:Str->Option Value}{base:Heap}
theorem Dm.n_ {k:Nat}{C:Addr}{m qual:Str}{st:Stmt}{ps N:List Str}{sd:cL}{t:eY}(d:Dm K C m qual st ps)(S:aE N ps (aB st))(ms:cQ sd)(len:∀ ds Q,sd ds Q->ds.length=ps.length)
  (hb:∀(f:Addr) (cdv:Value) (A:Around) (outer:List Env) (s:Shared) (H:Hp) (E:XK),cD k (A.deeper (envOfC qual (aB st) s.heap.objs.size f cdv))->rA (Bx P w K mg base N qual st f cdv A outer s H E) (bE st) t)
  (hr:∀ ds Q,sd ds Q->t { nx:=fun _ _=>Q .aj,rt:=fun d μ=>Q (ay μ d)} (cb N ds) []):bY P w K mg base (k+1) C m sd []:=by
 obtain⟨f,fd,F,M,c,b⟩:=d.ex
 exact⟨⟨f,fd,ps,[],[],c,M,Mo F S len (hb f) hr,b,.nil,fun _=>.nil⟩,ms⟩
end
end DC
namespace L2
open PySem PySem.Spec PyProof.Rows
section
variable {X:Cx}
theorem yt {k:Nat}(h:k<1000000):-(2 ^ 63)<=(k:Int)/\(k:Int)<2 ^ 63:=⟨by show(-9223372036854775808:Int)<=k;omega,by show(k:Int)<9223372036854775808;omega⟩
theorem Ab:Jr X "list.insert" (fun x vs H Q=>∃(l:Addr) (xs:List V) (i:Int) (k:Nat) (y:V),x=.ref l/\vs=[.int i,y]/\i=(k:Int)/\H l=some (.lst xs)/\k<=xs.length/\xs.length<sizeLine/\k<1000000/\Q .aj (upd H l (.lst (xs.take k++y::xs.drop k)))):=by
 intro pins s σ H x vs v us Q I rx rv h
 obtain⟨l,xs,i,k,y,rfl,rfl,hi,hH,hk,hz,hk2,q⟩:=h
 cases rx
 obtain⟨u,w',rfl,⟨t,rfl⟩,ru⟩:=vals2 rv
 obtain⟨z,its,n,r,hl,e⟩:=I.E1 hH
 have hf:¬ (!Builtin.List.listFitsIndex i)=true:=by
  rw [fitsIndex_both (by rw [hi];exact(yt hk2).1) (by rw [hi];exact(yt hk2).2)]
  exact Bool.false_ne_true
 have hsz:its.toArray.size<=sizeLine:=by rw [List.size_toArray,<- hl];exact Nat.le_of_lt hz
 have M:=AutoSeq1.list_insert_list_int_val_1 l its.toArray n i t w' hf hsz
 refine call_meets F.slot_list_insert ⟨_,e,rfl⟩ F.entry_list_insert (F.args_list_insert_3 (.ref l) (.int i t) w') M ⟨e,?_⟩
 refine⟨.aj,_,I.ID (its':=its.take k++w'::its.drop k) hH e ?_ ((r.take k).append (.cons ru (r.drop k))) ?_,rfl,q⟩
 ·have h1:¬ (i<0):=by omega
  have h2:min i.toNat its.toArray.size=k:=by rw [List.size_toArray];omega
  simp only [h1,if_false,h2]
  apply Array.ext'
  simp
  exact List.take_of_length_le (by rw [List.length_drop];exact Nat.le_refl _)
 ·simp only [List.length_append,List.length_take,List.length_cons,List.length_drop]
  omega
theorem Aa:L9 X "list.index" (fun x xs H Q=>∃(a:Addr) (ws:List Str) (z:Str) (j:Nat),x=.ref a/\xs=[.str z]/\dg X.K H a (ws.map V.str)/\ws[j]?=some z/\(∀ m y,m<j->ws[m]?=some y->y≠z)/\j<1000/\Q (.int (j:Int)) H):=by
 intro pins s σ H x xs v us Q I rx rs h
 obtain⟨a,ws,z,j,rfl,rfl,hS,h1,h2,h3,q⟩:=h
 cases rx
 obtain⟨u,rfl,ru⟩:=rs.one
 obtain⟨tu,rfl⟩:=(show ∃ t,u=Value.str z t from ru)
 obtain⟨its,rv,⟨o,n,e,ec,_,d⟩,_⟩:=I.list hS
 obtain⟨oc,od,oda,osl⟩:=o
 cases(show oc=Value.type "list" from ec)
 cases(show oda=Data.seq its.toArray n from d)
 have at_:∀ m y,ws[m]?=some y->∃ t,its[m]?=some (Value.str y t):=fun m y hy=>by
  obtain⟨w',hw,t,rfl⟩:=rv.get (show(ws.map V.str)[m]?=some (V.str y) by rw [List.getElem?_map,hy];rfl)
  exact⟨t,hw⟩
 obtain⟨tj,hj⟩:=at_ j z h1
 have hjl:j<its.length:=(List.getElem?_eq_some_iff.mp hj).1
 refine call_meets F.slot_list_index ⟨_,e,rfl⟩ F.entry_list_index (F.args_list_index_2 _ _) (SeqAt.list_indexAt a _ n od osl (.str z tu) (fun y=>match y with|.str z' _=>decide (z'=z)|_=>false) j (by simpa using hjl) (by omega) ?_ ?_) ⟨e,fun y hy=>?_,?_⟩
 ·have z1:=(List.getElem?_eq_some_iff.mp hj).2
  simp [z1]
 ·intro m hm hmj
  have hml:m<ws.length:=by have:=(List.getElem?_eq_some_iff.mp h1).1;omega
  obtain⟨tm,hm2⟩:=at_ m ws[m] (List.getElem?_eq_getElem hml)
  have z1:=(List.getElem?_eq_some_iff.mp hm2).2
  have ne:=h2 m ws[m] hmj (List.getElem?_eq_getElem hml)
  simp [z1,ne]
 ·obtain⟨z',t,rfl⟩:=DC.sN rv y (List.mem_toArray.mp hy)
  exact SeqAt.EqAt.str_str z' t z tu
 ·exact⟨.int (j:Int),H,I.tok _,⟨s.toks,rfl⟩,q⟩
end
end L2
namespace DC
open PySem PySem.Spec PyProof.Rows L2
section
variable {X:Cx}{i:Nat}{x:Str}{e e1 e2 o:Expr}{es:List Expr}{t:AD}{te to:ED}{p pos apos cpos:Pos}
theorem uy {K:PySem.W.Frag}{H:Hp}{vs:List V}{ds:List D}(h:bS K H vs ds)(k:Nat){w:V}{d:D}(hw:Dv K H w d):bS K H (vs.take k++w::vs.drop k) (ds.take k++d::ds.drop k):=(h.take k).append (.cons hw (h.drop k))
def E7 (i:Nat)(t:AD):eY:=fun E δ μ=>∃ a ds,δ[i]?=some (some (.adr a))/\μ.lookup a=some (.lst ds)/\t δ fun xs=>∃(k:Nat) (d:D),xs=[.int (k:Int),d]/\k<=ds.length/\ds.length<sizeLine/\k<1000000/\E.nx δ (fZ a (.lst (ds.take k++d::ds.drop k)) μ)
theorem AX (hi:X.N[i]?=some x)(hv:ur X.env.scope x)(he:pR X [e1,e2] t)(hd:(x == ("__debug__":Str))=false:=by decide)(hcd:(x == ("__classdict__":Str))=false:=by decide)
  (hst:starEach [e1,e2] X.env=(false,eval e1 X.env)::starEach [e2] X.env:=by rfl)(hplain:(backTo cpos (starEach [e2] X.env)).any (·.1)=false:=by rfl)(hline:(apos.endLine == cpos.line)=true:=by rfl)
  (hfew:((backTo cpos (starEach [e1,e2] X.env)).all (fun x=>!x.1)&&(backToKw cpos (keywordEach [] X.env)).all (fun x=>x.1.isSome)&&decide ([e1,e2].length+([]:List Keyword).length+(if([]:List Keyword).isEmpty then 0 else 1)<30))=true:=by rfl)
  (hs:swapsWith (.Call (.Attribute (.Name x p) "insert" apos) [e1,e2] [] cpos) none pos.line X.env=pure false:=by rfl)
  (hb:attributeBase (.Name x p) "insert" X.env (eval (.Name x p) X.env)=eval (.Name x p) X.env:=by rfl) :
  p6 X (.Expr (.Call (.Attribute (.Name x p) "insert" apos) [e1,e2] [] cpos) pos) (E7 i t):=by
 refine⟨PS.imp (iu (r8 PySem.F.plainAttrs_list PySem.F.slot_list_insert PySem.F.type_list_insert Ab (dW hi hv hd hcd) (Iq he.pa) hb hfew hline hst hplain) hs) fun D σ H ⟨δ,μ,L,r,g,q⟩=>?_,
  fun E E' δ μ l ⟨a,ds,k1,k2,q⟩=>⟨a,ds,k1,k2,he.mono _ _ _ (fun xs ⟨k,d,h1,h2,h3,h4,h5⟩=>⟨k,d,h1,h2,h3,h4,l.nx _ _ h5⟩) q⟩⟩
 obtain⟨a,ds,k1,k2,q⟩:=q
 obtain⟨v,hv1,dv⟩:=r.get i _ k1
 cases dv
 have hm:=mem_of_lookup k2
 obtain⟨haL,vs,hH,dvs⟩:=g.at_ _ hm
 refine⟨_,hv1,.inl ⟨rfl,_,dg.of hH⟩,L,g.dM,δ,r,he.mono _ _ _ (fun xs ⟨kk,d,exs,hk1,hk2,hk3,k⟩ ws H1 s1 dws z=>?_) q⟩
 subst exs
 cases dws with
 | cons dw1 dws =>
  cases dws with
  | @cons w _ _ _ dw2 dws =>
   cases dws
   cases dw1
   have e1:aN (aa H1 H L) L=H1:=bK z
   have g1:cy X.K (aa H1 H L) μ L:=g.show z s1
   have hH1:aa H1 H L a=some (.lst vs):=by rw [ai haL];exact hH
   refine⟨a,vs,_,kk,w,rfl,rfl,rfl,hH1,by rw [dvs.length];exact hk1,by rw [dvs.length];exact hk2,hk3,?_⟩
   have g2:=g1.putL haL hH1 (ys:=vs.take kk++w::vs.drop kk) (ds:=ds.take kk++d::ds.drop kk) (by rw [e1];exact uy (bS.same s1 dvs) kk dw2)
   have e2:∀ ys,aN (upd (aa H1 H L) a (.lst ys)) L=H1:=fun ys=>by rw [cu haL,e1]
   exact k σ _ L (by rw [e2];exact s1) (by rw [e2];exact r.same s1) g2
def GO (to:ED)(t:AD):ED:=fun δ Q=>to δ fun d=>∃ ws:List Str,d=.lst (ws.map D.str)/\t δ fun ds=>∃ z,ds=[.str z]/\∃ j:Nat,ws[j]?=some z/\(∀ m y,m<j->ws[m]?=some y->y≠z)/\j<1000/\Q (.int (j:Int))
theorem vM (ho:PD X o to)(ha:pR X (e::es) t)(hbase:attributeBase o "index" X.env (eval o X.env)=eval o X.env:=by rfl)
  (hfew:((backTo cpos (starEach (e::es) X.env)).all (fun x=>!x.1)&&(backToKw cpos (keywordEach [] X.env)).all (fun x=>x.1.isSome)&&decide ((e::es).length+([]:List Keyword).length+(if([]:List Keyword).isEmpty then 0 else 1)<30))=true:=by rfl)
  (hline:(apos.endLine == cpos.line)=true:=by rfl)(hs:starEach (e::es) X.env=(false,eval e X.env)::starEach es X.env:=by rfl)(hplain:(backTo cpos (starEach es X.env)).any (·.1)=false:=by rfl) :
  PD X (.Call (.Attribute o "index" apos) (e::es) [] cpos) (GO to t):=by
 refine⟨(r8 PySem.F.plainAttrs_list PySem.F.slot_list_index PySem.F.type_list_index Aa ho.pe ha.pa hbase hfew hline hs hplain).imp fun σ H Q ⟨δ,r,h⟩=>⟨δ,r,ho.mono _ _ _ (fun z ⟨bs,ez,q⟩ v H1 s1 dv=>?_) h⟩,
  fun δ P P' g h=>ho.mono _ _ _ (fun z ⟨bs,ez,q⟩=>⟨bs,ez,ha.mono _ _ _ (fun ds ⟨w,e1,j,k1,k2,k3,k⟩=>⟨w,e1,j,k1,k2,k3,g _ k⟩) q⟩) h⟩
 subst ez
 cases dv with
 | lst h1 h2 =>
  rw [wq h2] at h1
  refine⟨.inl ⟨rfl,_,h1⟩,δ,r.same s1,ha.mono _ _ _ (fun ds ⟨w,e1,j,k1,k2,k3,k⟩ vs H2 s2 dvs=>?_) q⟩
  subst e1
  cases dvs with
  | cons a b =>
   cases a
   cases b
   exact⟨_,bs,w,j,rfl,rfl,s2.seq h1,k1,k2,k3,k _ _ (s1.trans s2) (.int _)⟩
end
def yU (caps:List Nat)(ti:AD)(tt:TD)(te:ED):ED:=fun δ Q=>ti δ fun ds=>∃ outs:List (Option D),outs.length=ds.length /\
 (∀(i:Nat) (d:D) (o:Option D),ds[i]?=some d->outs[i]?=some o->∃ x y z u,d=.tup [x,y,z,u]/\tt (some x::some y::some z::some u::pV caps δ) fun b=>b=o.isSome/\(b=true->te (some x::some y::some z::some u::pV caps δ) fun r=>o=some r))/\ds.length<sizeLine/\Q (.lst (outs.filterMap id))
theorem Ex {r:L2.St}{x y z u:Option V}:Le (none::none::none::none::r) (x::y::z::u::r):=⟨rfl,fun i v h=>by
 match i with
 | 0=>cases h
 | 1=>cases h
 | 2=>cases h
 | 3=>cases h
 | i+4=>exact h⟩
theorem z0 {K:PySem.W.Frag}{caps:List Nat}{ti:AD}{tt:TD}{te:ED}(mi:ml ti)(mt:hW tt)(me:bV te){σ:L2.St}{H:Hp}{Q:VK}(h:oE K (yU caps ti tt te) σ H Q) :
  sH 4 caps (fun σ H R=>∃ δ,bf K H σ δ/\ti δ fun ds=>∀ J H1,aK H H1->Jh K J H1 ds->R J H1) (Ho K 4 (m6 (eO 0) (m6 (eO 1) (m6 (eO 2) (m6 (eO 3) Hn))))) (qw (oT K tt)) (qp (oE K te)) σ H Q:=by
 obtain⟨δ,r,h⟩:=h
 refine⟨δ,r,mi _ _ _ (fun ds ⟨outs,hol,each,hlen,q⟩ J H1 s1 it D hD=>?_) h⟩
 refine⟨fun i m ys H'=>m=ds.length - i/\i<=ds.length/\∃ H0,H0 D=none/\aK H1 H0/\bS K H0 ys ((outs.take i).filterMap id)/\H'=upd H0 D (.lst ys),⟨ds.length,rfl,Nat.zero_le _,H1,hD,aK.refl _,.nil,rfl⟩,?_⟩
 rintro i m ys H' ⟨rfl,hle,H0,h0,s0,dys,rfl⟩
 refine⟨aJ,?_⟩
 have sU:aK H1 (upd H0 D (.lst ys)):=s0.trans (aw h0)
 by_cases hlt:i<ds.length
 ·refine .inr ⟨it.go i _ sU hlt,fun x H'' y=>?_⟩
  obtain⟨s2,d,hd,Hx,sx1,dvx,only,sx⟩:=it.Dq i _ x H'' sU hlt y
  have hD2:H'' D=some (.lst ys):=s2 _ _ aJ
  have ne1:∀ a o,H1 a=some o->a≠D:=fun a o z=>bL z hD
  have nex:∀ a o,Hx a=some o->a≠D:=fun a o z w=>by
   rcases only a o z with z1|z1
   ·exact ne1 a o z1 w
   ·rw [w,aJ] at z1;cases z1
  have sd1:aK H0 (del H'' D):=fun a o z=>by
   rw [qF (bL z h0)]
   exact s2 a o (aw h0 a o z)
  have sdx:aK Hx (del H'' D):=fun a o z=>by
   rw [qF (nex a o z)]
   exact sx a o z
  obtain⟨o,ho⟩:∃ o,outs[i]?=some o:=⟨_,List.getElem?_eq_getElem (show i<outs.length by omega)⟩
  obtain⟨d1,d2,d3,d4,ed,eachd⟩:=each i d o hd ho
  have dvx':=ed ▸ dvx
  cases dvx' with
  | tup g1 g2 =>
   cases g2 with
   | @cons v1 _ _ _ w1 g2 =>
    cases g2 with
    | @cons v2 _ _ _ w2 g2 =>
     cases g2 with
     | @cons v3 _ _ _ w3 g2 =>
     cases g2 with
     | @cons v4 _ _ _ w4 g2 =>
      cases g2
      have rel:bf K (del H'' D) (some v1::some v2::some v3::some v4::caps.map fun j=>(σ[j]?).getD none) (some d1::some d2::some d3::some d4::pV caps δ):=nM (nM (nM (nM (Be (r.same (s1.trans (s0.trans sd1))) caps) (w4.same sdx)) (w3.same sdx)) (w2.same sdx)) (w1.same sdx)
      refine⟨_,[v1,v2,v3,v4],rfl,wN sx g1,rfl,v1,[v2,v3,v4],rfl,v2,[v3,v4],rfl,v3,[v4],rfl,v4,[],rfl,rfl,Ex,D,ys,hD2,_,rel,mt _ _ _ (fun b ⟨eb,hb⟩ H3 s3 h3=>?_) eachd⟩
      have ht:outs.take (i+1)=outs.take i++[o]:=by rw [List.take_succ,ho];rfl
      have s03:aK H0 H3:=sd1.trans s3
      cases b with
      | false =>
       refine aW ?_
       refine⟨ds.length - (i+1),by omega,rfl,hlt,H3,h3,s0.trans s03,?_,rfl⟩
       have on:o=none:=by cases o with|none=>rfl|some z=>cases eb
       rw [ht,on,List.filterMap_append]
       simpa using dys.same s03
      | true =>
       refine av ?_
       refine⟨D,ys,aJ,?_⟩
       rw [yo h3]
       refine⟨_,rel.same s3,me _ _ _ (fun y ey v H4 s4 dv h4=>⟨aJ,?_,ds.length - (i+1),by omega,rfl,hlt,H4,h4,s0.trans (s03.trans s4),?_,uo⟩) (hb rfl)⟩
       ·rw [dys.length]
        exact Nat.lt_of_le_of_lt (Nat.le_trans (List.length_filterMap_le _ _) (List.length_take_le' _ _)) (by rw [hol];exact hlen)
       ·rw [ht,ey,List.filterMap_append]
        exact(dys.same (s03.trans s4)).append (.cons dv .nil)
 ·have e:i=ds.length:=by omega
  subst e
  refine .inl ⟨it.stop _ sU,?_⟩
  rw [<- hol,List.take_length] at dys
  exact q _ _ (s1.trans sU) (.lst (dg.of aJ) (dys.same (aw h0)))
section
variable {X:Cx}{scope:Scope}{cl:List (Str × Addr)}{x y z u:Str}{cn:List Str}{caps:List Nat}{elt tg iter:Expr}{ifs:List Expr}{ti:AD}{tt:TD}{te:ED}{pos px py pz pu tp:Pos}{c:Nat}
theorem zG (mi:ml ti):bV (yU caps ti tt te):=fun δ P P' g h=>mi _ _ _ (fun ds ⟨outs,hol,each,hlen,q⟩=>⟨outs,hol,each,hlen,g _ q⟩) h
end
end DC
namespace L2
open PySem PySem.Spec PyProof.Rows
def Hi (o:Obj):Nat:=match o.data with
 | .dict _ ep=>ep
 | _=>0
theorem qK {P:Program}{w:World}{H:Hp}{h:Heap}{a:Addr}{o:Obj}{kvs:List (Key × V)}(ok:ku P w H h)(e:H a=some (.fJ o (.dK kvs))):(a == sysModules)=false/\∃ vs,KV kvs vs/\h.DictAt (b5 P w) a vs (Hi o):=by
 obtain⟨ho,z,hd,vs,kv,o',es,ep,ho',h1,h2,h3⟩:=(show bN P w H h a (.fJ o (.dK kvs)) from ok a _ e)
 rw [ho] at ho'
 cases ho'
 refine⟨hd,vs,kv,o,es,ho,h1,?_,h3⟩
 rw [h2]
 unfold Hi
 rw [h2]
theorem Gr {P:Program}{w:World}{k:Key}{u:Value}(r:(b5 P w).is k u=true):RelV (kV k) u:=by
 rcases b6 (k:=k) (v:=u) r with⟨i,t,rfl,rfl⟩|⟨x,t,rfl,rfl⟩
 ·exact⟨t,rfl⟩
 ·exact⟨t,rfl⟩
theorem KV.at_ {kvs:List (Key × V)}{vs:List (Key × Value)}(r:KV kvs vs){i:Nat}{kv:Key × V}(h:kvs[i]?=some kv):∃ v,vs[i]?=some (kv.1,v):=by
 have hl:=r.length
 have hi:i<kvs.length:=(List.getElem?_eq_some_iff.mp h).1
 have hk:=r.keys
 have e1:(kvs.map (·.1))[i]?=some kv.1:=by rw [List.getElem?_map,h];rfl
 rw [hk,List.getElem?_map] at e1
 cases q:vs[i]? with
 | none=>rw [q] at e1;cases e1
 | some p =>
  rw [q] at e1
  obtain⟨k,v⟩:=p
  have:k=kv.1:=by simpa using e1
  exact⟨v,by rw [this]⟩
def L6 (a:Addr)(o:Obj)(kvs:List (Key × V)):It :=
 ⟨fun i H=>H a=some (.fJ o (.dK kvs))/\i<kvs.length,fun i H x H'=>H'=H/\∃ kv,kvs[i]?=some kv/\x=kV kv.1,fun i H=>H a=some (.fJ o (.dK kvs))/\kvs.length<=i⟩
theorem A8 {P:Program}{w:World}{K:PySem.W.Frag}{tg:Expr}(a it:Addr)(o:Obj)(kvs:List (Key × V)):Turn P w K tg (L6 a o kvs) [it] it (fun i h=>h.IsKeyIter it a i kvs.length (Hi o)) where
 mem:=by simp
 obj:=fun i h st b hb=>by
  have e:b=it:=by simpa using hb
  subst e
  obtain⟨o,e,c,d⟩:=st
  exact⟨o,e,fun v z=>by rw [d] at z;cases z⟩
 keep:=fun i h h' ⟨o,e,r⟩ k=>⟨o,k it (by simp) o e,r⟩
 item:=by
  intro X hP hw hK hc i pins s σ H E I hf st hg
  subst hP hw hK
  obtain⟨hq,hx⟩:=hg
  obtain⟨hd,vs,kv,da⟩:=qK I.bp hq
  obtain⟨v,hv⟩:=kv.at_ (List.getElem?_eq_getElem hx)
  obtain⟨f0,f1,f2,f3,f4,f5⟩:=hf it (by simp)
  have hl:=kv.length
  refine wpAny_pyNext_dict_item (hl ▸ st) da hv fun key h' hk st' sb=>?_
  have I1:Inv X pins σ H { s with heap:=h' }:=I.turned (t':=s.toks) (fun b o hb e=>(sb.2 b hb).trans e) f0 f1 f3 f4 f5
  obtain⟨o',e,c,d⟩:=id st'
  exact⟨key,rfl,rX (s:={ s with heap:=h' }) e c d (by decide) ⟨_,H,I1,Gr hk,⟨rfl,_,List.getElem?_eq_getElem hx,rfl⟩,hl ▸ st',fun b hb=>(hf b hb).1⟩⟩
 done:=by
  intro X hP hw hK hc i pins s σ H E I hf st hg
  subst hP hw hK
  obtain⟨hq,hx⟩:=hg
  obtain⟨hd,vs,kv,da⟩:=qK I.bp hq
  obtain⟨f0,f1,f2,f3,f4,f5⟩:=hf it (by simp)
  have hl:=kv.length
  exact wpAny_pyNext_dict_end (I.ok.hd hc) (hl ▸ st) da (List.getElem?_eq_none (by omega)) fun h' eb=>⟨rfl,I.turned (t':=s.toks) (fun b o hb e=>eb b o hb e) f0 f1 f3 f4 f5⟩
 self:=fun _ _ _ _ _ st h=>wpAny_pyIter_keyiter st h
def tS (tl:TE):TI:=fun σ H R=>tl σ H fun x H1=>∃ a o kvs,x=.ref a/\H1 a=some (.fJ o (.dK kvs))/\R (L6 a o kvs) H1
theorem qc {X:Cx}{tg l:Expr}{tl:TE}(hl:PE X l tl):PI X tg l (tS tl):=by
 intro pins s σ H R I h
 refine b9 (hl pins s σ H _ I h) fun v s1 ⟨x,H1,I1,r1,a,o,kvs,e,hq,q⟩=>?_
 have hf:∀ b∈[s1.heap.objs.size],jQ X pins H1 b:=fun b hb=>by
  have e:b=s1.heap.objs.size:=by simpa using hb
  subst e
  exact I1.B6 (Nat.le_refl _) (I1.bp.fresh (Nat.le_refl _))
 subst e
 cases(show v=Value.ref a from r1)
 obtain⟨hd,vs,kv,da⟩:=qK I1.bp hq
 have hl:=kv.length
 exact wpAny_pyIter_dict hd da ⟨s1.heap.objs.size,[s1.heap.objs.size],_,_,H1,rfl,I1.kept (t':=s1.toks) fun b o e=>Heap.get?_push_of_some _ e,A8 a _ o kvs,⟨_,Heap.get?_push_size _ rfl,rfl,by rw [hl];rfl⟩,hf,q⟩
section
variable {X:Cx}{pins:List (Addr × Obj)}{σ:St}{H:Hp}{s:Shared}{a:Addr}{o:Obj}{kvs:List (Key × V)}
theorem CA {P:Program}{w:World}{H:Hp}{h:Heap}{a:Addr}{u v:HO}(ok:ku P w H h)(e:H a=some u)(n1:∀ x,u≠.own x)(n2:∀ xs,u≠.tup xs)(new:bN P w (upd H a v) h a v):ku P w (upd H a v) h:=fun b q hq=>by
 by_cases hb:b=a
 ·subst hb
  rw [aJ] at hq
  cases hq
  exact new
 ·rw [aG hb] at hq
  exact(ok b q hq).oq (fun c x _ z=>z) (fun c z=>by rw [aG (fun y=>by rw [y,e] at z;exact n1 _ (Option.some.inj z))];exact z) fun c xs z=>by rw [aG (fun y=>by rw [y,e] at z;exact n2 _ (Option.some.inj z))];exact z
theorem Inv.Dg {u v:HO}(I:Inv X pins σ H s)(e:H a=some u)(n1:∀ x,u≠.own x)(n2:∀ xs,u≠.tup xs)(n3:∀ o x,X.H₀ a≠some (.fJ o x))(n4:∀ ps,u≠.GA ps)(new:bN X.prog X.w (upd H a v) s.heap a v):Inv X pins σ (upd H a v) s:=by
 have ne:∀ b,H b=none->b≠a:=fun b h y=>by rw [y,e] at h;cases h
 refine⟨I.ok,I.os,I.bare,⟨I.base.keep,I.base.slot,fun b o q n hx=>?_,I.base.there,fun b xs q=>?_,fun b o x q=>?_,fun b ps q=>?_⟩,I.loc,I.cell,by rw [aG (ne _ I.free)];exact I.free,fun x c h=>by rw [aG (ne _ (I.fA x c h))];exact I.fA x c h,fun p hp=>?_,CA I.bp e n1 n2 new,I.len⟩
 ·have z:=I.base.free b o q n hx
  rw [aG (ne _ z)]
  exact z
 ·have z:=I.base.qv b xs q
  rw [aG (fun y=>by rw [y,e] at z;exact n2 _ (Option.some.inj z))]
  exact z
 ·have z:=I.base.oB b o x q
  rw [aG (fun y=>n3 _ _ (y ▸ q))]
  exact z
 ·obtain⟨more,z⟩:=I.base.qt b ps q
  exact⟨more,by rw [aG (fun y=>by rw [y,e] at z;exact n4 _ (Option.some.inj z))];exact z⟩
 ·obtain⟨y1,y2,y3⟩:=I.pin p hp
  exact⟨y1,by rw [aG (ne _ y2)];exact y2,y3⟩
theorem Inv.Cg (I:Inv X pins σ H s)(e:H a=some (.dK kvs)):∀ o x,X.H₀ a≠some (.fJ o x):=fun o x q=>by
 have z:=I.base.oB a o x q
 rw [e] at z
 cases z
theorem Inv.MO (I:Inv X pins σ H s)(e:H a=some (.dK kvs)):∃ o,Inv X pins σ (upd H a (.fJ o (.dK kvs))) s:=by
 have ok:=(show bN X.prog X.w H s.heap a (.dK kvs) from I.bp a _ e)
 obtain⟨z,hd,vs,kv,o,r⟩:=id ok
 have ho:s.heap.get? a=some o:=by obtain⟨es,ep,ho,_⟩:=r;exact ho
 exact⟨o,I.Dg e (fun _ q=>by cases q) (fun _ q=>by cases q) (I.Cg e) (fun _ q=>by cases q) ⟨ho,ok⟩⟩
theorem Inv.zl (I:Inv X pins σ H s)(e:H a=some (.fJ o (.dK kvs)))(n:∀ o x,X.H₀ a≠some (.fJ o x)):Inv X pins σ (upd H a (.dK kvs)) s :=
 I.Dg e (fun _ q=>by cases q) (fun _ q=>by cases q) n (fun _ q=>by cases q) (show bN X.prog X.w _ s.heap a (.dK kvs) from(show bN X.prog X.w H s.heap a (.fJ o (.dK kvs)) from I.bp a _ e).2)
theorem zU {H:Hp}{a:Addr}{u v:HO}(e:H a=some u)(f:∀ x,HO.data x->(u=x\/∃ o,u=.fJ o x)->(v=x\/∃ o,v=.fJ o x)):∀ b x,HO.data x->Rd H b x->Rd (upd H a v) b x:=fun b x hx r=>by
 by_cases hb:b=a
 ·subst hb
  have:v=x\/∃ o,v=.fJ o x:=f x hx (by
   rcases r with r|⟨o,r⟩
   ·rw [e] at r;exact .inl (Option.some.inj r)
   ·rw [e] at r;exact .inr ⟨o,Option.some.inj r⟩)
  rcases this with h|⟨o,h⟩
  ·exact .inl (by rw [aJ,h])
  ·exact .inr ⟨o,by rw [aJ,h]⟩
 ·rcases r with r|⟨o,r⟩
  ·exact .inl (by rw [aG hb];exact r)
  ·exact .inr ⟨o,by rw [aG hb];exact r⟩
theorem zT {H:Hp}{a:Addr}{o:Obj}{kvs:List (Key × V)}(e:H a=some (.dK kvs)):∀ b x,HO.data x->Rd H b x->Rd (upd H a (.fJ o (.dK kvs))) b x:=zU e fun x _ h=>by
 rcases h with h|⟨o',h⟩
 ·exact .inr ⟨o,by rw [<- h]⟩
 ·cases h
theorem wK {H:Hp}{a:Addr}{o:Obj}{kvs:List (Key × V)}(e:H a=some (.fJ o (.dK kvs))):∀ b x,HO.data x->Rd H b x->Rd (upd H a (.dK kvs)) b x:=zU e fun x hx h=>by
 rcases h with h|⟨o',h⟩
 ·subst h
  exact absurd hx (by simp [HO.data])
 ·cases h
  exact .inl rfl
end
end L2
namespace DC
open PySem PySem.Spec PyProof.Rows L2
theorem bf.rd {K:PySem.W.Frag}{H H':Hp}{σ:L2.St}{δ:SD}(f:∀ b u,HO.data u->Rd H b u->Rd H' b u)(r:bf K H σ δ):bf K H' σ δ:=⟨r.len,fun i d h=>let ⟨v,h1,h2⟩:=r.get i d h;⟨v,h1,h2.rd f⟩⟩
def keyOf:Key->D
 | .inl i=>.int i
 | .inr x=>.str x
def rM (i:Nat):AD:=fun δ Q=>∃ kvs,δ[i]?=some (some (.dK kvs))/\Q (kvs.map fun kv=>keyOf kv.1)
theorem m_keys {i:Nat}:ml (rM i):=fun δ P P' g ⟨kvs,e,q⟩=>⟨kvs,e,g _ q⟩
theorem di.keys {K:PySem.W.Frag}{H:Hp}:∀{vs:List (Key × V)} {ds:List (Key × D)},di K H vs ds->vs.map (·.1)=ds.map (·.1)
 | _,_,.nil=>rfl
 | _,_,.cons _ r=>by rw [List.map_cons,List.map_cons,di.keys r]
theorem B0 {K:PySem.W.Frag}{H:Hp}(k:Key):Dv K H (kV k) (keyOf k):=by
 cases k with
 | inl i=>exact .int i
 | inr x=>exact .str x
theorem yy {K:PySem.W.Frag}{H:Hp}{a:Addr}{o:Obj}{vs:List (Key × V)}{ds:List (Key × D)}(e:H a=some (.fJ o (.dK vs)))(dk:di K H vs ds):Jh K (L6 a o vs) H (ds.map fun kv=>keyOf kv.1):=by
 have hk:=dk.keys
 have hl:vs.length=ds.length:=by have:=congrArg List.length hk;simpa using this
 refine⟨fun i H' s hi=>⟨s _ _ e,by rw [hl];simpa using hi⟩,fun H' s=>⟨s _ _ e,by rw [hl];simp⟩,fun i H' x H'' s hi ⟨eh,kv,hkv,hx⟩=>?_⟩
 subst eh
 subst hx
 refine⟨aK.refl _,keyOf kv.1,?_,H,aK.refl _,B0 _,fun b u q=>.inl q,s⟩
 have e1:(vs.map (·.1))[i]?=some kv.1:=by rw [List.getElem?_map,hkv];rfl
 rw [hk,List.getElem?_map] at e1
 rw [List.getElem?_map]
 cases q:ds[i]? with
 | none=>rw [q] at e1;cases e1
 | some p =>
  rw [q] at e1
  have:p.1=kv.1:=by simpa using e1
  show some (keyOf p.1)=_
  rw [this]
section
variable {X:Cx}{scope:Scope}{cl:List (Str × Addr)}{x y:Str}{caps:List Nat}{cn:List Str}{tg iter elt:Expr}{ifs:List Expr}{ti:AD}{tt:TD}{te:ED}{pos p:Pos}{i:Nat}
end
section
variable {X:Cx}{pins:List (Addr × Obj)}{σ:L2.St}{H:Hp}{s:Shared}{a:Addr}{vs:List (Key × V)}
def KD (a:Addr)(vs:List (Key × V))(o:Obj)(D:Ends):Ends:=⟨fun σ' H1=>H1 a=some (.fJ o (.dK vs))/\D.nx σ' (upd H1 a (.dK vs)),fun v H1=>H1 a=some (.fJ o (.dK vs))/\D.rt v (upd H1 a (.dK vs)),fun σ' H1=>H1 a=some (.fJ o (.dK vs))/\D.bk σ' (upd H1 a (.dK vs)),fun σ' H1=>H1 a=some (.fJ o (.dK vs))/\D.ct σ' (upd H1 a (.dK vs))⟩
theorem uR {st:Stmt}{t:TS}(h:PS X st t){D:Ends}(I:Inv X pins σ H s)(q:H a=some (.dK vs))(ht:∀ o,t (KD a vs o D) σ (upd H a (.fJ o (.dK vs)))):wpAny (model X.prog X.w) X.A (exec st X.env) (SP X pins D) X.xe s:=by
 obtain⟨o,I1⟩:=I.MO q
 have n:=I.Cg q
 refine wpAny_mono (h pins s σ _ _ I1 (ht o)) (fun fl s' hs=>?_) fun _ _ z=>z
 cases fl with
 | next=>obtain⟨σ',H',I',e,z⟩:=hs;exact⟨σ',_,I'.zl e n,z⟩
 | brk=>obtain⟨σ',H',I',e,z⟩:=hs;exact⟨σ',_,I'.zl e n,z⟩
 | cont=>obtain⟨σ',H',I',e,z⟩:=hs;exact⟨σ',_,I'.zl e n,z⟩
 | ret u=>obtain⟨v,σ',H',I',rv,e,z⟩:=hs;exact⟨v,σ',_,I'.zl e n,rv,z⟩
theorem lP {H1:Hp}{o:Obj}(q:H a=some (.dK vs))(s1:aK (upd H a (.fJ o (.dK vs))) H1):aK H (upd H1 a (.dK vs)):=fun b z hb=>by
 by_cases hba:b=a
 ·subst hba
  rw [q] at hb
  cases hb
  exact aJ
 ·rw [aG hba]
  exact s1 b z (by rw [aG hba];exact hb)
end
section
variable {X:Cx}{scope:Scope}{cl:List (Str × Addr)}{x y z u:Str}{caps:List Nat}{cn:List Str}{tg iter elt:Expr}{ifs:List Expr}{ti:AD}{tt:TD}{te:ED}{pos p px py pz pu tp:Pos}{c:Nat}{i k:Nat}{v:Str}{pv spos:Pos}
theorem LC (hNd:X.N.Nodup)(hk:X.N[k]?=some v)(hl:Loc X.env.scope v)(S:cC X scope cl [x,y,z,u] caps cn)(hc:X.calm=true)(hi:PId X (.Tuple [.Name x px,.Name y py,.Name z pz,.Name u pu] c tp) iter ti)
  (hg:∀ C fp s₂ H₂,PG (a_ X scope cl C ([x,y,z,u]++cn) fp s₂ H₂) (.Tuple [.Name x px,.Name y py,.Name z pz,.Name u pu] c tp) (Ho X.K 4 (m6 (eO 0) (m6 (eO 1) (m6 (eO 2) (m6 (eO 3) Hn))))))
  (ht:∀ C fp s₂ H₂,u_ (a_ X scope cl C ([x,y,z,u]++cn) fp s₂ H₂) ifs tt)(he:∀ C fp s₂ H₂,PD (a_ X scope cl C ([x,y,z,u]++cn) fp s₂ H₂) elt te)
  (hsw:swapsWith (.ListComp elt [⟨.Tuple [.Name x px,.Name y py,.Name z pz,.Name u pu] c tp,iter,ifs,0⟩] scope pos) (some (.Name v pv)) spos.line X.env=pure true:=by rfl)(hf:X.fn v=true\/X.env.scope.names.lookup v=some .local:=by first|exact .inl rfl|exact .inr rfl|assumption)
  (hs:∀ x,foldedSetIterable iter X.env x=pure x:=by intro _;rfl):yZ X (.Assign [.Name v pv] (.ListComp elt [⟨.Tuple [.Name x px,.Name y py,.Name z pz,.Name u pu] c tp,iter,ifs,0⟩] scope pos) spos) (Ap k (yU caps ti tt te)) :=
 ⟨PS.imp (uN hNd hk hl S hc hi.pi hg (fun C fp s₂ H₂=>iw (ht C fp s₂ H₂).Lv) (fun C fp s₂ H₂=>lM (he C fp s₂ H₂).pe) hsw hf hs) fun D σ H ⟨δ,r,h⟩ =>
   z0 hi.mono (ht 0 [] X.s₀ X.H₀).mono (he 0 [] X.s₀ X.H₀).mono ⟨δ,r,zG hi.mono _ _ _ (fun d q v H1 s1 dv=>q _ H1 s1 ((r.same s1).set k dv)) h⟩,
  fun E E' δ l h=>zG hi.mono _ _ _ (fun d q=>l.nx _ q) h⟩
theorem G8 (hNd:X.N.Nodup)(hk:X.N[k]?=some v)(hl:Loc X.env.scope v)(hN:X.N[i]?=some y)(hv:ur X.env.scope y)(S:cC X scope cl [x] caps cn)(hc:X.calm=true)(hg:∀ C fp s₂ H₂,PG (a_ X scope cl C ([x]++cn) fp s₂ H₂) tg (eO 0))(ht:∀ C fp s₂ H₂,u_ (a_ X scope cl C ([x]++cn) fp s₂ H₂) ifs tt)
  (he:∀ C fp s₂ H₂,PD (a_ X scope cl C ([x]++cn) fp s₂ H₂) elt te)(hsw:swapsWith (.ListComp elt [⟨tg,.Name y p,ifs,0⟩] scope pos) (some (.Name v pv)) spos.line X.env=pure true:=by rfl)(hf:X.fn v=true\/X.env.scope.names.lookup v=some .local:=by first|exact .inl rfl|exact .inr rfl|assumption)
  (hs:∀ x,foldedSetIterable (.Name y p) X.env x=pure x:=by intro _;rfl)(hd:(y == ("__debug__":Str))=false:=by decide)(hcd:(y == ("__classdict__":Str))=false:=by decide) :
  yZ X (.Assign [.Name v pv] (.ListComp elt [⟨tg,.Name y p,ifs,0⟩] scope pos) spos) (Ap k (nv caps (rM i) tt te)):=by
 have mt:=(ht 0 [] X.s₀ X.H₀).mono
 have me:=(he 0 [] X.s₀ X.H₀).mono
 have core:PS X (.Assign [.Name v pv] (.ListComp elt [⟨tg,.Name y p,ifs,0⟩] scope pos) spos) (G7 k (sH 1 caps (tS (Ay i)) (eO 0) (qw (oT X.K tt)) (qp (oE X.K te)))):=uN hNd hk hl S hc (qc (dW (i:=i) (pos:=p) hN hv hd hcd)) hg (fun C fp s₂ H₂=>iw (ht C fp s₂ H₂).Lv) (fun C fp s₂ H₂=>lM (he C fp s₂ H₂).pe) hsw hf hs
 have frozen:∀{σ:L2.St} {H:Hp} {Q:VK} {a:Addr} {o:Obj} {vs:List (Key × V)},σ[i]?=some (some (.ref a))->H a=some (.fJ o (.dK vs))->oE X.K (nv caps (rM i) tt te) σ H Q->sH 1 caps (tS (Ay i)) (eO 0) (qw (oT X.K tt)) (qp (oE X.K te)) σ H Q:=fun{σ H Q a o vs} h1 h2 h=>by
  obtain⟨δ,r,kvs,hk,f⟩:=qA m_keys mt me h
  obtain⟨v,hv1,dv⟩:=r.get i _ hk
  rw [h1] at hv1
  cases hv1
  cases dv with
  | dK q1 q2 =>
   rcases q1 with q1|⟨o',q1⟩
   ·rw [h2] at q1;cases q1
   ·rw [h2] at q1
    cases q1
    exact⟨_,h1,a,o,_,rfl,h2,f _ _ (aK.refl _) (yy h2 q2)⟩
 refine⟨fun pins s σ H D I h=>?_,fun E E' δ l h=>oV m_keys _ _ _ (fun d q=>l.nx _ q) h⟩
 obtain⟨δ,r,h⟩:=h
 obtain⟨kvs,hk,h'⟩:=id h
 obtain⟨v,hv1,dv⟩:=r.get i _ hk
 cases dv with
 | @dK a vs _ q1 q2 =>
  rcases q1 with q1|⟨o,q1⟩
  ·refine uR core I q1 fun o=>?_
   have hf:upd H a (.fJ o (.dK vs)) a=some (.fJ o (.dK vs)):=aJ
   refine frozen hv1 hf ⟨δ,r.rd (zT q1),oV m_keys _ _ _ (fun d k v H1 s1 dv=>?_) h⟩
   have e1:=s1 _ _ hf
   exact⟨e1,k _ _ (lP q1 s1) ((r.same (lP q1 s1)).set _ (dv.rd (wK e1)))⟩
  ·exact core pins s σ H D I (frozen hv1 q1 ⟨δ,r,oV m_keys _ _ _ (fun d k v H1 s1 dv=>k _ H1 s1 ((r.same s1).set _ dv)) h⟩)
end
section
variable {K:PySem.W.Frag}{H:Hp}{L:List Addr}{μ:Mu}{a:Addr}{u v:HO}
theorem ne_in {b:Addr}(ha:a∉L)(hb:b∈L):b≠a:=fun e=>by rw [e] at hb;exact ha hb
theorem oH (h:a∉L):aN (upd H a v) L=upd (aN H L) a v:=by
 funext b
 by_cases hb:b∈L
 ·rw [cK hb,aG (ne_in h hb),cK hb]
 ·rw [bC hb]
  by_cases hba:b=a
  ·subst hba;rw [aJ,aJ]
  ·rw [aG hba,aG hba,bC hb]
theorem HI.turn {b:Addr}(ha:a∉L)(hb:b∈L)(f:∀ c x,HO.data x->Rd (aN H L) c x->Rd (aN (upd H a v) L) c x):∀{m:MD},HI K H L b m->HI K (upd H a v) L b m
 | .lst _,⟨vs,h,d⟩=>⟨vs,by rw [aG (ne_in ha hb)];exact h,bS.rd f d⟩
 | .ins _ _,⟨dx,fs,h,h2,h3,d⟩=>⟨dx,fs,by rw [aG (ne_in ha hb)];exact h,by rw [aG (ne_in ha h3)];exact h2,h3,gM.rd f d⟩
 | .dK _,⟨ws,h,d⟩=>⟨ws,by rw [aG (ne_in ha hb)];exact h,di.rd f d⟩
theorem B_ {b:Addr}(ha:a∉L)(hb:b∈L)(h:dG H L b):dG (upd H a v) L b:=by
 have ne:∀ c∈L,upd H a v c=H c:=fun c hc=>aG (ne_in ha hc)
 cases h with
 | lst xs h=>exact .lst xs (by rw [ne b hb];exact h)
 | dK kvs h=>exact .dK kvs (by rw [ne b hb];exact h)
 | ins C dx fs h hd=>exact .ins C dx fs (by rw [ne b hb];exact h) hd
 | own C c fs h hc hi=>exact .own C c fs (by rw [ne b hb];exact h) hc (by rw [ne c hc];exact hi)
theorem cy.turn (g:cy K H μ L)(ha:a∉L)(f:∀ c x,HO.data x->Rd (aN H L) c x->Rd (aN (upd H a v) L) c x):cy K (upd H a v) μ L :=
 ⟨fun p hp=>⟨(g.at_ p hp).1,(g.at_ p hp).2.turn ha (g.at_ p hp).1 f⟩,g.Ce,fun b hb=>B_ ha hb (g.dM b hb),fun b hb=>by
  rcases g.EN b hb with h|⟨c,h⟩
  ·exact .inl h
  ·exact .inr ⟨c,by rw [aG (ne_in ha hb)];exact h⟩⟩
end
section
variable {X:Cx}{tg:Expr}{body:List Stmt}{g:BS}{tb:eY}{pos p:Pos}{i:Nat}{y:Str}
theorem uE (hp:PassesOwn (model X.prog X.w) X.A X.env X.xe)(hc:X.calm=true)(hN:X.N[i]?=some y)(hv:ur X.env.scope y)(hg:Jj X tg g)(hb:rA X body tb)(hs:∀ x,foldedSetIterable (.Name y p) X.env x=pure x:=by intro _;rfl)
  (hd:(y == ("__debug__":Str))=false:=by decide)(hcd:(y == ("__classdict__":Str))=false:=by decide):p6 X (.For tg (.Name y p) body [] pos) (E5 (rM i) g tb):=by
 have mono:uz (E5 (rM i) g tb):=fun E E' δ μ l h=>m_keys _ _ _ (fun ds ⟨inv,i0,step,fin⟩=>⟨inv,i0,fun i d δ' μ' hd hin=>hg.mono _ _ _ _ (fun δ2 q=>hb.mono { E with nx:=inv (i+1),ct:=inv (i+1),bk:=E.nx } _ _ _ ⟨fun _ _ q=>q,l.rt,l.nx,fun _ _ q=>q⟩ q) (step i d δ' μ' hd hin),fun δ' μ' q=>l.nx _ _ (fin δ' μ' q)⟩) h
 have core:=uP hp hc (Cy (qc (dW (i:=i) (pos:=p) hN hv hd hcd))) (Cv hg.pg) hb.ps hs (pos:=pos)
 have frozen:∀{D:Ends} {σ:L2.St} {H:Hp} {a:Addr} {o:Obj} {vs:List (Key × V)},σ[i]?=some (some (.ref a))->H a=some (.fJ o (.dK vs))->oM X.K (E5 (rM i) g tb) D σ H->LU (NX (tS (Ay i))) (NW fun v σ H Q=>∃ d δ,Dv X.K H v d/\bf X.K H σ δ/\g d δ (kS X.K H Q)) (oM X.K tb) D σ H:=fun{D σ H a o vs} h1 h2 ⟨δ,μ,L,r,st,kvs,hk,inv,i0,step,fin⟩=>by
  obtain⟨v,hv1,dv⟩:=r.get i _ hk
  rw [h1] at hv1
  cases hv1
  cases dv with
  | @dK _ ws _ q1 q2 =>
   have hh:aN H L a=some (.fJ o (.dK vs)):=by
    rcases q1 with q1|⟨o',q1⟩
    ·have:=(de q1).2;rw [h2] at this;cases this
    ·have:=(de q1).1;rw [bC this];exact h2
   have q1':vs=ws:=by
    rcases q1 with q1|⟨o',q1⟩
    ·rw [hh] at q1;cases q1
    ·rw [hh] at q1;cases q1;rfl
   subst q1'
   have it:=yy hh q2
   have s1:aK (aN H L) (aN H L):=aK.refl _
   refine⟨L,st.dM,_,h1,a,o,_,rfl,hh,fun z=>?_⟩
   have e1:aN (aa (aN H L) H L) L=aN H L:=bK z
   have e0:(kvs.map fun kv=>keyOf kv.1).length=kvs.length:=List.length_map ..
   refine⟨fun i m σ' H'=>m=(kvs.map fun kv=>keyOf kv.1).length - i/\i<=(kvs.map fun kv=>keyOf kv.1).length/\∃ δ' μ' L',aK (aN H L) (aN H' L')/\bf X.K (aN H' L') σ' δ'/\cy X.K H' μ' L'/\inv i δ' μ',⟨_,rfl,Nat.zero_le _,δ,μ,L,by rw [e1];exact aK.refl _,by rw [e1];exact r,st.show z s1,i0⟩,?_⟩
   rintro i m σ' H' ⟨rfl,hle,δ',μ',L',s',r',st',hin⟩
   have sf:aK (aN H L) H':=s'.trans ax
   by_cases hlt:i<(kvs.map fun kv=>keyOf kv.1).length
   ·refine .inr ⟨it.go i H' sf hlt,fun σ2 H2=>∃ δ2 μ2 L2,aK (aN H L) (aN H2 L2)/\bf X.K (aN H2 L2) σ2 δ2/\cy X.K H2 μ2 L2/\inv (i+1) δ2 μ2,fun σ2 H2 ⟨δ2,μ2,L2,q⟩=>⟨_,by omega,rfl,hlt,δ2,μ2,L2,q⟩,fun x H'' y=>?_⟩
    obtain⟨s2,d,hd,Hx,_,dvx,hx,sx⟩:=it.Dq i H' x H'' sf hlt y
    have sA:aK (aN H' L') (aN H'' L'):=bq s2
    have sX:aK Hx (aN H'' L'):=fun b o hb=>by
     have nb:b∉L':=by
      intro hbL
      rcases hx b o hb with q|q
      ·have:=s' _ _ q
       rw [cK hbL] at this
       cases this
      ·obtain⟨o',q'⟩:=(st'.dM b hbL).there
       rw [q] at q'
       cases q'
     rw [bC nb]
     exact sx _ _ hb
    have st2:cy X.K H'' μ' L':=st'.on s2
    refine⟨L',st2.dM,d,δ',dvx.same sX,r'.same sA,hg.mono _ _ _ _ (fun δ2 q σ3 H3 s3 r3 z3=>?_) (step i d δ' μ' hd hin)⟩
    have e3:aN (aa H3 H'' L') L'=H3:=bK z3
    have st3:cy X.K (aa H3 H'' L') μ' L':=st2.show z3 s3
    have sB:aK (aN H L) H3:=s'.trans (sA.trans s3)
    refine⟨δ2,μ',L',by rw [e3];exact r3,st3,hb.mono { mP X.K H L D with nx:=inv (i+1),ct:=inv (i+1),bk:=(mP X.K H L D).nx } _ _ _ ?_ q⟩
    have sC:aK (aN H L) (aN (aa H3 H'' L') L'):=by rw [e3];exact sB
    have l:=gP (K:=X.K) (D:=D) sC
    refine⟨fun δ4 μ4 q4 σ4 H4 L4 s4 r4 st4=>⟨δ4,μ4,L4,?_,r4,st4,q4⟩,fun _ _ q4=>l.rt _ _ q4,fun _ _ q4=>l.nx _ _ q4,fun δ4 μ4 q4 σ4 H4 L4 s4 r4 st4=>⟨δ4,μ4,L4,?_,r4,st4,q4⟩⟩
    ·rw [e3] at s4;exact sB.trans s4
    ·rw [e3] at s4;exact sB.trans s4
   ·have e:i=(kvs.map fun kv=>keyOf kv.1).length:=by omega
    subst e
    exact .inl ⟨it.stop H' sf,fin δ' μ' hin σ' H' L' s' r' st'⟩
 refine⟨fun pins s σ H D I h=>?_,mono⟩
 obtain⟨δ,μ,L,r,st,h⟩:=h
 obtain⟨kvs,hk,h'⟩:=id h
 obtain⟨v,hv1,dv⟩:=r.get i _ hk
 cases dv with
 | @dK a vs _ q1 q2 =>
  rcases q1 with q1|⟨o,q1⟩
  ·obtain⟨aL,q0⟩:=de q1
   refine uR core I q0 fun o=>?_
   have hf:upd H a (.fJ o (.dK vs)) a=some (.fJ o (.dK vs)):=aJ
   have eL:aN (upd H a (.fJ o (.dK vs))) L=upd (aN H L) a (.fJ o (.dK vs)):=oH aL
   have f1:∀ c x,HO.data x->Rd (aN H L) c x->Rd (aN (upd H a (.fJ o (.dK vs))) L) c x:=by rw [eL];exact zT q1
   refine frozen hv1 hf ⟨δ,μ,L,r.rd f1,st.turn aL f1,mono _ _ _ _ ?_ h⟩
   have back:∀{H':Hp} {L':List Addr},aK (aN (upd H a (.fJ o (.dK vs))) L) (aN H' L')->a∉L'/\H' a=some (.fJ o (.dK vs))/\aK (aN H L) (aN (upd H' a (.dK vs)) L')/\∀ c x,HO.data x->Rd (aN H' L') c x->Rd (aN (upd H' a (.dK vs)) L') c x:=fun{H' L'} s'=>by
    have z:=s' a (.fJ o (.dK vs)) (by rw [eL];exact aJ)
    obtain⟨aL',z'⟩:=de z
    refine⟨aL',z',?_,?_⟩
    ·rw [oH aL']
     rw [eL] at s'
     exact lP q1 s'
    ·rw [oH aL']
     exact wK z
   refine⟨fun δ' μ' q σ' H' L' s' r' g'=>?_,fun d μ' q v H' L' s' g' dv=>?_,fun δ' μ' q σ' H' L' s' r' g'=>?_,fun δ' μ' q σ' H' L' s' r' g'=>?_⟩
   ·obtain⟨b1,b2,b3,b4⟩:=back s'
    exact⟨b2,q σ' _ L' b3 (r'.rd b4) (g'.turn b1 b4)⟩
   ·obtain⟨b1,b2,b3,b4⟩:=back s'
    exact⟨b2,q v _ L' b3 (g'.turn b1 b4) (dv.rd b4)⟩
   ·obtain⟨b1,b2,b3,b4⟩:=back s'
    exact⟨b2,q σ' _ L' b3 (r'.rd b4) (g'.turn b1 b4)⟩
   ·obtain⟨b1,b2,b3,b4⟩:=back s'
    exact⟨b2,q σ' _ L' b3 (r'.rd b4) (g'.turn b1 b4)⟩
  ·exact core pins s σ H D I (frozen hv1 (de q1).2 ⟨δ,μ,L,r,st,h⟩)
end
theorem bS.yu {K:PySem.W.Frag}{H H':Hp}:∀{vs:List V} {ds:List D},bS K H vs ds->ds.all fv=true->bS K H' vs ds
 | _,_,.nil,_=>.nil
 | _,_,.cons a r,h=>by
  rw [List.all_cons,Bool.and_eq_true] at h
  exact .cons (a.Ee h.1) (bS.yu r h.2)
section
variable {X:Cx}{scope:Scope}{cl:List (Str × Addr)}{x y:Str}{caps:List Nat}{cn:List Str}{tg iter elt:Expr}{ifs:List Expr}{ti:AD}{tt:TD}{te:ED}{pos p:Pos}{i k:Nat}{v:Str}{pv spos:Pos}
end
end DC
namespace L2
open PySem PySem.Spec PyProof.Rows
section
variable {X:Cx}
theorem sS {P:Program}{w:World}:∀{acc:List Value} {kvs:List (Key × V)},acc.length=kvs.length->(∀(j:Nat) (v:Value),acc[j]?=some v->∃ y,kvs[j]?=some y/\(b5 P w).is y.1 v=true)->Vals (kvs.map fun kv=>kV kv.1) acc
 | [],[],_,_=>.nil
 | [],_::_,h,_=>by cases h
 | _::_,[],h,_=>by cases h
 | v::acc,y::kvs,h,k=>by
  obtain⟨y',e,z⟩:=k 0 v rfl
  cases e
  exact .cons (Gr z) (sS (P:=P) (w:=w) (by simpa using h) fun j u hj=>k (j+1) u hj)
theorem p9 (hh:X.A.handled=none):jO X (.type "list") (fun xs H Q=>∃ p kvs,xs=[.ref p]/\Rd H p (.dK kvs)/\∀ l,H l=none->Q (.ref l) (upd H l (.lst (kvs.map fun kv=>kV kv.1)))):=by
 intro pins s σ H xs us Q I r h
 obtain⟨p,kvs,rfl,hq,q⟩:=h
 obtain⟨u,rfl,rx⟩:=vals1 r
 cases rx
 obtain⟨z,hd,vs,rel,dd⟩:=rT I.bp hq
 obtain⟨ep,hat⟩:=dd.dictAt
 have hl:=rel.length
 refine PySem.W.kdl_call (PySem.W.kdl_dict (knd:=b5 X.prog X.w) (kvs:=vs) (ep:=ep) hd) hh hat (by rw [<- hl];exact z) ?_
 intro h' tk acc c' kp e hacc
 have ha:acc.toList.length=kvs.length:=by rw [Array.length_toList,hacc.1,<- hl]
 have hv:Vals (kvs.map fun kv=>kV kv.1) acc.toList:=sS (P:=X.prog) (w:=X.w) ha fun j v hj=>by
  obtain⟨k,x,e1,e2⟩:=hacc.2 j v (by rw [<- Array.getElem?_toList];exact hj)
  have e3:(vs.map (·.1))[j]?=some k:=by rw [List.getElem?_map,e1];rfl
  rw [<- rel.keys,List.getElem?_map] at e3
  cases e4:kvs[j]? with
  | none=>rw [e4] at e3;cases e3
  | some y =>
   rw [e4] at e3
   have:y.1=k:=by simpa using e3
   exact⟨y,rfl,by rw [this];exact e2⟩
 exact⟨.ref s.heap.objs.size,_,I.laid (t':=tk) kp (Nat.le_refl _) (show bN X.prog X.w _ h' _ (.lst (kvs.map fun kv=>kV kv.1)) from⟨by rw [List.length_map];exact z,acc.toList,c',hv,by rw [Array.toArray_toList];exact e⟩),rfl,q _ (I.bp.fresh (Nat.le_refl _))⟩
end
end L2
namespace DC
open PySem PySem.Spec PyProof.Rows L2
theorem bS.keys {K:PySem.W.Frag}{H H':Hp}:∀{vs:List (Key × V)} {ds:List (Key × D)},di K H vs ds->bS K H' (vs.map fun kv=>kV kv.1) (ds.map fun kv=>keyOf kv.1)
 | _,_,.nil=>.nil
 | _,_,.cons _ r=>.cons (B0 _) (bS.keys r)
def uX:cL:=fun ds Q=>∃ kvs,ds=[.dK kvs]/\Q (.lst (kvs.map fun kv=>keyOf kv.1))
theorem FA:cQ uX:=fun ds P P' g ⟨xs,e,q⟩=>⟨xs,e,g _ q⟩
theorem xH {K:PySem.W.Frag}:rK K (fun xs H Q=>∃ p kvs,xs=[.ref p]/\Rd H p (.dK kvs)/\∀ l,H l=none->Q (.ref l) (upd H l (.lst (kvs.map fun kv=>kV kv.1)))) uX:=by
 intro H vs ds Q dvs ⟨kvs,e,q⟩
 subst e
 cases dvs with
 | cons dv r =>
  cases r
  cases dv with
  | dK h1 h2=>exact⟨_,_,rfl,h1,fun l hl=>q _ _ (aw hl) (.lst (dg.of aJ) (bS.keys h2))⟩
section
variable {X:Cx}{e:Expr}{es:List Expr}{t:AD}{pos p:Pos}
theorem yj (hh:X.A.handled=none)(hg:Gl X "list")(hm:X.mg "list"=none)(ha:pR X (e::es) t)(h1:starEach (e::es) X.env=(false,eval e X.env)::starEach es X.env:=by rfl)(h2:(backTo pos (starEach es X.env)).any (·.1)=false:=by rfl):PD X (.Call (.Name "list" p) (e::es) [] pos) (vB uX t):=Bj (lL (p9 hh) hg hm boot_list ha.pa (he:=h1) (hpl:=h2)) ha.mono xH FA
end
mutual
def cM:D->Bool
 | .tup xs=>jZ xs
 | .aj=>true
 | .bl _=>true
 | .int _=>true
 | .str _=>true
 | .lst _=>false
 | .obj _ _=>false
 | .dK _=>false
 | .dT _=>false
 | .adr _=>false
 | .exc _ _ _=>false
def jZ:List D->Bool
 | []=>true
 | d::ds=>cM d&&jZ ds
end
mutual
theorem Dv.AF {K:PySem.W.Frag}{H:Hp}{L:List Addr}(hL:∀ b∈L,dG H L b):∀{v:V} {d:D},Dv K H v d->cM d=true->Dv K (aN H L) v d
 | _,_,.aj,_=>.aj
 | _,_,.bl b,_=>.bl b
 | _,_,.int i,_=>.int i
 | _,_,.str x,_=>.str x
 | _,_,.tup h1 h2,f=>.tup (h1.elim (fun h=>.inl (JK hL h)) .inr) (bS.AF hL h2 (by rw [cM] at f;exact f))
 | _,_,.lst h1 h2,f=>by rw [cM] at f;cases f
 | _,_,.obj h1 h2,f=>by rw [cM] at f;cases f
 | _,_,.dK h1 h2,f=>by rw [cM] at f;cases f
 | _,_,.dT h1 h2,f=>by rw [cM] at f;cases f
 | _,_,.adr a,f=>by rw [cM] at f;cases f
 | _,_,.exc h1 h2 h3,f=>by rw [cM] at f;cases f
theorem bS.AF {K:PySem.W.Frag}{H:Hp}{L:List Addr}(hL:∀ b∈L,dG H L b):∀{vs:List V} {ds:List D},bS K H vs ds->jZ ds=true->bS K (aN H L) vs ds
 | _,_,.nil,_=>.nil
 | _,_,.cons h r,f=>.cons (Dv.AF hL h (by rw [jZ,Bool.and_eq_true] at f;exact f.1)) (bS.AF hL r (by rw [jZ,Bool.and_eq_true] at f;exact f.2))
end
section
variable {X:Cx}{e ke:Expr}{te tk:ED}{i:Nat}{x:Str}{p pos pos':Pos}
def CJ (i:Nat)(te:ED):eY:=fun E δ μ=>te (bZ μ δ) fun d=>cM d=true/\E.nx (δ.set i (some d)) μ
theorem zJ (hN:X.N.Nodup)(hi:X.N[i]?=some x)(hx:Loc X.env.scope x)(he:PD X e te)(hs:swapsWith e (some (.Name x pos')) pos.line X.env=pure false:=by rfl)
  (hf:X.fn x=true\/X.env.scope.names.lookup x=some .local:=by first|exact .inl rfl|exact .inr rfl|assumption):p6 X (.Assign [.Name x pos'] e pos) (CJ i te) :=
 ⟨PS.imp (uQ hN hi hx he.pe hs hf) fun D σ H ⟨δ,μ,L,r,g,h⟩=>⟨_,g.bZ r,he.mono _ _ _ (fun d ⟨fl,q⟩ v H1 s1 dv=>q _ H1 L (bq s1) ((r.same (bq s1)).set i (dv.AF (g.on s1).dM fl)) (g.on s1)) h⟩,
  fun E E' δ μ l h=>he.mono _ _ _ (fun d ⟨fl,q⟩=>⟨fl,l.nx _ _ q⟩) h⟩
def xa (i:Nat)(tk te:ED):eY:=fun E δ μ=>te (bZ μ δ) fun d=>cM d=true/\∃ a ds,δ[i]?=some (some (.adr a))/\μ.lookup a=some (.lst ds)/\tk (bZ μ δ) fun y=>∃ k j,y=.int k/\BJ ds.length k=some j/\E.nx δ (fZ a (.lst (ds.set j d)) μ)
theorem CU (hi:X.N[i]?=some x)(hv:ur X.env.scope x)(hk:PD X ke tk)(he:PD X e te)(hd:(x == ("__debug__":Str))=false:=by decide)(hcd:(x == ("__classdict__":Str))=false:=by decide)
  (hs:swapsWithSole [.Subscript (.Name x p) ke pos'] e pos.line X.env=pure false:=by rfl)(hw:swappedStores [.Subscript (.Name x p) ke pos'] e X.env=pure none:=by rfl)
  (h1:(assignEach [.Subscript (.Name x p) ke pos'] X.env).map (·.2)=[assign (.Subscript (.Name x p) ke pos') X.env]:=by rfl)
  (ha:∀ v,assign (.Subscript (.Name x p) ke pos') X.env v=(do
   let ov <- holding [v] (eval (.Name x p) X.env)
   let iv <- holding [v,ov] (eval ke X.env)
   standAt pos'
   holding [v,ov,iv] (setItem ov iv v)
   release [v,ov,iv] []):=by intro _;rfl):p6 X (.Assign [.Subscript (.Name x p) ke pos'] e pos) (xa i tk te):=by
 refine⟨PS.imp (JE he.pe (JB (dW hi hv hd hcd) hk.pe set_list ha) hs hw h1) fun D σ H ⟨δ,μ,L,r,g,q⟩=>⟨_,g.bZ r,he.mono _ _ _ (fun d ⟨fl,a,ds,k1,k2,q⟩ v H1 s1 dv=>?_) q⟩,
  fun E E' δ μ l q=>he.mono _ _ _ (fun d ⟨fl,a,ds,k1,k2,q⟩=>⟨fl,a,ds,k1,k2,hk.mono _ _ _ (fun y ⟨k,j,e1,e2,q⟩=>⟨k,j,e1,e2,l.nx _ _ q⟩) q⟩) q⟩
 obtain⟨w,hv1,dvw⟩:=r.get i _ k1
 cases dvw
 refine⟨_,hv1,_,(g.on s1).bZ (r.same (bq s1)),hk.mono _ _ _ (fun y ⟨k,j,ey,ej,q⟩ u H2 s2 du=>?_) q⟩
 subst ey
 cases du
 have s12:=s1.trans s2
 have g2:=g.on s12
 obtain⟨haL,vs,hH,dvs⟩:=g2.at_ _ (mem_of_lookup k2)
 refine⟨a,vs,k,j,rfl,rfl,hH,by rw [dvs.length];exact ej,?_⟩
 have e3:aN (upd H2 a (.lst (vs.set j v))) L=aN H2 L:=cu haL
 exact q σ _ L (by rw [e3];exact bq s12) (by rw [e3];exact r.same (bq s12)) (g2.putL haL hH (dvs.setAt ((dv.same s2).AF g2.dM fl) j))
end
def dF (l:List Str)(f:Str->D):List (Key × D):=l.map fun n=>((Sum.inr n:Key),f n)
def oz (f:Str->D)(n:Str)(v:D):Str->D:=fun m=>if m=n then v else f m
theorem jX (l:List Str)(f:Str->D):(dF l f).length=l.length:=List.length_map ..
theorem cT {l:List Str}{f g:Str->D}(h:∀ n∈l,f n=g n):dF l f=dF l g:=List.map_congr_left fun n hn=>by rw [h n hn]
theorem mw {l:List Str}{f:Str->D}:((dF l f).map fun kv=>keyOf kv.1)=l.map D.str:=by
 unfold dF
 rw [List.map_map]
 rfl
theorem bz {f:Str->D}{n:Str}:∀{l:List Str},n∈l->eP (dF l f) (.inr n)=some (f n)
 | m::l,h=>by
  unfold dF eP
  rw [List.map_cons,List.find?_cons]
  by_cases e:m=n
  ·subst e;simp
  ·rw [show decide (((Sum.inr m:Key),f m).1=Sum.inr n)=false from decide_eq_false fun z=>e (Sum.inr.inj z)]
   exact bz ((List.mem_cons.mp h).resolve_left fun z=>e z.symm)
theorem iK {l:List Str}{f:Str->D}{n:Str}{v:D}(h:n∉l):gY (dF l f) (.inr n) v=dF (l++[n]) (oz f n v):=by
 unfold gY
 rw [if_neg]
 ·unfold dF
  rw [List.map_append]
  congr 1
  ·refine List.map_congr_left fun m hm=>?_
   unfold oz
   rw [if_neg (fun e:m=n=>h (e ▸ hm))]
  ·simp [oz]
 ·intro z
  obtain⟨p,hp,e⟩:=List.any_eq_true.mp z
  obtain⟨m,hm,rfl⟩:=List.mem_map.mp hp
  have e':=of_decide_eq_true e
  cases e'
  exact h hm
theorem qe {l:List Str}{f:Str->D}{n:Str}{v:D}(h:n∈l):gY (dF l f) (.inr n) v=dF l (oz f n v):=by
 unfold gY
 rw [if_pos]
 ·unfold dF
  rw [List.map_map]
  refine List.map_congr_left fun m hm=>?_
  show(if(Sum.inr m:Key)=Sum.inr n then _ else _)=_
  unfold oz
  by_cases e:m=n
  ·rw [if_pos (congrArg Sum.inr e),if_pos e]
  ·rw [if_neg (fun z=>e (Sum.inr.inj z)),if_neg e]
 ·exact List.any_eq_true.mpr ⟨(.inr n,f n),List.mem_map.mpr ⟨n,h,rfl⟩,decide_eq_true rfl⟩
theorem Gm {α:Type}(p:α->Bool)(g:α->D):∀ l:List α,(l.map fun x=>if p x=true then some (g x) else none).filterMap id=(l.filter p).map g
 | []=>rfl
 | x::l=>by
  have ih:=Gm p g l
  cases hp:p x with
  | true=>rw [List.map_cons,List.filter_cons,hp,if_pos rfl,if_pos rfl,List.filterMap_cons,List.map_cons,<- ih];rfl
  | false=>rw [List.map_cons,List.filter_cons,hp,if_neg Bool.false_ne_true,if_neg Bool.false_ne_true,List.filterMap_cons,<- ih];rfl
theorem Gk {α:Type}{l:List α}{f:α->D}{h:α->Option D}{i:Nat}{d:D}{o:Option D}(a1:(l.map f)[i]?=some d)(a2:(l.map h)[i]?=some o):∃ x∈l,f x=d/\o=h x:=by
 rw [List.getElem?_map] at a1 a2
 cases e:l[i]? with
 | none=>rw [e] at a1;cases a1
 | some x =>
  rw [e] at a1 a2
  exact⟨x,List.mem_of_getElem? e,by simpa using a1,by simpa using a2.symm⟩
theorem g7 {α β:Type}{l:List α}{f:α->β}{i:Nat}{d:β}(h:(l.map f)[i]?=some d):∃ x,l[i]?=some x/\f x=d:=by
 rw [List.getElem?_map] at h
 cases e:l[i]? with
 | none=>rw [e] at h;cases h
 | some x=>rw [e] at h;exact⟨x,rfl,by simpa using h⟩
def outF {α:Type}(p:α->Bool)(g:α->D)(l:List α):List (Option D):=l.map fun x=>if p x=true then some (g x) else none
def uK {α:Type}(g:α->D)(l:List α):List (Option D):=l.map fun x=>some (g x)
theorem iH {α:Type}{p:α->Bool}{f g:α->D}{l:List α}:(outF p g l).length=(l.map f).length:=by simp [outF]
theorem nJ {α:Type}{f g:α->D}{l:List α}:(uK g l).length=(l.map f).length:=by simp [uK]
theorem iI {α:Type}{p:α->Bool}{g:α->D}{l:List α}:(outF p g l).filterMap id=(l.filter p).map g:=Gm p g l
theorem nK {α:Type}{g:α->D}{l:List α}:(uK g l).filterMap id=l.map g:=by unfold uK;rw [List.filterMap_map];simp
theorem fm {α:Type}{p:α->Bool}{f g:α->D}{l:List α}{T:D->Option D->Prop}(h:∀ x∈l,T (f x) (if p x=true then some (g x) else none)):∀(i:Nat) (d:D) (o:Option D),(l.map f)[i]?=some d->(outF p g l)[i]?=some o->T d o:=fun i d o a1 a2=>by
 obtain⟨x,hx,rfl,rfl⟩:=Gk a1 a2
 exact h x hx
theorem lK {α:Type}{f g:α->D}{l:List α}{T:D->Option D->Prop}(h:∀ x∈l,T (f x) (some (g x))):∀(i:Nat) (d:D) (o:Option D),(l.map f)[i]?=some d->(uK g l)[i]?=some o->T d o:=fun i d o a1 a2=>by
 obtain⟨x,hx,rfl,rfl⟩:=Gk a1 a2
 exact h x hx
theorem rG {α β:Type}{l:List α}{f:α->β}{n:Nat}(h:l.length<n):(l.map f).length<n:=by rw [List.length_map];exact h
theorem vI {xs:List D}{k:Nat}(h:k<=xs.length):cutD xs (some (k:Int)) none=xs.drop k:=by
 unfold cutD
 rw [HT.pd,HT.wM,Nat.min_eq_left h,List.take_of_length_le]
 rw [List.length_drop]
 exact Nat.le_refl _
theorem tE {xs:List D}{k:Nat}:cutD xs none (some (k:Int))=xs.take k:=by
 unfold cutD
 rw [HT.pd,HT.wM,List.drop_zero,Nat.sub_zero]
 by_cases h:k<=xs.length
 ·rw [Nat.min_eq_left h]
 ·rw [Nat.min_eq_right (by omega),List.take_length,List.take_of_length_le (by omega)]
theorem wF {xs:List D}{k:Nat}{R:Prop}(h0:0<k)(h:k<=xs.length):¬ (HT.dh xs.length 0 (some (k:Int))=0/\R):=fun z=>by
 have:=z.1
 rw [HT.pd,Nat.min_eq_left h] at this
 omega
structure Lay (k:Nat) (d:D):Prop where
 pl:DC.plain d=true
 cl:(kn d).canLay0=true
 dp:(kn d).depth<=k
theorem Lay.up {k m:Nat}{d:D}(h:Lay k d)(e:k<=m):Lay m d:=⟨h.pl,h.cl,Nat.le_trans h.dp e⟩
theorem Ew:Lay 0 .aj:=⟨by simp [DC.plain],by rw [kn,PyData.canLay0],by rw [kn,PyData.depth];decide⟩
theorem Eu (i:Int):Lay 0 (.int i):=⟨by simp [DC.plain],by rw [kn,PyData.canLay0],by rw [kn,PyData.depth];decide⟩
theorem IB (i:Bool):Lay 0 (.bl i):=⟨by simp [DC.plain],by rw [kn,PyData.canLay0],by rw [kn,PyData.depth];decide⟩
theorem dA {x:Str}(h:PyData.strOk x=true):Lay 0 (.str x):=⟨by simp [DC.plain],by rw [kn,PyData.canLay0];exact h,by rw [kn,PyData.depth];decide⟩
theorem tq {k:Nat}:∀{ds:List D},(∀ d∈ds,Lay k d)->mW ds=true/\PyData.canLayAll0 (ow ds)=true/\PyData.depthAll (ow ds)<=k
 | [],_=>⟨rfl,rfl,Nat.zero_le _⟩
 | d::ds,h=>by
  obtain⟨h1,h2,h3⟩:=tq (ds:=ds) fun e he=>h e (List.mem_cons_of_mem _ he)
  have hd:=h d List.mem_cons_self
  refine⟨?_,?_,?_⟩
  ·rw [mW,hd.pl,h1];rfl
  ·rw [ow,PyData.canLayAll0,hd.cl,h2];rfl
  ·rw [ow,PyData.depthAll];exact Nat.max_le.mpr ⟨hd.dp,h3⟩
theorem t_ {k:Nat}{ds:List D}(h:∀ d∈ds,Lay k d):Lay (k+1) (.tup ds):=by
 obtain⟨h1,h2,h3⟩:=tq h
 exact⟨by rw [DC.plain];exact h1,by rw [kn,PyData.canLay0];exact h2,by rw [kn,PyData.depth];omega⟩
theorem tw {k:Nat}{ds:List D}(h:∀ d∈ds,Lay k d):Lay (k+1) (.lst ds):=by
 obtain⟨h1,h2,h3⟩:=tq h
 exact⟨by rw [DC.plain];exact h1,by rw [kn,PyData.canLay0];exact h2,by rw [kn,PyData.depth];omega⟩
theorem Lay.sh {k:Nat}{d:D}(h:Lay k d)(e:k<=64):SeqAt.shaped (kn d)=true:=by
 unfold SeqAt.shaped
 rw [h.cl,decide_eq_true (Nat.le_trans h.dp e)]
 rfl
theorem nA {l:List Str}(h:∀ x∈l,PyData.strOk x=true):Lay 1 (.lst (l.map D.str)):=tw fun d hd=>by
 obtain⟨x,hx,rfl⟩:=List.mem_map.mp hd
 exact dA (h x hx)
theorem ud {neg:Bool}{k:Nat}{d:D}{Q:D->Prop}(e:tN d d=none)(h:Lay k d)(hk:k<=64)(q:Q (.bl (!neg))):AB neg d d Q:=by
 have ev:PyData.eqv (kn d) (kn d)=true:=SeqAt.eqv_refl _ h.cl
 unfold AB
 rw [e]
 refine⟨h.pl,h.pl,h.sh hk,h.sh hk,?_⟩
 rw [ev]
 cases neg<;>exact q
theorem Gf {neg:Bool}{k:Nat}{ds:List D}{Q:D->Prop}(h:Lay k (.lst ds))(hk:k<=64)(q:Q (.bl (if neg=true then !ds.isEmpty else ds.isEmpty))):AB neg (.lst ds) (.lst []) Q:=by
 have lb:=nA (l:=[]) fun x hx=>nomatch hx
 have e:PyData.eqv (kn (.lst ds)) (kn (.lst []))=ds.isEmpty:=by
  rw [kn,kn,PyData.eqv]
  cases ds with
  | nil=>rw [ow,PyData.eqvAll];rfl
  | cons b bs=>rw [ow,ow,PyData.eqvAll];rfl
 refine⟨h.pl,lb.pl,h.sh hk,lb.sh (by decide),?_⟩
 rw [e]
 exact q
def BR (μ:Mu):Prop:=∀ p∈μ,∃ kvs,p.2=MD.dK kvs
theorem cy.IX {K:PySem.W.Frag}{H:Hp}{μ:Mu}{L:List Addr}(g:cy K H μ L)(h:BR μ){l:Addr}{xs:List V}(q:Rd H l (.lst xs)):l∉L:=fun hl=>by
 rcases q with q|⟨o,q⟩
 ·rcases g.EN l hl with⟨m,hm⟩|⟨a,ha⟩
  ·obtain⟨kvs,e⟩:=h _ hm
   cases e
   obtain⟨_,ws,hH,_⟩:=g.at_ _ hm
   rw [q] at hH
   cases hH
  ·rw [q] at ha;cases ha
 ·exact(g.dM l hl).pG.2.1 _ _ q
theorem cy.Ez {K:PySem.W.Frag}{H:Hp}{μ:Mu}{L:List Addr}(g:cy K H μ L)(h:BR μ){v:V}{ds:List D}(dv:Dv K H v (.lst ds))(f:ds.all fv=true):Dv K (aN H L) v (.lst ds):=by
 cases dv with
 | lst q1 q2 =>
  refine .lst ?_ (q2.yu f)
  rcases q1 with q1|q1
  ·have n:=g.IX h q1
   refine .inl ?_
   unfold Rd
   rw [bC n]
   exact q1
  ·exact .inr q1
section
variable {X:Cx}{e ke:Expr}{te tk:ED}{i:Nat}{x:Str}{p pos pos':Pos}
def IG (i:Nat)(tk te:ED):eY:=fun E δ μ=>te (bZ μ δ) fun d=>∃ ds,d=.lst ds/\ds.all fv=true/\BR μ/\∃ a kvs,δ[i]?=some (some (.adr a))/\μ.lookup a=some (.dK kvs)/\kvs.length<sizeLine/\tk (bZ μ δ) fun y=>∃ k,xY y=some k/\E.nx δ (fZ a (.dK (gY kvs k d)) μ)
theorem CT (hu:X.A.units+64<cLine)(hi:X.N[i]?=some x)(hv:ur X.env.scope x)(hk:PD X ke tk)(he:PD X e te)(hd:(x == ("__debug__":Str))=false:=by decide)(hcd:(x == ("__classdict__":Str))=false:=by decide)
  (hs:swapsWith e (some (.Subscript (.Name x p) ke pos')) pos.line X.env=pure false:=by rfl):p6 X (.Assign [.Subscript (.Name x p) ke pos'] e pos) (IG i tk te):=by
 refine⟨PS.imp (uO (by omega) (dW hi hv hd hcd) hk.pe he.pe hs) fun D σ H ⟨δ,μ,L,r,g,q⟩=>⟨_,g.bZ r,he.mono _ _ _ (fun d ⟨ds,ed,fl,ok,a,kvs,k1,k2,k3,q⟩ v H1 s1 dv=>?_) q⟩,
  fun E E' δ μ l q=>he.mono _ _ _ (fun d ⟨ds,ed,fl,ok,a,kvs,k1,k2,k3,q⟩=>⟨ds,ed,fl,ok,a,kvs,k1,k2,k3,hk.mono _ _ _ (fun y ⟨k,e1,q⟩=>⟨k,e1,l.nx _ _ q⟩) q⟩) q⟩
 subst ed
 obtain⟨w,hv1,dvw⟩:=r.get i _ k1
 cases dvw
 refine⟨_,hv1,_,(g.on s1).bZ (r.same (bq s1)),hk.mono _ _ _ (fun y ⟨k,ek,q⟩ u H2 s2 du=>?_) q⟩
 have s12:=s1.trans s2
 have g2:=g.on s12
 obtain⟨haL,ws,hH,dvk⟩:=g2.at_ _ (mem_of_lookup k2)
 rw [tZ du ek]
 refine⟨a,_,rfl,wu.k hH (by rw [dvk.length];exact k3),?_⟩
 have e3:aN (upd H2 a (.dK (L2.putK ws k v))) L=aN H2 L:=cu haL
 exact q σ _ L (by rw [e3];exact bq s12) (by rw [e3];exact r.same (bq s12)) (g2.putK haL hH (dvk.put (g2.Ez ok (dv.same s2) fl)))
end
def BC {α:Type}(f:Str->α)(n:Str)(v:α):Str->α:=fun m=>if m=n then v else f m
theorem iV {α:Type}{f:Str->α}{n:Str}{v:α}:BC f n v n=v:=if_pos rfl
theorem mj {α:Type}{f:Str->α}{n m:Str}{v:α}(h:m≠n):BC f n v m=f m:=if_neg h
theorem um {α:Type}(f:Str->α)(g:α->D)(n:Str)(v:α):oz (fun n=>g (f n)) n (g v)=fun m=>g (BC f n v m):=by
 funext m
 unfold oz BC
 split<;>rfl
theorem kG {a:Addr}{m:MD}:∀{μ:Mu} {m0:MD},μ.lookup a=some m0->(fZ a m μ).lookup a=some m
 | [],_,h=>by cases h
 | (b,mb)::μ,m0,h=>by
  unfold fZ
  rw [List.map_cons,List.lookup_cons]
  rw [List.lookup_cons] at h
  by_cases e:b=a
  ·subst e;simp
  ·have e':(a == b)=false:=by rw [beq_eq_false_iff_ne];exact fun z=>e z.symm
   rw [if_neg e]
   dsimp only
   rw [e'] at h ⊢
   exact kG (μ:=μ) h
theorem cv {a b:Addr}{m:MD}(h:a≠b):∀{μ:Mu},(fZ b m μ).lookup a=μ.lookup a
 | []=>rfl
 | (c,mc)::μ=>by
  unfold fZ
  rw [List.map_cons,List.lookup_cons,List.lookup_cons]
  by_cases e:c=b
  ·subst e
   have e':(a == c)=false:=by rw [beq_eq_false_iff_ne];exact h
   rw [if_pos rfl]
   dsimp only
   rw [e']
   exact cv h (μ:=μ)
  ·rw [if_neg e]
   dsimp only
   split
   ·rfl
   ·exact cv h (μ:=μ)
theorem vp {a b:Addr}{m:MD}{μ:Mu}(h:a≠b):((b,m)::μ).lookup a=μ.lookup a:=by
 rw [List.lookup_cons]
 have e':(a == b)=false:=by rw [beq_eq_false_iff_ne];exact h
 rw [e']
theorem look_same {b:Addr}{m:MD}{μ:Mu}:((b,m)::μ).lookup b=some m:=by rw [List.lookup_cons];simp
theorem pk {μ:Mu}{a:Addr}{m:MD}(h:μ.lookup a=some m):ay μ (.adr a)=m.d:=by
 show(Option.map MD.d (List.lookup a μ)).getD (D.adr a)=_
 rw [h]
 rfl
theorem mem_keys {μ:Mu}{a:Addr}{m:MD}(h:μ.lookup a=some m):a∈μ.map (·.1):=List.mem_map.mpr ⟨_,mem_of_lookup h,rfl⟩
theorem JO {m i:Nat}{d:D}(h:(List.map (fun i:Nat=>D.int (0+(i:Int))) (List.range m))[i]?=some d):i<m/\d=.int (i:Int):=by
 rw [List.getElem?_map] at h
 cases e:(List.range m)[i]? with
 | none=>rw [e] at h;cases h
 | some r =>
  rw [e] at h
  have z:=List.getElem?_eq_some_iff.mp e
  have hl:i<m:=by have:=z.1;rwa [List.length_range] at this
  have hr:i=r:=by have:=z.2;rwa [List.getElem_range] at this
  subst hr
  refine⟨hl,?_⟩
  have h':some (D.int (0+(i:Int)))=some d:=h
  rw [Int.zero_add] at h'
  exact(Option.some.inj h').symm
theorem B1 {α:Type}{l:List α}{f:α->D}{i:Nat}{d:D}(h:(Ge 0 (l.map f))[i]?=some d):∃ x,l[i]?=some x/\d=.tup [.int (i:Int),f x]:=by
 rw [tJ,List.getElem?_map] at h
 cases e:l[i]? with
 | none=>rw [e] at h;cases h
 | some x =>
  rw [e] at h
  exact⟨x,rfl,by simpa using h.symm⟩
def mD (μ:Mu)(d:D):D:=match ay μ d with
 | .dK kvs=>.dK (kvs.map fun kv=>(kv.1,ay μ kv.2))
 | e=>e
def kq (μ:Mu)(δ:SD):SD:=δ.map (Option.map (mD μ))
section
variable {K:PySem.W.Frag}{H:Hp}{L:List Addr}{μ:Mu}
theorem di.Dp (f:∀(v:V) (d:D),Dv K H v d->Dv K H v (ay μ d)):∀{vs:List (Key × V)} {ds:List (Key × D)},di K H vs ds->di K H vs (ds.map fun kv=>(kv.1,ay μ kv.2))
 | _,_,.nil=>.nil
 | _,_,.cons h r=>.cons (f _ _ h) (di.Dp f r)
theorem cy.Lg (g:cy K H μ L){v:V}{d:D}(h:Dv K H v d):Dv K H v (ay μ d):=by
 cases h with
 | adr a =>
  show Dv K H (.ref a) (((μ.lookup a).map MD.d).getD (.adr a))
  cases q:μ.lookup a with
  | none=>exact .adr a
  | some m =>
   show Dv K H (.ref a) m.d
   obtain⟨_,ha⟩:=g.at_ _ (mem_of_lookup q)
   cases m with
   | lst ds=>obtain⟨vs,h,d⟩:=ha;exact .lst (dg.of h) (bS.same ax d)
   | ins C gs=>obtain⟨dx,fs,h,h2,h3,d⟩:=ha;exact .obj (.of h) (gM.same ax d)
   | dK kvs=>obtain⟨ws,h,d⟩:=ha;exact .dK (.of h) (di.same ax d)
 | aj=>exact .aj
 | bl b=>exact .bl b
 | int i=>exact .int i
 | str x=>exact .str x
 | lst h1 h2=>exact .lst h1 h2
 | tup h1 h2=>exact .tup h1 h2
 | obj h1 h2=>exact .obj h1 h2
 | dK h1 h2=>exact .dK h1 h2
 | dT h1 h2=>exact .dT h1 h2
 | exc h1 h2 h3=>exact .exc h1 h2 h3
theorem cy.mD (g:cy K H μ L){v:V}{d:D}(h:Dv K (aN H L) v d):Dv K H v (mD μ d):=by
 have h1:=g.view h
 unfold DC.mD
 revert h1
 cases ay μ d with
 | dK kvs =>
  intro h1
  cases h1 with
  | dK q1 q2=>exact .dK q1 (di.Dp (fun _ _ h=>g.Lg h) q2)
 | _=>intro h1;exact h1
theorem cy.kq (g:cy K H μ L){σ:L2.St}{δ:SD}(r:bf K (aN H L) σ δ):bf K H σ (kq μ δ):=by
 refine⟨by unfold DC.kq;rw [List.length_map];exact r.len,fun i d h=>?_⟩
 unfold DC.kq at h
 rw [List.getElem?_map] at h
 cases q:δ[i]? with
 | none=>rw [q] at h;cases h
 | some o =>
  rw [q] at h
  cases o with
  | none=>cases h
  | some d' =>
   cases h
   obtain⟨v,hv,dv⟩:=r.get i d' q
   exact⟨v,hv,g.mD dv⟩
end
section
variable {X:Cx}{c:Expr}{uc:TD}{t u:eY}{body els:List Stmt}{pos:Pos}
def Mc (uc:TD)(t u:eY):eY:=fun E δ μ=>uc (kq μ δ) fun b=>if b=true then t E δ μ else u E δ μ
theorem IV (hc:mH X c uc)(ha:rA X body t)(hb:rA X els u):p6 X (.If c body els pos) (Mc uc t u):=by
 refine⟨PS.imp (C1 hc.pt ha.ps hb.ps) fun D σ H ⟨δ,μ,L,r,g,h⟩=>⟨_,g.kq r,hc.mono _ _ _ (fun k q H1 s1=>?_) h⟩,fun E E' δ μ l h=>hc.mono _ _ _ (fun k q=>?_) h⟩
 ·have s2:aK (aN H L) (aN H1 L):=bq s1
  cases k with
  | true =>
   show if true=true then _ else _
   rw [if_pos rfl] at q ⊢;exact⟨δ,μ,L,r.same s2,g.on s1,ha.mono _ _ _ _ (gP s2) q⟩
  | false =>
   show if false=true then _ else _
   rw [if_neg Bool.false_ne_true] at q ⊢;exact⟨δ,μ,L,r.same s2,g.on s1,hb.mono _ _ _ _ (gP s2) q⟩
 ·cases k with
  | true=>rw [if_pos rfl] at q ⊢;exact ha.mono _ _ _ _ l q
  | false=>rw [if_neg Bool.false_ne_true] at q ⊢;exact hb.mono _ _ _ _ l q
end
section
variable {X:Cx}{e ke:Expr}{tf:EF}{tk:ED}{i:Nat}{x:Str}{p pos pos':Pos}
def IF (i:Nat)(tk:ED)(tf:EF):eY:=fun E δ μ=>tf δ fun d μ'=>((μ'++μ).map (·.1)).Nodup->∃ a kvs,δ[i]?=some (some (.adr a))/\μ.lookup a=some (.dK kvs)/\kvs.length<sizeLine/\tk δ fun y=>∃ k,xY y=some k/\E.nx δ (fZ a (.dK (gY kvs k d)) (μ'++μ))
theorem nD {a:Addr}{m:MD}{μ:Mu}(h:μ.lookup a=some m):∀{μ':Mu},((μ'++μ).map (·.1)).Nodup->(μ'++μ).lookup a=some m
 | [],_=>h
 | (b,mb)::μ',n=>by
  rw [List.cons_append,List.map_cons,List.nodup_cons] at n
  have e:a≠b:=fun e=>n.1 (by rw [List.map_append];exact List.mem_append_right _ (e ▸ mem_keys h))
  rw [List.cons_append,vp e]
  exact nD h n.2
theorem CS (hu:X.A.units+64<cLine)(hi:X.N[i]?=some x)(hv:ur X.env.scope x)(hk:PD X ke tk)(he:PF X e tf)(hd:(x == ("__debug__":Str))=false:=by decide)(hcd:(x == ("__classdict__":Str))=false:=by decide)
  (hs:swapsWith e (some (.Subscript (.Name x p) ke pos')) pos.line X.env=pure false:=by rfl):p6 X (.Assign [.Subscript (.Name x p) ke pos'] e pos) (IF i tk tf):=by
 refine⟨PS.imp (uO (by omega) (dW hi hv hd hcd) (gA hk.pe) (gA he.pe) hs) fun D σ H ⟨δ,μ,L,r,g,q⟩=>⟨L,g.dM,δ,r,he.mono _ _ _ (fun d μ' q v H1 L1 s1 g1 dv z=>?_) q⟩,
  fun E E' δ μ l q=>he.mono _ _ _ (fun d μ' q n=>let ⟨a,kvs,k1,k2,k3,q⟩:=q n;⟨a,kvs,k1,k2,k3,hk.mono _ _ _ (fun y ⟨k,e1,q⟩=>⟨k,e1,l.nx _ _ q⟩) q⟩) q⟩
 obtain⟨g2,e2⟩:=g.join g1 z s1
 obtain⟨a,kvs,k1,k2,k3,q⟩:=q g2.Ce
 have r2:bf X.K (aN (aa H1 H L) (L1++L)) σ δ:=by rw [e2];exact r.same s1
 obtain⟨w,hv1,dvw⟩:=r.get i _ k1
 cases dvw
 refine⟨_,hv1,L1++L,g2.dM,δ,r2,hk.mono _ _ _ (fun y ⟨k,ek,q⟩ u H2 s2 du z2=>?_) q⟩
 have e3:aN (aa H2 (aa H1 H L) (L1++L)) (L1++L)=H2:=bK z2
 have g3:cy X.K (aa H2 (aa H1 H L) (L1++L)) (μ'++μ) (L1++L):=g2.show z2 s2
 obtain⟨haL,ws,hH,dvk⟩:=g3.at_ _ (mem_of_lookup (nD k2 g2.Ce))
 rw [e2] at s2
 have dk2:di X.K H2 ws kvs:=by rw [e3] at dvk;exact dvk
 rw [tZ du ek]
 refine⟨a,_,rfl,wu.k hH (by rw [dk2.length];exact k3),?_⟩
 have e4:aN (upd (aa H2 (aa H1 H L) (L1++L)) a (.dK (L2.putK ws k v))) (L1++L)=H2:=by rw [cu haL,e3]
 exact q σ _ (L1++L) (by rw [e4];exact s1.trans s2) (by rw [e4];exact r.same (s1.trans s2)) (g3.putK haL hH (by rw [e3];exact dk2.put (dv.same s2)))
end
def sZ (μ:Mu)(kvs:List (Key × D))(m:Nat):Prop:=∀ kv∈kvs,∃ b ds,kv.2=D.adr b/\μ.lookup b=some (.lst ds)/\ds.length<=m
def E6 (i j:Nat):eY:=fun E δ μ=>∃ a kvs m,δ[i]?=some (some (.adr a))/\μ.lookup a=some (.dK kvs)/\sZ μ kvs m/\m+kvs.length<sizeLine/\j<δ.length/\∀ μ',μ'.lookup a=some (.dK kvs)->E.nx (δ.set j none) μ'
theorem Fu {K:PySem.W.Frag}{H:Hp}{σ:L2.St}{δ:SD}(r:bf K H σ δ)(j:Nat)(x:Option V):bf K H (σ.set j x) (δ.set j none):=by
 refine⟨by rw [List.length_set,List.length_set,r.len],fun k d h=>?_⟩
 by_cases e:j=k
 ·subst e
  rw [List.getElem?_set] at h
  split at h
  ·split at h<;>cases h
  ·rename_i ne;exact absurd rfl ne
 ·rw [List.getElem?_set_ne e] at h
  obtain⟨v,hv,dv⟩:=r.get k d h
  exact⟨v,by rw [List.getElem?_set_ne e];exact hv,dv⟩
theorem C9 {K:PySem.W.Frag}{H:Hp}{σ:L2.St}{δ:SD}(r:bf K H σ δ)(j:Nat):bf K H σ (δ.set j none):=by
 refine⟨by rw [List.length_set,r.len],fun k d h=>?_⟩
 by_cases e:j=k
 ·subst e
  rw [List.getElem?_set] at h
  split at h
  ·split at h<;>cases h
  ·rename_i ne;exact absurd rfl ne
 ·rw [List.getElem?_set_ne e] at h
  exact r.get k d h
theorem C_ {K:PySem.W.Frag}{H:Hp}(σ:L2.St):bf K H σ (σ.map fun _=>none):=by
 refine⟨by simp,fun k d h=>?_⟩
 rw [List.getElem?_map] at h
 cases q:σ[k]? with
 | none=>rw [q] at h;cases h
 | some o=>rw [q] at h;cases h
theorem Dk {H:Hp}{a b:Addr}{u v:HO}(h:a≠b):upd (upd H a u) b v=upd (upd H b v) a u:=by
 funext c
 by_cases e1:c=b
 ·subst e1;rw [aJ,aG (Ne.symm h),aJ]
 ·by_cases e2:c=a
  ·subst e2;rw [aG e1,aJ,aJ]
  ·rw [aG e1,aG e2,aG e2,aG e1]
theorem wm {H:Hp}{a:Addr}{u v:HO}(h:H a=some v):upd (upd H a u) a v=H:=by
 funext c
 by_cases e:c=a
 ·subst e;rw [aJ,h]
 ·rw [aG e,aG e]
section
variable {X:Cx}{e:Expr}{c:Str}{i j:Nat}{x y:Str}{px py p1 p2 sp apos cpos epos pos:Pos}
theorem AW (hp:PassesOwn (model X.prog X.w) X.A X.env X.xe)(hc:X.calm=true)(hu:X.A.units+64<cLine)(hNd:X.N.Nodup)(hi:X.N[i]?=some y)(hv:ur X.env.scope y)(hj:X.N[j]?=some x)(hx:Loc X.env.scope x)(hvx:ur X.env.scope x)(hij:i≠j)(he:PD X e (vC (.str c)))
  (hsl:D0 (.Name x p2))(hd:(y == ("__debug__":Str))=false:=by decide)(hcd:(y == ("__classdict__":Str))=false:=by decide)(hdx:(x == ("__debug__":Str))=false:=by decide)(hcdx:(x == ("__classdict__":Str))=false:=by decide)
  (hf:X.fn x=true\/X.env.scope.names.lookup x=some .local:=by first|exact .inl rfl|exact .inr rfl|assumption)
  (hst:starEach [e] X.env=(false,eval e X.env)::starEach [] X.env:=by rfl)(hline:(apos.endLine == cpos.line)=true:=by rfl)
  (hfew:((backTo cpos (starEach [e] X.env)).all (fun x=>!x.1)&&(backToKw cpos (keywordEach [] X.env)).all (fun x=>x.1.isSome)&&decide ([e].length+([]:List Keyword).length+(if([]:List Keyword).isEmpty then 0 else 1)<30))=true:=by rfl)
  (hs:swapsWith (.Call (.Attribute (.Subscript (.Name y p1) (.Name x p2) sp) "append" apos) [e] [] cpos) none epos.line X.env=pure false:=by rfl)
  (hb:attributeBase (.Subscript (.Name y p1) (.Name x p2) sp) "append" X.env (eval (.Subscript (.Name y p1) (.Name x p2) sp) X.env)=eval (.Subscript (.Name y p1) (.Name x p2) sp) X.env:=by rfl)
  (hfs:∀ z,foldedSetIterable (.Name y py) X.env z=pure z:=by intro _;rfl) :
  p6 X (.For (.Name x px) (.Name y py) [.Expr (.Call (.Attribute (.Subscript (.Name y p1) (.Name x p2) sp) "append" apos) [e] [] cpos) epos] [] pos) (E6 i j):=by
 have core:=uP hp hc (qc (tg:=.Name x px) (dW (i:=i) (pos:=py) hi hv hd hcd)) (bF (i:=j) (pos:=px) hNd hj hx hf) (uT (iu (pos:=epos) (r8 PySem.F.plainAttrs_list PySem.F.slot_list_append PySem.F.type_list_append oW (zQ (pos:=sp) (by omega) (dW (i:=i) (pos:=p1) hi hv hd hcd) (dW (i:=j) (pos:=p2) hj hvx hdx hcdx) hsl) (d8 he.pe ir hst) hb hfew hline hst) hs)) hfs (pos:=pos)
 refine⟨fun pins s σ H D I h=>?_,fun E E' δ μ l ⟨a,kvs,m,k1,k2,k3,k4,k5,q⟩=>⟨a,kvs,m,k1,k2,k3,k4,k5,fun μ' hm=>l.nx _ _ (q μ' hm)⟩⟩
 obtain⟨δ,μ,L,r,g,a,kvs,m,k1,k2,k3,k4,k5,q⟩:=h
 rw [<- r.len] at k5
 obtain⟨v,hv1,dv⟩:=r.get i _ k1
 cases dv
 obtain⟨haL,ws,hH,dvk⟩:=g.at_ _ (mem_of_lookup k2)
 refine uR core I hH fun o=>?_
 have hl:=dvk.length
 refine⟨_,hv1,a,o,ws,rfl,aJ,?_⟩
 have ilt:i<σ.length:=(List.getElem?_eq_some_iff.mp hv1).1
 refine⟨fun k m' σ' H'=>m'=ws.length - k/\k<=ws.length/\(σ'=σ\/∃ z,σ'=σ.set j z)/\∃ Hk μk,H'=upd Hk a (.fJ o (.dK ws))/\Hk a=some (.dK ws)/\cy X.K Hk μk L/\aK (aN H L) (aN Hk L)/\μk.lookup a=some (.dK kvs)/\sZ μk kvs (m+k),⟨_,rfl,Nat.zero_le _,.inl rfl,H,μ,rfl,hH,g,aK.refl _,k2,k3⟩,?_⟩
 rintro k m' σ' H' ⟨rfl,hle,hσ,Hk,μk,rfl,hka,gk,eH,la,lk⟩
 have hσi:∀ z:Option V,(σ'.set j z)[i]?=some (some (.ref a)):=fun z=>by
  rw [List.getElem?_set_ne (Ne.symm hij)]
  rcases hσ with rfl|⟨z',rfl⟩
  ·exact hv1
  ·rw [List.getElem?_set_ne (Ne.symm hij)];exact hv1
 by_cases hlt:k<ws.length
 ·refine .inr ⟨⟨aJ,hlt⟩,fun σ2 H2=>(∃ z,σ2=σ.set j z)/\∃ Hk μk,H2=upd Hk a (.fJ o (.dK ws))/\Hk a=some (.dK ws)/\cy X.K Hk μk L/\aK (aN H L) (aN Hk L)/\μk.lookup a=some (.dK kvs)/\sZ μk kvs (m+(k+1)),fun σ2 H2 ⟨hz,hr⟩=>⟨_,by omega,rfl,hlt,.inr hz,hr⟩,?_⟩
  rintro z H'' ⟨rfl,kv,hkv,rfl⟩
  have hset:∃ z,σ'.set j (some (kV kv.1))=σ.set j z:=by
   rcases hσ with rfl|⟨z',rfl⟩
   ·exact⟨_,rfl⟩
   ·exact⟨_,List.set_set ..⟩
  obtain⟨haLk,ws',hHk,dvk'⟩:=gk.at_ _ (mem_of_lookup la)
  have ew:ws'=ws:=by have h1:some (HO.dK ws')=some (HO.dK ws):=hHk.symm.trans hka;cases h1;rfl
  subst ew
  have hval:(eP kvs kv.1).isSome=true:=by
   have h1:=dvk'.keys
   have h2:kv.1∈kvs.map (·.1):=by rw [<- h1];exact List.mem_map.mpr ⟨kv,List.mem_of_getElem? hkv,rfl⟩
   obtain⟨kd,hkd,ekd⟩:=List.mem_map.mp h2
   unfold eP
   rw [Option.isSome_map,List.find?_isSome]
   exact⟨kd,hkd,decide_eq_true ekd⟩
  obtain⟨rd,hrd⟩:=Option.isSome_iff_exists.mp hval
  obtain⟨w',ew',dw'⟩:=dvk'.look hrd
  have hmem:∃ kd∈kvs,kd.2=rd:=by
   unfold eP at hrd
   cases hf:kvs.find? fun q=>decide (q.1=kv.1) with
   | none=>rw [hf] at hrd;cases hrd
   | some kd=>rw [hf] at hrd;exact⟨kd,List.mem_of_find?_eq_some hf,by simpa using hrd⟩
  obtain⟨kd,hkd,rfl⟩:=hmem
  obtain⟨b,ds,eb,lb,hlen⟩:=lk kd hkd
  rw [eb] at dw'
  cases dw'
  obtain⟨hbL,xs,hB,dvs⟩:=gk.at_ _ (mem_of_lookup lb)
  have nab:a≠b:=fun e=>by rw [e,lb] at la;cases la
  have hB':upd Hk a (.fJ o (.dK ws')) b=some (.lst xs):=by rw [aG (Ne.symm nab)];exact hB
  have hjs:(σ'.set j (some (kV kv.1)))[j]?=some (some (kV kv.1)):=by
   refine List.getElem?_set_self ?_
   rcases hσ with rfl|⟨z',rfl⟩
   ·exact k5
   ·rw [List.length_set];exact k5
  refine⟨_,hσi _,_,hjs,a,_,rfl,.inl ⟨_,kv.1,.inr ⟨o,aJ⟩,rfl,ew'.symm⟩,.inl ⟨rfl,_,dg.of hB'⟩,_,C_ _,?_⟩
  rintro w2 H2 s2 dw2
  cases dw2
  have sT:aK Hk (upd H2 a (.dK ws')):=lP hka s2
  have hB2:H2 b=some (.lst xs):=s2 _ _ hB'
  have ha2:H2 a=some (.fJ o (.dK ws')):=s2 _ _ aJ
  have gT:=gk.on sT
  have hBT:upd H2 a (.dK ws') b=some (.lst xs):=by rw [aG (Ne.symm nab)];exact hB2
  have hds:ds.length<sizeLine:=by have:=k4;omega
  refine⟨b,xs,.str c,rfl,rfl,hB2,by rw [dvs.length];exact hds,hset,upd (upd H2 a (.dK ws')) b (.lst (xs++[.str c])),fZ b (.lst (ds++[.str c])) μk,?_,?_,?_,?_,?_,?_⟩
  ·rw [Dk nab,wm]
   rw [aG nab]
   exact ha2
  ·rw [aG nab,aJ]
  ·exact gT.putL hbL hBT ((bS.same (bq sT) dvs).append (.cons (.str c) .nil))
  ·rw [cu hbL]
   exact eH.trans (bq sT)
  ·rw [cv nab];exact la
  ·intro q hq
   obtain⟨b',ds',e1,e2,e3⟩:=lk q hq
   by_cases eb':b'=b
   ·subst eb'
    rw [lb] at e2
    cases e2
    exact⟨b',_,e1,kG lb,by rw [List.length_append];show _+1<=_;omega⟩
   ·exact⟨b',ds',e1,by rw [cv eb'];exact e2,by omega⟩
 ·have ek:k=ws.length:=by omega
  subst ek
  refine .inl ⟨⟨aJ,Nat.le_refl _⟩,aJ,?_⟩
  rw [wm hka]
  refine q μk la σ' Hk L eH ?_ gk
  rcases hσ with rfl|⟨z',rfl⟩
  ·exact(C9 r j).same eH
  ·exact(Fu r j z').same eH
end
end DC
namespace K41
open PySem PySem.Spec PyProof.Rows L2 DC
theorem iP13:(0:Int)<13:=by decide
theorem iP2:(0:Int)<2:=by decide
theorem iP2147483399:(0:Int)<2147483399:=by decide
theorem iP2147483647:(0:Int)<2147483647:=by decide
theorem iP256:(0:Int)<256:=by decide
theorem iP3:(0:Int)<3:=by decide
theorem iP4:(0:Int)<4:=by decide
theorem iP5:(0:Int)<5:=by decide
theorem iP6:(0:Int)<6:=by decide
theorem iP7:(0:Int)<7:=by decide
theorem iP9:(0:Int)<9:=by decide
theorem zL0:0<=sizeLine:=by decide
theorem zL1:1<=sizeLine:=by decide
theorem zL2:2<=sizeLine:=by decide
theorem zL3:3<=sizeLine:=by decide
theorem zL4:4<=sizeLine:=by decide
theorem zL7:7<=sizeLine:=by decide
theorem zL8:8<=sizeLine:=by decide
def top (i:Nat):Stmt:=PySem.Challenge.pw_runrows_k41_what_is_needed.main.body.getD i (.Pass ⟨0,0,0,0⟩)
def bB:Stmt->List Stmt
 | .ClassDef _ _ _ b _ _ _ _ _ _ _=>b
 | _=>[]
theorem cB {N P:List Str}{sc:Scope}(a:sc.kind=.function:=by rfl)(b:sc.isCoroutine=false:=by rfl)(c:sc.isGenerator=false:=by rfl)(d:N.Nodup:=by decide +kernel)(e:N.take P.length=P:=by rfl)
  (f:∀ x∈P,sc.names.lookup x=some .local\/sc.names.lookup x=some .cell:=by decide +kernel)(g:∀ y∈sc.names,y.2≠.free:=by decide +kernel):aE N P sc:=⟨a,b,c,d,e,f,g⟩
abbrev hE:Stmt:=top 13
theorem kj:aE ["text"] ["text"] (aB hE):=cB
abbrev fU:Stmt:=top 14
theorem iS:aE ["text"] ["text"] (aB fU):=cB
abbrev og:Stmt:=top 15
theorem qg:aE ["thing"] ["thing"] (aB og):=cB
abbrev oa:Stmt:=top 16
theorem qf:aE ["thing","words"] ["thing"] (aB oa):=cB
abbrev kT:Stmt:=top 17
theorem nW:aE ["thing"] ["thing"] (aB kT):=cB
abbrev mY:Stmt:=top 18
theorem pK:aE ["thing"] ["thing"] (aB mY):=cB
abbrev kW:Stmt:=top 24
theorem nX:aE ["name"] ["name"] (aB kW):=cB
abbrev yH:Stmt:=top 25
theorem zV:aE ["lists","found","names","name"] ["lists"] (aB yH):=cB
abbrev jB:Stmt:=top 36
theorem mB:aE ["holds","words"] ["holds","words"] (aB jB):=cB
abbrev kZ:Stmt:=top 37
theorem ng:aE ["word"] ["word"] (aB kZ):=cB
abbrev oh:Stmt:=top 38
theorem qh:aE ["on"] ["on"] (aB oh):=cB
abbrev fV:Stmt:=top 39
theorem iT:aE ["kind"] ["kind"] (aB fV):=cB
abbrev uV:Stmt:=top 40
abbrev hJ:Stmt:=top 44
theorem km:aE ["sheet"] ["sheet"] (aB hJ):=cB
abbrev kX:Stmt:=top 45
theorem nY:aE ["names","words"] ["names","words"] (aB kX):=cB
abbrev eM:Stmt:=top 46
theorem gL:aE ["line","names","part"] ["line"] (aB eM):=cB
abbrev jA:Stmt:=top 47
theorem l_:aE ["sheet","found","wanted","line","name"] ["sheet","found"] (aB jA):=cB
abbrev mZ:Stmt:=top 48
theorem pL:aE ["sheet","found","line","passed","on"] ["sheet","found"] (aB mZ):=cB
abbrev kY:Stmt:=top 49
theorem nZ:aE ["sheet","line"] ["sheet"] (aB kY):=cB
abbrev jC:Stmt:=top 51
theorem gp:aE ["sheet","needs","line"] ["sheet"] (aB jC):=cB
abbrev fi:Stmt:=top 52
theorem e6:aE ["line","needs","part"] ["line"] (aB fi):=cB
abbrev i_:Stmt:=top 54
theorem l9:aE ["first"] ["first"] (aB i_):=cB
abbrev kQ:Stmt:=top 62
theorem nV:aE ["told"] ["told"] (aB kQ):=cB
abbrev md:Stmt:=top 63
theorem pM:aE ["told","inner","word"] ["told","inner"] (aB md):=cB
abbrev mf:Stmt:=top 64
theorem pN:aE ["told","inner","word"] ["told","inner"] (aB mf):=cB
abbrev hG:Stmt:=top 65
theorem kl:aE ["told"] ["told"] (aB hG):=cB
abbrev lO:Stmt:=top 66
theorem qi:aE ["told","inner"] ["told"] (aB lO):=cB
abbrev kO:Stmt:=top 68
theorem nS:aE ["_law_script","_law_k"] ["_law_script","_law_k"] (aB kO):=cB
abbrev i7:Stmt:=top 69
theorem l0:aE ["_law_cell_here","_law_k","_law_mix"] ["_law_cell_here","_law_k"] (aB i7):=cB
abbrev i8:Stmt:=top 70
theorem l4:aE ["_law_cell_here","_law_style","_law_size","_law_spot","_law_word"] ["_law_cell_here"] (aB i8):=cB
abbrev i5:Stmt:=top 71
theorem ly:aE ["_law_told"] ["_law_told"] (aB i5):=cB
abbrev kP:Stmt:=top 72
theorem nU:aE ["_law_kind","_law_seed","_law_kinds_here","_law_some"] ["_law_kind","_law_seed","_law_kinds_here"] (aB kP):=cB
abbrev i4:Stmt:=top 73
theorem lx:aE ["_law_kind","_law_seed"] ["_law_kind","_law_seed"] (aB i4):=cB
abbrev eK:Stmt:=top 74
theorem l7:aE ["_law_kind","_law_seed","_law_deep","_law_kinds_here","_law_way","_law_one","_law_truths","_law_name"] ["_law_kind","_law_seed","_law_deep","_law_kinds_here","_law_way"] (aB eK):=cB
abbrev fF:Stmt:=top 75
theorem fj:aE ["_law_kind","_law_seed","_law_deep","_law_kinds_here","_law_way","_law_sign","_law_both","_law_one","_law_truth"] ["_law_kind","_law_seed","_law_deep","_law_kinds_here"] (aB fF):=cB
abbrev et:Stmt:=top 76
theorem ki:aE ["_law_told","_law_seed","_law_kinds_here","_law_inner_here","_law_at"] ["_law_told","_law_seed","_law_kinds_here"] (aB et):=cB
abbrev i6:Stmt:=top 77
theorem lz:aE ["_law_names_here","_law_cell_here","_law_many","_law_kinds_here","_law_k"] ["_law_names_here","_law_cell_here","_law_many"] (aB i6):=cB
abbrev fh:Stmt:=top 78
theorem l5:aE ["_law_told","_law_found","_law_part","_law_own"] ["_law_told"] (aB fh):=cB
abbrev eV:Stmt:=top 79
theorem gn:aE ["_law_ons_here","_law_lines","_law_found","_law_name","_law_kind","_law_told","_law_on"] ["_law_ons_here","_law_lines"] (aB eV):=cB
abbrev g_:Stmt:=top 80
theorem kh:aE ["_law_names_here","_law_cell_here","_law_found","_law_k","_law_name"] ["_law_names_here","_law_cell_here"] (aB g_):=cB
abbrev mX:Stmt:=top 81
theorem pJ:aE ["_law_names_here","_law_kinds_here","_law_ranked_here","_law_cell_here","_law_ons_here","_law_k","_law_name","_law_some"] ["_law_names_here","_law_kinds_here","_law_ranked_here","_law_cell_here"] (aB mX):=cB
abbrev dH:Stmt:=top 82
theorem fG:aE ["_law_names_here","_law_kinds_here","_law_ranked_here","_law_ons_here","_law_script","_law_spoilt_here","_law_lines","_law_k","_law_name","_law_seed","_law_some","_law_one","_law_told"] ["_law_names_here","_law_kinds_here","_law_ranked_here","_law_ons_here","_law_script","_law_spoilt_here"] (aB dH):=cB
abbrev dJ:Stmt:=top 83
theorem fH:aE ["_law_names_here","_law_kinds_here","_law_ons_here","_law_lines","_law_inputs","_law_rows"] ["_law_names_here","_law_kinds_here","_law_ons_here","_law_lines"] (aB dJ):=cB
abbrev i3:Stmt:=top 84
theorem lu:aE ["_law_script","_law_most","_law_names_here","_law_kinds_here","_law_ranked_here","_law_ons_here","_law_lines"] ["_law_script","_law_most"] (aB i3):=cB
abbrev fT:Stmt:=top 85
theorem iR:aE ["_law_built_here"] ["_law_built_here"] (aB fT):=cB
abbrev i9:Stmt:=top 86
theorem l6:aE ["_law_found","_law_due","_law_name"] ["_law_found","_law_due"] (aB i9):=cB
abbrev kU:Stmt:=top 87
theorem DF:aE ["_law_script","_law_built_here","_law_sheet","_law_due","_law_found","_law_name"] ["_law_script"] (aB kU):=cB
abbrev cP:Stmt:=(bB (top 26)).getD 0 (.Pass ⟨0,0,0,0⟩)
theorem eu:aE ["self"] ["self"] (aB cP):=cB
abbrev aR:Stmt:=(bB (top 26)).getD 1 (.Pass ⟨0,0,0,0⟩)
theorem ae:aE ["self"] ["self"] (aB aR):=cB
abbrev bQ:Stmt:=(bB (top 26)).getD 2 (.Pass ⟨0,0,0,0⟩)
theorem nQ:aE ["self"] ["self"] (aB bQ):=cB
abbrev bG:Stmt:=(bB (top 26)).getD 3 (.Pass ⟨0,0,0,0⟩)
theorem lh:aE ["self"] ["self"] (aB bG):=cB
abbrev aY:Stmt:=(bB (top 26)).getD 4 (.Pass ⟨0,0,0,0⟩)
theorem fW:aE ["self"] ["self"] (aB aY):=cB
abbrev bH:Stmt:=(bB (top 26)).getD 5 (.Pass ⟨0,0,0,0⟩)
theorem lj:aE ["self"] ["self"] (aB bH):=cB
abbrev bX:Stmt:=(bB (top 26)).getD 6 (.Pass ⟨0,0,0,0⟩)
theorem lq:aE ["self"] ["self"] (aB bX):=cB
abbrev eR:Stmt:=(bB (top 27)).getD 0 (.Pass ⟨0,0,0,0⟩)
theorem gf:aE ["self","value"] ["self","value"] (aB eR):=cB
abbrev fb:Stmt:=(bB (top 27)).getD 2 (.Pass ⟨0,0,0,0⟩)
theorem lX:aE ["self"] ["self"] (aB fb):=cB
abbrev eT:Stmt:=(bB (top 28)).getD 0 (.Pass ⟨0,0,0,0⟩)
theorem gi:aE ["self","name"] ["self","name"] (aB eT):=cB
abbrev ck:Stmt:=(bB (top 28)).getD 1 (.Pass ⟨0,0,0,0⟩)
theorem gI:aE ["self"] ["self"] (aB ck):=cB
abbrev fe:Stmt:=(bB (top 28)).getD 4 (.Pass ⟨0,0,0,0⟩)
theorem lZ:aE ["self"] ["self"] (aB fe):=cB
abbrev eI:Stmt:=(bB (top 29)).getD 0 (.Pass ⟨0,0,0,0⟩)
theorem gK:aE ["self","part"] ["self","part"] (aB eI):=cB
abbrev eJ:Stmt:=(bB (top 29)).getD 1 (.Pass ⟨0,0,0,0⟩)
theorem jK:aE ["self"] ["self"] (aB eJ):=cB
abbrev el:Stmt:=(bB (top 29)).getD 3 (.Pass ⟨0,0,0,0⟩)
theorem kg:aE ["self"] ["self"] (aB el):=cB
abbrev fO:Stmt:=(bB (top 30)).getD 0 (.Pass ⟨0,0,0,0⟩)
theorem iM:aE ["self","sign","one","other"] ["self","sign","one","other"] (aB fO):=cB
abbrev ff:Stmt:=(bB (top 30)).getD 1 (.Pass ⟨0,0,0,0⟩)
theorem lg:aE ["self"] ["self"] (aB ff):=cB
abbrev gc:Stmt:=(bB (top 30)).getD 3 (.Pass ⟨0,0,0,0⟩)
theorem nP:aE ["self"] ["self"] (aB gc):=cB
abbrev eA:Stmt:=(bB (top 31)).getD 0 (.Pass ⟨0,0,0,0⟩)
theorem gE:aE ["self","truth","one","other"] ["self","truth","one","other"] (aB eA):=cB
abbrev eB:Stmt:=(bB (top 31)).getD 1 (.Pass ⟨0,0,0,0⟩)
theorem jH:aE ["self"] ["self"] (aB eB):=cB
abbrev ef:Stmt:=(bB (top 31)).getD 3 (.Pass ⟨0,0,0,0⟩)
theorem kb:aE ["self"] ["self"] (aB ef):=cB
abbrev dC:Stmt:=(bB (top 41)).getD 0 (.Pass ⟨0,0,0,0⟩)
theorem gh:aE ["self","name","kind","on"] ["self","name","kind","on"] (aB dC):=cB
abbrev eD:Stmt:=(bB (top 41)).getD 1 (.Pass ⟨0,0,0,0⟩)
theorem gG:aE ["self"] ["self"] (aB eD):=cB
abbrev eE:Stmt:=(bB (top 41)).getD 2 (.Pass ⟨0,0,0,0⟩)
theorem gH:aE ["self"] ["self"] (aB eE):=cB
abbrev eC:Stmt:=(bB (top 41)).getD 3 (.Pass ⟨0,0,0,0⟩)
theorem gF:aE ["self"] ["self"] (aB eC):=cB
abbrev eF:Stmt:=(bB (top 42)).getD 0 (.Pass ⟨0,0,0,0⟩)
theorem jJ:aE ["self","name","kind","part","on"] ["self","name","kind","part","on"] (aB eF):=cB
abbrev fQ:Stmt:=(bB (top 42)).getD 1 (.Pass ⟨0,0,0,0⟩)
theorem iO:aE ["self"] ["self"] (aB fQ):=cB
abbrev fR:Stmt:=(bB (top 42)).getD 2 (.Pass ⟨0,0,0,0⟩)
theorem iP:aE ["self"] ["self"] (aB fR):=cB
abbrev fP:Stmt:=(bB (top 42)).getD 3 (.Pass ⟨0,0,0,0⟩)
theorem iN:aE ["self"] ["self"] (aB fP):=cB
abbrev eU:Stmt:=(bB (top 43)).getD 0 (.Pass ⟨0,0,0,0⟩)
theorem gj:aE ["self","name","inputs","outputs","lines","found"] ["self","name","inputs","outputs","lines"] (aB eU):=cB
abbrev eG:Stmt:=(bB (top 43)).getD 1 (.Pass ⟨0,0,0,0⟩)
theorem gJ:aE ["self"] ["self"] (aB eG):=cB
abbrev g9:Stmt:=(bB (top 43)).getD 2 (.Pass ⟨0,0,0,0⟩)
theorem kc:aE ["self","found","line"] ["self"] (aB g9):=cB
abbrev cZ:Stmt:=(bB (top 43)).getD 3 (.Pass ⟨0,0,0,0⟩)
theorem eN:aE ["self","found","line","name"] ["self"] (aB cZ):=cB
abbrev cj:Stmt:=(bB (top 56)).getD 0 (.Pass ⟨0,0,0,0⟩)
theorem gD:aE ["self","part","first"] ["self","part","first"] (aB cj):=cB
abbrev d9:Stmt:=(bB (top 56)).getD 1 (.Pass ⟨0,0,0,0⟩)
theorem jF:aE ["self"] ["self"] (aB d9):=cB
abbrev d_:Stmt:=(bB (top 56)).getD 2 (.Pass ⟨0,0,0,0⟩)
theorem jG:aE ["self"] ["self"] (aB d_):=cB
abbrev ee:Stmt:=(bB (top 56)).getD 4 (.Pass ⟨0,0,0,0⟩)
theorem ka:aE ["self"] ["self"] (aB ee):=cB
abbrev gC:Stmt:=(bB (top 57)).getD 0 (.Pass ⟨0,0,0,0⟩)
theorem jI:aE ["self","head","rest"] ["self","head","rest"] (aB gC):=cB
abbrev gb:Stmt:=(bB (top 57)).getD 1 (.Pass ⟨0,0,0,0⟩)
theorem nO:aE ["self"] ["self"] (aB gb):=cB
abbrev iz:Stmt:=(bB (top 57)).getD 3 (.Pass ⟨0,0,0,0⟩)
theorem pI:aE ["self"] ["self"] (aB iz):=cB
abbrev fS:Stmt:=(bB (top 58)).getD 0 (.Pass ⟨0,0,0,0⟩)
theorem iQ:aE ["self","part","name"] ["self","part","name"] (aB fS):=cB
abbrev fg:Stmt:=(bB (top 58)).getD 1 (.Pass ⟨0,0,0,0⟩)
theorem lr:aE ["self"] ["self"] (aB fg):=cB
abbrev dD:Stmt:=(bB (top 58)).getD 2 (.Pass ⟨0,0,0,0⟩)
theorem gm:aE ["self"] ["self"] (aB dD):=cB
abbrev gd:Stmt:=(bB (top 58)).getD 5 (.Pass ⟨0,0,0,0⟩)
theorem nR:aE ["self"] ["self"] (aB gd):=cB
abbrev dR:Stmt:=(bB (top 59)).getD 0 (.Pass ⟨0,0,0,0⟩)
theorem iL:aE ["self","part","name","first"] ["self","part","name","first"] (aB dR):=cB
abbrev fc:Stmt:=(bB (top 59)).getD 1 (.Pass ⟨0,0,0,0⟩)
theorem lY:aE ["self"] ["self"] (aB fc):=cB
abbrev dB:Stmt:=(bB (top 59)).getD 2 (.Pass ⟨0,0,0,0⟩)
theorem gg:aE ["self"] ["self"] (aB dB):=cB
abbrev gZ:Stmt:=(bB (top 59)).getD 5 (.Pass ⟨0,0,0,0⟩)
theorem nN:aE ["self"] ["self"] (aB gZ):=cB
inductive Pt where
 | given (v:D)|named (n:Str)|turned (p:Pt)|pair (g:Str) (a b:Pt)|choice (t a b:Pt)
 | before (p:Pt) (f:D)|led (h r:Pt)|cI (p:Pt) (n:Str)|held (p:Pt) (n:Str) (f:D)
structure bO where
 given:Addr
 named:Addr
 turned:Addr
 pair:Addr
 choice:Addr
 before:Addr
 led:Addr
 cI:Addr
 held:Addr
def Pt.cls (A:bO):Pt->Addr
 | .given _=>A.given|.named _=>A.named|.turned _=>A.turned|.pair _ _ _=>A.pair|.choice _ _ _=>A.choice
 | .before _ _=>A.before|.led _ _=>A.led|.cI _ _=>A.cI|.held _ _ _=>A.held
def Pt.d (A:bO):Pt->D
 | .given v=>.obj A.given [("value",v)]
 | .named n=>.obj A.named [("name",.str n)]
 | .turned p=>.obj A.turned [("part",p.d A)]
 | .pair g a b=>.obj A.pair [("sign",.str g),("one",a.d A),("other",b.d A)]
 | .choice t a b=>.obj A.choice [("truth",t.d A),("one",a.d A),("other",b.d A)]
 | .before p f=>.obj A.before [("part",p.d A),("first",f)]
 | .led h r=>.obj A.led [("head",h.d A),("rest",r.d A)]
 | .cI p n=>.obj A.cI [("part",p.d A),("name",.str n)]
 | .held p n f=>.obj A.held [("part",p.d A),("name",.str n),("first",f)]
def Pt.depth:Pt->Nat
 | .given _=>1|.named _=>1|.turned p=>p.depth+1|.pair _ a b=>max a.depth b.depth+1|.choice t a b=>max t.depth (max a.depth b.depth)+1
 | .before p _=>p.depth+1|.led h r=>max h.depth r.depth+1|.cI p _=>p.depth+1|.held p _ _=>p.depth+1
def Pt.inner:Pt->List Pt
 | .given _=>[]|.named _=>[]|.turned p=>[p]|.pair _ a b=>[a,b]|.choice t a b=>[t,a,b]
 | .before p _=>[p]|.led h r=>[h,r]|.cI p _=>[p]|.held p _ _=>[p]
def Pt.told:Pt->D
 | .given v=>.tup [.str "given",v]
 | .named n=>.tup [.str "named",.str n]
 | .turned p=>.tup [.str "not",p.told]
 | .pair g a b=>.tup [.str g,a.told,b.told]
 | .choice t a b=>.tup [.str "if",t.told,a.told,b.told]
 | .before p f=>.tup [.str "before",p.told,f]
 | .led h r=>.tup [.str "then",h.told,r.told]
 | .cI p n=>.tup [.str "when",p.told,.str n]
 | .held p n f=>.tup [.str "held",p.told,.str n,f]
structure eX (K:PySem.W.Frag) (A:bO):Prop where
 nd:[A.given,A.named,A.turned,A.pair,A.choice,A.before,A.led,A.cI,A.held].Nodup
 cl:∀ C∈[A.given,A.named,A.turned,A.pair,A.choice,A.before,A.led,A.cI,A.held],q_ K C
 fD:∀ C∈[A.given,A.named,A.turned,A.pair,A.choice,A.before,A.led,A.cI,A.held],∀ f∈(["value","name","part","sign","one","other","truth","first","head","rest"]:List Str),cq K C f
theorem Pt.aQ (A:bO)(p:Pt):p.cls A∈[A.given,A.named,A.turned,A.pair,A.choice,A.before,A.led,A.cI,A.held]:=by cases p<;>simp [Pt.cls]
def Pt.ix:Pt->Nat
 | .given _=>0|.named _=>1|.turned _=>2|.pair _ _ _=>3|.choice _ _ _=>4|.before _ _=>5|.led _ _=>6|.cI _ _=>7|.held _ _ _=>8
theorem Pt.at_ (A:bO)(p:Pt):[A.given,A.named,A.turned,A.pair,A.choice,A.before,A.led,A.cI,A.held][p.ix]?=some (p.cls A):=by cases p<;>rfl
theorem iG {α:Type}:∀{l:List α} {i j:Nat} {x:α},l.Nodup->l[i]?=some x->l[j]?=some x->i=j:=fun{l i j x} nd a b=>by
 have hi:i<l.length:=(List.getElem?_eq_some_iff.mp a).1
 exact(List.getElem?_inj hi nd).mp (a.trans b.symm)
theorem ib {K:PySem.W.Frag}{A:bO}(hA:eX K A){p q:Pt}(h:p.cls A=q.cls A):p.ix=q.ix:=iG hA.nd (p.at_ A) (by rw [h];exact q.at_ A)
theorem qR {K:PySem.W.Frag}{A:bO}(hA:eX K A){p:Pt}(h:p.cls A=A.given):∃ v,p=.given v:=by
 have i:=ib hA (q:=.given .aj) h
 cases p with
 | given v=>exact⟨v,rfl⟩
 | _=>exact absurd i (by simp only [Pt.ix];decide)
theorem qS {K:PySem.W.Frag}{A:bO}(hA:eX K A){p:Pt}(h:p.cls A=A.named):∃ n,p=.named n:=by
 have i:=ib hA (q:=.named "") h
 cases p with
 | named n=>exact⟨n,rfl⟩
 | _=>exact absurd i (by simp only [Pt.ix];decide)
theorem oK {K:PySem.W.Frag}{A:bO}(hA:eX K A){p:Pt}(h:p.cls A=A.turned):∃ x,p=.turned x:=by
 have i:=ib hA (q:=.turned (.given .aj)) h
 cases p with
 | turned x=>exact⟨x,rfl⟩
 | _=>exact absurd i (by simp only [Pt.ix];decide)
theorem tY {K:PySem.W.Frag}{A:bO}(hA:eX K A){p:Pt}(h:p.cls A=A.pair):∃ g x y,p=.pair g x y:=by
 have i:=ib hA (q:=.pair "" (.given .aj) (.given .aj)) h
 cases p with
 | pair g x y=>exact⟨g,x,y,rfl⟩
 | _=>exact absurd i (by simp only [Pt.ix];decide)
theorem oJ {K:PySem.W.Frag}{A:bO}(hA:eX K A){p:Pt}(h:p.cls A=A.choice):∃ t x y,p=.choice t x y:=by
 have i:=ib hA (q:=.choice (.given .aj) (.given .aj) (.given .aj)) h
 cases p with
 | choice t x y=>exact⟨t,x,y,rfl⟩
 | _=>exact absurd i (by simp only [Pt.ix];decide)
theorem lD {K:PySem.W.Frag}{A:bO}(hA:eX K A){p:Pt}(h:p.cls A=A.before):∃ x f,p=.before x f:=by
 have i:=ib hA (q:=.before (.given .aj) .aj) h
 cases p with
 | before x f=>exact⟨x,f,rfl⟩
 | _=>exact absurd i (by simp only [Pt.ix];decide)
theorem xT {K:PySem.W.Frag}{A:bO}(hA:eX K A){p:Pt}(h:p.cls A=A.led):∃ x y,p=.led x y:=by
 have i:=ib hA (q:=.led (.given .aj) (.given .aj)) h
 cases p with
 | led x y=>exact⟨x,y,rfl⟩
 | _=>exact absurd i (by simp only [Pt.ix];decide)
theorem xV {K:PySem.W.Frag}{A:bO}(hA:eX K A){p:Pt}(h:p.cls A=A.cI):∃ x n,p=.cI x n:=by
 have i:=ib hA (q:=.cI (.given .aj) "") h
 cases p with
 | cI x n=>exact⟨x,n,rfl⟩
 | _=>exact absurd i (by simp only [Pt.ix];decide)
theorem tX {K:PySem.W.Frag}{A:bO}(hA:eX K A){p:Pt}(h:p.cls A=A.held):∃ x n f,p=.held x n f:=by
 have i:=ib hA (q:=.held (.given .aj) "" .aj) h
 cases p with
 | held x n f=>exact⟨x,n,f,rfl⟩
 | _=>exact absurd i (by simp only [Pt.ix];decide)
def mC (A:bO)(n:Nat)(g:Pt->D)(C:Addr):cL:=fun ds Q=>∃ p:Pt,ds=[p.d A]/\p.cls A=C/\p.depth<=n/\Q (g p)
theorem ij {A:bO}{n:Nat}{g:Pt->D}{C:Addr}:cQ (mC A n g C):=fun ds P P' f ⟨p,e,c,h,q⟩=>⟨p,e,c,h,f _ q⟩
theorem m_ {A:bO}{n:Nat}{g:Pt->D}{C:Addr}(ds:List D)(Q:D->Prop)(h:mC A n g C ds Q):ds.length=1:=by obtain⟨p,e,_⟩:=h;rw [e];rfl
def uu (A:bO)(C:Addr):Prop:=∃ p:Pt,p.cls A=C
def uI (m:Str):Prop:=∀ f∈(["value","name","part","sign","one","other","truth","first","head","rest"]:List Str),(m == f)=false
theorem nG (A:bO){m:Str}(h:uI m)(p:Pt):∃ gs,p.d A=.obj (p.cls A) gs/\gs.lookup m=none:=by
 have l:∀{f:Str} {d:D} {r:List (Str × D)},f∈(["value","name","part","sign","one","other","truth","first","head","rest"]:List Str)->r.lookup m=none->((f,d)::r).lookup m=none:=fun hf hr=>by
  rw [List.lookup_cons,h _ hf]
  exact hr
 cases p<;>refine⟨_,rfl,?_⟩<;>repeat (first|rfl|refine l (by decide) ?_)
theorem aV {K:PySem.W.Frag}{δ:SD}{i:Nat}{C:Addr}{gs:List (Str × D)}{f:Str}{r:D}{Q:D->Prop}(h:δ[i]?=some (some (.obj C gs)))(c:q_ K C)(n:cq K C f)(l:gs.lookup f=some r)(q:Q r):GN K (ny i) f δ Q:=⟨_,h,C,gs,r,rfl,c,n,l,q⟩
theorem jE {K:PySem.W.Frag}{i:Nat}{f:Str}:bV (GN K (ny i) f):=fun δ P P' g ⟨d,h,C,gs,r,ed,hc,hn,hl,k⟩=>⟨d,h,C,gs,r,ed,hc,hn,hl,g _ k⟩
theorem bJ {A:bO}{n:Nat}{g:Pt->D}{m:Str}{ta:ED}{δ:SD}{p:Pt}{Q:D->Prop}(mt:bV ta)(hm:uI m)(h:ta δ fun d=>d=p.d A)(hd:p.depth<=n)(q:Q (g p)) :
  pP (uu A) m (mC A n g) [] ta sq δ Q:=mt _ _ _ (fun d e=>by
 obtain⟨gs,e1,e2⟩:=nG A hm p
 exact⟨p.cls A,gs,e.trans e1,e2,⟨p,rfl⟩,p,by rw [List.append_nil,e],rfl,hd,q⟩) h
theorem cV:uI "told":=by unfold uI;decide +kernel
theorem lI:uI "inner":=by unfold uI;decide +kernel
def isVal (d:D):Prop:=(∃ b,d=.bl b)\/∃ i:Int,d=.int i/\-128<=i/\i<=127
def dP (d:D):Prop:=d=.aj\/isVal d
def Lx (A:bO)(n:Nat)(ok:Pt->Prop)(g:Pt->D)(C:Addr):cL:=fun ds Q=>∃ p:Pt,ds=[p.d A]/\p.cls A=C/\p.depth<=n/\ok p/\Q (g p)
theorem NY {A:bO}{n:Nat}{ok:Pt->Prop}{g:Pt->D}{C:Addr}:cQ (Lx A n ok g C):=fun ds P P' f ⟨p,e,c,h,o,q⟩=>⟨p,e,c,h,o,f _ q⟩
theorem N1 {A:bO}{n:Nat}{ok:Pt->Prop}{g:Pt->D}{C:Addr}(ds:List D)(Q:D->Prop)(h:Lx A n ok g C ds Q):ds.length=1:=by obtain⟨p,e,_⟩:=h;rw [e];rfl
theorem dE {A:bO}{n:Nat}{ok:Pt->Prop}{g:Pt->D}{m:Str}{ta:ED}{δ:SD}{p:Pt}{Q:D->Prop}(mt:bV ta)(hm:uI m)(h:ta δ fun d=>d=p.d A)(hd:p.depth<=n)(ho:ok p)(q:Q (g p)) :
  pP (uu A) m (Lx A n ok g) [] ta sq δ Q:=mt _ _ _ (fun d e=>by
 obtain⟨gs,e1,e2⟩:=nG A hm p
 exact⟨p.cls A,gs,e.trans e1,e2,⟨p,rfl⟩,p,by rw [List.append_nil,e],rfl,hd,ho,q⟩) h
abbrev MQ (P:Program)(w:World)(K:PySem.W.Frag)(mg:Str->Option Value)(base:Heap)(A:bO)(j:Nat)(m:Str)(n:Nat)(ok:Pt->Prop)(g:Pt->D):Prop:=∀ C,uu A C->bY P w K mg base j C m (Lx A n ok g C) []
section
seal wpAny
variable {P:Program}{w:World}{K:PySem.W.Frag}{mg:Str->Option Value}{base:Heap}{A:bO}{n j:Nat}
abbrev MP (P:Program)(w:World)(K:PySem.W.Frag)(mg:Str->Option Value)(base:Heap)(A:bO)(j:Nat)(m:Str)(n:Nat)(g:Pt->D):Prop:=∀ C,uu A C->bY P w K mg base j C m (mC A n g C) []
theorem yP (hA:eX K A)(d:Dm K A.given "told" "Given.told" fb ["self"]):bY P w K mg base (j+1) A.given "told" (mC A (n+1) Pt.told A.given) []:=by
 refine d.cp lX ij m_ (fun f cdv A outer s H E hr=>have hu:=hr.units;have hh:=hr.hd;have sc:=lX
  (aF (aP (bT (aA aZ (aA (aT K rfl (dv 0) (by rfl)) aC)))))) ?_
 rintro ds Q ⟨p,rfl,hc,hd,q⟩
 have c:=hA.cl _ (Pt.aQ A p)
 have no:=hA.fD _ (Pt.aQ A p)
 obtain⟨v,rfl⟩:=qR hA hc
 exact aV rfl c (no _ (by decide)) (by kernel_rfl) ⟨zL2,q⟩
theorem wg (hA:eX K A)(d:Dm K A.turned "told" "Turned.told" el ["self"])(m_told:MP P w K mg base A j "told" n Pt.told):bY P w K mg base (j+1) A.turned "told" (mC A (n+1) Pt.told A.turned) []:=by
 refine d.cp kg ij m_ (fun f cdv A outer s H E hr=>have hu:=hr.units;have hh:=hr.hd;have sc:=kg
  (aF (aP (bT (aA aZ (aA (cE m_told hr (by omega) (aT K rfl (dv 0) (by rfl))) aC)))))) ?_
 rintro ds Q ⟨p,rfl,hc,hd,q⟩
 have c:=hA.cl _ (Pt.aQ A p)
 have no:=hA.fD _ (Pt.aQ A p)
 obtain⟨a,rfl⟩:=oK hA hc
 exact bJ jE cV (aV rfl c (no _ (by decide)) (by kernel_rfl) rfl) (by simp only [Pt.depth] at hd;omega) ⟨zL2,q⟩
theorem A3 (hA:eX K A)(d:Dm K A.pair "told" "Pair.told" gc ["self"])(m_told:MP P w K mg base A j "told" n Pt.told):bY P w K mg base (j+1) A.pair "told" (mC A (n+1) Pt.told A.pair) []:=by
 refine d.cp nP ij m_ (fun f cdv A outer s H E hr=>have hu:=hr.units;have hh:=hr.hd;have sc:=nP
  (aF (aP (bT (aA (aT K rfl (dv 0) (by rfl)) (aA (cE m_told hr (by omega) (aT K rfl (dv 0) (by rfl))) (aA (cE m_told hr (by omega) (aT K rfl (dv 0) (by rfl))) aC))))))) ?_
 rintro ds Q ⟨p,rfl,hc,hd,q⟩
 have c:=hA.cl _ (Pt.aQ A p)
 have no:=hA.fD _ (Pt.aQ A p)
 obtain⟨g,a,b,rfl⟩:=tY hA hc
 simp only [Pt.depth] at hd
 exact aV rfl c (no _ (by decide)) (by kernel_rfl) (bJ jE cV (aV rfl c (no _ (by decide)) (by kernel_rfl) rfl) (by omega)
  (bJ jE cV (aV rfl c (no _ (by decide)) (by kernel_rfl) rfl) (by omega) ⟨zL3,q⟩))
theorem yQ (hA:eX K A)(d:Dm K A.named "told" "Named.told" fe ["self"]):bY P w K mg base (j+1) A.named "told" (mC A (n+1) Pt.told A.named) []:=by
 refine d.cp lZ ij m_ (fun f cdv A outer s H E hr=>have hu:=hr.units;have hh:=hr.hd;have sc:=lZ
  (aF (aP (bT (aA aZ (aA (aT K rfl (dv 0) (by rfl)) aC)))))) ?_
 rintro ds Q ⟨p,rfl,hc,hd,q⟩
 have c:=hA.cl _ (Pt.aQ A p)
 have no:=hA.fD _ (Pt.aQ A p)
 obtain⟨s,rfl⟩:=qS hA hc
 simp only [Pt.depth] at hd
 exact(aV rfl c (no _ (by decide)) (by kernel_rfl) ⟨zL2,q⟩)
theorem we (hA:eX K A)(d:Dm K A.choice "told" "Choice.told" ef ["self"])(m_told:MP P w K mg base A j "told" n Pt.told):bY P w K mg base (j+1) A.choice "told" (mC A (n+1) Pt.told A.choice) []:=by
 refine d.cp kb ij m_ (fun f cdv A outer s H E hr=>have hu:=hr.units;have hh:=hr.hd;have sc:=kb
  (aF (aP (bT (aA aZ (aA (cE m_told hr (by omega) (aT K rfl (dv 0) (by rfl))) (aA (cE m_told hr (by omega) (aT K rfl (dv 0) (by rfl))) (aA (cE m_told hr (by omega) (aT K rfl (dv 0) (by rfl))) aC)))))))) ?_
 rintro ds Q ⟨p,rfl,hc,hd,q⟩
 have c:=hA.cl _ (Pt.aQ A p)
 have no:=hA.fD _ (Pt.aQ A p)
 obtain⟨x,y,z,rfl⟩:=oJ hA hc
 simp only [Pt.depth] at hd
 exact(bJ jE cV (aV rfl c (no _ (by decide)) (by kernel_rfl) rfl) (by omega) (bJ jE cV (aV rfl c (no _ (by decide)) (by kernel_rfl) rfl) (by omega) (bJ jE cV (aV rfl c (no _ (by decide)) (by kernel_rfl) rfl) (by omega) ⟨zL4,q⟩)))
theorem wc (hA:eX K A)(d:Dm K A.before "told" "Before.told" ee ["self"])(m_told:MP P w K mg base A j "told" n Pt.told):bY P w K mg base (j+1) A.before "told" (mC A (n+1) Pt.told A.before) []:=by
 refine d.cp ka ij m_ (fun f cdv A outer s H E hr=>have hu:=hr.units;have hh:=hr.hd;have sc:=ka
  (aF (aP (bT (aA aZ (aA (cE m_told hr (by omega) (aT K rfl (dv 0) (by rfl))) (aA (aT K rfl (dv 0) (by rfl)) aC))))))) ?_
 rintro ds Q ⟨p,rfl,hc,hd,q⟩
 have c:=hA.cl _ (Pt.aQ A p)
 have no:=hA.fD _ (Pt.aQ A p)
 obtain⟨a,f,rfl⟩:=lD hA hc
 simp only [Pt.depth] at hd
 exact(bJ jE cV (aV rfl c (no _ (by decide)) (by kernel_rfl) rfl) (by omega) (aV rfl c (no _ (by decide)) (by kernel_rfl) ⟨zL3,q⟩))
theorem DY (hA:eX K A)(d:Dm K A.led "told" "Led.told" iz ["self"])(m_told:MP P w K mg base A j "told" n Pt.told):bY P w K mg base (j+1) A.led "told" (mC A (n+1) Pt.told A.led) []:=by
 refine d.cp pI ij m_ (fun f cdv A outer s H E hr=>have hu:=hr.units;have hh:=hr.hd;have sc:=pI
  (aF (aP (bT (aA aZ (aA (cE m_told hr (by omega) (aT K rfl (dv 0) (by rfl))) (aA (cE m_told hr (by omega) (aT K rfl (dv 0) (by rfl))) aC))))))) ?_
 rintro ds Q ⟨p,rfl,hc,hd,q⟩
 have c:=hA.cl _ (Pt.aQ A p)
 have no:=hA.fD _ (Pt.aQ A p)
 obtain⟨x,y,rfl⟩:=xT hA hc
 simp only [Pt.depth] at hd
 exact(bJ jE cV (aV rfl c (no _ (by decide)) (by kernel_rfl) rfl) (by omega) (bJ jE cV (aV rfl c (no _ (by decide)) (by kernel_rfl) rfl) (by omega) ⟨zL3,q⟩))
theorem DZ (hA:eX K A)(d:Dm K A.cI "told" "When.told" gd ["self"])(m_told:MP P w K mg base A j "told" n Pt.told):bY P w K mg base (j+1) A.cI "told" (mC A (n+1) Pt.told A.cI) []:=by
 refine d.cp nR ij m_ (fun f cdv A outer s H E hr=>have hu:=hr.units;have hh:=hr.hd;have sc:=nR
  (aF (aP (bT (aA aZ (aA (cE m_told hr (by omega) (aT K rfl (dv 0) (by rfl))) (aA (aT K rfl (dv 0) (by rfl)) aC))))))) ?_
 rintro ds Q ⟨p,rfl,hc,hd,q⟩
 have c:=hA.cl _ (Pt.aQ A p)
 have no:=hA.fD _ (Pt.aQ A p)
 obtain⟨a,s,rfl⟩:=xV hA hc
 simp only [Pt.depth] at hd
 exact(bJ jE cV (aV rfl c (no _ (by decide)) (by kernel_rfl) rfl) (by omega) (aV rfl c (no _ (by decide)) (by kernel_rfl) ⟨zL3,q⟩))
theorem A1 (hA:eX K A)(d:Dm K A.held "told" "Held.told" gZ ["self"])(m_told:MP P w K mg base A j "told" n Pt.told):bY P w K mg base (j+1) A.held "told" (mC A (n+1) Pt.told A.held) []:=by
 refine d.cp nN ij m_ (fun f cdv A outer s H E hr=>have hu:=hr.units;have hh:=hr.hd;have sc:=nN
  (aF (aP (bT (aA aZ (aA (cE m_told hr (by omega) (aT K rfl (dv 0) (by rfl))) (aA (aT K rfl (dv 0) (by rfl)) (aA (aT K rfl (dv 0) (by rfl)) aC)))))))) ?_
 rintro ds Q ⟨p,rfl,hc,hd,q⟩
 have c:=hA.cl _ (Pt.aQ A p)
 have no:=hA.fD _ (Pt.aQ A p)
 obtain⟨a,s,f,rfl⟩:=tX hA hc
 simp only [Pt.depth] at hd
 exact(bJ jE cV (aV rfl c (no _ (by decide)) (by kernel_rfl) rfl) (by omega) (aV rfl c (no _ (by decide)) (by kernel_rfl) (aV rfl c (no _ (by decide)) (by kernel_rfl) ⟨zL4,q⟩)))
structure GS (K:PySem.W.Frag) (A:bO):Prop where
 given:Dm K A.given "told" "Given.told" fb ["self"]
 named:Dm K A.named "told" "Named.told" fe ["self"]
 turned:Dm K A.turned "told" "Turned.told" el ["self"]
 pair:Dm K A.pair "told" "Pair.told" gc ["self"]
 choice:Dm K A.choice "told" "Choice.told" ef ["self"]
 before:Dm K A.before "told" "Before.told" ee ["self"]
 led:Dm K A.led "told" "Led.told" iz ["self"]
 cI:Dm K A.cI "told" "When.told" gd ["self"]
 held:Dm K A.held "told" "Held.told" gZ ["self"]
theorem Pt.fk (p:Pt):0<p.depth:=by cases p<;>simp only [Pt.depth]<;>omega
theorem Dm.never {C:Addr}{m qual:Str}{st:Stmt}{ps:List Str}{sd:cL}(d:Dm K C m qual st ps)(ms:cQ sd)(h:∀ ds Q,¬sd ds Q):bY P w K mg base j C m sd []:=by
 obtain⟨f,fd,F,M,c,b⟩:=d.ex
 exact⟨⟨f,fd,ps,[],[],c,M,⟨fun vs H Q E ⟨ds,_,q⟩=>(h _ _ q).elim,fun A outer s H args us vs Q E _ _ _ _ ⟨ds,_,q⟩=>(h _ _ q).elim⟩,b,.nil,fun _=>.nil⟩,ms⟩
theorem hU {g:Pt->D}{C:Addr}(ds:List D)(Q:D->Prop):¬ mC A 0 g C ds Q:=fun⟨p,_,_,h,_⟩=>absurd p.fk (by omega)
theorem wb (hA:eX K A)(d:GS K A):∀ n,MP P w K mg base A n "told" n Pt.told
 | 0=>fun C ⟨p,e⟩=>by
  subst e
  cases p
  ·exact Dm.never d.given ij hU
  ·exact Dm.never d.named ij hU
  ·exact Dm.never d.turned ij hU
  ·exact Dm.never d.pair ij hU
  ·exact Dm.never d.choice ij hU
  ·exact Dm.never d.before ij hU
  ·exact Dm.never d.led ij hU
  ·exact Dm.never d.cI ij hU
  ·exact Dm.never d.held ij hU
 | n+1=>fun C ⟨p,e⟩=>by
  have ih:=wb hA d n
  subst e
  cases p
  ·exact yP hA d.given
  ·exact yQ hA d.named
  ·exact wg hA d.turned ih
  ·exact A3 hA d.pair ih
  ·exact we hA d.choice ih
  ·exact wc hA d.before ih
  ·exact DY hA d.led ih
  ·exact DZ hA d.cI ih
  ·exact A1 hA d.held ih
mutual
def Pt.size:Pt->Nat
 | .given _=>1|.named _=>1|.turned p=>p.size+1|.pair _ a b=>a.size+b.size+1|.choice t a b=>t.size+a.size+b.size+1
 | .before p _=>p.size+1|.led h r=>h.size+r.size+1|.cI p _=>p.size+1|.held p _ _=>p.size+1
end
theorem Pt.size_inner (p:Pt):(p.size:Int)=1+(p.inner.map fun q=>(q.size:Int)).sum:=by
 cases p<;>simp only [Pt.size,Pt.inner,List.map_cons,List.map_nil,List.sum_cons,List.sum_nil]<;>omega
theorem Pt.vQ (p:Pt):(p.depth:Int)=1+rF 0 (p.inner.map fun q=>(q.depth:Int)):=by
 cases p<;>simp only [Pt.depth,Pt.inner,List.map_cons,List.map_nil,rF,List.foldl_cons,List.foldl_nil]<;>omega
theorem Pt.d7 {p q:Pt}(h:q∈p.inner){n:Nat}(hd:p.depth<=n+1):q.depth<=n:=by
 cases p<;>simp only [Pt.inner,Pt.depth,List.mem_cons,List.not_mem_nil,or_false] at h hd
 case turned=>subst h;omega
 case pair=>rcases h with rfl|rfl<;>omega
 case choice=>rcases h with rfl|rfl|rfl<;>omega
 case before=>subst h;omega
 case led=>rcases h with rfl|rfl<;>omega
 case cI=>subst h;omega
 case held=>subst h;omega
theorem Pt.df (p:Pt):p.inner.length<=3:=by cases p<;>simp [Pt.inner]
def d5 (A:bO)(p:Pt):D:=.tup (p.inner.map (Pt.d A))
theorem wA:uI "size":=by unfold uI;decide +kernel
theorem rm:uI "depth":=by unfold uI;decide +kernel
theorem bu {i:Nat}:bV (ny i):=fun δ P P' f ⟨d,hd,k⟩=>⟨d,hd,f d k⟩
theorem m9 {A:bO}{g:Pt->D}{ps:List Pt}{i:Nat}{d:D}{o:Option D}(h1:(ps.map (Pt.d A))[i]?=some d)(h2:(ps.map fun q=>some (g q))[i]?=some o):∃ q∈ps,q.d A=d/\some (g q)=o:=by
 rw [List.getElem?_map] at h1 h2
 cases e:ps[i]? with
 | none=>rw [e] at h1;cases h1
 | some q =>
  rw [e] at h1 h2
  exact⟨q,List.mem_of_getElem? e,by simpa using h1,by simpa using h2⟩
theorem filterMap_some {α β:Type}(f:α->β):∀ l:List α,l.filterMap (id∘fun q=>some (f q))=l.map f
 | []=>rfl
 | a::l=>by rw [List.map_cons,<- filterMap_some f l];rfl
theorem size_of (d:∀ C,uu A C->Dm K C "size" "Part.size" bQ ["self"])(n_sum:mg "sum"=none)(m_inner:MP P w K mg base A j "inner" (n+1) (d5 A))(m_size:MP P w K mg base A j "size" n fun p=>.int p.size):MP P w K mg base A (j+1) "size" (n+1) fun p=>.int p.size:=by
 intro C hC
 refine(d C hC).cp nQ ij m_ (fun f cdv A outer s H E hr=>have hu:=hr.units;have hh:=hr.hd;have sc:=nQ
  (aF (aP (cA aD (J7 hh (by rfl) n_sum (aA (mN (x:="part") (caps:=[]) (cn:=[]) (cl:=[]) (h_ (by rfl) (by rfl) (by decide +kernel) (by decide +kernel) (by decide +kernel)) rfl (br (cE m_inner hr (by omega) (dv 0))) (fun C fp s₂ H₂=>bF (i:=0) (show(["part"]:List Str).Nodup by decide +kernel) rfl (Or.inl rfl) (.inr rfl)) (fun C fp s₂ H₂=>dX) (fun C fp s₂ H₂=>(cE m_size hr (by omega) (dv 0)))) aC)))))) ?_
 rintro ds Q ⟨p,rfl,hc,hd,q⟩
 refine bJ bu lI ⟨_,rfl,rfl⟩ hd ?_
 refine⟨p.inner.map (Pt.d A),rfl,p.inner.map fun q=>some (.int q.size),by simp,fun i d o hd' ho=>?_,?_,?_⟩
 ·obtain⟨r,hr,e1,e2⟩:=m9 hd' ho
  subst e1 e2
  exact⟨rfl,fun _=>bJ bu wA ⟨_,rfl,rfl⟩ (p.d7 hr hd) rfl⟩
 ·rw [List.length_map];exact Nat.lt_of_le_of_lt p.df (by decide)
 ·refine⟨p.inner.map fun q=>(q.size:Int),?_,?_⟩
  ·rw [List.filterMap_map,List.map_map]
   congr 2
   exact filterMap_some _ _
  ·have q':Q (.int (p.size:Int)):=q
   rw [Pt.size_inner] at q'
   exact q'
theorem Bq (d:∀ C,uu A C->Dm K C "depth" "Part.depth" bG ["self"])(n_max:mg "max"=none)(m_inner:MP P w K mg base A j "inner" (n+1) (d5 A))(m_depth:MP P w K mg base A j "depth" n fun p=>.int p.depth):MP P w K mg base A (j+1) "depth" (n+1) fun p=>.int p.depth:=by
 intro C hC
 refine(d C hC).cp lh ij m_ (fun f cdv A outer s H E hr=>have hu:=hr.units;have hh:=hr.hd;have sc:=lh
  (aF (aP (cA aD (Hf hh (by rfl) n_max (mN (x:="part") (caps:=[]) (cn:=[]) (cl:=[]) (h_ (by rfl) (by rfl) (by decide +kernel) (by decide +kernel) (by decide +kernel)) rfl (br (cE m_inner hr (by omega) (dv 0))) (fun C fp s₂ H₂=>bF (i:=0) (show(["part"]:List Str).Nodup by decide +kernel) rfl (Or.inl rfl) (.inr rfl)) (fun C fp s₂ H₂=>dX) (fun C fp s₂ H₂=>(cE m_depth hr (by omega) (dv 0)))) aD))))) ?_
 rintro ds Q ⟨p,rfl,hc,hd,q⟩
 refine bJ bu lI ⟨_,rfl,rfl⟩ hd ?_
 refine⟨p.inner.map (Pt.d A),rfl,p.inner.map fun q=>some (.int q.depth),by simp,fun i d o hd' ho=>?_,?_,?_⟩
 ·obtain⟨r,hr,e1,e2⟩:=m9 hd' ho
  subst e1 e2
  exact⟨rfl,fun _=>bJ bu rm ⟨_,rfl,rfl⟩ (p.d7 hr hd) rfl⟩
 ·rw [List.length_map];exact Nat.lt_of_le_of_lt p.df (by decide)
 ·refine⟨p.inner.map fun q=>(q.depth:Int),0,?_,rfl,?_⟩
  ·rw [List.filterMap_map,List.map_map]
   congr 1
   exact filterMap_some _ _
  ·have q':Q (.int (p.depth:Int)):=q
   rw [Pt.vQ] at q'
   exact q'
theorem Pt.tT {p q:Pt}(h:q∈p.inner):q.size<=p.size:=by
 cases p<;>simp only [Pt.inner,Pt.size,List.mem_cons,List.not_mem_nil,or_false] at h ⊢
 case turned=>subst h;omega
 case pair=>rcases h with rfl|rfl<;>omega
 case choice=>rcases h with rfl|rfl|rfl<;>omega
 case before=>subst h;omega
 case led=>rcases h with rfl|rfl<;>omega
 case cI=>subst h;omega
 case held=>subst h;omega
structure n0 (K:PySem.W.Frag) (A:bO):Prop where
 given:Dm K A.given "inner" "Part.inner" cP ["self"]
 named:Dm K A.named "inner" "Part.inner" cP ["self"]
 turned:Dm K A.turned "inner" "Turned.inner" eJ ["self"]
 pair:Dm K A.pair "inner" "Pair.inner" ff ["self"]
 choice:Dm K A.choice "inner" "Choice.inner" eB ["self"]
 before:Dm K A.before "inner" "Before.inner" d9 ["self"]
 led:Dm K A.led "inner" "Led.inner" gb ["self"]
 cI:Dm K A.cI "inner" "When.inner" fg ["self"]
 held:Dm K A.held "inner" "Held.inner" fc ["self"]
theorem ve (hA:eX K A)(d:Dm K A.given "inner" "Part.inner" cP ["self"]):bY P w K mg base (j+1) A.given "inner" (mC A n (d5 A) A.given) []:=by
 refine d.cp eu ij m_ (fun f cdv A outer s H E hr=>have hu:=hr.units;have hh:=hr.hd;have sc:=eu
  (aF (aP (bT aC)))) ?_
 rintro ds Q ⟨p,rfl,hc,hd,q⟩
 have c:=hA.cl _ (Pt.aQ A p)
 have no:=hA.fD _ (Pt.aQ A p)
 obtain⟨v,rfl⟩:=qR hA hc
 exact⟨zL0,q⟩
theorem vg (hA:eX K A)(d:Dm K A.named "inner" "Part.inner" cP ["self"]):bY P w K mg base (j+1) A.named "inner" (mC A n (d5 A) A.named) []:=by
 refine d.cp eu ij m_ (fun f cdv A outer s H E hr=>have hu:=hr.units;have hh:=hr.hd;have sc:=eu
  (aF (aP (bT aC)))) ?_
 rintro ds Q ⟨p,rfl,hc,hd,q⟩
 have c:=hA.cl _ (Pt.aQ A p)
 have no:=hA.fD _ (Pt.aQ A p)
 obtain⟨s,rfl⟩:=qS hA hc
 exact⟨zL0,q⟩
theorem tW (hA:eX K A)(d:Dm K A.turned "inner" "Turned.inner" eJ ["self"]):bY P w K mg base (j+1) A.turned "inner" (mC A n (d5 A) A.turned) []:=by
 refine d.cp jK ij m_ (fun f cdv A outer s H E hr=>have hu:=hr.units;have hh:=hr.hd;have sc:=jK
  (aF (aP (bT (aA (aT K rfl (dv 0) (by rfl)) aC))))) ?_
 rintro ds Q ⟨p,rfl,hc,hd,q⟩
 have c:=hA.cl _ (Pt.aQ A p)
 have no:=hA.fD _ (Pt.aQ A p)
 obtain⟨x,rfl⟩:=oK hA hc
 exact(aV rfl c (no _ (by decide)) (by kernel_rfl) ⟨zL1,q⟩)
theorem xQ (hA:eX K A)(d:Dm K A.pair "inner" "Pair.inner" ff ["self"]):bY P w K mg base (j+1) A.pair "inner" (mC A n (d5 A) A.pair) []:=by
 refine d.cp lg ij m_ (fun f cdv A outer s H E hr=>have hu:=hr.units;have hh:=hr.hd;have sc:=lg
  (aF (aP (bT (aA (aT K rfl (dv 0) (by rfl)) (aA (aT K rfl (dv 0) (by rfl)) aC)))))) ?_
 rintro ds Q ⟨p,rfl,hc,hd,q⟩
 have c:=hA.cl _ (Pt.aQ A p)
 have no:=hA.fD _ (Pt.aQ A p)
 obtain⟨g,x,y,rfl⟩:=tY hA hc
 exact(aV rfl c (no _ (by decide)) (by kernel_rfl) (aV rfl c (no _ (by decide)) (by kernel_rfl) ⟨zL2,q⟩))
theorem tV (hA:eX K A)(d:Dm K A.choice "inner" "Choice.inner" eB ["self"]):bY P w K mg base (j+1) A.choice "inner" (mC A n (d5 A) A.choice) []:=by
 refine d.cp jH ij m_ (fun f cdv A outer s H E hr=>have hu:=hr.units;have hh:=hr.hd;have sc:=jH
  (aF (aP (bT (aA (aT K rfl (dv 0) (by rfl)) (aA (aT K rfl (dv 0) (by rfl)) (aA (aT K rfl (dv 0) (by rfl)) aC))))))) ?_
 rintro ds Q ⟨p,rfl,hc,hd,q⟩
 have c:=hA.cl _ (Pt.aQ A p)
 have no:=hA.fD _ (Pt.aQ A p)
 obtain⟨x,y,z,rfl⟩:=oJ hA hc
 exact(aV rfl c (no _ (by decide)) (by kernel_rfl) (aV rfl c (no _ (by decide)) (by kernel_rfl) (aV rfl c (no _ (by decide)) (by kernel_rfl) ⟨zL3,q⟩)))
theorem tU (hA:eX K A)(d:Dm K A.before "inner" "Before.inner" d9 ["self"]):bY P w K mg base (j+1) A.before "inner" (mC A n (d5 A) A.before) []:=by
 refine d.cp jF ij m_ (fun f cdv A outer s H E hr=>have hu:=hr.units;have hh:=hr.hd;have sc:=jF
  (aF (aP (bT (aA (aT K rfl (dv 0) (by rfl)) aC))))) ?_
 rintro ds Q ⟨p,rfl,hc,hd,q⟩
 have c:=hA.cl _ (Pt.aQ A p)
 have no:=hA.fD _ (Pt.aQ A p)
 obtain⟨x,f,rfl⟩:=lD hA hc
 exact(aV rfl c (no _ (by decide)) (by kernel_rfl) ⟨zL1,q⟩)
theorem AK (hA:eX K A)(d:Dm K A.led "inner" "Led.inner" gb ["self"]):bY P w K mg base (j+1) A.led "inner" (mC A n (d5 A) A.led) []:=by
 refine d.cp nO ij m_ (fun f cdv A outer s H E hr=>have hu:=hr.units;have hh:=hr.hd;have sc:=nO
  (aF (aP (bT (aA (aT K rfl (dv 0) (by rfl)) (aA (aT K rfl (dv 0) (by rfl)) aC)))))) ?_
 rintro ds Q ⟨p,rfl,hc,hd,q⟩
 have c:=hA.cl _ (Pt.aQ A p)
 have no:=hA.fD _ (Pt.aQ A p)
 obtain⟨x,y,rfl⟩:=xT hA hc
 exact(aV rfl c (no _ (by decide)) (by kernel_rfl) (aV rfl c (no _ (by decide)) (by kernel_rfl) ⟨zL2,q⟩))
theorem AL (hA:eX K A)(d:Dm K A.cI "inner" "When.inner" fg ["self"]):bY P w K mg base (j+1) A.cI "inner" (mC A n (d5 A) A.cI) []:=by
 refine d.cp lr ij m_ (fun f cdv A outer s H E hr=>have hu:=hr.units;have hh:=hr.hd;have sc:=lr
  (aF (aP (bT (aA (aT K rfl (dv 0) (by rfl)) aC))))) ?_
 rintro ds Q ⟨p,rfl,hc,hd,q⟩
 have c:=hA.cl _ (Pt.aQ A p)
 have no:=hA.fD _ (Pt.aQ A p)
 obtain⟨x,s,rfl⟩:=xV hA hc
 exact(aV rfl c (no _ (by decide)) (by kernel_rfl) ⟨zL1,q⟩)
theorem xP (hA:eX K A)(d:Dm K A.held "inner" "Held.inner" fc ["self"]):bY P w K mg base (j+1) A.held "inner" (mC A n (d5 A) A.held) []:=by
 refine d.cp lY ij m_ (fun f cdv A outer s H E hr=>have hu:=hr.units;have hh:=hr.hd;have sc:=lY
  (aF (aP (bT (aA (aT K rfl (dv 0) (by rfl)) aC))))) ?_
 rintro ds Q ⟨p,rfl,hc,hd,q⟩
 have c:=hA.cl _ (Pt.aQ A p)
 have no:=hA.fD _ (Pt.aQ A p)
 obtain⟨x,s,f,rfl⟩:=tX hA hc
 exact(aV rfl c (no _ (by decide)) (by kernel_rfl) ⟨zL1,q⟩)
theorem lB (hA:eX K A)(d:n0 K A)(n:Nat):MP P w K mg base A (j+1) "inner" n (d5 A):=fun C ⟨p,e⟩=>by
 subst e
 cases p
 ·exact ve hA d.given
 ·exact vg hA d.named
 ·exact tW hA d.turned
 ·exact xQ hA d.pair
 ·exact tV hA d.choice
 ·exact tU hA d.before
 ·exact AK hA d.led
 ·exact AL hA d.cI
 ·exact xP hA d.held
theorem p8 {m qual:Str}{st:Stmt}{ps:List Str}{g:Pt->D}(d:∀ C,uu A C->Dm K C m qual st ps)(h:∀ n j,MP P w K mg base A (j+1) m n g->MP P w K mg base A (j+2) m (n+1) g):∀ n,MP P w K mg base A (n+1) m n g
 | 0=>fun C hC=>(Dm.never (j:=1) (d C hC) ij hU)
 | n+1=>h n n (p8 d h n)
theorem DQ (hA:eX K A)(dI:n0 K A)(d:∀ C,uu A C->Dm K C "size" "Part.size" bQ ["self"])(n_sum:mg "sum"=none)(n:Nat):MP P w K mg base A (n+1) "size" n fun p=>.int p.size :=
 p8 d (fun n j h=>size_of d n_sum (lB (j:=j) hA dI _) h) n
theorem z9 (hA:eX K A)(dI:n0 K A)(d:∀ C,uu A C->Dm K C "depth" "Part.depth" bG ["self"])(n_max:mg "max"=none)(n:Nat):MP P w K mg base A (n+1) "depth" n fun p=>.int p.depth :=
 p8 d (fun n j h=>Bq d n_max (lB (j:=j) hA dI _) h) n
structure GI (mg:Str->Option Value) (x:Str) (i:Int):Prop where
 ex:∃ t,mg x=some (.int i t)
def HA:cL:=fun ds Q=>∃ i:Int,ds=[.int i]/\Q (.bl (decide (-128<=i)&&decide (i<=127)))
def DN:cL:=fun ds Q=>(∃ i:Int,ds=[.int i]/\Q (.bl (decide (-128<=i)&&decide (i<=127))))\/∃ b,ds=[.bl b]/\Q (.bl true)
theorem dU:uI "need_bounds":=by unfold uI;decide +kernel
def pH (p:Pt):Prop:=p.depth<=10/\p.size<=40
theorem jU (d:Df K mg "is_number" kT ["thing"])(n_isinstance:mg "isinstance"=none)(n_bool:mg "bool"=none)(n_int:mg "int"=none)(g1:GI mg "LOWEST" (-128))(g2:GI mg "HIGHEST" 127):az P w K mg base (j+1) "is_number" ["thing"] HA:=by
 obtain⟨t1,q_LOWEST⟩:=g1.ex
 obtain⟨t2,q_HIGHEST⟩:=g2.ex
 have r_LOWEST:RelV (.int (-128)) (.int (-128) t1):=⟨_,rfl⟩
 have r_HIGHEST:RelV (.int 127) (.int 127 t2):=⟨_,rfl⟩
 have v_LOWEST:∀ H,Dv K H (.int (-128)) (.int (-128)):=fun _=>.int _
 have v_HIGHEST:∀ H,Dv K H (.int 127) (.int 127):=fun _=>.int _
 refine d.cp nW (fun ds P P' g ⟨i,e,q⟩=>⟨i,e,g _ q⟩) (fun ds Q ⟨d,e,_⟩=>by rw [e];rfl) (fun f cdv A outer s H E hr=>have hu:=hr.units;have hh:=hr.hd;have sc:=nW
  (aI (cG (o3.td (w_or (gu (vj (by rfl) n_isinstance (by rfl) n_bool (dv 0))) (mE (jL (gu (Ej (by rfl) n_isinstance (by rfl) n_int (dv 0))))))) (aF (aP tF)) ak)
 (aF (aP (xE (dq (by rfl) q_LOWEST r_LOWEST v_LOWEST) (dv 0) (dq (by rfl) q_HIGHEST r_HIGHEST v_HIGHEST)))))) ?_
 rintro ds Q ⟨i,rfl,q⟩
 refine⟨_,rfl,false,rfl,_,rfl,aW ⟨_,rfl,true,rfl,_,rfl,aW ⟨_,rfl,_,rfl,?_⟩⟩⟩
 by_cases h:(-128:Int)<=i
 ·rw [decide_eq_true h] at q ⊢
  exact av q
 ·rw [decide_eq_false h] at q ⊢
  exact aW q
theorem fu (d:Df K mg "is_value" mY ["thing"])(n_isinstance:mg "isinstance"=none)(n_bool:mg "bool"=none)(jU:az P w K mg base j "is_number" ["thing"] HA):az P w K mg base (j+1) "is_value" ["thing"] DN:=by
 refine d.cp pK (fun ds P P' g h=>h.elim (fun⟨i,e,q⟩=>.inl ⟨i,e,g _ q⟩) fun⟨i,e,q⟩=>.inr ⟨i,e,g _ q⟩) (fun ds Q h=>h.elim (fun⟨d,e,_⟩=>by rw [e];rfl) fun⟨d,e,_⟩=>by rw [e];rfl) (fun f cdv A outer s H E hr=>have hu:=hr.units;have hh:=hr.hd;have sc:=pK
  (aF (aP (J6 (vj (by rfl) n_isinstance (by rfl) n_bool (dv 0)) (qC (aH jU hr (by omega) (by rfl) (aA (dv 0) aC))))))) ?_
 rintro ds Q (⟨i,rfl,q⟩|⟨b,rfl,q⟩)
 ·exact⟨_,rfl,false,rfl,_,rfl,aW ⟨_,rfl,i,rfl,q⟩⟩
 ·exact⟨_,rfl,true,rfl,_,rfl,av q⟩
theorem zz (d:∀ C,uu A C->Dm K C "need_bounds" "Part.need_bounds" aY ["self"])(m_depth:MP P w K mg base A j "depth" n fun p=>.int p.depth)(m_size:MP P w K mg base A j "size" n fun p=>.int p.size)(g1:GI mg "DEEPEST" 10)(g2:GI mg "LARGEST" 40) :
  MQ P w K mg base A (j+1) "need_bounds" n pH fun _=>.aj:=by
 obtain⟨t1,q_DEEPEST⟩:=g1.ex
 obtain⟨t2,q_LARGEST⟩:=g2.ex
 have r_DEEPEST:RelV (.int 10) (.int 10 t1):=⟨_,rfl⟩
 have r_LARGEST:RelV (.int 40) (.int 40 t2):=⟨_,rfl⟩
 have v_DEEPEST:∀ H,Dv K H (.int 10) (.int 10):=fun _=>.int _
 have v_LARGEST:∀ H,Dv K H (.int 40) (.int 40):=fun _=>.int _
 intro C hC
 refine(d C hC).cp fW NY N1 (fun f cdv A outer s H E hr=>have hu:=hr.units;have hh:=hr.hd;have sc:=fW
  (aF (cG (o3.td (w_or (DT (cE m_depth hr (by omega) (dv 0)) (dq (by rfl) q_DEEPEST r_DEEPEST v_DEEPEST)) (mE (DT (cE m_size hr (by omega) (dv 0)) (dq (by rfl) q_LARGEST r_LARGEST v_LARGEST))))) (aF jD) ak))) ?_
 rintro ds Q ⟨p,rfl,hc,hd,ho,q⟩
 obtain⟨h1,h2⟩:=ho
 have e1:decide ((10:Int)<p.depth)=false:=decide_eq_false (by omega)
 have e2:decide ((40:Int)<p.size)=false:=decide_eq_false (by omega)
 refine bJ (p:=p) bu rm ⟨_,rfl,rfl⟩ hd ⟨_,rfl,?_⟩
 show if decide ((10:Int)<p.depth)=true then _ else _
 rw [e1]
 refine aW (bJ (p:=p) bu wA ⟨_,rfl,rfl⟩ hd ⟨_,rfl,?_⟩)
 show if decide ((40:Int)<p.size)=true then _ else _
 rw [e2]
 exact aW q
theorem xN (hc:q_ K A.given)(hn:cq K A.given "value")(d:Di K mg "Given" A.given "Given.__init__" eR ["self","value"] [])(fu:az P w K mg base j "is_value" ["thing"] DN) :
  n6 P w K mg base (j+1) "Given" A.given (fun ds Q=>∃ v,ds=[v]/\isVal v/\Q [("value",v)]) []:=by
 refine d.BK gf (fun ds P P' g ⟨v,e,h,q⟩=>⟨v,e,h,g _ q⟩) (fun ds Q ⟨v,e,_⟩=>by rw [e];rfl) (fun f cdv A outer s H E hr=>have hu:=hr.units;have hh:=hr.hd;have sc:=gf
  (aq (d6 (cG (jL (gu (aH fu hr (by omega) (by rfl) (aA (dv 1) aC)))) (aF jD) ak))
 (aq (bW K rfl rfl (Or.inl rfl) (dv 1))
 yw))) ?_
 rintro a ds Q ⟨v,rfl,hv,q⟩
 rcases hv with⟨b,rfl⟩|⟨i,rfl,h1,h2⟩
 ·exact⟨_,rfl,.inr ⟨b,rfl,_,rfl,⟨_,rfl,rfl,hc,hn,(by decide),q⟩⟩⟩
 ·refine⟨_,rfl,.inl ⟨i,rfl,true,by simp [GG,h1,h2],⟨_,rfl,rfl,hc,hn,(by decide),q⟩⟩⟩
def uW:cL:=fun ds Q=>∃ f,ds=[f]/\dP f/\Q .aj
theorem gB (f:Str)(d:D):∀ gs:FD,(putD f d gs).length<=gs.length+1
 | []=>Nat.le_refl _
 | (g,e)::r=>by
  unfold putD
  split
  ·exact Nat.le_succ _
  ·exact Nat.succ_le_succ (gB f d r)
theorem r_:([]:FD).length<1000:=by decide
theorem sD {f:Str}{d:D}:(putD f d []).length<1000:=Nat.lt_of_le_of_lt (gB f d []) (by decide)
theorem sE {f g:Str}{d e:D}:(putD f d (putD g e [])).length<1000:=Nat.lt_of_le_of_lt (Nat.le_trans (gB f d _) (Nat.succ_le_succ (gB g e []))) (by decide)
theorem vd (hA:eX K A)(d:Di K mg "Turned" A.turned "Turned.__init__" eI ["self","part"] [])(m_need_bounds:MQ P w K mg base A j "need_bounds" n pH fun _=>.aj) :
  n6 P w K mg base (j+1) "Turned" A.turned (fun ds Q=>∃ p:Pt,ds=[p.d A]/\(Pt.turned p).depth<=n/\pH (.turned p)/\Q [("part",p.d A)]) []:=by
 have hc:=hA.cl A.turned (by simp)
 have hn:=hA.fD A.turned (by simp)
 refine d.BK gK (fun ds P P' g ⟨v,e,h,o,q⟩=>⟨v,e,h,o,g _ q⟩) (fun ds Q ⟨v,e,_⟩=>by rw [e];rfl) (fun f cdv A outer s H E hr=>have hu:=hr.units;have hh:=hr.hd;have sc:=gK
  (aq (bW K rfl rfl (Or.inl rfl) (dv 1))
 (j_ (aF (bM (cE m_need_bounds hr (by omega) (dv 0))))))) ?_
 rintro a ds Q ⟨p,rfl,hd,ho,q⟩
 exact⟨_,rfl,rfl,hc,hn _ (by decide),(by first|exact r_|exact sD|exact sE),rfl,dE (p:=.turned p) bu dU ⟨_,rfl,rfl⟩ hd ho q⟩
theorem va (hA:eX K A)(d:Di K mg "Choice" A.choice "Choice.__init__" eA ["self","truth","one","other"] [])(m_need_bounds:MQ P w K mg base A j "need_bounds" n pH fun _=>.aj) :
  n6 P w K mg base (j+1) "Choice" A.choice (fun ds Q=>∃ t x y:Pt,ds=[t.d A,x.d A,y.d A]/\(Pt.choice t x y).depth<=n/\pH (.choice t x y)/\Q [("truth",t.d A),("one",x.d A),("other",y.d A)]) []:=by
 have hc:=hA.cl A.choice (by simp)
 have hn:=hA.fD A.choice (by simp)
 refine d.BK gE (fun ds P P' g ⟨t,v,u,e,h,o,q⟩=>⟨t,v,u,e,h,o,g _ q⟩) (fun ds Q ⟨t,v,u,e,_⟩=>by rw [e];rfl) (fun f cdv A outer s H E hr=>have hu:=hr.units;have hh:=hr.hd;have sc:=gE
  (aq (bW K rfl rfl (Or.inl rfl) (dv 1))
 (aq (bW K rfl rfl (Or.inl rfl) (dv 2))
 (aq (bW K rfl rfl (Or.inl rfl) (dv 3))
 (j_ (aF (bM (cE m_need_bounds hr (by omega) (dv 0))))))))) ?_
 rintro a ds Q ⟨t,x,y,rfl,hd,ho,q⟩
 exact⟨_,rfl,rfl,hc,hn _ (by decide),(by first|exact r_|exact sD|exact sE),_,rfl,rfl,hc,hn _ (by decide),(by first|exact r_|exact sD|exact sE),_,rfl,rfl,hc,hn _ (by decide),(by first|exact r_|exact sD|exact sE),rfl,dE (p:=.choice t x y) bu dU ⟨_,rfl,rfl⟩ hd ho q⟩
theorem CB (hA:eX K A)(d:Di K mg "Led" A.led "Led.__init__" gC ["self","head","rest"] [])(m_need_bounds:MQ P w K mg base A j "need_bounds" n pH fun _=>.aj) :
  n6 P w K mg base (j+1) "Led" A.led (fun ds Q=>∃ x y:Pt,ds=[x.d A,y.d A]/\(Pt.led x y).depth<=n/\pH (.led x y)/\Q [("head",x.d A),("rest",y.d A)]) []:=by
 have hc:=hA.cl A.led (by simp)
 have hn:=hA.fD A.led (by simp)
 refine d.BK jI (fun ds P P' g ⟨v,u,e,h,o,q⟩=>⟨v,u,e,h,o,g _ q⟩) (fun ds Q ⟨v,u,e,_⟩=>by rw [e];rfl) (fun f cdv A outer s H E hr=>have hu:=hr.units;have hh:=hr.hd;have sc:=jI
  (aq (bW K rfl rfl (Or.inl rfl) (dv 1))
 (aq (bW K rfl rfl (Or.inl rfl) (dv 2))
 (j_ (aF (bM (cE m_need_bounds hr (by omega) (dv 0)))))))) ?_
 rintro a ds Q ⟨x,y,rfl,hd,ho,q⟩
 exact⟨_,rfl,rfl,hc,hn _ (by decide),(by first|exact r_|exact sD|exact sE),_,rfl,rfl,hc,hn _ (by decide),(by first|exact r_|exact sD|exact sE),rfl,dE (p:=.led x y) bu dU ⟨_,rfl,rfl⟩ hd ho q⟩
theorem dj (d:Df K mg "need_first" i_ ["first"])(fu:az P w K mg base j "is_value" ["thing"] DN):az P w K mg base (j+1) "need_first" ["first"] uW:=by
 refine d.cp l9 (fun ds P P' g ⟨f,e,h,q⟩=>⟨f,e,h,g _ q⟩) (fun ds Q ⟨f,e,_⟩=>by rw [e];rfl) (fun f cdv A outer s H E hr=>have hu:=hr.units;have hh:=hr.hd;have sc:=l9
  (aF (cG (o3.td (w_and (lS (dv 0) jY) (kr (jL (gu (aH fu hr (by omega) (by rfl) (aA (dv 0) aC))))))) (aF jD) ak))) ?_
 rintro ds Q ⟨f,rfl,hf,q⟩
 rcases hf with rfl|⟨b,rfl⟩|⟨i,rfl,h1,h2⟩
 ·exact⟨_,rfl,_,rfl,q⟩
 ·exact⟨_,rfl,_,rfl,_,rfl,.inr ⟨b,rfl,_,rfl,q⟩⟩
 ·exact⟨_,rfl,_,rfl,_,rfl,.inl ⟨i,rfl,true,by simp [GG,h1,h2],q⟩⟩
theorem vZ (hA:eX K A)(d:Di K mg "Before" A.before "Before.__init__" cj ["self","part","first"] [])(dj:az P w K mg base j "need_first" ["first"] uW)(m_need_bounds:MQ P w K mg base A j "need_bounds" n pH fun _=>.aj) :
  n6 P w K mg base (j+1) "Before" A.before (fun ds Q=>∃(p:Pt) (f:D),ds=[p.d A,f]/\dP f/\(Pt.before p f).depth<=n/\pH (.before p f)/\Q [("part",p.d A),("first",f)]) []:=by
 have hc:=hA.cl A.before (by simp)
 have hn:=hA.fD A.before (by simp)
 refine d.BK gD (fun ds P P' g ⟨v,u,e,k,h,o,q⟩=>⟨v,u,e,k,h,o,g _ q⟩) (fun ds Q ⟨v,u,e,_⟩=>by rw [e];rfl) (fun f cdv A outer s H E hr=>have hu:=hr.units;have hh:=hr.hd;have sc:=gD
  (aq (d6 (bM (aH dj hr (by omega) (by rfl) (aA (dv 2) aC))))
 (aq (bW K rfl rfl (Or.inl rfl) (dv 1))
 (aq (bW K rfl rfl (Or.inl rfl) (dv 2))
 (j_ (aF (bM (cE m_need_bounds hr (by omega) (dv 0))))))))) ?_
 rintro a ds Q ⟨p,f,rfl,hf,hd,ho,q⟩
 exact⟨_,rfl,_,rfl,hf,_,rfl,rfl,hc,hn _ (by decide),(by first|exact r_|exact sD|exact sE),_,rfl,rfl,hc,hn _ (by decide),(by first|exact r_|exact sD|exact sE),rfl,dE (p:=.before p f) bu dU ⟨_,rfl,rfl⟩ hd ho q⟩
theorem ig (n:Str)(l:List Str):inD (.str n) (l.map D.str)=l.contains n:=by
 unfold inD
 rw [List.any_map,List.contains_eq_any_beq]
 congr 1
 funext x
 show(x == n)=(n == x)
 exact Bool.beq_comm
theorem dZ (l:List Str):(l.map D.str).all fv=true:=by
 rw [List.all_eq_true]
 intro d hd
 obtain⟨x,_,rfl⟩:=List.mem_map.mp hd
 rfl
def uD:Str:="abcdefghijklmnopqrstuvwxyz"
def signs (x:Str):List Str:=x.cps.toList.map fun c=>⟨#[c]⟩
def Lo (c:Str):Bool:=yO c uD
def vn (x:Str):Bool:=decide ((0:Int)<(x.length:Int))&&(signs x).all Lo
def iA (x:Str):Bool:=decide ((x.length:Int)<=8)&&vn x
def rZ:List Str:=["module","in","out","row","use","end","number","truth","on","yes","no","not","and","or","if","before","then","when","held"]
def jM (x:Str):Bool:=iA x&&!rZ.contains x
def dot:Str:="."
def f9 (x:Str):Bool:=if decide (((Txt.split x dot).length:Int)=1)=true then jM x else decide (((Txt.split x dot).length:Int)<=4)&&(Txt.split x dot).all iA
structure GD (K:PySem.W.Frag) (mg:Str->Option Value) (x:Str) (d:D):Prop where
 ex:∃ v u,mg x=some u/\RelV v u/\∀ H,Dv K H v d
def BM (g:Str->D):cL:=fun ds Q=>∃ x:Str,ds=[.str x]/\x.length<=100000/\Q (g x)
theorem Ls {g:Str->D}:cQ (BM g):=fun ds P P' f ⟨x,e,h,q⟩=>⟨x,e,h,f _ q⟩
theorem Lr {g:Str->D}(ds:List D)(Q:D->Prop)(h:BM g ds Q):ds.length=1:=by obtain⟨x,e,_⟩:=h;rw [e];rfl
theorem str_len {x:Str}(h:x.length<=100000):x.length<=sizeLine:=Nat.le_trans h (by decide)
theorem mr {Q:D->Prop}{a b:Bool}(e:a=b)(q:Q (.bl a)):Q (.bl b):=e ▸ q
theorem CH:∀{l:List Nat} {a:Nat},a∈l->a<=l.sum
 | b::l,a,h=>by
  rw [List.sum_cons]
  rcases List.mem_cons.mp h with rfl|h
  ·exact Nat.le_add_right _ _
  ·exact Nat.le_trans (CH h) (Nat.le_add_left _ _)
def MR:D->D
 | .str z=>.bl (Lo z)
 | _=>.aj
def KG:D->D
 | .str z=>.bl (iA z)
 | _=>.aj
theorem gy (d:Df K mg "has_letters" hE ["text"])(n_len:mg "len"=none)(n_all:mg "all"=none)(gl:GD K mg "LETTERS" (.str uD)):az P w K mg base (j+1) "has_letters" ["text"] (BM fun x=>.bl (vn x)):=by
 obtain⟨y_LETTERS,u_LETTERS,q_LETTERS,r_LETTERS,v_LETTERS⟩:=gl.ex
 refine d.cp kj Ls Lr (fun f cdv A outer s H E hr=>have hu:=hr.units;have hh:=hr.hd;have sc:=kj
  (aF (aP (vK (MG (dt (by rfl) n_len (aA (dv 0) aC)) aD) (qC (Ga hh (by rfl) n_all (aA (mN (x:="sign") (caps:=[]) (cn:=[]) (cl:=[]) (h_ (by rfl) (by rfl) (by decide +kernel) (by decide +kernel) (by decide +kernel)) rfl (br (dv 0)) (fun C fp s₂ H₂=>bF (i:=0) (show(["sign"]:List Str).Nodup by decide +kernel) rfl (Or.inl rfl) (.inr rfl)) (fun C fp s₂ H₂=>dX) (fun C fp s₂ H₂=>(ER (dv 0) (dq (by rfl) q_LETTERS r_LETTERS v_LETTERS) (by rfl)))) aC))))))) ?_
 rintro ds Q ⟨x,rfl,hx,q⟩
 refine⟨_,rfl,_,_,rfl,if_pos (str_len hx),_,rfl,?_⟩
 cases h:decide ((0:Int)<(x.length:Int)) with
 | false =>
  have e:vn x=false:=by unfold vn;rw [h];rfl
  exact aW (mr e q)
 | true =>
  have e:vn x=((signs x).map Lo).all id:=by unfold vn;rw [h,List.all_map];rfl
  refine av ⟨_,rfl,_,rfl,mO MR (x.cps.toList.map fun c=>.str ⟨#[c]⟩),oU,fun i d o h1 h2=>?_,?_,?_⟩
  ·obtain⟨hd,rfl⟩:=rg h1 h2
   obtain⟨c,_,rfl⟩:=List.mem_map.mp hd
   exact⟨rfl,fun _=>⟨_,rfl,_,rfl,rfl⟩⟩
  ·rw [List.length_map,Array.length_toList]
   exact Nat.lt_of_le_of_lt hx (by decide)
  ·rw [mS]
   refine⟨(signs x).map Lo,?_,mr e q⟩
   unfold signs
   rw [List.map_map,List.map_map,List.map_map]
   rfl
theorem cR (d:Df K mg "has_word_form" fU ["text"])(n_len:mg "len"=none)(g:GI mg "LONGEST_WORD" 8)(gy:az P w K mg base j "has_letters" ["text"] (BM fun x=>.bl (vn x))) :
  az P w K mg base (j+1) "has_word_form" ["text"] (BM fun x=>.bl (iA x)):=by
 obtain⟨t1,q_LONGEST_WORD⟩:=g.ex
 have r_LONGEST_WORD:RelV (.int 8) (.int 8 t1):=⟨_,rfl⟩
 have v_LONGEST_WORD:∀ H,Dv K H (.int 8) (.int 8):=fun _=>.int _
 refine d.cp iS Ls Lr (fun f cdv A outer s H E hr=>have hu:=hr.units;have hh:=hr.hd;have sc:=iS
  (aF (aP (vK (Hd (dt (by rfl) n_len (aA (dv 0) aC)) (dq (by rfl) q_LONGEST_WORD r_LONGEST_WORD v_LONGEST_WORD)) (qC (aH gy hr (by omega) (by rfl) (aA (dv 0) aC))))))) ?_
 rintro ds Q ⟨x,rfl,hx,q⟩
 refine⟨_,rfl,_,_,rfl,if_pos (str_len hx),_,rfl,?_⟩
 cases h:decide ((x.length:Int)<=8) with
 | false =>
  have e:iA x=false:=by unfold iA;rw [h];rfl
  exact aW (mr e q)
 | true =>
  have e:iA x=vn x:=by unfold iA;rw [h];rfl
  exact av ⟨_,rfl,x,rfl,hx,mr e q⟩
theorem hX (d:Df K mg "is_word" og ["thing"])(gk:GD K mg "KEPT_WORDS" (.tup (rZ.map D.str)))(cR:az P w K mg base j "has_word_form" ["text"] (BM fun x=>.bl (iA x))) :
  az P w K mg base (j+1) "is_word" ["thing"] (BM fun x=>.bl (jM x)):=by
 obtain⟨y_KEPT_WORDS,u_KEPT_WORDS,q_KEPT_WORDS,r_KEPT_WORDS,v_KEPT_WORDS⟩:=gk.ex
 refine d.cp qg Ls Lr (fun f cdv A outer s H E hr=>have hu:=hr.units;have hh:=hr.hd;have sc:=qg
  (aF (aP (vK (aH cR hr (by omega) (by rfl) (aA (dv 0) aC)) (qC (EU (dv 0) (dq (by rfl) q_KEPT_WORDS r_KEPT_WORDS v_KEPT_WORDS) (by rfl))))))) ?_
 rintro ds Q ⟨x,rfl,hx,q⟩
 refine⟨_,rfl,x,rfl,hx,_,rfl,?_⟩
 cases h:iA x with
 | false =>
  have e:jM x=false:=by unfold jM;rw [h];rfl
  exact aW (mr e q)
 | true =>
  have e:jM x=!inD (.str x) (rZ.map D.str):=by unfold jM;rw [h,ig];rfl
  exact av ⟨_,rfl,rfl,dZ _,mr e q⟩
theorem n9 (d:Df K mg "is_name" oa ["thing"])(n_len:mg "len"=none)(n_all:mg "all"=none)(g:GI mg "MOST_WORDS" 4)(hX:az P w K mg base j "is_word" ["thing"] (BM fun x=>.bl (jM x)))
  (cR:az P w K mg base j "has_word_form" ["text"] (BM fun x=>.bl (iA x))):az P w K mg base (j+1) "is_name" ["thing"] (BM fun x=>.bl (f9 x)):=by
 obtain⟨t1,q_MOST_WORDS⟩:=g.ex
 have r_MOST_WORDS:RelV (.int 4) (.int 4 t1):=⟨_,rfl⟩
 have v_MOST_WORDS:∀ H,Dv K H (.int 4) (.int 4):=fun _=>.int _
 refine d.cp qf Ls Lr (fun f cdv A outer s H E hr=>have hu:=hr.units;have hh:=hr.hd;have sc:=qf
  (aI (bI (i:=1) sc.nd rfl (Or.inl rfl) (EV (dv 0) (aA aZ aC)))
 (aI (cG (cW hu (dt (by rfl) n_len (aA (dv 1) aC)) aD) (aF (aP (aH hX hr (by omega) (by rfl) (aA (dv 0) aC)))) ak)
 (aF (aP (vK (Hd (dt (by rfl) n_len (aA (dv 1) aC)) (dq (by rfl) q_MOST_WORDS r_MOST_WORDS v_MOST_WORDS)) (qC (Ga hh (by rfl) n_all (aA (mN (x:="word") (caps:=[]) (cn:=[]) (cl:=[]) (h_ (by rfl) (by rfl) (by decide +kernel) (by decide +kernel) (by decide +kernel)) rfl (br (dv 1)) (fun C fp s₂ H₂=>bF (i:=0) (show(["word"]:List Str).Nodup by decide +kernel) rfl (Or.inl rfl) (.inr rfl)) (fun C fp s₂ H₂=>dX) (fun C fp s₂ H₂=>(aH cR hr (by omega) (by rfl) (aA (dv 0) aC)))) aC))))))))) ?_
 rintro ds Q ⟨x,rfl,hx,q⟩
 have hs:=split_le x dot
 refine⟨_,rfl,⟨x,rfl⟩,x,dot,rfl,rfl,rfl,Nat.le_trans (Nat.add_le_add_right hx 2) (by decide),?_⟩
 refine⟨_,rfl,_,_,rfl,rfl,_,rfl,?_⟩
 show if decide ((((Txt.split x dot).map D.str).length:Int)=1)=true then _ else _
 rw [List.length_map]
 cases h:decide (((Txt.split x dot).length:Int)=1) with
 | true =>
  have e:f9 x=jM x:=by unfold f9;rw [h];rfl
  exact av ⟨_,rfl,x,rfl,hx,mr e q⟩
 | false =>
  refine aW ⟨_,rfl,_,_,rfl,rfl,_,rfl,?_⟩
  show if decide ((((Txt.split x dot).map D.str).length:Int)<=4)=true then _ else _
  rw [List.length_map]
  cases h2:decide (((Txt.split x dot).length:Int)<=4) with
  | false =>
   have e:f9 x=false:=by unfold f9;rw [h,h2];rfl
   exact aW (mr e q)
  | true =>
   have e:f9 x=((Txt.split x dot).map iA).all id:=by unfold f9;rw [h,h2,List.all_map];rfl
   refine av ⟨_,rfl,_,rfl,mO KG ((Txt.split x dot).map D.str),oU,fun i d o h1 h2=>?_,?_,?_⟩
   ·obtain⟨hd,rfl⟩:=rg h1 h2
    obtain⟨c,hc,rfl⟩:=List.mem_map.mp hd
    refine⟨rfl,fun _=>⟨_,rfl,c,rfl,?_,rfl⟩⟩
    have hw:=split_weight x dot (by decide)
    have hc2:c.length∈(Txt.split x dot).map (·.length):=List.mem_map.mpr ⟨c,hc,rfl⟩
    have:=CH hc2
    have hp:=split_pos x dot
    omega
   ·rw [List.length_map]
    exact Nat.lt_of_le_of_lt hs (Nat.lt_of_le_of_lt (Nat.add_le_add_right hx 2) (by decide))
   ·rw [mS]
    refine⟨(Txt.split x dot).map iA,?_,mr e q⟩
    rw [List.map_map,List.map_map]
    rfl
def yK:cL:=fun ds Q=>∃ x:Str,ds=[.str x]/\x.length<=100000/\f9 x=true/\Q .aj
theorem bP (d:Df K mg "need_name" kW ["name"])(n9:az P w K mg base j "is_name" ["thing"] (BM fun x=>.bl (f9 x))):az P w K mg base (j+1) "need_name" ["name"] yK:=by
 refine d.cp nX (fun ds P P' f ⟨x,e,h,z,q⟩=>⟨x,e,h,z,f _ q⟩) (fun ds Q ⟨x,e,_⟩=>by rw [e];rfl) (fun f cdv A outer s H E hr=>have hu:=hr.units;have hh:=hr.hd;have sc:=nX
  (aF (cG (jL (gu (aH n9 hr (by omega) (by rfl) (aA (dv 0) aC)))) (aF jD) ak))) ?_
 rintro ds Q ⟨x,rfl,hx,hn,q⟩
 exact⟨_,rfl,x,rfl,hx,true,congrArg some hn,aW q⟩
def nn:D:=.tup [.str "number",.str "number"]
def nt:D:=.tup [.str "number",.str "truth"]
def tt:D:=.tup [.str "truth",.str "truth"]
def ue:List (Str × D):=[("+",nn),("-",nn),("*",nn),("=",.tup [.aj,.str "truth"]),("<",nt),("<=",nt),("and",tt),("or",tt)]
def gr:List Str:=["+","-","*","=","<","<=","and","or"]
theorem F0 {g:Str}(h:g∈gr):(if true=true then !ue.any fun p=>p.1 == g else ue.any fun p=>p.1 == g)=false:=by
 simp only [gr,List.mem_cons,List.not_mem_nil,or_false] at h
 rcases h with rfl|rfl|rfl|rfl|rfl|rfl|rfl|rfl<;>decide +kernel
def mU (x:Str):Prop:=f9 x=true/\x.length<=100/\PyData.strOk x=true
theorem xO (hA:eX K A)(d:Di K mg "Named" A.named "Named.__init__" eT ["self","name"] [])(bP:az P w K mg base j "need_name" ["name"] yK) :
  n6 P w K mg base (j+1) "Named" A.named (fun ds Q=>∃ x:Str,ds=[.str x]/\mU x/\Q [("name",.str x)]) []:=by
 have hc:=hA.cl A.named (by simp)
 have hn:=hA.fD A.named (by simp)
 refine d.BK gi (fun ds P P' g ⟨v,e,h,q⟩=>⟨v,e,h,g _ q⟩) (fun ds Q ⟨v,e,_⟩=>by rw [e];rfl) (fun f cdv A outer s H E hr=>have hu:=hr.units;have hh:=hr.hd;have sc:=gi
  (aq (d6 (bM (aH bP hr (by omega) (by rfl) (aA (dv 1) aC))))
 (aq (bW K rfl rfl (Or.inl rfl) (dv 1))
 yw))) ?_
 rintro a ds Q ⟨x,rfl,⟨h1,h2,h3⟩,q⟩
 exact⟨_,rfl,x,rfl,Nat.le_trans h2 (by decide),h1,_,rfl,rfl,hc,hn _ (by decide),(by first|exact r_|exact sD|exact sE),q⟩
theorem AJ (hA:eX K A)(d:Di K mg "When" A.cI "When.__init__" fS ["self","part","name"] [])(bP:az P w K mg base j "need_name" ["name"] yK)(m_need_bounds:MQ P w K mg base A j "need_bounds" n pH fun _=>.aj) :
  n6 P w K mg base (j+1) "When" A.cI (fun ds Q=>∃(p:Pt) (x:Str),ds=[p.d A,.str x]/\mU x/\(Pt.cI p x).depth<=n/\pH (.cI p x)/\Q [("part",p.d A),("name",.str x)]) []:=by
 have hc:=hA.cl A.cI (by simp)
 have hn:=hA.fD A.cI (by simp)
 refine d.BK iQ (fun ds P P' g ⟨v,u,e,k,h,o,q⟩=>⟨v,u,e,k,h,o,g _ q⟩) (fun ds Q ⟨v,u,e,_⟩=>by rw [e];rfl) (fun f cdv A outer s H E hr=>have hu:=hr.units;have hh:=hr.hd;have sc:=iQ
  (aq (d6 (bM (aH bP hr (by omega) (by rfl) (aA (dv 2) aC))))
 (aq (bW K rfl rfl (Or.inl rfl) (dv 1))
 (aq (bW K rfl rfl (Or.inl rfl) (dv 2))
 (j_ (aF (bM (cE m_need_bounds hr (by omega) (dv 0))))))))) ?_
 rintro a ds Q ⟨p,x,rfl,⟨h1,h2,h3⟩,hd,ho,q⟩
 exact⟨_,rfl,x,rfl,Nat.le_trans h2 (by decide),h1,_,rfl,rfl,hc,hn _ (by decide),(by first|exact r_|exact sD|exact sE),_,rfl,rfl,hc,hn _ (by decide),(by first|exact r_|exact sD|exact sE),rfl,dE (p:=.cI p x) bu dU ⟨_,rfl,rfl⟩ hd ho q⟩
theorem AH (hA:eX K A)(d:Di K mg "Held" A.held "Held.__init__" dR ["self","part","name","first"] [])(bP:az P w K mg base j "need_name" ["name"] yK)(dj:az P w K mg base j "need_first" ["first"] uW)
  (m_need_bounds:MQ P w K mg base A j "need_bounds" n pH fun _=>.aj) :
  n6 P w K mg base (j+1) "Held" A.held (fun ds Q=>∃(p:Pt) (x:Str) (f:D),ds=[p.d A,.str x,f]/\mU x/\dP f/\(Pt.held p x f).depth<=n/\pH (.held p x f)/\Q [("part",p.d A),("name",.str x),("first",f)]) []:=by
 have hc:=hA.cl A.held (by simp)
 have hn:=hA.fD A.held (by simp)
 refine d.BK iL (fun ds P P' g ⟨v,u,f,e,k,l,h,o,q⟩=>⟨v,u,f,e,k,l,h,o,g _ q⟩) (fun ds Q ⟨v,u,f,e,_⟩=>by rw [e];rfl) (fun f cdv A outer s H E hr=>have hu:=hr.units;have hh:=hr.hd;have sc:=iL
  (aq (d6 (bM (aH bP hr (by omega) (by rfl) (aA (dv 2) aC))))
 (aq (d6 (bM (aH dj hr (by omega) (by rfl) (aA (dv 3) aC))))
 (aq (bW K rfl rfl (Or.inl rfl) (dv 1))
 (aq (bW K rfl rfl (Or.inl rfl) (dv 2))
 (aq (bW K rfl rfl (Or.inl rfl) (dv 3))
 (j_ (aF (bM (cE m_need_bounds hr (by omega) (dv 0))))))))))) ?_
 rintro a ds Q ⟨p,x,f,rfl,⟨h1,h2,h3⟩,hf,hd,ho,q⟩
 exact⟨_,rfl,x,rfl,Nat.le_trans h2 (by decide),h1,_,rfl,_,rfl,hf,_,rfl,rfl,hc,hn _ (by decide),(by first|exact r_|exact sD|exact sE),_,rfl,rfl,hc,hn _ (by decide),(by first|exact r_|exact sD|exact sE),_,rfl,rfl,hc,hn _ (by decide),(by first|exact r_|exact sD|exact sE),rfl,dE (p:=.held p x f) bu dU ⟨_,rfl,rfl⟩ hd ho q⟩
theorem AI {sa:Addr}(hA:eX K A)(d:Di K mg "Pair" A.pair "Pair.__init__" fO ["self","sign","one","other"] [])(kd_SIGNS:Dz w K mg "SIGNS" sa ue)(m_need_bounds:MQ P w K mg base A j "need_bounds" n pH fun _=>.aj) :
  n6 P w K mg base (j+1) "Pair" A.pair (fun ds Q=>∃(g:Str) (x y:Pt),ds=[.str g,x.d A,y.d A]/\g∈gr/\(Pt.pair g x y).depth<=n/\pH (.pair g x y)/\Q [("sign",.str g),("one",x.d A),("other",y.d A)]) []:=by
 have hc:=hA.cl A.pair (by simp)
 have hn:=hA.fD A.pair (by simp)
 refine d.BK iM (fun ds P P' g ⟨v,u,f,e,k,h,o,q⟩=>⟨v,u,f,e,k,h,o,g _ q⟩) (fun ds Q ⟨v,u,f,e,_⟩=>by rw [e];rfl) (fun f cdv A outer s H E hr=>have hu:=hr.units;have hh:=hr.hd;have sc:=iM
  (aq (d6 (cG (DU kd_SIGNS (by rfl) (dv 1)) (aF jD) ak))
 (aq (bW K rfl rfl (Or.inl rfl) (dv 1))
 (aq (bW K rfl rfl (Or.inl rfl) (dv 2))
 (aq (bW K rfl rfl (Or.inl rfl) (dv 3))
 (j_ (aF (bM (cE m_need_bounds hr (by omega) (dv 0)))))))))) ?_
 rintro a ds Q ⟨g,x,y,rfl,hg,hd,ho,q⟩
 exact⟨_,rfl,g,rfl,false,congrArg D.bl (F0 hg),aW ⟨_,rfl,rfl,hc,hn _ (by decide),(by first|exact r_|exact sD|exact sE),_,rfl,rfl,hc,hn _ (by decide),(by first|exact r_|exact sD|exact sE),_,rfl,rfl,hc,hn _ (by decide),(by first|exact r_|exact sD|exact sE),rfl,dE (p:=.pair g x y) bu dU ⟨_,rfl,rfl⟩ hd ho q⟩⟩
def sh (a b:Int):D:=.tup [.int a,.int b]
def nk:List (Str × D):=[("given",sh 2 0),("named",sh 2 0),("not",sh 2 1),("if",sh 4 3),("before",sh 3 1),("then",sh 3 2),("when",sh 3 1),("held",sh 4 1)]
def Pt.ok:Pt->Prop
 | .given v=>isVal v
 | .named s=>mU s
 | .turned p=>p.ok
 | .pair g a b=>g∈gr/\a.ok/\b.ok
 | .choice t a b=>t.ok/\a.ok/\b.ok
 | .before p f=>p.ok/\dP f
 | .led h r=>h.ok/\r.ok
 | .cI p s=>p.ok/\mU s
 | .held p s f=>p.ok/\mU s/\dP f
def Pt.qP:Pt->Bool
 | .pair _ _ _=>true
 | _=>false
def Pt.isPlain:Pt->Bool
 | .given _=>true|.named _=>true|.turned _=>true|.choice _ _ _=>true|_=>false
theorem Pt.zM {p q:Pt}(h:q∈p.inner)(o:p.ok):q.ok:=by
 cases p<;>simp only [Pt.inner,Pt.ok,List.mem_cons,List.not_mem_nil,or_false] at h o
 case turned=>subst h;exact o
 case pair=>rcases h with rfl|rfl<;>simp only [o]
 case choice=>rcases h with rfl|rfl|rfl<;>simp only [o]
 case before=>subst h;exact o.1
 case led=>rcases h with rfl|rfl<;>simp only [o]
 case cI=>subst h;exact o.1
 case held=>subst h;exact o.1
def uY (ok:Pt->Prop)(g:Pt->D):cL:=fun ds Q=>∃ p:Pt,ds=[p.told]/\ok p/\Q (g p)
theorem Kg {ok:Pt->Prop}{g:Pt->D}:cQ (uY ok g):=fun ds P P' f ⟨p,e,h,q⟩=>⟨p,e,h,f _ q⟩
theorem KY {ok:Pt->Prop}{g:Pt->D}(ds:List D)(Q:D->Prop)(h:uY ok g ds Q):ds.length=1:=by obtain⟨x,e,_⟩:=h;rw [e];rfl
def yI (A:bO)(n:Nat)(b:Bool):cL:=fun ds Q=>∃ p:Pt,ds=[p.told,.lst (p.inner.map (Pt.d A))]/\p.qP=false/\p.isPlain=b/\p.ok/\pH p/\p.depth<=n/\Q (p.d A)
def Ar (A:bO)(n:Nat):cL:=fun ds Q=>∃ p:Pt,ds=[p.told]/\p.depth<=n/\p.ok/\pH p/\Q (p.d A)
theorem Me {A:bO}{n:Nat}:cQ (Ar A n):=fun ds P P' f ⟨p,e,h,o,b,q⟩=>⟨p,e,h,o,b,f _ q⟩
theorem Kd {A:bO}{n:Nat}{b:Bool}:cQ (yI A n b):=fun ds P P' f ⟨p,e,h,o,b,i,d,q⟩=>⟨p,e,h,o,b,i,d,f _ q⟩
theorem Cc {g:Str}(h:g∈gr):(if false=true then !nk.any fun p=>p.1 == g else nk.any fun p=>p.1 == g)=false:=by
 simp only [gr,List.mem_cons,List.not_mem_nil,or_false] at h
 rcases h with rfl|rfl|rfl|rfl|rfl|rfl|rfl|rfl<;>decide +kernel
theorem e8 {sa:Addr}(d:Df K mg "has_shape" kQ ["told"])(n_len:mg "len"=none)(kd_SHAPES:Dz w K mg "SHAPES" sa nk):az P w K mg base (j+1) "has_shape" ["told"] (uY Pt.ok fun p=>.bl (!p.qP)):=by
 refine d.cp nV Kg KY (fun f cdv A outer s H E hr=>have hu:=hr.units;have hh:=hr.hd;have sc:=nV
  (aF (aP (vK (J5 kd_SHAPES (by rfl) (bU (dv 0) aD (fun _ _=>rfl))) (qC (xD hu (dt (by rfl) n_len (aA (dv 0) aC)) (bU (Bl kd_SHAPES (by rfl) (bU (dv 0) aD (fun _ _=>rfl)) (fun _ _=>rfl)) aD (fun _ _=>rfl)))))))) ?_
 rintro ds Q ⟨p,rfl,ho,q⟩
 cases p with
 | given v=>exact⟨_,rfl,_,rfl,"given",rfl,true,congrArg D.bl (by decide +kernel),av ⟨_,rfl,_,_,rfl,rfl,_,rfl,_,rfl,"given",sh 2 0,rfl,(by kernel_rfl),_,rfl,q⟩⟩
 | named s=>exact⟨_,rfl,_,rfl,"named",rfl,true,congrArg D.bl (by decide +kernel),av ⟨_,rfl,_,_,rfl,rfl,_,rfl,_,rfl,"named",sh 2 0,rfl,(by kernel_rfl),_,rfl,q⟩⟩
 | turned x=>exact⟨_,rfl,_,rfl,"not",rfl,true,congrArg D.bl (by decide +kernel),av ⟨_,rfl,_,_,rfl,rfl,_,rfl,_,rfl,"not",sh 2 1,rfl,(by kernel_rfl),_,rfl,q⟩⟩
 | pair g x y=>exact⟨_,rfl,_,rfl,g,rfl,false,congrArg D.bl (Cc ho.1),aW q⟩
 | choice x y z=>exact⟨_,rfl,_,rfl,"if",rfl,true,congrArg D.bl (by decide +kernel),av ⟨_,rfl,_,_,rfl,rfl,_,rfl,_,rfl,"if",sh 4 3,rfl,(by kernel_rfl),_,rfl,q⟩⟩
 | before x f=>exact⟨_,rfl,_,rfl,"before",rfl,true,congrArg D.bl (by decide +kernel),av ⟨_,rfl,_,_,rfl,rfl,_,rfl,_,rfl,"before",sh 3 1,rfl,(by kernel_rfl),_,rfl,q⟩⟩
 | led x y=>exact⟨_,rfl,_,rfl,"then",rfl,true,congrArg D.bl (by decide +kernel),av ⟨_,rfl,_,_,rfl,rfl,_,rfl,_,rfl,"then",sh 3 2,rfl,(by kernel_rfl),_,rfl,q⟩⟩
 | cI x s=>exact⟨_,rfl,_,rfl,"when",rfl,true,congrArg D.bl (by decide +kernel),av ⟨_,rfl,_,_,rfl,rfl,_,rfl,_,rfl,"when",sh 3 1,rfl,(by kernel_rfl),_,rfl,q⟩⟩
 | held x s f=>exact⟨_,rfl,_,rfl,"held",rfl,true,congrArg D.bl (by decide +kernel),av ⟨_,rfl,_,_,rfl,rfl,_,rfl,_,rfl,"held",sh 4 1,rfl,(by kernel_rfl),_,rfl,q⟩⟩
theorem mL (d:Df K mg "plain_by" md ["told","inner"])
  {i:Nat}(hi:i+1<=j)
  (k_Given_1:n6 P w K mg base i "Given" A.given (fun ds Q=>∃ v,ds=[v]/\isVal v/\Q [("value",v)]) [])
  (k_Named_1:n6 P w K mg base i "Named" A.named (fun ds Q=>∃ x:Str,ds=[.str x]/\mU x/\Q [("name",.str x)]) [])
  (k_Turned_1:n6 P w K mg base i "Turned" A.turned (fun ds Q=>∃ p:Pt,ds=[p.d A]/\(Pt.turned p).depth<=n/\pH (.turned p)/\Q [("part",p.d A)]) [])
  (k_Choice_3:n6 P w K mg base i "Choice" A.choice (fun ds Q=>∃ t x y:Pt,ds=[t.d A,x.d A,y.d A]/\(Pt.choice t x y).depth<=n/\pH (.choice t x y)/\Q [("truth",t.d A),("one",x.d A),("other",y.d A)]) [])
  : az P w K mg base (j+1) "plain_by" ["told","inner"] (yI A n true):=by
 refine d.cp pM Kd (fun ds Q ⟨x,e,_⟩=>by rw [e];rfl) (fun f cdv A outer s H E hr=>have hu:=hr.units;have hh:=hr.hd;have sc:=pM
  (aI (bI (i:=2) sc.nd rfl (Or.inl rfl) (bU (dv 0) aD (fun _ _=>rfl)))
 (aI (cG (cW hu (dv 2) aZ) (aF (aP (pW k_Given_1 hr (by omega) (by rfl) (aA (bU (dv 0) aD (fun _ _=>rfl)) aC)))) ak)
 (aI (cG (cW hu (dv 2) aZ) (aF (aP (pW k_Named_1 hr (by omega) (by rfl) (aA (bU (dv 0) aD (fun _ _=>rfl)) aC)))) ak)
 (aI (cG (cW hu (dv 2) aZ) (aF (aP (pW k_Turned_1 hr (by omega) (by rfl) (aA (bU (dv 1) aD (fun _ _=>rfl)) aC)))) ak)
 (aF (aP (pW k_Choice_3 hr (by omega) (by rfl) (aA (bU (dv 1) aD (fun _ _=>rfl)) (aA (bU (dv 1) aD (fun _ _=>rfl)) (aA (bU (dv 1) aD (fun _ _=>rfl)) aC))))))))))) ?_
 rintro ds Q ⟨p,rfl,hp,hl,ho,hb,hd,q⟩
 cases p with
 | given v=>exact⟨_,rfl,_,rfl,⟨_,rfl,true,congrArg D.bl (by decide +kernel),av ⟨_,rfl,_,rfl,v,rfl,ho,q⟩⟩⟩
 | named s=>exact⟨_,rfl,_,rfl,⟨_,rfl,false,congrArg D.bl (by decide +kernel),aW ⟨_,rfl,true,congrArg D.bl (by decide +kernel),av ⟨_,rfl,_,rfl,s,rfl,ho,q⟩⟩⟩⟩
 | turned x=>exact⟨_,rfl,_,rfl,⟨_,rfl,false,congrArg D.bl (by decide +kernel),aW ⟨_,rfl,false,congrArg D.bl (by decide +kernel),aW ⟨_,rfl,true,congrArg D.bl (by decide +kernel),av ⟨_,rfl,_,rfl,x,rfl,hd,hb,q⟩⟩⟩⟩⟩
 | pair g x y=>cases hp
 | choice x y z=>exact⟨_,rfl,_,rfl,⟨_,rfl,false,congrArg D.bl (by decide +kernel),aW ⟨_,rfl,false,congrArg D.bl (by decide +kernel),aW ⟨_,rfl,false,congrArg D.bl (by decide +kernel),aW ⟨_,rfl,_,rfl,_,rfl,_,rfl,_,rfl,_,rfl,x,y,z,rfl,hd,hb,q⟩⟩⟩⟩⟩
 | before x f=>cases hl
 | led x y=>cases hl
 | cI x s=>cases hl
 | held x s f=>cases hl
theorem mM (d:Df K mg "timed_by" mf ["told","inner"])
  {i:Nat}(hi:i+1<=j)
  (k_Before_2:n6 P w K mg base i "Before" A.before (fun ds Q=>∃(p:Pt) (f:D),ds=[p.d A,f]/\dP f/\(Pt.before p f).depth<=n/\pH (.before p f)/\Q [("part",p.d A),("first",f)]) [])
  (k_Led_2:n6 P w K mg base i "Led" A.led (fun ds Q=>∃ x y:Pt,ds=[x.d A,y.d A]/\(Pt.led x y).depth<=n/\pH (.led x y)/\Q [("head",x.d A),("rest",y.d A)]) [])
  (k_When_2:n6 P w K mg base i "When" A.cI (fun ds Q=>∃(p:Pt) (x:Str),ds=[p.d A,.str x]/\mU x/\(Pt.cI p x).depth<=n/\pH (.cI p x)/\Q [("part",p.d A),("name",.str x)]) [])
  (k_Held_3:n6 P w K mg base i "Held" A.held (fun ds Q=>∃(p:Pt) (x:Str) (f:D),ds=[p.d A,.str x,f]/\mU x/\dP f/\(Pt.held p x f).depth<=n/\pH (.held p x f)/\Q [("part",p.d A),("name",.str x),("first",f)]) [])
  : az P w K mg base (j+1) "timed_by" ["told","inner"] (yI A n false):=by
 refine d.cp pN Kd (fun ds Q ⟨x,e,_⟩=>by rw [e];rfl) (fun f cdv A outer s H E hr=>have hu:=hr.units;have hh:=hr.hd;have sc:=pN
  (aI (bI (i:=2) sc.nd rfl (Or.inl rfl) (bU (dv 0) aD (fun _ _=>rfl)))
 (aI (cG (cW hu (dv 2) aZ) (aF (aP (pW k_Before_2 hr (by omega) (by rfl) (aA (bU (dv 1) aD (fun _ _=>rfl)) (aA (bU (dv 0) aD (fun _ _=>rfl)) aC))))) ak)
 (aI (cG (cW hu (dv 2) aZ) (aF (aP (pW k_Led_2 hr (by omega) (by rfl) (aA (bU (dv 1) aD (fun _ _=>rfl)) (aA (bU (dv 1) aD (fun _ _=>rfl)) aC))))) ak)
 (aI (cG (cW hu (dv 2) aZ) (aF (aP (pW k_When_2 hr (by omega) (by rfl) (aA (bU (dv 1) aD (fun _ _=>rfl)) (aA (bU (dv 0) aD (fun _ _=>rfl)) aC))))) ak)
 (aF (aP (pW k_Held_3 hr (by omega) (by rfl) (aA (bU (dv 1) aD (fun _ _=>rfl)) (aA (bU (dv 0) aD (fun _ _=>rfl)) (aA (bU (dv 0) aD (fun _ _=>rfl)) aC))))))))))) ?_
 rintro ds Q ⟨p,rfl,hp,hl,ho,hb,hd,q⟩
 cases p with
 | given v=>cases hl
 | named s=>cases hl
 | turned x=>cases hl
 | pair g x y=>cases hp
 | choice x y z=>cases hl
 | before x f=>exact⟨_,rfl,_,rfl,⟨_,rfl,true,congrArg D.bl (by decide +kernel),av ⟨_,rfl,_,rfl,_,rfl,_,rfl,x,f,rfl,ho.2,hd,hb,q⟩⟩⟩
 | led x y=>exact⟨_,rfl,_,rfl,⟨_,rfl,false,congrArg D.bl (by decide +kernel),aW ⟨_,rfl,true,congrArg D.bl (by decide +kernel),av ⟨_,rfl,_,rfl,_,rfl,_,rfl,x,y,rfl,hd,hb,q⟩⟩⟩⟩
 | cI x s=>exact⟨_,rfl,_,rfl,⟨_,rfl,false,congrArg D.bl (by decide +kernel),aW ⟨_,rfl,false,congrArg D.bl (by decide +kernel),aW ⟨_,rfl,true,congrArg D.bl (by decide +kernel),av ⟨_,rfl,_,rfl,_,rfl,_,rfl,x,s,rfl,ho.2,hd,hb,q⟩⟩⟩⟩⟩
 | held x s f=>exact⟨_,rfl,_,rfl,⟨_,rfl,false,congrArg D.bl (by decide +kernel),aW ⟨_,rfl,false,congrArg D.bl (by decide +kernel),aW ⟨_,rfl,false,congrArg D.bl (by decide +kernel),aW ⟨_,rfl,_,rfl,_,rfl,_,rfl,_,rfl,_,rfl,x,s,f,rfl,ho.2.1,ho.2.2,hd,hb,q⟩⟩⟩⟩⟩
theorem Mx (x:D)(xs:List D):HT.dh (x::xs).length 0 (some 1)=1:=by
 rw [show(1:Int)=((1:Nat):Int) from rfl,HT.pd,List.length_cons]
 omega
theorem fL {x:D}{xs:List D}{R:Prop}:¬ (HT.dh (x::xs).length 0 (some 1)=0/\R):=fun z=>by
 rw [Mx] at z
 exact absurd z.1 (by decide)
theorem ip (p:Pt):(p.inner.map fun q=>some (q.d A)).length=(p.inner.map Pt.told).length:=by simp
theorem fY {caps:List Nat}{δ:SD}(p:Pt)(hd:p.depth<=n+1)(ho:p.ok)(hb:pH p)(i:Nat)(d:D)(o:Option D)(h1:(p.inner.map Pt.told)[i]?=some d)(h2:(p.inner.map fun q=>some (q.d A))[i]?=some o) :
  LZ (some d::pV caps δ) fun b=>b=o.isSome/\(b=true->Dl (Ar A n) (BU (ny 0) sq) (some d::pV caps δ) fun y=>o=some y):=by
 rw [List.getElem?_map] at h1 h2
 cases e:p.inner[i]? with
 | none=>rw [e] at h1;cases h1
 | some r =>
  rw [e] at h1 h2
  cases h1
  cases h2
  have hr:=List.mem_of_getElem? e
  have hs:=Pt.tT hr
  have hp:=p.d7 hr (n:=p.depth - 1) (by omega)
  exact⟨rfl,fun _=>⟨_,rfl,r,rfl,p.d7 hr hd,Pt.zM hr ho,⟨by have:=hb.1;omega,Nat.le_trans hs hb.2⟩,rfl⟩⟩
theorem of_lt (p:Pt):(p.inner.map Pt.told).length<sizeLine:=by rw [List.length_map];exact Nat.lt_of_le_of_lt p.df (by decide)
theorem iq (p:Pt):(p.inner.map fun q=>some (q.d A)).filterMap id=p.inner.map (Pt.d A):=by rw [List.filterMap_map,filterMap_some]
theorem gz {sa:Addr}(d:Df K mg "many_within" hG ["told"])(kd_SHAPES:Dz w K mg "SHAPES" sa nk)(e8:az P w K mg base j "has_shape" ["told"] (uY Pt.ok fun p=>.bl (!p.qP))):az P w K mg base (j+1) "many_within" ["told"] (uY Pt.ok fun p=>.int p.inner.length):=by
 refine d.cp kl Kg KY (fun f cdv A outer s H E hr=>have hu:=hr.units;have hh:=hr.hd;have sc:=kl
  (aF (aP (MI (gu (aH e8 hr (by omega) (by rfl) (aA (dv 0) aC))) (bU (Bl kd_SHAPES (by rfl) (bU (dv 0) aD (fun _ _=>rfl)) (fun _ _=>rfl)) aD (fun _ _=>rfl)) aD)))) ?_
 rintro ds Q ⟨p,rfl,ho,q⟩
 cases p with
 | given v=>exact⟨_,rfl,.given v,rfl,ho,_,rfl,av ⟨_,rfl,_,rfl,"given",sh 2 0,rfl,(by kernel_rfl),_,rfl,q⟩⟩
 | named s=>exact⟨_,rfl,.named s,rfl,ho,_,rfl,av ⟨_,rfl,_,rfl,"named",sh 2 0,rfl,(by kernel_rfl),_,rfl,q⟩⟩
 | turned x=>exact⟨_,rfl,.turned x,rfl,ho,_,rfl,av ⟨_,rfl,_,rfl,"not",sh 2 1,rfl,(by kernel_rfl),_,rfl,q⟩⟩
 | pair g x y=>exact⟨_,rfl,.pair g x y,rfl,ho,_,rfl,aW q⟩
 | choice x y z=>exact⟨_,rfl,.choice x y z,rfl,ho,_,rfl,av ⟨_,rfl,_,rfl,"if",sh 4 3,rfl,(by kernel_rfl),_,rfl,q⟩⟩
 | before x f=>exact⟨_,rfl,.before x f,rfl,ho,_,rfl,av ⟨_,rfl,_,rfl,"before",sh 3 1,rfl,(by kernel_rfl),_,rfl,q⟩⟩
 | led x y=>exact⟨_,rfl,.led x y,rfl,ho,_,rfl,av ⟨_,rfl,_,rfl,"then",sh 3 2,rfl,(by kernel_rfl),_,rfl,q⟩⟩
 | cI x s=>exact⟨_,rfl,.cI x s,rfl,ho,_,rfl,av ⟨_,rfl,_,rfl,"when",sh 3 1,rfl,(by kernel_rfl),_,rfl,q⟩⟩
 | held x s f=>exact⟨_,rfl,.held x s f,rfl,ho,_,rfl,av ⟨_,rfl,_,rfl,"held",sh 4 1,rfl,(by kernel_rfl),_,rfl,q⟩⟩
theorem Ak {i m N:Nat}(hi:i+1<=j)(hN:n<=N)(d:Df K mg "part_of" lO ["told"])(gz:az P w K mg base j "many_within" ["told"] (uY Pt.ok fun p=>.int p.inner.length))(e8:az P w K mg base j "has_shape" ["told"] (uY Pt.ok fun p=>.bl (!p.qP)))
  (c_part_of:az P w K mg base j "part_of" ["told"] (Ar A m))(hm:n<=m+1)
  (mL:az P w K mg base j "plain_by" ["told","inner"] (yI A N true))(mM:az P w K mg base j "timed_by" ["told","inner"] (yI A N false))
  (k_Pair_3:n6 P w K mg base i "Pair" A.pair (fun ds Q=>∃(g:Str) (x y:Pt),ds=[.str g,x.d A,y.d A]/\g∈gr/\(Pt.pair g x y).depth<=N/\pH (.pair g x y)/\Q [("sign",.str g),("one",x.d A),("other",y.d A)]) [])
  : az P w K mg base (j+1) "part_of" ["told"] (Ar A n):=by
 refine d.cp qi Me (fun ds Q ⟨x,e,_⟩=>by rw [e];rfl) (fun f cdv A outer s H E hr=>have hu:=hr.units;have hh:=hr.hd;have sc:=qi
  (aI (JR (i:=1) sc.nd rfl (Or.inl rfl) (x:="one") (caps:=[]) (cn:=[]) (cl:=[]) (h_ (by rfl) (by rfl) (by decide +kernel) (by decide +kernel) (by decide +kernel)) rfl (br (dz (dv 0) (fM aD) (fM (cA aD (aH gz hr (by omega) (by rfl) (aA (dv 0) aC)))))) (fun C fp s₂ H₂=>bF (i:=0) (show(["one"]:List Str).Nodup by decide +kernel) rfl (Or.inl rfl) (.inr rfl)) (fun C fp s₂ H₂=>dX) (fun C fp s₂ H₂=>(aH c_part_of hr (by omega) (by rfl) (aA (dv 0) aC))))
 (aI (cG (jL (gu (aH e8 hr (by omega) (by rfl) (aA (dv 0) aC)))) (aF (aP (pW k_Pair_3 hr (by omega) (by rfl) (aA (bU (dv 0) aD (fun _ _=>rfl)) (aA (bU (dv 1) aD (fun _ _=>rfl)) (aA (bU (dv 1) aD (fun _ _=>rfl)) aC)))))) ak)
 (aI (cG (Az (bU (dv 0) aD (fun _ _=>rfl)) (bT (jT (by rfl))) (by rfl)) (aF (aP (aH mL hr (by omega) (by rfl) (aA (dv 0) (aA (dv 1) aC))))) ak)
 (aF (aP (aH mM hr (by omega) (by rfl) (aA (dv 0) (aA (dv 1) aC))))))))) ?_
 rintro ds Q ⟨p,rfl,hd,ho,hb,q⟩
 have hdm:p.depth<=m+1:=Nat.le_trans hd hm
 have hdN:p.depth<=N:=Nat.le_trans hd hN
 cases p with
 | given v =>
  refine⟨_,rfl,_,rfl,_,rfl,.given v,rfl,ho,_,rfl,fL,(Pt.given v).inner.map Pt.told,rfl,_,ip (.given v),fY (.given v) hdm ho hb,of_lt (.given v),?_⟩
  rw [iq]
  exact⟨_,rfl,.given v,rfl,ho,_,rfl,aW ⟨_,rfl,_,rfl,(by decide),rfl,(by decide),true,congrArg D.bl (by decide +kernel),av ⟨_,rfl,_,rfl,.given v,rfl,rfl,rfl,ho,hb,hdN,q⟩⟩⟩
 | named s =>
  refine⟨_,rfl,_,rfl,_,rfl,.named s,rfl,ho,_,rfl,fL,(Pt.named s).inner.map Pt.told,rfl,_,ip (.named s),fY (.named s) hdm ho hb,of_lt (.named s),?_⟩
  rw [iq]
  exact⟨_,rfl,.named s,rfl,ho,_,rfl,aW ⟨_,rfl,_,rfl,(by decide),rfl,(by decide),true,congrArg D.bl (by decide +kernel),av ⟨_,rfl,_,rfl,.named s,rfl,rfl,rfl,ho,hb,hdN,q⟩⟩⟩
 | turned x =>
  refine⟨_,rfl,_,rfl,_,rfl,.turned x,rfl,ho,_,rfl,fL,(Pt.turned x).inner.map Pt.told,rfl,_,ip (.turned x),fY (.turned x) hdm ho hb,of_lt (.turned x),?_⟩
  rw [iq]
  exact⟨_,rfl,.turned x,rfl,ho,_,rfl,aW ⟨_,rfl,_,rfl,(by decide),rfl,(by decide),true,congrArg D.bl (by decide +kernel),av ⟨_,rfl,_,rfl,.turned x,rfl,rfl,rfl,ho,hb,hdN,q⟩⟩⟩
 | pair g x y =>
  refine⟨_,rfl,_,rfl,_,rfl,.pair g x y,rfl,ho,_,rfl,fL,(Pt.pair g x y).inner.map Pt.told,rfl,_,ip (.pair g x y),fY (.pair g x y) hdm ho hb,of_lt (.pair g x y),?_⟩
  rw [iq]
  exact⟨_,rfl,.pair g x y,rfl,ho,_,rfl,av ⟨_,rfl,_,rfl,_,rfl,_,rfl,_,rfl,_,rfl,g,x,y,rfl,ho.1,hdN,hb,q⟩⟩
 | choice x y z =>
  refine⟨_,rfl,_,rfl,_,rfl,.choice x y z,rfl,ho,_,rfl,fL,(Pt.choice x y z).inner.map Pt.told,rfl,_,ip (.choice x y z),fY (.choice x y z) hdm ho hb,of_lt (.choice x y z),?_⟩
  rw [iq]
  exact⟨_,rfl,.choice x y z,rfl,ho,_,rfl,aW ⟨_,rfl,_,rfl,(by decide),rfl,(by decide),true,congrArg D.bl (by decide +kernel),av ⟨_,rfl,_,rfl,.choice x y z,rfl,rfl,rfl,ho,hb,hdN,q⟩⟩⟩
 | before x f =>
  refine⟨_,rfl,_,rfl,_,rfl,.before x f,rfl,ho,_,rfl,fL,(Pt.before x f).inner.map Pt.told,rfl,_,ip (.before x f),fY (.before x f) hdm ho hb,of_lt (.before x f),?_⟩
  rw [iq]
  exact⟨_,rfl,.before x f,rfl,ho,_,rfl,aW ⟨_,rfl,_,rfl,(by decide),rfl,(by decide),false,congrArg D.bl (by decide +kernel),aW ⟨_,rfl,_,rfl,.before x f,rfl,rfl,rfl,ho,hb,hdN,q⟩⟩⟩
 | led x y =>
  refine⟨_,rfl,_,rfl,_,rfl,.led x y,rfl,ho,_,rfl,fL,(Pt.led x y).inner.map Pt.told,rfl,_,ip (.led x y),fY (.led x y) hdm ho hb,of_lt (.led x y),?_⟩
  rw [iq]
  exact⟨_,rfl,.led x y,rfl,ho,_,rfl,aW ⟨_,rfl,_,rfl,(by decide),rfl,(by decide),false,congrArg D.bl (by decide +kernel),aW ⟨_,rfl,_,rfl,.led x y,rfl,rfl,rfl,ho,hb,hdN,q⟩⟩⟩
 | cI x s =>
  refine⟨_,rfl,_,rfl,_,rfl,.cI x s,rfl,ho,_,rfl,fL,(Pt.cI x s).inner.map Pt.told,rfl,_,ip (.cI x s),fY (.cI x s) hdm ho hb,of_lt (.cI x s),?_⟩
  rw [iq]
  exact⟨_,rfl,.cI x s,rfl,ho,_,rfl,aW ⟨_,rfl,_,rfl,(by decide),rfl,(by decide),false,congrArg D.bl (by decide +kernel),aW ⟨_,rfl,_,rfl,.cI x s,rfl,rfl,rfl,ho,hb,hdN,q⟩⟩⟩
 | held x s f =>
  refine⟨_,rfl,_,rfl,_,rfl,.held x s f,rfl,ho,_,rfl,fL,(Pt.held x s f).inner.map Pt.told,rfl,_,ip (.held x s f),fY (.held x s f) hdm ho hb,of_lt (.held x s f),?_⟩
  rw [iq]
  exact⟨_,rfl,.held x s f,rfl,ho,_,rfl,aW ⟨_,rfl,_,rfl,(by decide),rfl,(by decide),false,congrArg D.bl (by decide +kernel),aW ⟨_,rfl,_,rfl,.held x s f,rfl,rfl,rfl,ho,hb,hdN,q⟩⟩⟩
def au (acc:List Str)(n:Str):List Str:=if acc.contains n then acc else acc++[n]
def ba (ls:List (List Str)):List Str:=ls.foldl (fun acc l=>l.foldl au acc) []
def ao (l:List Str):D:=.lst (l.map D.str)
def qk:pZ:=fun ds Q=>∃ ls:List (List Str),ds=[.lst (ls.map ao)]/\(ls.map List.length).sum<1000/\∀ a,Q (.adr a) [(a,.lst ((ba ls).map D.str))]
theorem D6 (acc:List Str)(n:Str):(au acc n).length<=acc.length+1:=by
 unfold au
 split
 ·omega
 ·rw [List.length_append];exact Nat.le_refl _
theorem qJ:∀(l acc:List Str),(l.foldl au acc).length<=acc.length+l.length
 | [],acc=>Nat.le_refl _
 | n::l,acc=>by
  have h1:=qJ l (au acc n)
  have h2:=D6 acc n
  rw [List.foldl_cons,List.length_cons]
  omega
theorem lJ:∀(ls:List (List Str)) (acc:List Str),(ls.foldl (fun acc l=>l.foldl au acc) acc).length<=acc.length+(ls.map List.length).sum
 | [],acc=>Nat.le_refl _
 | l::ls,acc=>by
  have h1:=lJ ls (l.foldl au acc)
  have h2:=qJ l acc
  rw [List.foldl_cons,List.map_cons,List.sum_cons]
  omega
theorem pO (ls:List Nat):∀ i,(ls.take i).sum<=ls.sum:=by
 induction ls with
 | nil=>intro i;simp
 | cons a ls ih =>
  intro i
  cases i with
  | zero=>simp
  | succ i=>rw [List.take_succ_cons,List.sum_cons,List.sum_cons];have:=ih i;omega
theorem HW (d:Df K mg "once" yH ["lists"]):fq P w K mg base (j+1) "once" ["lists"] qk:=by
 refine d.pU zV (fun ds P P' g ⟨ls,e,h,q⟩=>⟨ls,e,h,fun a=>g _ _ (q a)⟩) (fun ds Q ⟨ls,e,_⟩=>by rw [e];rfl) (fun f cdv A outer s H E hr=>have hu:=hr.units;have hh:=hr.hd;have sc:=zV
  (aM (lG (i:=1) sc.nd rfl (Or.inl rfl) aC)
 (aM (cY PassesOwn.never rfl (br (dv 0)) (bR (i:=2) sc.nd rfl (Or.inl rfl)) (aU (cY PassesOwn.never rfl (br (dv 2)) (bR (i:=3) sc.nd rfl (Or.inl rfl)) (aU (gU (lT (dv 3) (dv 1) (by rfl)) (aU (lF (i:=1) rfl (Or.inl rfl) (dv 3))) dS)))))
 (aU (bw (aP (dv 1))))))) ?_
 rintro ds Q ⟨ls,rfl,hz,q⟩
 refine⟨(by decide),fun a _=>?_⟩
 refine⟨_,rfl,ls.map ao,rfl,fun i δ μ=>(∃ x y,δ=[some (.lst (ls.map ao)),some (.adr a),x,y])/\μ=[(a,.lst ((ba (ls.take i)).map D.str))],⟨⟨none,none,rfl⟩,rfl⟩,?_,?_⟩
 ·rintro i d δ μ hd ⟨⟨x,y,rfl⟩,rfl⟩
  rw [List.getElem?_map] at hd
  cases hl:ls[i]? with
  | none=>rw [hl] at hd;cases hd
  | some l =>
   rw [hl] at hd
   obtain rfl:ao l=d:=by simpa using hd
   have e1:ba (ls.take (i+1))=l.foldl au (ba (ls.take i)):=by
    unfold ba
    rw [List.take_succ,hl,List.foldl_append]
    rfl
   have hsum:(ba (ls.take i)).length+l.length<1000:=by
    have h1:=lJ (ls.take i) []
    have h2:=pO (ls.map List.length) (i+1)
    rw [<- List.map_take,List.take_succ,hl] at h2
    simp only [Option.toList_some,List.map_append,List.map_cons,List.map_nil,List.sum_append,List.sum_cons,List.sum_nil] at h2
    simp only [List.length_nil] at h1
    unfold ba
    omega
   refine⟨_,rfl,l.map D.str,rfl,fun k δ μ=>(∃ y,δ=[some (.lst (ls.map ao)),some (.adr a),some (ao l),y])/\μ=[(a,.lst (((l.take k).foldl au (ba (ls.take i))).map D.str))],⟨⟨y,rfl⟩,rfl⟩,?_,?_⟩
   ·rintro k d δ μ hd ⟨⟨y,rfl⟩,rfl⟩
    rw [List.getElem?_map] at hd
    cases hn:l[k]? with
    | none=>rw [hn] at hd;cases hd
    | some n =>
     rw [hn] at hd
     obtain rfl:D.str n=d:=by simpa using hd
     have hk:k<l.length:=(List.getElem?_eq_some_iff.mp hn).1
     have e2:(l.take (k+1)).foldl au (ba (ls.take i))=au ((l.take k).foldl au (ba (ls.take i))) n:=by
      rw [List.take_succ,hn,List.foldl_append]
      rfl
     have hlen:((l.take k).foldl au (ba (ls.take i))).length<1000:=by
      have h1:=qJ (l.take k) (ba (ls.take i))
      rw [List.length_take] at h1
      omega
     generalize hacc:(l.take k).foldl au (ba (ls.take i))=acc at e2 hlen
     have hview:ay [(a,MD.lst (acc.map D.str))] (.adr a)=.lst (acc.map D.str):=by simp [ay,MD.d,List.lookup]
     refine⟨_,rfl,_,congrArg (fun z=>some (some z)) hview,rfl,dZ acc,!acc.contains n,by rw [<- ig];rfl,?_⟩
     cases hc:acc.contains n with
     | true =>
      refine aW ?_
      refine⟨⟨_,rfl⟩,?_⟩
      rw [e2]
      unfold au
      rw [hc]
      rfl
     | false =>
      refine av ?_
      refine⟨a,acc.map D.str,rfl,by simp [List.lookup],?_,_,rfl,⟨_,rfl⟩,?_⟩
      ·rw [List.length_map];exact Nat.lt_trans hlen (by decide)
      ·rw [e2]
       unfold au
       rw [hc]
       simp [fZ]
   ·rintro δ μ ⟨⟨y,rfl⟩,rfl⟩
    refine⟨⟨_,_,rfl⟩,?_⟩
    rw [List.length_map,List.take_length,e1]
 ·rintro δ μ ⟨⟨x,y,rfl⟩,rfl⟩
  refine⟨_,rfl,?_⟩
  rw [List.length_map,List.take_length]
  exact q a
def Pt.own:Pt->List Str
 | .named n=>[n]|.cI _ n=>[n]|.held _ n _=>[n]|_=>[]
def Pt.names:Pt->List Str
 | .given _=>ba [[]]
 | .named n=>ba [[n]]
 | .turned p=>ba [p.names,[]]
 | .pair _ a b=>ba [a.names,b.names,[]]
 | .choice t a b=>ba [t.names,a.names,b.names,[]]
 | .before p _=>ba [p.names,[]]
 | .led h r=>ba [h.names,r.names,[]]
 | .cI p n=>ba [p.names,[n]]
 | .held p n _=>ba [p.names,[n]]
theorem Pt.gX (p:Pt):p.names=ba (p.inner.map Pt.names++[p.own]):=by cases p<;>rfl
theorem bj (ls:List (List Str)):(ba ls).length<=(ls.map List.length).sum:=by
 have:=lJ ls []
 simpa [ba] using this
theorem Pt.ar:∀ p:Pt,p.names.length<=p.size
 | .given _=>by have:=bj [[]];simp only [Pt.names,Pt.size,List.map_cons,List.map_nil,List.sum_cons,List.sum_nil,List.length_nil] at *;omega
 | .named n=>by have:=bj [[n]];simp only [Pt.names,Pt.size,List.map_cons,List.map_nil,List.sum_cons,List.sum_nil,List.length_cons,List.length_nil] at *;omega
 | .turned p=>by have:=bj [p.names,[]];have h1:=p.ar;simp only [Pt.names,Pt.size,List.map_cons,List.map_nil,List.sum_cons,List.sum_nil,List.length_nil] at *;omega
 | .pair _ a b=>by have:=bj [a.names,b.names,[]];have h1:=a.ar;have h2:=b.ar;simp only [Pt.names,Pt.size,List.map_cons,List.map_nil,List.sum_cons,List.sum_nil,List.length_nil] at *;omega
 | .choice t a b=>by have:=bj [t.names,a.names,b.names,[]];have h0:=t.ar;have h1:=a.ar;have h2:=b.ar;simp only [Pt.names,Pt.size,List.map_cons,List.map_nil,List.sum_cons,List.sum_nil,List.length_nil] at *;omega
 | .before p _=>by have:=bj [p.names,[]];have h1:=p.ar;simp only [Pt.names,Pt.size,List.map_cons,List.map_nil,List.sum_cons,List.sum_nil,List.length_nil] at *;omega
 | .led h r=>by have:=bj [h.names,r.names,[]];have h1:=h.ar;have h2:=r.ar;simp only [Pt.names,Pt.size,List.map_cons,List.map_nil,List.sum_cons,List.sum_nil,List.length_nil] at *;omega
 | .cI p n=>by have:=bj [p.names,[n]];have h1:=p.ar;simp only [Pt.names,Pt.size,List.map_cons,List.map_nil,List.sum_cons,List.sum_nil,List.length_cons,List.length_nil] at *;omega
 | .held p n _=>by have:=bj [p.names,[n]];have h1:=p.ar;simp only [Pt.names,Pt.size,List.map_cons,List.map_nil,List.sum_cons,List.sum_nil,List.length_cons,List.length_nil] at *;omega
theorem Pt.Ax (p:Pt):((p.inner.map Pt.names++[p.own]).map List.length).sum<=p.size:=by
 cases p<;>simp only [Pt.inner,Pt.own,Pt.size,List.map_cons,List.map_nil,List.cons_append,List.nil_append,List.sum_cons,List.sum_nil,List.length_cons,List.length_nil]
 case turned a=>have:=a.ar;omega
 case pair a b=>have:=a.ar;have:=b.ar;omega
 case choice t a b=>have:=t.ar;have:=a.ar;have:=b.ar;omega
 case before a _=>have:=a.ar;omega
 case led a b=>have:=a.ar;have:=b.ar;omega
 case cI a _=>have:=a.ar;omega
 case held a _ _=>have:=a.ar;omega
 all_goals omega
def okN (p:Pt):Prop:=p.size<=900
theorem rn:uI "names":=by unfold uI;decide +kernel
theorem zL:uI "own_names":=by unfold uI;decide +kernel
def DK (A:bO)(n:Nat)(ok:Pt->Prop)(g:Pt->List Str)(C:Addr):pZ:=fun ds Q=>∃ p:Pt,ds=[p.d A]/\p.cls A=C/\p.depth<=n/\ok p/\∀ a,Q (.adr a) [(a,.lst ((g p).map D.str))]
theorem xc {A:bO}{n:Nat}{ok:Pt->Prop}{g:Pt->List Str}{C:Addr}:iX (DK A n ok g C):=fun ds P P' f ⟨p,e,c,h,o,q⟩=>⟨p,e,c,h,o,fun a=>f _ _ (q a)⟩
abbrev MF (P:Program)(w:World)(K:PySem.W.Frag)(mg:Str->Option Value)(base:Heap)(A:bO)(j:Nat)(m:Str)(n:Nat)(ok:Pt->Prop)(g:Pt->List Str):Prop:=∀ C,uu A C->jR P w K mg base j C m (DK A n ok g C)
theorem MF.q {m:Str}{ok:Pt->Prop}{g:Pt->List Str}(h:MF P w K mg base A j m n ok g):MQ P w K mg base A j m n ok fun p=>ao (g p):=fun C hC=>by
 obtain⟨f,fd,ps,c,M,F,b⟩:=(h C hC).ex
 refine⟨⟨f,fd,ps,[],[],c,M,F.imp (yN xc fun ds Q ⟨p,e,e2,hd,ho,q⟩=>⟨p,e,e2,hd,ho,fun a=>?_⟩),b,.nil,fun _=>.nil⟩,NY⟩
 have hview:ay [(a,MD.lst ((g p).map D.str))] (.adr a)=ao (g p):=by simp [ay,MD.d,List.lookup,ao]
 show Q (ay [(a,MD.lst ((g p).map D.str))] (.adr a))
 rw [hview]
 exact q
theorem CZ (d:∀ C,uu A C->Dm K C "names" "Part.names" bH ["self"])(cf_once:fq P w K mg base j "once" ["lists"] qk)(m_inner:MP P w K mg base A j "inner" (n+1) (d5 A))(m_own_names:MP P w K mg base A j "own_names" (n+1) fun p=>ao p.own)
  (m_names:MQ P w K mg base A j "names" n okN fun p=>ao p.names):MF P w K mg base A (j+1) "names" (n+1) okN Pt.names:=by
 intro C hC
 refine(d C hC).pU lj xc (fun ds Q ⟨p,e,_⟩=>by rw [e];rfl) (fun f cdv A outer s H E hr=>have hu:=hr.units;have hh:=hr.hd;have sc:=lj
  (aU (gW (rV cf_once hr (by omega) (by rfl) (aA (cA (mN (x:="part") (caps:=[]) (cn:=[]) (cl:=[]) (h_ (by rfl) (by rfl) (by decide +kernel) (by decide +kernel) (by decide +kernel)) rfl (br (cE m_inner hr (by omega) (dv 0))) (fun C fp s₂ H₂=>bF (i:=0) (show(["part"]:List Str).Nodup by decide +kernel) rfl (Or.inl rfl) (.inr rfl)) (fun C fp s₂ H₂=>dX) (fun C fp s₂ H₂=>(cE m_names hr (by omega) (dv 0)))) (bb (aA (cE m_own_names hr (by omega) (dv 0)) aC))) aC))))) ?_
 rintro ds Q ⟨p,rfl,hc,hd,ho,q⟩
 refine bJ bu lI ⟨_,rfl,rfl⟩ hd ?_
 refine⟨p.inner.map (Pt.d A),rfl,p.inner.map fun q=>some (ao q.names),by simp,fun i d o hd' ho'=>?_,?_,?_⟩
 ·obtain⟨r,hr,e1,e2⟩:=m9 hd' ho'
  subst e1 e2
  exact⟨rfl,fun _=>dE bu rn ⟨_,rfl,rfl⟩ (p.d7 hr hd) (Nat.le_trans (Pt.tT hr) ho) rfl⟩
 ·rw [List.length_map];exact Nat.lt_of_le_of_lt p.df (by decide)
 ·refine bJ (p:=p) bu zL ⟨_,rfl,rfl⟩ hd ⟨zL1,?_⟩
  have e:(p.inner.map fun q=>some (ao q.names)).filterMap id++[ao p.own]=(p.inner.map Pt.names++[p.own]).map ao:=by
   rw [List.filterMap_map,filterMap_some,List.map_append,List.map_map]
   rfl
  refine⟨?_,p.inner.map Pt.names++[p.own],?_,?_,fun a=>?_⟩
  ·show((p.inner.map fun q=>some (ao q.names)).filterMap id).length+1<=sizeLine
   rw [List.filterMap_map,filterMap_some,List.length_map]
   exact Nat.le_trans (Nat.add_le_add_right p.df 1) (by decide)
  ·exact congrArg (fun z=>[D.lst z]) e
  ·exact Nat.lt_of_le_of_lt p.Ax (Nat.lt_of_le_of_lt ho (by decide))
  ·rw [<- Pt.gX];exact q a
def Pt.aO:Pt->List Str
 | .given _=>ba [[]]
 | .named n=>ba [[n]]
 | .turned p=>ba [p.aO,[]]
 | .pair _ a b=>ba [a.aO,b.aO,[]]
 | .choice t a b=>ba [t.aO,a.aO,b.aO,[]]
 | .before _ _=>[]
 | .led h r=>ba [h.aO,r.aO,[]]
 | .cI p n=>ba [p.aO,[n]]
 | .held p n _=>ba [p.aO,[n]]
structure Dx (K:PySem.W.Frag) (A:bO):Prop where
 given:Dm K A.given "own_names" "Part.own_names" aR ["self"]
 named:Dm K A.named "own_names" "Named.own_names" ck ["self"]
 turned:Dm K A.turned "own_names" "Part.own_names" aR ["self"]
 pair:Dm K A.pair "own_names" "Part.own_names" aR ["self"]
 choice:Dm K A.choice "own_names" "Part.own_names" aR ["self"]
 before:Dm K A.before "own_names" "Part.own_names" aR ["self"]
 led:Dm K A.led "own_names" "Part.own_names" aR ["self"]
 cI:Dm K A.cI "own_names" "When.own_names" dD ["self"]
 held:Dm K A.held "own_names" "Held.own_names" dB ["self"]
theorem Af (hA:eX K A)(d:Dm K A.given "own_names" "Part.own_names" aR ["self"]):bY P w K mg base (j+1) A.given "own_names" (mC A n (fun p=>ao p.own) A.given) []:=by
 refine d.cp ae ij m_ (fun f cdv A outer s H E hr=>have hu:=hr.units;have hh:=hr.hd;have sc:=ae
  (aF (aP (bb aC)))) ?_
 rintro ds Q ⟨p,rfl,hc,hd,q⟩
 have c:=hA.cl _ (Pt.aQ A p)
 have no:=hA.fD _ (Pt.aQ A p)
 obtain⟨v,rfl⟩:=qR hA hc
 exact⟨zL0,q⟩
theorem Ah (hA:eX K A)(d:Dm K A.named "own_names" "Named.own_names" ck ["self"]):bY P w K mg base (j+1) A.named "own_names" (mC A n (fun p=>ao p.own) A.named) []:=by
 refine d.cp gI ij m_ (fun f cdv A outer s H E hr=>have hu:=hr.units;have hh:=hr.hd;have sc:=gI
  (aF (aP (bb (aA (aT K rfl (dv 0) (by rfl)) aC))))) ?_
 rintro ds Q ⟨p,rfl,hc,hd,q⟩
 have c:=hA.cl _ (Pt.aQ A p)
 have no:=hA.fD _ (Pt.aQ A p)
 obtain⟨s,rfl⟩:=qS hA hc
 exact aV rfl c (no _ (by decide)) (by kernel_rfl) ⟨zL1,q⟩
theorem xx (hA:eX K A)(d:Dm K A.turned "own_names" "Part.own_names" aR ["self"]):bY P w K mg base (j+1) A.turned "own_names" (mC A n (fun p=>ao p.own) A.turned) []:=by
 refine d.cp ae ij m_ (fun f cdv A outer s H E hr=>have hu:=hr.units;have hh:=hr.hd;have sc:=ae
  (aF (aP (bb aC)))) ?_
 rintro ds Q ⟨p,rfl,hc,hd,q⟩
 have c:=hA.cl _ (Pt.aQ A p)
 have no:=hA.fD _ (Pt.aQ A p)
 obtain⟨x,rfl⟩:=oK hA hc
 exact⟨zL0,q⟩
theorem Cq (hA:eX K A)(d:Dm K A.pair "own_names" "Part.own_names" aR ["self"]):bY P w K mg base (j+1) A.pair "own_names" (mC A n (fun p=>ao p.own) A.pair) []:=by
 refine d.cp ae ij m_ (fun f cdv A outer s H E hr=>have hu:=hr.units;have hh:=hr.hd;have sc:=ae
  (aF (aP (bb aC)))) ?_
 rintro ds Q ⟨p,rfl,hc,hd,q⟩
 have c:=hA.cl _ (Pt.aQ A p)
 have no:=hA.fD _ (Pt.aQ A p)
 obtain⟨g,x,y,rfl⟩:=tY hA hc
 exact⟨zL0,q⟩
theorem xv (hA:eX K A)(d:Dm K A.choice "own_names" "Part.own_names" aR ["self"]):bY P w K mg base (j+1) A.choice "own_names" (mC A n (fun p=>ao p.own) A.choice) []:=by
 refine d.cp ae ij m_ (fun f cdv A outer s H E hr=>have hu:=hr.units;have hh:=hr.hd;have sc:=ae
  (aF (aP (bb aC)))) ?_
 rintro ds Q ⟨p,rfl,hc,hd,q⟩
 have c:=hA.cl _ (Pt.aQ A p)
 have no:=hA.fD _ (Pt.aQ A p)
 obtain⟨x,y,z,rfl⟩:=oJ hA hc
 exact⟨zL0,q⟩
theorem xu (hA:eX K A)(d:Dm K A.before "own_names" "Part.own_names" aR ["self"]):bY P w K mg base (j+1) A.before "own_names" (mC A n (fun p=>ao p.own) A.before) []:=by
 refine d.cp ae ij m_ (fun f cdv A outer s H E hr=>have hu:=hr.units;have hh:=hr.hd;have sc:=ae
  (aF (aP (bb aC)))) ?_
 rintro ds Q ⟨p,rfl,hc,hd,q⟩
 have c:=hA.cl _ (Pt.aQ A p)
 have no:=hA.fD _ (Pt.aQ A p)
 obtain⟨x,f,rfl⟩:=lD hA hc
 exact⟨zL0,q⟩
theorem FW (hA:eX K A)(d:Dm K A.led "own_names" "Part.own_names" aR ["self"]):bY P w K mg base (j+1) A.led "own_names" (mC A n (fun p=>ao p.own) A.led) []:=by
 refine d.cp ae ij m_ (fun f cdv A outer s H E hr=>have hu:=hr.units;have hh:=hr.hd;have sc:=ae
  (aF (aP (bb aC)))) ?_
 rintro ds Q ⟨p,rfl,hc,hd,q⟩
 have c:=hA.cl _ (Pt.aQ A p)
 have no:=hA.fD _ (Pt.aQ A p)
 obtain⟨x,y,rfl⟩:=xT hA hc
 exact⟨zL0,q⟩
theorem FX (hA:eX K A)(d:Dm K A.cI "own_names" "When.own_names" dD ["self"]):bY P w K mg base (j+1) A.cI "own_names" (mC A n (fun p=>ao p.own) A.cI) []:=by
 refine d.cp gm ij m_ (fun f cdv A outer s H E hr=>have hu:=hr.units;have hh:=hr.hd;have sc:=gm
  (aF (aP (bb (aA (aT K rfl (dv 0) (by rfl)) aC))))) ?_
 rintro ds Q ⟨p,rfl,hc,hd,q⟩
 have c:=hA.cl _ (Pt.aQ A p)
 have no:=hA.fD _ (Pt.aQ A p)
 obtain⟨x,s,rfl⟩:=xV hA hc
 exact aV rfl c (no _ (by decide)) (by kernel_rfl) ⟨zL1,q⟩
theorem Cp (hA:eX K A)(d:Dm K A.held "own_names" "Held.own_names" dB ["self"]):bY P w K mg base (j+1) A.held "own_names" (mC A n (fun p=>ao p.own) A.held) []:=by
 refine d.cp gg ij m_ (fun f cdv A outer s H E hr=>have hu:=hr.units;have hh:=hr.hd;have sc:=gg
  (aF (aP (bb (aA (aT K rfl (dv 0) (by rfl)) aC))))) ?_
 rintro ds Q ⟨p,rfl,hc,hd,q⟩
 have c:=hA.cl _ (Pt.aQ A p)
 have no:=hA.fD _ (Pt.aQ A p)
 obtain⟨x,s,f,rfl⟩:=tX hA hc
 exact aV rfl c (no _ (by decide)) (by kernel_rfl) ⟨zL1,q⟩
theorem zO (hA:eX K A)(d:Dx K A)(n:Nat):MP P w K mg base A (j+1) "own_names" n fun p=>ao p.own:=fun C ⟨p,e⟩=>by
 subst e
 cases p
 ·exact Af hA d.given
 ·exact Ah hA d.named
 ·exact xx hA d.turned
 ·exact Cq hA d.pair
 ·exact xv hA d.choice
 ·exact xu hA d.before
 ·exact FW hA d.led
 ·exact FX hA d.cI
 ·exact Cp hA d.held
theorem Dm.xm {C:Addr}{m qual:Str}{st:Stmt}{ps:List Str}{sd:pZ}(d:Dm K C m qual st ps)(ms:iX sd)(h:∀ ds Q,¬sd ds Q):jR P w K mg base j C m sd:=by
 obtain⟨f,fd,F,M,c,b⟩:=d.ex
 exact⟨⟨f,fd,ps,c,M,⟨fun vs H Q E ⟨ds,_,q⟩=>(h _ _ q).elim,fun A outer s H args us vs Q E _ _ _ _ ⟨ds,_,q⟩=>(h _ _ q).elim⟩,b⟩,ms⟩
theorem uq {ok:Pt->Prop}{g:Pt->List Str}{C:Addr}(ds:List D)(Q:D->Mu->Prop):¬ DK A 0 ok g C ds Q:=fun⟨p,_,_,h,_⟩=>absurd p.fk (by omega)
theorem rj (hA:eX K A)(dI:n0 K A)(dO:Dx K A)(c1:fq P w K mg base 1 "once" ["lists"] qk)(d:∀ C,uu A C->Dm K C "names" "Part.names" bH ["self"]):∀ n,MF P w K mg base A (n+1) "names" n okN Pt.names
 | 0=>fun C hC=>Dm.xm (d C hC) xc uq
 | n+1=>CZ d (let ⟨f,fd,F,r⟩:=c1.ex;⟨⟨f,fd,F.mono (show 1<=n+1 by omega),r⟩,c1.ms⟩) (lB hA dI _) (zO hA dO _) (MF.q (rj hA dI dO c1 d n))
def Pt.iC:Pt->Bool
 | .before _ _=>true
 | _=>false
theorem Pt.kJ (p:Pt)(h:p.iC=false):p.aO=ba (p.inner.map Pt.aO++[p.own]):=by cases p<;>first|rfl|cases h
theorem Pt.ah:∀ p:Pt,p.aO.length<=p.size
 | .given _=>by have:=bj [[]];simp only [Pt.aO,Pt.size,List.map_cons,List.map_nil,List.sum_cons,List.sum_nil,List.length_nil] at *;omega
 | .named n=>by have:=bj [[n]];simp only [Pt.aO,Pt.size,List.map_cons,List.map_nil,List.sum_cons,List.sum_nil,List.length_cons,List.length_nil] at *;omega
 | .turned p=>by have:=bj [p.aO,[]];have h1:=p.ah;simp only [Pt.aO,Pt.size,List.map_cons,List.map_nil,List.sum_cons,List.sum_nil,List.length_nil] at *;omega
 | .pair _ a b=>by have:=bj [a.aO,b.aO,[]];have h1:=a.ah;have h2:=b.ah;simp only [Pt.aO,Pt.size,List.map_cons,List.map_nil,List.sum_cons,List.sum_nil,List.length_nil] at *;omega
 | .choice t a b=>by have:=bj [t.aO,a.aO,b.aO,[]];have h0:=t.ah;have h1:=a.ah;have h2:=b.ah;simp only [Pt.aO,Pt.size,List.map_cons,List.map_nil,List.sum_cons,List.sum_nil,List.length_nil] at *;omega
 | .before p _=>by simp only [Pt.aO,Pt.size,List.length_nil];omega
 | .led h r=>by have:=bj [h.aO,r.aO,[]];have h1:=h.ah;have h2:=r.ah;simp only [Pt.aO,Pt.size,List.map_cons,List.map_nil,List.sum_cons,List.sum_nil,List.length_nil] at *;omega
 | .cI p n=>by have:=bj [p.aO,[n]];have h1:=p.ah;simp only [Pt.aO,Pt.size,List.map_cons,List.map_nil,List.sum_cons,List.sum_nil,List.length_cons,List.length_nil] at *;omega
 | .held p n _=>by have:=bj [p.aO,[n]];have h1:=p.ah;simp only [Pt.aO,Pt.size,List.map_cons,List.map_nil,List.sum_cons,List.sum_nil,List.length_cons,List.length_nil] at *;omega
theorem Pt.sO (p:Pt):((p.inner.map Pt.aO++[p.own]).map List.length).sum<=p.size:=by
 cases p<;>simp only [Pt.inner,Pt.own,Pt.size,List.map_cons,List.map_nil,List.cons_append,List.nil_append,List.sum_cons,List.sum_nil,List.length_cons,List.length_nil]
 case turned a=>have:=a.ah;omega
 case pair a b=>have:=a.ah;have:=b.ah;omega
 case choice t a b=>have:=t.ah;have:=a.ah;have:=b.ah;omega
 case before a _=>have:=a.ah;omega
 case led a b=>have:=a.ah;have:=b.ah;omega
 case cI a _=>have:=a.ah;omega
 case held a _ _=>have:=a.ah;omega
 all_goals omega
theorem oY:uI "needs":=by unfold uI;decide +kernel
theorem Ca {C:Addr}(hB:∀ p:Pt,p.cls A=C->p.iC=false)(d:Dm K C "needs" "Part.needs" bX ["self"])(cf_once:fq P w K mg base j "once" ["lists"] qk)(m_inner:MP P w K mg base A j "inner" (n+1) (d5 A))(m_own_names:MP P w K mg base A j "own_names" (n+1) fun p=>ao p.own)
  (m_needs:MQ P w K mg base A j "needs" n okN fun p=>ao p.aO):jR P w K mg base (j+1) C "needs" (DK A (n+1) okN Pt.aO C):=by
 refine d.pU lq xc (fun ds Q ⟨p,e,_⟩=>by rw [e];rfl) (fun f cdv A outer s H E hr=>have hu:=hr.units;have hh:=hr.hd;have sc:=lq
  (aU (gW (rV cf_once hr (by omega) (by rfl) (aA (cA (mN (x:="part") (caps:=[]) (cn:=[]) (cl:=[]) (h_ (by rfl) (by rfl) (by decide +kernel) (by decide +kernel) (by decide +kernel)) rfl (br (cE m_inner hr (by omega) (dv 0))) (fun C fp s₂ H₂=>bF (i:=0) (show(["part"]:List Str).Nodup by decide +kernel) rfl (Or.inl rfl) (.inr rfl)) (fun C fp s₂ H₂=>dX) (fun C fp s₂ H₂=>(cE m_needs hr (by omega) (dv 0)))) (bb (aA (cE m_own_names hr (by omega) (dv 0)) aC))) aC))))) ?_
 rintro ds Q ⟨p,rfl,hc,hd,ho,q⟩
 refine bJ bu lI ⟨_,rfl,rfl⟩ hd ?_
 refine⟨p.inner.map (Pt.d A),rfl,p.inner.map fun q=>some (ao q.aO),by simp,fun i d o hd' ho'=>?_,?_,?_⟩
 ·obtain⟨r,hr,e1,e2⟩:=m9 hd' ho'
  subst e1 e2
  exact⟨rfl,fun _=>dE bu oY ⟨_,rfl,rfl⟩ (p.d7 hr hd) (Nat.le_trans (Pt.tT hr) ho) rfl⟩
 ·rw [List.length_map];exact Nat.lt_of_le_of_lt p.df (by decide)
 ·refine bJ (p:=p) bu zL ⟨_,rfl,rfl⟩ hd ⟨zL1,?_⟩
  have e:(p.inner.map fun q=>some (ao q.aO)).filterMap id++[ao p.own]=(p.inner.map Pt.aO++[p.own]).map ao:=by
   rw [List.filterMap_map,filterMap_some,List.map_append,List.map_map]
   rfl
  refine⟨?_,p.inner.map Pt.aO++[p.own],?_,?_,fun a=>?_⟩
  ·show((p.inner.map fun q=>some (ao q.aO)).filterMap id).length+1<=sizeLine
   rw [List.filterMap_map,filterMap_some,List.length_map]
   exact Nat.le_trans (Nat.add_le_add_right p.df 1) (by decide)
  ·exact congrArg (fun z=>[D.lst z]) e
  ·exact Nat.lt_of_le_of_lt p.sO (Nat.lt_of_le_of_lt ho (by decide))
  ·rw [<- Pt.kJ p (hB p hc)];exact q a
theorem uF (hA:eX K A)(d:Dm K A.before "needs" "Before.needs" d_ ["self"]):jR P w K mg base (j+1) A.before "needs" (DK A n okN Pt.aO A.before):=by
 refine d.pU jG xc (fun ds Q ⟨p,e,_⟩=>by rw [e];rfl) (fun f cdv A outer s H E hr=>have hu:=hr.units;have hh:=hr.hd;have sc:=jG
  (aU (gW (qI aC)))) ?_
 rintro ds Q ⟨p,rfl,hc,hd,ho,q⟩
 obtain⟨x,f,rfl⟩:=lD hA hc
 exact⟨zL0,fun a=>q a⟩
structure BO (K:PySem.W.Frag) (A:bO):Prop where
 part:∀ C,uu A C->C≠A.before->Dm K C "needs" "Part.needs" bX ["self"]
 before:Dm K A.before "needs" "Before.needs" d_ ["self"]
theorem rl (hA:eX K A)(dI:n0 K A)(dO:Dx K A)(c1:fq P w K mg base 1 "once" ["lists"] qk)(d:BO K A):∀ n,MF P w K mg base A (n+1) "needs" n okN Pt.aO
 | 0=>fun C hC=>by
  by_cases h:C=A.before
  ·subst h;exact Dm.xm d.before xc uq
  ·exact Dm.xm (d.part C hC h) xc uq
 | n+1=>fun C hC=>by
  by_cases h:C=A.before
  ·subst h;exact uF hA d.before
  ·refine Ca (fun p hp=>?_) (d.part C hC h) (let ⟨f,fd,F,r⟩:=c1.ex;⟨⟨f,fd,F.mono (show 1<=n+1 by omega),r⟩,c1.ms⟩) (lB hA dI _) (zO hA dO _) (MF.q (rl hA dI dO c1 d n))
   cases p<;>first|rfl|exact absurd hp.symm h
end
inductive Ln where
 | lC (n k:Str) (o:Option Str)|row (n k:Str) (p:Pt) (o:Option Str)
structure LA where
 lC:Addr
 row:Addr
 sh:Addr
def zN:Option Str->D
 | none=>.aj
 | some x=>.str x
def Ln.cls (L:LA):Ln->Addr
 | .lC _ _ _=>L.lC
 | .row _ _ _ _=>L.row
def Ln.d (A:bO)(L:LA):Ln->D
 | .lC n k o=>.obj L.lC [("name",.str n),("kind",.str k),("on",zN o)]
 | .row n k p o=>.obj L.row [("name",.str n),("kind",.str k),("part",p.d A),("on",zN o)]
def Ln.own:Ln->List Str
 | .lC n _ _=>[n]
 | .row n _ _ _=>[n]
def Ln.parts:Ln->List Pt
 | .lC _ _ _=>[]
 | .row _ _ p _=>[p]
def Ln.on:Ln->Option Str
 | .lC _ _ o=>o
 | .row _ _ _ o=>o
def Ln.qu:Ln->Bool
 | .lC _ k _=>k == "truth"
 | .row _ k _ _=>k == "truth"
def Jo:List Str:=["name","kind","part","on","binds","module","parts","inputs","outputs","lines"]
structure pq (K:PySem.W.Frag) (L:LA):Prop where
 n1:L.lC≠L.row
 cl:∀ C∈[L.lC,L.row,L.sh],q_ K C
 fD:∀ C∈[L.lC,L.row,L.sh],∀ f∈Jo,cq K C f
theorem Ln.aQ (L:LA)(x:Ln):x.cls L∈[L.lC,L.row,L.sh]:=by cases x<;>simp [Ln.cls]
theorem xS {K:PySem.W.Frag}{L:LA}(hL:pq K L){x:Ln}(h:x.cls L=L.lC):∃ n k o,x=.lC n k o:=by
 cases x with
 | lC n k o=>exact⟨n,k,o,rfl⟩
 | row n k p o=>exact absurd h.symm hL.n1
theorem xU {K:PySem.W.Frag}{L:LA}(hL:pq K L){x:Ln}(h:x.cls L=L.row):∃ n k p o,x=.row n k p o:=by
 cases x with
 | lC n k o=>exact absurd h hL.n1
 | row n k p o=>exact⟨n,k,p,o,rfl⟩
def BI (L:LA)(C:Addr):Prop:=∃ x:Ln,x.cls L=C
def pY (x:Ln):Prop:=x.own.length<=8/\x.parts.length<=8/\∀ p∈x.parts,p.depth<=4/\p.size<=40
def DI (A:bO)(L:LA)(g:Ln->D)(C:Addr):cL:=fun ds Q=>∃ x:Ln,ds=[x.d A L]/\x.cls L=C/\pY x/\Q (g x)
theorem Ke {A:bO}{L:LA}{g:Ln->D}{C:Addr}:cQ (DI A L g C):=fun ds P P' f ⟨x,e,c,o,q⟩=>⟨x,e,c,o,f _ q⟩
theorem Lq {A:bO}{L:LA}{g:Ln->D}{C:Addr}(ds:List D)(Q:D->Prop)(h:DI A L g C ds Q):ds.length=1:=by obtain⟨x,e,_⟩:=h;rw [e];rfl
def Fw (A:bO)(L:LA)(g:Ln->List Str)(C:Addr):pZ:=fun ds Q=>∃ x:Ln,ds=[x.d A L]/\x.cls L=C/\pY x/\∀ a,Q (.adr a) [(a,.lst ((g x).map D.str))]
theorem Kf {A:bO}{L:LA}{g:Ln->List Str}{C:Addr}:iX (Fw A L g C):=fun ds P P' f ⟨x,e,c,o,q⟩=>⟨x,e,c,o,fun a=>f _ _ (q a)⟩
def v_ (m:Str):Prop:=∀ f∈Jo,(m == f)=false
theorem wB (A:bO)(L:LA){m:Str}(h:v_ m)(x:Ln):∃ gs,x.d A L=.obj (x.cls L) gs/\gs.lookup m=none:=by
 have l:∀{f:Str} {d:D} {r:List (Str × D)},f∈Jo->r.lookup m=none->((f,d)::r).lookup m=none:=fun hf hr=>by
  rw [List.lookup_cons,h _ hf]
  exact hr
 cases x<;>refine⟨_,rfl,?_⟩<;>repeat (first|rfl|refine l (by decide) ?_)
theorem kC {A:bO}{L:LA}{g:Ln->D}{m:Str}{ta:ED}{δ:SD}{x:Ln}{Q:D->Prop}(mt:bV ta)(hm:v_ m)(h:ta δ fun d=>d=x.d A L)(ho:pY x)(q:Q (g x)) :
  pP (BI L) m (DI A L g) [] ta sq δ Q:=mt _ _ _ (fun d e=>by
 obtain⟨gs,e1,e2⟩:=wB A L hm x
 exact⟨x.cls L,gs,e.trans e1,e2,⟨x,rfl⟩,x,by rw [List.append_nil,e],rfl,ho,q⟩) h
theorem AR {A:bO}{L:LA}{g:Ln->List Str}{m:Str}{ta:ED}{δ:SD}{x:Ln}{Q:D->Mu->Prop}(mt:bV ta)(hm:v_ m)(h:ta δ fun d=>d=x.d A L)(ho:pY x)(q:∀ a,Q (.adr a) [(a,.lst ((g x).map D.str))]) :
  Gj (BI L) m (Fw A L g) ta δ Q:=mt _ _ _ (fun d e=>by
 obtain⟨gs,e1,e2⟩:=wB A L hm x
 exact⟨x.cls L,gs,e.trans e1,e2,⟨x,rfl⟩,x,by rw [e],rfl,ho,q⟩) h
theorem zK:v_ "own_names":=by unfold v_;decide +kernel
theorem oX:v_ "own_parts":=by unfold v_;decide +kernel
theorem xp:v_ "is_truths":=by unfold v_;decide +kernel
section
seal wpAny
variable {P:Program}{w:World}{K:PySem.W.Frag}{mg:Str->Option Value}{base:Heap}{A:bO}{L:LA}{n j:Nat}
structure sY (K:PySem.W.Frag) (L:LA):Prop where
 o1:Dm K L.lC "own_names" "Input.own_names" eD ["self"]
 o2:Dm K L.row "own_names" "Row.own_names" fQ ["self"]
 p1:Dm K L.lC "own_parts" "Input.own_parts" eE ["self"]
 p2:Dm K L.row "own_parts" "Row.own_parts" fR ["self"]
 t1:Dm K L.lC "is_truths" "Input.is_truths" eC ["self"]
 t2:Dm K L.row "is_truths" "Row.is_truths" fP ["self"]
theorem Ag (hL:pq K L)(d:sY K L)(n_list:mg "list"=none):∀ C,BI L C->jR P w K mg base (j+1) C "own_names" (Fw A L Ln.own C):=fun C ⟨x,e⟩=>by
 subst e
 have one:1<=sizeLine:=by decide
 cases x with
 | lC n k o =>
  refine d.o1.pU gG Kf (fun ds Q ⟨x,e,_⟩=>by rw [e];rfl) (fun f cdv A outer s H E hr=>have hu:=hr.units;have hh:=hr.hd;have sc:=gG
  (aU (gW (qI (aA (aT K rfl (dv 0) (by rfl)) aC))))) ?_
  rintro ds Q ⟨x,rfl,hc,ho,q⟩
  have c:=hL.cl _ (Ln.aQ L x)
  have no:=hL.fD _ (Ln.aQ L x)
  obtain⟨n,k,o,rfl⟩:=xS hL hc
  exact aV rfl c (no _ (by decide)) (by kernel_rfl) ⟨one,q⟩
 | row n k p o =>
  refine d.o2.pU iO Kf (fun ds Q ⟨x,e,_⟩=>by rw [e];rfl) (fun f cdv A outer s H E hr=>have hu:=hr.units;have hh:=hr.hd;have sc:=iO
  (aU (gW (qI (aA (aT K rfl (dv 0) (by rfl)) aC))))) ?_
  rintro ds Q ⟨x,rfl,hc,ho,q⟩
  have c:=hL.cl _ (Ln.aQ L x)
  have no:=hL.fD _ (Ln.aQ L x)
  obtain⟨n,k,p,o,rfl⟩:=xU hL hc
  exact aV rfl c (no _ (by decide)) (by kernel_rfl) ⟨one,q⟩
theorem wI (hL:pq K L)(d:sY K L):∀ C,BI L C->bY P w K mg base (j+1) C "own_parts" (DI A L (fun x=>.tup (x.parts.map (Pt.d A))) C) []:=fun C ⟨x,e⟩=>by
 subst e
 cases x with
 | lC n k o =>
  refine d.p1.cp gH Ke Lq (fun f cdv A outer s H E hr=>have hu:=hr.units;have hh:=hr.hd;have sc:=gH
  (aF (aP (bT aC)))) ?_
  rintro ds Q ⟨x,rfl,hc,ho,q⟩
  obtain⟨n,k,o,rfl⟩:=xS hL hc
  exact⟨zL0,q⟩
 | row n k p o =>
  refine d.p2.cp iP Ke Lq (fun f cdv A outer s H E hr=>have hu:=hr.units;have hh:=hr.hd;have sc:=iP
  (aF (aP (bT (aA (aT K rfl (dv 0) (by rfl)) aC))))) ?_
  rintro ds Q ⟨x,rfl,hc,ho,q⟩
  have c:=hL.cl _ (Ln.aQ L x)
  have no:=hL.fD _ (Ln.aQ L x)
  obtain⟨n,k,p,o,rfl⟩:=xU hL hc
  exact aV rfl c (no _ (by decide)) (by kernel_rfl) ⟨zL1,q⟩
theorem uk (hL:pq K L)(d:sY K L):∀ C,BI L C->bY P w K mg base (j+1) C "is_truths" (DI A L (fun x=>.bl x.qu) C) []:=fun C ⟨x,e⟩=>by
 subst e
 cases x with
 | lC n k o =>
  refine d.t1.cp gF Ke Lq (fun f cdv A outer s H E hr=>have hu:=hr.units;have hh:=hr.hd;have sc:=gF
  (aF (aP (xD hu (aT K rfl (dv 0) (by rfl)) aZ)))) ?_
  rintro ds Q ⟨x,rfl,hc,ho,q⟩
  have c:=hL.cl _ (Ln.aQ L x)
  have no:=hL.fD _ (Ln.aQ L x)
  obtain⟨n,k,o,rfl⟩:=xS hL hc
  exact aV (r:=.str k) rfl c (no _ (by decide)) (by kernel_rfl) q
 | row n k p o =>
  refine d.t2.cp iN Ke Lq (fun f cdv A outer s H E hr=>have hu:=hr.units;have hh:=hr.hd;have sc:=iN
  (aF (aP (xD hu (aT K rfl (dv 0) (by rfl)) aZ)))) ?_
  rintro ds Q ⟨x,rfl,hc,ho,q⟩
  have c:=hL.cl _ (Ln.aQ L x)
  have no:=hL.fD _ (Ln.aQ L x)
  obtain⟨n,k,p,o,rfl⟩:=xU hL hc
  exact aV (r:=.str k) rfl c (no _ (by decide)) (by kernel_rfl) q
structure Sh where
 nm:Str
 ins:List Ln
 outs:List Str
 ls:List Ln
def Sh.all (s:Sh):List Ln:=s.ins++s.ls
def Sh.d (A:bO)(L:LA)(s:Sh):D:=.obj L.sh [("name",.str s.nm),("inputs",.tup (s.ins.map (Ln.d A L))),("outputs",.tup (s.outs.map D.str)),("lines",.tup (s.ls.map (Ln.d A L)))]
def Sh.names (s:Sh):List Str:=s.all.flatMap Ln.own
def tabOf (A:bO)(L:LA)(xs:List Ln):List (Key × D):=xs.flatMap fun x=>x.own.map fun n=>((Sum.inr n:Key),x.d A L)
def Sh.tab (A:bO)(L:LA)(s:Sh):List (Key × D):=tabOf A L s.all
structure Sh.Ok (s:Sh):Prop where
 len:s.ins.length<=8/\s.ls.length<=10
 ln:∀ x∈s.all,pY x
theorem Sh.Ok.kx {s:Sh}(h:s.Ok):s.all.length<=18:=by
 unfold Sh.all
 rw [List.length_append]
 have:=h.len
 omega
theorem my:∀{xs:List Ln},(∀ x∈xs,pY x)->(xs.flatMap Ln.own).length<=8*xs.length
 | [],_=>Nat.le_refl _
 | x::xs,h=>by
  rw [List.flatMap_cons,List.length_append,List.length_cons]
  have h1:=(h x List.mem_cons_self).1
  have h2:=my (xs:=xs) fun y hy=>h y (List.mem_cons_of_mem _ hy)
  omega
theorem ou {xs:List Ln}{i:Nat}{x:Ln}{f:Ln->List Str}(h:xs[i]?=some x):(xs.take (i+1)).flatMap f=(xs.take i).flatMap f++f x:=by
 rw [List.take_succ,h,List.flatMap_append]
 simp
def ni (A:bO)(L:LA)(ok:Sh->Prop)(g:Sh->D)(C:Addr):cL:=fun ds Q=>∃ s:Sh,ds=[s.d A L]/\L.sh=C/\s.Ok/\ok s/\Q (g s)
theorem IL {A:bO}{L:LA}{ok:Sh->Prop}{g:Sh->D}{C:Addr}:cQ (ni A L ok g C):=fun ds P P' f ⟨s,e,c,o,k,q⟩=>⟨s,e,c,o,k,f _ q⟩
theorem KW {A:bO}{L:LA}{ok:Sh->Prop}{g:Sh->D}{C:Addr}(ds:List D)(Q:D->Prop)(h:ni A L ok g C ds Q):ds.length=1:=by obtain⟨x,e,_⟩:=h;rw [e];rfl
def LI (A:bO)(L:LA)(C:Addr):pZ:=fun ds Q=>∃ s:Sh,ds=[s.d A L]/\L.sh=C/\s.Ok/\∀ a,Q (.adr a) [(a,.lst (s.names.map D.str))]
theorem Mf {A:bO}{L:LA}{C:Addr}:iX (LI A L C):=fun ds P P' f ⟨s,e,c,o,q⟩=>⟨s,e,c,o,fun a=>f _ _ (q a)⟩
def AN (L:LA)(C:Addr):Prop:=L.sh=C
theorem Cd (A:bO)(L:LA){m:Str}(h:v_ m)(s:Sh):∃ gs,s.d A L=.obj L.sh gs/\gs.lookup m=none:=by
 have l:∀{f:Str} {d:D} {r:List (Str × D)},f∈Jo->r.lookup m=none->((f,d)::r).lookup m=none:=fun hf hr=>by
  rw [List.lookup_cons,h _ hf]
  exact hr
 refine⟨_,rfl,?_⟩
 repeat (first|rfl|refine l (by decide) ?_)
theorem fE {A:bO}{L:LA}{ok:Sh->Prop}{g:Sh->D}{m:Str}{ta:ED}{δ:SD}{s:Sh}{Q:D->Prop}(mt:bV ta)(hm:v_ m)(h:ta δ fun d=>d=s.d A L)(ho:s.Ok)(hk:ok s)(q:Q (g s)) :
  pP (AN L) m (ni A L ok g) [] ta sq δ Q:=mt _ _ _ (fun d e=>by
 obtain⟨gs,e1,e2⟩:=Cd A L hm s
 exact⟨L.sh,gs,e.trans e1,e2,rfl,s,by rw [List.append_nil,e],rfl,ho,hk,q⟩) h
theorem lH:v_ "all_lines":=by unfold v_;decide +kernel
theorem Ad:v_ "names":=by unfold v_;decide +kernel
theorem xo:v_ "lines_by_name":=by unfold v_;decide +kernel
def xK (A:bO)(L:LA)(s:Sh):D:=.tup (s.all.map (Ln.d A L))
theorem sF {kvs:List (Key × D)}{k:Key}{v:D}(h:∀ p∈kvs,p.1≠k):gY kvs k v=kvs++[(k,v)]:=by
 unfold gY
 rw [if_neg]
 intro z
 obtain⟨p,hp,e⟩:=List.any_eq_true.mp z
 exact h p hp (of_decide_eq_true e)
theorem qr {A:bO}{L:LA}:∀(xs:List Ln),(tabOf A L xs).map (·.1)=(xs.flatMap Ln.own).map Sum.inr
 | []=>rfl
 | x::xs=>by
  unfold tabOf
  rw [List.flatMap_cons,List.map_append,List.flatMap_cons,List.map_append,List.map_map]
  have ih:=qr (A:=A) (L:=L) xs
  unfold tabOf at ih
  rw [ih]
  rfl
theorem F9 {A:bO}{L:LA}(xs:List Ln):(tabOf A L xs).length=(xs.flatMap Ln.own).length:=by
 have:=congrArg List.length (qr (A:=A) (L:=L) xs)
 simpa using this
def qq (A:bO)(L:LA)(xs:List Ln)(x:Ln)(ns:List Str):List (Key × D):=tabOf A L xs++ns.map fun n=>((Sum.inr n:Key),x.d A L)
theorem DV {A:bO}{L:LA}{xs:List Ln}{x:Ln}{ns:List Str}{n:Str}(h:n∉xs.flatMap Ln.own++ns):gY (qq A L xs x ns) (.inr n) (x.d A L)=qq A L xs x (ns++[n]):=by
 unfold qq
 rw [sF,List.map_append,List.append_assoc]
 ·rfl
 ·intro p hp e
  apply h
  have:p.1∈(tabOf A L xs++ns.map fun n=>((Sum.inr n:Key),x.d A L)).map (·.1):=List.mem_map.mpr ⟨p,hp,rfl⟩
  rw [List.map_append,qr,List.map_map,e] at this
  rcases List.mem_append.mp this with q|q
  ·obtain⟨m,hm,em⟩:=List.mem_map.mp q
   cases em
   exact List.mem_append_left _ hm
  ·obtain⟨m,hm,em⟩:=List.mem_map.mp q
   cases em
   exact List.mem_append_right _ hm
theorem pA {a b:List (Key × D)}{k:Key}(h:∀ p∈a,p.1≠k):eP (a++b) k=eP b k:=by
 unfold eP
 rw [List.find?_append,List.find?_eq_none.mpr]
 ·rfl
 ·intro p hp z
  exact h p hp (of_decide_eq_true z)
theorem uh {A:bO}{L:LA}{x:Ln}{n:Str}:∀{xs:List Ln},(xs.flatMap Ln.own).Nodup->x∈xs->n∈x.own->eP (tabOf A L xs) (.inr n)=some (x.d A L)
 | [],_,h,_=>(nomatch h)
 | y::xs,nd,h,hn=>by
  rw [List.flatMap_cons] at nd
  obtain⟨d1,d2,d3⟩:=List.nodup_append.mp nd
  show eP ((y.own.map fun n=>((Sum.inr n:Key),y.d A L))++tabOf A L xs) (.inr n)=_
  by_cases hy:n∈y.own
  ·have e:x=y:=by
    rcases List.mem_cons.mp h with e|h
    ·exact e
    ·exact absurd rfl (d3 n hy n (List.mem_flatMap.mpr ⟨x,h,hn⟩))
   subst e
   have z:∀(l:List Str),n∈l->eP ((l.map fun n=>((Sum.inr n:Key),x.d A L))++tabOf A L xs) (.inr n)=some (x.d A L):=fun l=>by
    induction l with
    | nil=>intro q;cases q
    | cons m l ih =>
     intro q
     by_cases em:m=n
     ·subst em
      unfold eP
      rw [List.map_cons,List.cons_append,List.find?_cons]
      simp
     ·have ih':=ih ((List.mem_cons.mp q).resolve_left fun z=>em z.symm)
      unfold eP at ih' ⊢
      rw [List.map_cons,List.cons_append,List.find?_cons,show decide (((Sum.inr m:Key),x.d A L).1=Sum.inr n)=false from decide_eq_false fun z=>em (Sum.inr.inj z)]
      exact ih'
   exact z _ hy
  ·have hx:x∈xs:=by
    rcases List.mem_cons.mp h with e|h
    ·rw [e] at hn;exact absurd hn hy
    ·exact h
   rw [pA]
   ·exact uh d2 hx hn
   ·intro p hp e
    obtain⟨m,hm,em⟩:=List.mem_map.mp hp
    rw [<- em] at e
    cases e
    exact hy hm
theorem zu (hL:pq K L)(d:Dm K L.sh "all_lines" "Sheet.all_lines" eG ["self"]):∀ C,AN L C->bY P w K mg base (j+1) C "all_lines" (ni A L (fun _=>True) (xK A L) C) []:=fun C e=>by
 cases e
 refine d.cp gJ IL KW (fun f cdv A outer s H E hr=>have hu:=hr.units;have hh:=hr.hd;have sc:=gJ
  (aF (aP (cA (aT K rfl (dv 0) (by rfl)) (aT K rfl (dv 0) (by rfl)))))) ?_
 rintro ds Q ⟨s,rfl,_,ho,_,q⟩
 have c:=hL.cl L.sh (by simp)
 have no:=hL.fD L.sh (by simp)
 refine aV (r:=.tup (s.ins.map (Ln.d A L))) rfl c (no _ (by decide)) (by kernel_rfl) (aV (r:=.tup (s.ls.map (Ln.d A L))) rfl c (no _ (by decide)) (by kernel_rfl) ⟨?_,?_⟩)
 ·rw [List.length_map,List.length_map]
  exact Nat.le_trans (show s.ins.length+s.ls.length<=18 by have:=ho.len;omega) (by decide)
 ·rw [<- List.map_append]
  exact q
theorem v8 (d:Dm K L.sh "names" "Sheet.names" g9 ["self"])(m_all_lines:∀ C,AN L C->bY P w K mg base j C "all_lines" (ni A L (fun _=>True) (xK A L) C) [])(mf_own_names:∀ C,BI L C->jR P w K mg base j C "own_names" (Fw A L Ln.own C)) :
  ∀ C,AN L C->jR P w K mg base (j+1) C "names" (LI A L C):=fun C e=>by
 cases e
 refine d.pU kc Mf (fun ds Q ⟨s,e,_⟩=>by rw [e];rfl) (fun f cdv A outer s H E hr=>have hu:=hr.units;have hh:=hr.hd;have sc:=kc
  (aM (lG (i:=1) sc.nd rfl (Or.inl rfl) aC)
 (aM (cY PassesOwn.never rfl (br (cE m_all_lines hr (by omega) (dv 0))) (bR (i:=2) sc.nd rfl (Or.inl rfl)) (aU (iE (i:=1) rfl (Or.inl rfl) (Ed mf_own_names hr (by omega) (dv 2)))))
 (aU (bw (aP (dv 1))))))) ?_
 rintro ds Q ⟨s,rfl,_,ho,q⟩
 refine⟨zL0,fun a _=>?_⟩
 refine fE bu lH ⟨_,rfl,rfl⟩ ho True.intro ⟨s.all.map (Ln.d A L),rfl,fun i δ μ=>(∃ x2,δ=[some (s.d A L),some (.adr a),x2])/\μ=[(a,.lst (((s.all.take i).flatMap Ln.own).map D.str))],⟨⟨none,rfl⟩,rfl⟩,?_,?_⟩
 ·rintro i dd δ μ hd ⟨⟨x2,rfl⟩,rfl⟩
  rw [List.getElem?_map] at hd
  cases hx:s.all[i]? with
  | none=>rw [hx] at hd;cases hd
  | some x =>
   rw [hx] at hd
   obtain rfl:x.d A L=dd:=by simpa using hd
   have hox:=ho.ln x (List.mem_of_getElem? hx)
   refine⟨a,_,rfl,b7,AR bu zK ⟨_,rfl,rfl⟩ hox fun b=>⟨b,_,rfl,b7,?_,⟨_,rfl⟩,?_⟩⟩
   ·rw [List.length_map,List.length_map]
    have h1:=my (xs:=s.all.take i) fun y hy=>ho.ln y (List.mem_of_mem_take hy)
    have h2:(s.all.take i).length<=18:=Nat.le_trans (by rw [List.length_take];exact Nat.min_le_right _ _) ho.kx
    exact Nat.le_trans (show((s.all.take i).flatMap Ln.own).length+x.own.length<=200 by have:=hox.1;omega) (by decide)
   ·rw [kN,<- List.map_append,<- ou hx]
 ·rintro δ μ ⟨⟨x2,rfl⟩,rfl⟩
  rw [List.length_map,List.take_length]
  exact⟨_,rfl,q a⟩
theorem D_ (d:Dm K L.sh "lines_by_name" "Sheet.lines_by_name" cZ ["self"])(m_all_lines:∀ C,AN L C->bY P w K mg base j C "all_lines" (ni A L (fun _=>True) (xK A L) C) [])(m_own_names:∀ C,BI L C->bY P w K mg base j C "own_names" (DI A L (fun x=>.lst (x.own.map D.str)) C) []) :
  ∀ C,AN L C->bY P w K mg base (j+1) C "lines_by_name" (ni A L (fun s=>s.names.Nodup) (fun s=>.dK (s.tab A L)) C) []:=fun C e=>by
 cases e
 refine d.n_ eN IL KW (fun f cdv A outer s H E hr=>have hu:=hr.units;have hh:=hr.hd;have sc:=eN
  (aM (dQ (i:=1) sc.nd rfl (Or.inl rfl) gQ)
 (aM (cY PassesOwn.never rfl (br (cE m_all_lines hr (by omega) (dv 0))) (bR (i:=2) sc.nd rfl (Or.inl rfl)) (aU (cY PassesOwn.never rfl (br (cE m_own_names hr (by omega) (dv 2))) (bR (i:=3) sc.nd rfl (Or.inl rfl)) (aU (fX (i:=1) hu rfl (Or.inl rfl) (dv 3) (dv 2))))))
 (aU (fK (dv 1)))))) ?_
 rintro ds Q ⟨s,rfl,_,ho,nd,q⟩
 intro a _
 refine fE bu lH ⟨_,rfl,rfl⟩ ho True.intro ⟨s.all.map (Ln.d A L),rfl,fun i δ μ=>(∃ x2 x3,δ=[some (s.d A L),some (.adr a),x2,x3])/\μ=[(a,.dK (tabOf A L (s.all.take i)))],⟨⟨none,none,rfl⟩,rfl⟩,?_,?_⟩
 ·rintro i dd δ μ hd ⟨⟨x2,x3,rfl⟩,rfl⟩
  rw [List.getElem?_map] at hd
  cases hx:s.all[i]? with
  | none=>rw [hx] at hd;cases hd
  | some x =>
   rw [hx] at hd
   obtain rfl:x.d A L=dd:=by simpa using hd
   have hox:=ho.ln x (List.mem_of_getElem? hx)
   have hlt:(s.all.take i).length<=18:=Nat.le_trans (by rw [List.length_take];exact Nat.min_le_right _ _) ho.kx
   have hfl:=my (xs:=s.all.take i) fun y hy=>ho.ln y (List.mem_of_mem_take hy)
   have ndi:((s.all.take i).flatMap Ln.own++x.own).Nodup:=by
    rw [<- ou hx]
    have e:s.names=(s.all.take (i+1)).flatMap Ln.own++(s.all.drop (i+1)).flatMap Ln.own:=by rw [<- List.flatMap_append,List.take_append_drop];rfl
    rw [e] at nd
    exact(List.nodup_append.mp nd).1
   refine kC bu zK ⟨_,rfl,rfl⟩ hox ⟨x.own.map D.str,rfl,fun k δ μ=>(∃ x3,δ=[some (s.d A L),some (.adr a),some (x.d A L),x3])/\μ=[(a,.dK (qq A L (s.all.take i) x (x.own.take k)))],⟨⟨x3,rfl⟩,?_⟩,?_,?_⟩
   ·unfold qq
    rw [List.take_zero,List.map_nil,List.append_nil]
   ·rintro k dn δ μ hd ⟨⟨y3,rfl⟩,rfl⟩
    rw [List.getElem?_map] at hd
    cases hn:x.own[k]? with
    | none=>rw [hn] at hd;cases hd
    | some n =>
     rw [hn] at hd
     obtain rfl:D.str n=dn:=by simpa using hd
     refine⟨_,rfl,a,_,rfl,b7,?_,_,rfl,.inr n,rfl,⟨_,rfl⟩,?_⟩
     ·unfold qq
      rw [List.length_append,List.length_map,F9,List.length_take]
      exact Nat.lt_of_le_of_lt (show _+min k x.own.length<=160 by have:=hox.1;omega) (by decide)
     ·rw [kN,DV,List.take_succ,hn]
      ·rfl
      ·intro z
       have hk:k<x.own.length:=(List.getElem?_eq_some_iff.mp hn).1
       have e:x.own=x.own.take k++x.own.drop k:=(List.take_append_drop k x.own).symm
       have hin:n∈x.own.drop k:=by
        rw [List.mem_iff_getElem?]
        exact⟨0,by rw [List.getElem?_drop];exact hn⟩
       rw [e,<- List.append_assoc] at ndi
       exact(List.nodup_append.mp ndi).2.2 n z n hin rfl
   ·rintro δ μ ⟨⟨y3,rfl⟩,rfl⟩
    refine⟨⟨_,_,rfl⟩,?_⟩
    rw [List.length_map,List.take_length]
    unfold qq tabOf
    rw [List.take_succ,hx,List.flatMap_append]
    simp
 ·rintro δ μ ⟨⟨x2,x3,rfl⟩,rfl⟩
  rw [List.length_map,List.take_length]
  refine⟨.dK (s.tab A L),?_,q⟩
  show some (some (ay [(a,_)] (.adr a)))=_
  rw [gw]
  rfl
def wU:cL:=fun ds Q=>∃ z:Str,ds=[.bl true,.str z]/\Q .aj
def LJ:cL:=fun ds Q=>∃ x:Str,ds=[.str x]/\x.length<=100000/\jM x=true/\Q .aj
def FL:Option Str->Prop
 | none=>True
 | some x=>x.length<=100000/\f9 x=true
def JS:cL:=fun ds Q=>∃ o:Option Str,ds=[zN o]/\FL o/\Q .aj
def JT:cL:=fun ds Q=>∃ k:Str,ds=[.str k]/\k∈(["truth","number"]:List Str)/\Q (.bl true)
def wQ (A:bO)(L:LA):cL:=fun ds Q=>∃ s:Sh,ds=[s.d A L]/\s.Ok/\1<=s.outs.length/\s.outs.length<=8/\1<=s.ls.length/\Q .aj
def zc:cL:=fun ds Q=>∃(ss:List Str) (z:Str),(ds=[.lst (ss.map D.str),.str z]\/ds=[.tup (ss.map D.str),.str z])/\ss.Nodup/\ss.length<=200/\Q .aj
def Kt:Option Str->List Str
 | none=>[]
 | some x=>[x]
def Ln.gS (x:Ln):List Str:=Kt x.on++x.parts.flatMap Pt.names
def za (A:bO)(L:LA):pZ:=fun ds Q=>∃ x:Ln,ds=[x.d A L]/\pY x/\∀ a,Q (.adr a) [(a,.lst (x.gS.map D.str))]
theorem oR {x:Ln}(h:pY x):x.gS.length<=330:=by
 unfold Ln.gS
 rw [List.length_append]
 have h1:(Kt x.on).length<=1:=by cases x.on<;>simp [Kt]
 have h2:∀(ps:List Pt),(∀ p∈ps,p.depth<=4/\p.size<=40)->(ps.flatMap Pt.names).length<=40*ps.length:=fun ps=>by
  induction ps with
  | nil=>intro _;exact Nat.le_refl _
  | cons p ps ih =>
   intro hp
   rw [List.flatMap_cons,List.length_append,List.length_cons]
   have:=ih fun q hq=>hp q (List.mem_cons_of_mem _ hq)
   have:=(hp p List.mem_cons_self).2
   have:=p.ar
   omega
 have:=h2 x.parts h.2.2
 have:=h.2.1
 omega
def zY (A:bO)(L:LA):cL:=fun ds Q=>∃ s:Sh,ds=[s.d A L,.dK (s.tab A L)]/\s.Ok/\s.names.Nodup/\s.outs.length<=8/\(∀ n∈s.outs++s.all.flatMap Ln.gS,n∈s.names)/\Q .aj
def Gy (s:Sh):Prop:=∃ r:Str->Nat,(∀ n,r n<=100)/\∀ x∈s.all,∀ n,x.on=some n->∃ y∈s.all,n∈y.own/\y.qu=true/\∀ m,y.on=some m->r m<r n
def HB (A:bO)(L:LA):cL:=fun ds Q=>∃ s:Sh,ds=[s.d A L,.dK (s.tab A L)]/\s.Ok/\s.names.Nodup/\Gy s/\Q .aj
theorem ag (d:Df K mg "need_sheet" jB ["holds","words"]):az P w K mg base (j+1) "need_sheet" ["holds","words"] wU:=by
 refine d.cp mB (fun ds P P' f ⟨z,e,q⟩=>⟨z,e,f _ q⟩) (fun ds Q ⟨z,e,_⟩=>by rw [e];rfl) (fun f cdv A outer s H E hr=>have hu:=hr.units;have hh:=hr.hd;have sc:=mB
  (aF (cG (jL (gu (dv 0))) (aF jD) ak))) ?_
 rintro ds Q ⟨z,rfl,q⟩
 exact⟨_,rfl,true,rfl,aW q⟩
theorem jV (d:Df K mg "need_word" kZ ["word"])(hX:az P w K mg base j "is_word" ["thing"] (BM fun x=>.bl (jM x))):az P w K mg base (j+1) "need_word" ["word"] LJ:=by
 refine d.cp ng (fun ds P P' f ⟨z,e,h1,h2,q⟩=>⟨z,e,h1,h2,f _ q⟩) (fun ds Q ⟨z,e,_⟩=>by rw [e];rfl) (fun f cdv A outer s H E hr=>have hu:=hr.units;have hh:=hr.hd;have sc:=ng
  (aF (cG (jL (gu (aH hX hr (by omega) (by rfl) (aA (dv 0) aC)))) (aF jD) ak))) ?_
 rintro ds Q ⟨x,rfl,hx,hw,q⟩
 exact⟨_,rfl,x,rfl,hx,true,congrArg some hw,aW q⟩
theorem hZ (d:Df K mg "need_on" oh ["on"])(bP:az P w K mg base j "need_name" ["name"] yK):az P w K mg base (j+1) "need_on" ["on"] JS:=by
 refine d.cp qh (fun ds P P' f ⟨z,e,h1,q⟩=>⟨z,e,h1,f _ q⟩) (fun ds Q ⟨z,e,_⟩=>by rw [e];rfl) (fun f cdv A outer s H E hr=>have hu:=hr.units;have hh:=hr.hd;have sc:=qh
  (aF (cG (lS (dv 0) jY) (aF (bM (aH bP hr (by omega) (by rfl) (aA (dv 0) aC)))) ak))) ?_
 rintro ds Q ⟨o,rfl,ho,q⟩
 cases o with
 | none=>exact⟨_,rfl,false,rfl,aW q⟩
 | some x=>exact⟨_,rfl,true,rfl,av ⟨_,rfl,x,rfl,ho.1,ho.2,q⟩⟩
theorem cS (d:Df K mg "is_plain_kind" fV ["kind"]):az P w K mg base (j+1) "is_plain_kind" ["kind"] JT:=by
 refine d.cp iT (fun ds P P' f ⟨z,e,h1,q⟩=>⟨z,e,h1,f _ q⟩) (fun ds Q ⟨z,e,_⟩=>by rw [e];rfl) (fun f cdv A outer s H E hr=>have hu:=hr.units;have hh:=hr.hd;have sc:=iT
  (aF (aP (ER (dv 0) (bT (jT (by rfl))) (by rfl))))) ?_
 rintro ds Q ⟨k,rfl,hk,q⟩
 refine⟨_,rfl,zL2,rfl,rfl,?_⟩
 simp only [List.mem_cons,List.not_mem_nil,or_false] at hk
 rcases hk with rfl|rfl<;>exact q
theorem g4 (hL:pq K L)(d:Df K mg "need_counts" hJ ["sheet"])(n_len:mg "len"=none)(g1:GI mg "MOST_INPUTS" 8)(g2:GI mg "MOST_OUTPUTS" 8)(g3:GI mg "MOST_LINES" 80)(ag:az P w K mg base j "need_sheet" ["holds","words"] wU):az P w K mg base (j+1) "need_counts" ["sheet"] (wQ A L):=by
 obtain⟨t1,q_MOST_INPUTS⟩:=g1.ex
 obtain⟨t2,q_MOST_OUTPUTS⟩:=g2.ex
 obtain⟨t3,q_MOST_LINES⟩:=g3.ex
 have r_MOST_INPUTS:RelV (.int 8) (.int 8 t1):=⟨_,rfl⟩
 have r_MOST_OUTPUTS:RelV (.int 8) (.int 8 t2):=⟨_,rfl⟩
 have r_MOST_LINES:RelV (.int 80) (.int 80 t3):=⟨_,rfl⟩
 have v_MOST_INPUTS:∀ H,Dv K H (.int 8) (.int 8):=fun _=>.int _
 have v_MOST_OUTPUTS:∀ H,Dv K H (.int 8) (.int 8):=fun _=>.int _
 have v_MOST_LINES:∀ H,Dv K H (.int 80) (.int 80):=fun _=>.int _
 refine d.cp km (fun ds P P' f ⟨s,e,h1,h2,h3,h4,q⟩=>⟨s,e,h1,h2,h3,h4,f _ q⟩) (fun ds Q ⟨z,e,_⟩=>by rw [e];rfl) (fun f cdv A outer s H E hr=>have hu:=hr.units;have hh:=hr.hd;have sc:=km
  (aI (bM (aH ag hr (by omega) (by rfl) (aA (Hd (dt (by rfl) n_len (aA (aT K rfl (dv 0) (by rfl)) aC)) (dq (by rfl) q_MOST_INPUTS r_MOST_INPUTS v_MOST_INPUTS)) (aA aZ aC))))
 (aI (bM (aH ag hr (by omega) (by rfl) (aA (xE aD (dt (by rfl) n_len (aA (aT K rfl (dv 0) (by rfl)) aC)) (dq (by rfl) q_MOST_OUTPUTS r_MOST_OUTPUTS v_MOST_OUTPUTS)) (aA aZ aC))))
 (aF (bM (aH ag hr (by omega) (by rfl) (aA (xE aD (dt (by rfl) n_len (aA (aT K rfl (dv 0) (by rfl)) aC)) (dq (by rfl) q_MOST_LINES r_MOST_LINES v_MOST_LINES)) (aA aZ aC)))))))) ?_
 rintro ds Q ⟨s,rfl,ho,h1,h2,h3,q⟩
 have c:=hL.cl L.sh (by simp)
 have no:=hL.fD L.sh (by simp)
 have e1:decide (((s.ins.map (Ln.d A L)).length:Int)<=8)=true:=decide_eq_true (by rw [List.length_map];have:=ho.len;omega)
 have e2:decide ((1:Int)<=((s.outs.map D.str).length:Int))=true:=decide_eq_true (by rw [List.length_map];omega)
 have e3:decide (((s.outs.map D.str).length:Int)<=8)=true:=decide_eq_true (by rw [List.length_map];omega)
 have e4:decide ((1:Int)<=((s.ls.map (Ln.d A L)).length:Int))=true:=decide_eq_true (by rw [List.length_map];omega)
 have e5:decide (((s.ls.map (Ln.d A L)).length:Int)<=80)=true:=decide_eq_true (by rw [List.length_map];have:=ho.len;omega)
 refine aV (r:=.tup (s.ins.map (Ln.d A L))) rfl c (no _ (by decide)) (by kernel_rfl) ⟨_,_,rfl,rfl,_,congrArg (fun b=>[D.bl b,D.str _]) e1,?_⟩
 refine aV (r:=.tup (s.outs.map D.str)) rfl c (no _ (by decide)) (by kernel_rfl) ⟨_,_,rfl,rfl,true,congrArg D.bl e2,av ⟨_,congrArg (fun b=>[D.bl b,D.str _]) e3,?_⟩⟩
 exact aV (r:=.tup (s.ls.map (Ln.d A L))) rfl c (no _ (by decide)) (by kernel_rfl) ⟨_,_,rfl,rfl,true,congrArg D.bl e4,av ⟨_,congrArg (fun b=>[D.bl b,D.str _]) e5,q⟩⟩
theorem gO (d:Df K mg "need_once" kX ["names","words"])(n_len:mg "len"=none)(n_set:mg "set"=none)(ag:az P w K mg base j "need_sheet" ["holds","words"] wU):az P w K mg base (j+1) "need_once" ["names","words"] zc:=by
 refine d.cp nY (fun ds P P' f ⟨s,z,e,h1,h2,q⟩=>⟨s,z,e,h1,h2,f _ q⟩) (fun ds Q ⟨s,z,e,_⟩=>by rcases e with e|e<;>rw [e]<;>rfl) (fun f cdv A outer s H E hr=>have hu:=hr.units;have hh:=hr.hd;have sc:=nY
  (aF (bM (aH ag hr (by omega) (by rfl) (aA (xD hu (Bm hh (by rfl) n_len (by rfl) n_set (dv 0)) (dt (by rfl) n_len (aA (dv 0) aC))) (aA (dv 1) aC)))))) ?_
 rintro ds Q ⟨ss,z,e,nd,hl,q⟩
 rcases e with rfl|rfl
 ·refine⟨_,rfl,ss,.inl rfl,nd,hl,_,rfl,_,_,rfl,rfl,?_⟩
  show AB false (.int (ss.length:Int)) (.int ((ss.map D.str).length:Int)) _
  rw [List.length_map]
  exact⟨.str z,rfl,z,congrArg (fun b=>[D.bl b,D.str z]) (decide_eq_true rfl),q⟩
 ·refine⟨_,rfl,ss,.inr rfl,nd,hl,_,rfl,_,_,rfl,rfl,?_⟩
  show AB false (.int (ss.length:Int)) (.int ((ss.map D.str).length:Int)) _
  rw [List.length_map]
  exact⟨.str z,rfl,z,congrArg (fun b=>[D.bl b,D.str z]) (decide_eq_true rfl),q⟩
theorem g6 {x:Ln}{Q:D->Prop}(hL:pq K L)(q:Q (zN x.on)):∃ C gs r,x.d A L=.obj C gs/\q_ K C/\cq K C "on"/\gs.lookup ("on":Str)=some r/\Q r:=by
 have c:=hL.cl _ (Ln.aQ L x)
 have no:=hL.fD _ (Ln.aQ L x)
 cases x<;>exact⟨_,_,_,rfl,c,no _ (by decide),(by kernel_rfl),q⟩
theorem Bg (hL:pq K L)(d:Df K mg "names_looked_at" eM ["line"])(m_own_parts:∀ C,BI L C->bY P w K mg base j C "own_parts" (DI A L (fun x=>.tup (x.parts.map (Pt.d A))) C) [])(mf_names:MF P w K mg base A j "names" 4 okN Pt.names):fq P w K mg base (j+1) "names_looked_at" ["line"] (za A L):=by
 refine d.pU gL (fun ds P P' f ⟨x,e,h,q⟩=>⟨x,e,h,fun a=>f _ _ (q a)⟩) (fun ds Q ⟨x,e,_⟩=>by rw [e];rfl) (fun f cdv A outer s H E hr=>have hu:=hr.units;have hh:=hr.hd;have sc:=gL
  (aM (dQ (i:=1) sc.nd rfl (Or.inl rfl) (MM (NA (aT K rfl (dv 0) (by rfl)) jY) (qI aC) (qI (aA (aT K rfl (dv 0) (by rfl)) aC))))
 (aM (cY PassesOwn.never rfl (br (cE m_own_parts hr (by omega) (dv 0))) (bR (i:=2) sc.nd rfl (Or.inl rfl)) (aU (iE (i:=1) rfl (Or.inl rfl) (Ed mf_names hr (by omega) (dv 2)))))
 (aU (bw (aP (dv 1))))))) ?_
 rintro ds Q ⟨x,rfl,ho,q⟩
 refine F3 (fun δ μ=>∃ a,δ=[some (x.d A L),some (.adr a),none]/\μ=[(a,.lst ((Kt x.on).map D.str))]) ?_ fun N hN=>?_
 rotate_left
 ·refine⟨x.d A L,rfl,g6 hL ?_⟩
  cases hon:x.on with
  | none=>exact⟨true,rfl,av ⟨zL0,fun a _=>hN _ _ ⟨a,rfl,by rw [hon];rfl⟩⟩⟩
  | some y=>exact⟨false,rfl,aW ⟨x.d A L,rfl,g6 hL (by rw [hon];exact⟨zL1,fun a _=>hN _ _ ⟨a,rfl,by rw [hon];rfl⟩⟩)⟩⟩
 ·rintro δ μ ⟨a,rfl,rfl⟩
  refine kC bu oX ⟨_,rfl,rfl⟩ ho ⟨x.parts.map (Pt.d A),rfl,fun i δ μ=>(∃ x2,δ=[some (x.d A L),some (.adr a),x2])/\μ=[(a,.lst ((Kt x.on++(x.parts.take i).flatMap Pt.names).map D.str))],⟨⟨none,rfl⟩,?_⟩,?_,?_⟩
  ·rw [List.take_zero,List.flatMap_nil,List.append_nil]
  ·rintro i dd δ μ hd ⟨⟨x2,rfl⟩,rfl⟩
   rw [List.getElem?_map] at hd
   cases hp:x.parts[i]? with
   | none=>rw [hp] at hd;cases hd
   | some p =>
    rw [hp] at hd
    obtain rfl:p.d A=dd:=by simpa using hd
    have hop:=ho.2.2 p (List.mem_of_getElem? hp)
    obtain⟨gs,e1,e2⟩:=nG A rn p
    refine⟨a,_,rfl,b7,p.d A,rfl,p.cls A,gs,e1,e2,⟨p,rfl⟩,p,rfl,rfl,hop.1,Nat.le_trans hop.2 (by decide),fun b=>⟨b,_,rfl,b7,?_,⟨_,rfl⟩,?_⟩⟩
    ·have h1:=oR ho
     rw [List.length_map,List.length_map]
     have h2:((x.parts.take i).flatMap Pt.names).length<=(x.parts.flatMap Pt.names).length:=by
      have e:x.parts.flatMap Pt.names=(x.parts.take i).flatMap Pt.names++(x.parts.drop i).flatMap Pt.names:=by rw [<- List.flatMap_append,List.take_append_drop]
      rw [e,List.length_append]
      omega
     unfold Ln.gS at h1
     rw [List.length_append] at h1 ⊢
     have h3:=p.ar
     exact Nat.le_trans (show _+p.names.length<=400 by omega) (by decide)
    ·rw [kN,<- List.map_append,List.append_assoc,List.take_succ,hp,List.flatMap_append]
     simp
  ·rintro δ μ ⟨⟨x2,rfl⟩,rfl⟩
   rw [List.length_map,List.take_length]
   exact⟨_,rfl,q a⟩
theorem qV:∀{xs:List Ln},(∀ x∈xs,pY x)->(xs.flatMap Ln.gS).length<=330*xs.length
 | [],_=>Nat.le_refl _
 | x::xs,h=>by
  rw [List.flatMap_cons,List.length_append,List.length_cons]
  have h1:=oR (h x List.mem_cons_self)
  have h2:=qV (xs:=xs) fun y hy=>h y (List.mem_cons_of_mem _ hy)
  omega
theorem Sh.has {A:bO}{L:LA}{s:Sh}(nd:s.names.Nodup){n:Str}(h:n∈s.names):∃ x∈s.all,n∈x.own/\eP (s.tab A L) (.inr n)=some (x.d A L):=by
 obtain⟨x,hx,hn⟩:=List.mem_flatMap.mp h
 exact⟨x,hx,hn,uh nd hx hn⟩
theorem IM {td ty:ED}(h1:bV td)(h2:bV ty):bV (HG td ty):=fun δ P P' g h=>h1 _ _ _ (fun d h'=>h2 _ _ _ (fun e ⟨kvs,k,z,a,b,c,q⟩=>⟨kvs,k,z,a,b,c,g _ q⟩) h') h
theorem ia (hL:pq K L)(d:Df K mg "need_known" jA ["sheet","found"])(n_list:mg "list"=none)(m_all_lines:∀ C,AN L C->bY P w K mg base j C "all_lines" (ni A L (fun _=>True) (xK A L) C) [])(cf_names_looked_at:fq P w K mg base j "names_looked_at" ["line"] (za A L))
  (ag:az P w K mg base j "need_sheet" ["holds","words"] wU):az P w K mg base (j+1) "need_known" ["sheet","found"] (zY A L):=by
 refine d.n_ l_ (fun ds P P' f ⟨s,e,h1,h2,h3,h4,q⟩=>⟨s,e,h1,h2,h3,h4,f _ q⟩) (fun ds Q ⟨s,e,_⟩=>by rw [e];rfl) (fun f cdv A outer s H E hr=>have hu:=hr.units;have hh:=hr.hd;have sc:=l_
  (aM (dQ (i:=2) sc.nd rfl (Or.inl rfl) (rW (by rfl) n_list (aA (aT K rfl (dv 0) (by rfl)) aC)))
 (aM (cY PassesOwn.never rfl (br (cE m_all_lines hr (by omega) (dv 0))) (bR (i:=3) sc.nd rfl (Or.inl rfl)) (aU (iE (i:=2) rfl (Or.inl rfl) (rV cf_names_looked_at hr (by omega) (by rfl) (aA (dv 3) aC)))))
 (v5 (v7 (aF (DE PassesOwn.never rfl (br (dv 2)) (bR (i:=4) sc.nd rfl (Or.inl rfl)) (aF (bM (aH ag hr (by omega) (by rfl) (aA (J4 hu (dv 4) (dv 1) (by rfl)) (aA aZ aC)))))))))))) ?_
 rintro ds Q ⟨s,rfl,ho,nd,hou,hin,q⟩
 have c:=hL.cl L.sh (by simp)
 have no:=hL.fD L.sh (by simp)
 refine aV (r:=.tup (s.outs.map D.str)) rfl c (no _ (by decide)) (by kernel_rfl) ⟨s.outs.map D.str,.inr rfl,fun a _=>?_⟩
 refine fE bu lH ⟨_,rfl,rfl⟩ ho True.intro ⟨s.all.map (Ln.d A L),rfl,fun i δ μ=>(∃ x3,δ=[some (s.d A L),some (.dK (s.tab A L)),some (.adr a),x3,none])/\μ=[(a,.lst ((s.outs++(s.all.take i).flatMap Ln.gS).map D.str))],⟨⟨none,rfl⟩,?_⟩,?_,?_⟩
 ·simp only [List.take_zero,List.flatMap_nil,List.append_nil]
 ·rintro i dd δ μ hd ⟨⟨x3,rfl⟩,rfl⟩
  rw [List.getElem?_map] at hd
  cases hx:s.all[i]? with
  | none=>rw [hx] at hd;cases hd
  | some x =>
   rw [hx] at hd
   obtain rfl:x.d A L=dd:=by simpa using hd
   have hox:=ho.ln x (List.mem_of_getElem? hx)
   refine⟨a,_,rfl,b7,x.d A L,rfl,x,rfl,hox,fun b=>⟨b,_,rfl,b7,?_,⟨_,rfl⟩,?_⟩⟩
   ·rw [List.length_map,List.length_map,List.length_append]
    have h1:=qV (xs:=s.all.take i) fun y hy=>ho.ln y (List.mem_of_mem_take hy)
    have h2:(s.all.take i).length<=18:=Nat.le_trans (by rw [List.length_take];exact Nat.min_le_right _ _) ho.kx
    have h3:=oR hox
    exact Nat.le_trans (show _+x.gS.length<=7000 by omega) (by decide)
   ·rw [kN,<- List.map_append,List.append_assoc,<- ou hx]
 ·rintro δ μ ⟨⟨x3,rfl⟩,rfl⟩
  rw [List.length_map,List.take_length]
  dsimp only
  refine k_ (δ':=[some (s.d A L),some (.dK (s.tab A L)),some (.lst ((s.outs++s.all.flatMap Ln.gS).map D.str)),x3.map (ay [(a,.lst ((s.outs++s.all.flatMap Ln.gS).map D.str))]),none]) ?_ ?_
  ·show[some (s.d A L),some (.dK (s.tab A L)),some (ay [(a,_)] (.adr a)),_,none]=_
   rw [gw]
   rfl
  generalize x3.map (ay [(a,.lst ((s.outs++s.all.flatMap Ln.gS).map D.str))])=y3
  refine⟨_,rfl,_,rfl,fun i δ=>∃ x4,δ=[some (s.d A L),some (.dK (s.tab A L)),some (.lst ((s.outs++s.all.flatMap Ln.gS).map D.str)),y3,x4],⟨none,rfl⟩,?_,?_⟩
  ·rintro i dd δ hd ⟨x4,rfl⟩
   rw [List.getElem?_map] at hd
   cases hn:(s.outs++s.all.flatMap Ln.gS)[i]? with
   | none=>rw [hn] at hd;cases hd
   | some m =>
    rw [hn] at hd
    obtain rfl:D.str m=dd:=by simpa using hd
    obtain⟨x,hx,hm,hg⟩:=Sh.has (A:=A) (L:=L) nd (hin m (List.mem_of_getElem? hn))
    have e:(eP (s.tab A L) (.inr m)).isSome=true:=by rw [hg];rfl
    exact⟨.str m,rfl,.dK (s.tab A L),rfl,s.tab A L,.inr m,rfl,rfl,_,congrArg (fun b=>[D.bl b,D.str _]) e,_,rfl⟩
  ·rintro δ ⟨x4,rfl⟩
   exact q
def yh (s:Sh)(r:Str->Nat)(ks:List Str)(m:Nat):Option Str->Prop
 | none=>True
 | some n=>m=r n+1/\ks.length+r n<=100/\(∀ k∈ks,r n<r k)/\∃ y∈s.all,n∈y.own/\y.qu=true/\∀ m',y.on=some m'->r m'<r n
def eQ (ks:List Str):List (Key × D):=ks.map fun k=>((Sum.inr k:Key),D.bl true)
theorem r0 {ks:List Str}{n:Str}(h:n∉ks):∀ p∈eQ ks,p.1≠Sum.inr n:=fun p hp e=>by
 obtain⟨k,hk,rfl⟩:=List.mem_map.mp hp
 exact h (Sum.inr.inj e ▸ hk)
theorem xy {ks:List Str}{n:Str}(h:n∉ks):(eP (eQ ks) (.inr n)).isSome=false:=by
 have:=pA (b:=[]) (r0 h)
 rw [List.append_nil] at this
 rw [this]
 rfl
theorem x_ {ks:List Str}{n:Str}(h:n∉ks):gY (eQ ks) (.inr n) (.bl true)=eQ (ks++[n]):=by
 rw [sF (r0 h)]
 unfold eQ
 rw [List.map_append]
 rfl
theorem mJ (hL:pq K L)(d:Df K mg "need_ons" mZ ["sheet","found"])(m_all_lines:∀ C,AN L C->bY P w K mg base j C "all_lines" (ni A L (fun _=>True) (xK A L) C) [])(m_is_truths:∀ C,BI L C->bY P w K mg base j C "is_truths" (DI A L (fun x=>.bl x.qu) C) [])
  (ag:az P w K mg base j "need_sheet" ["holds","words"] wU):az P w K mg base (j+1) "need_ons" ["sheet","found"] (HB A L):=by
 refine d.n_ pL (fun ds P P' f ⟨s,e,h1,h2,h3,q⟩=>⟨s,e,h1,h2,h3,f _ q⟩) (fun ds Q ⟨s,e,_⟩=>by rw [e];rfl) (fun f cdv A outer s H E hr=>have hu:=hr.units;have hh:=hr.hd;have sc:=pL
  (aU (cY PassesOwn.never rfl (br (cE m_all_lines hr (by omega) (dv 0))) (bR (i:=2) sc.nd rfl (Or.inl rfl)) (aM (dQ (i:=3) sc.nd rfl (Or.inl rfl) gQ)
 (aM (bw (bI (i:=4) sc.nd rfl (Or.inl rfl) (aT K rfl (dv 2) (by rfl))))
 (aU (CV PassesOwn.never (lS (dv 4) jY) (aM (vz (aH ag hr (by omega) (by rfl) (aA (cE m_is_truths hr (by omega) (cH hu (dv 1) (dv 4) (fun _ _=>rfl))) (aA aZ aC))))
 (aM (vz (aH ag hr (by omega) (by rfl) (aA (Bn hu (dv 4) (dv 3) (by rfl)) (aA aZ aC))))
 (aM (fX (i:=3) hu rfl (Or.inl rfl) (dv 4) tF)
 (aU (bw (bI (i:=4) sc.nd rfl (Or.inl rfl) (aT K rfl (cH hu (dv 1) (dv 4) (fun _ _=>rfl)) (by rfl))))))))))))))) ?_
 rintro ds Q ⟨s,rfl,ho,nd,⟨r,hr,hons⟩,q⟩
 have first:∀ x∈s.all,∃ m,yh s r [] m x.on:=fun x hx=>by
  cases e:x.on with
  | none=>exact⟨0,True.intro⟩
  | some n=>exact⟨_,rfl,by have:=hr n;simpa using this,(fun k hk=>nomatch hk),hons x hx n e⟩
 refine fE bu lH ⟨_,rfl,rfl⟩ ho True.intro ⟨s.all.map (Ln.d A L),rfl,fun i δ μ=>∃ x2 x3 x4,δ=[some (s.d A L),some (.dK (s.tab A L)),x2,x3,x4],⟨none,none,none,rfl⟩,?_,?_⟩
 ·rintro i dd δ μ hd ⟨x2,x3,x4,rfl⟩
  rw [List.getElem?_map] at hd
  cases hx:s.all[i]? with
  | none=>rw [hx] at hd;cases hd
  | some x =>
   rw [hx] at hd
   obtain rfl:x.d A L=dd:=by simpa using hd
   have hxa:=List.mem_of_getElem? hx
   intro a _
   refine⟨x.d A L,rfl,g6 hL ?_⟩
   obtain⟨m0,h0⟩:=first x hxa
   refine⟨fun m δ μ=>∃(o:Option Str) (ks:List Str) (μ0:Mu),δ=[some (s.d A L),some (.dK (s.tab A L)),some (x.d A L),some (.adr a),some (zN o)]/\μ=(a,.dK (eQ ks))::μ0/\yh s r ks m o,⟨m0,x.on,[],μ,rfl,rfl,h0⟩,?_⟩
   rintro m δ μ ⟨o,ks,μ0,rfl,rfl,hm⟩
   cases o with
   | none=>exact⟨.aj,rfl,false,rfl,aW ⟨_,_,_,rfl⟩⟩
   | some k =>
    obtain⟨rfl,hk1,hk2,y,hy,hk,ht,hyo⟩:=hm
    have hg:eP (s.tab A L) (.inr k)=some (y.d A L):=uh nd hy hk
    have hkk:k∉ks:=fun z=>absurd (hk2 k z) (Nat.lt_irrefl _)
    refine⟨.str k,rfl,true,rfl,av ?_⟩
    refine kC (x:=y) (IM bu bu) xp ⟨.dK (s.tab A L),rfl,.str k,rfl,s.tab A L,.inr k,y.d A L,rfl,rfl,hg,rfl⟩ (ho.ln y hy) ⟨_,congrArg (fun b=>[D.bl b,D.str _]) ht,?_⟩
    have hv:some (some (ay ((a,.dK (eQ ks))::μ0) (.adr a)))=some (some (D.dK (eQ ks))):=by simp [ay,List.lookup,MD.d]
    refine⟨.str k,rfl,.dK (eQ ks),hv,eQ ks,.inr k,rfl,rfl,_,congrArg (fun b=>[D.bl (!b),D.str _]) (xy hkk),?_⟩
    refine⟨a,eQ ks,rfl,(by simp [List.lookup]),?_,.str k,rfl,.inr k,rfl,?_⟩
    ·unfold eQ
     rw [List.length_map]
     exact Nat.lt_of_le_of_lt (show ks.length<=100 by omega) (by decide)
    refine⟨.dK (s.tab A L),rfl,.str k,rfl,s.tab A L,.inr k,y.d A L,rfl,rfl,hg,g6 hL ?_⟩
    have hput:∀ v,fZ a v ((a,.dK (eQ ks))::μ0)=(a,v)::fZ a v μ0:=fun v=>by simp [fZ]
    rw [hput,x_ hkk]
    cases e:y.on with
    | none=>exact⟨0,by omega,none,ks++[k],_,rfl,rfl,True.intro⟩
    | some m' =>
     have hlt:=hyo m' e
     refine⟨r m'+1,by omega,some m',ks++[k],_,rfl,rfl,rfl,?_,?_,hons y hy m' e⟩
     ·rw [List.length_append]
      show ks.length+1+_<=_
      omega
     ·intro z hz
      rcases List.mem_append.mp hz with hz|hz
      ·exact Nat.lt_trans hlt (hk2 z hz)
      ·rw [List.mem_singleton.mp hz];exact hlt
 ·rintro δ μ ⟨x2,x3,x4,rfl⟩
  exact q
end
theorem Nf {f g h:Str}{d e i:D}:(putD f d (putD g e (putD h i []))).length<1000:=Nat.lt_of_le_of_lt (Nat.le_trans (gB f d _) (Nat.succ_le_succ (Nat.le_trans (gB g e _) (Nat.succ_le_succ (gB h i []))))) (by decide)
def oO:List Str:=["truth","number"]
def Fx:cL:=fun _ _=>False
def LL:List D->(List (Str × D)->Prop)->Prop:=fun ds Q=>∃(n k:Str) (o:Option Str),ds=[.str n,.str k,zN o]/\n.length<=100000/\f9 n=true/\FL o/\k∈oO/\Q [("name",.str n),("kind",.str k),("on",zN o)]
def HC:List D->(List (Str × D)->Prop)->Prop:=fun ds Q=>∃(n k:Str) (p:D) (o:Option Str),ds=[.str n,.str k,p,zN o]/\n.length<=100000/\f9 n=true/\FL o/\k∈oO/\Q [("name",.str n),("kind",.str k),("part",p),("on",zN o)]
structure Sh.Good (s:Sh):Prop where
 ok:s.Ok
 wd:s.nm.length<=100000/\jM s.nm=true
 cnt:1<=s.outs.length/\s.outs.length<=8/\1<=s.ls.length
 nd:s.names.Nodup
 N2:s.outs.Nodup
 Nz:∀ n∈s.outs++s.all.flatMap Ln.gS,n∈s.names
 N4:Gy s
def LM (A:bO)(L:LA):List D->(List (Str × D)->Prop)->Prop:=fun ds Q=>∃ s:Sh,ds=[.str s.nm,.lst (s.ins.map (Ln.d A L)),.lst (s.outs.map D.str),.lst (s.ls.map (Ln.d A L))]/\s.Good/\Q [("name",.str s.nm),("inputs",.tup (s.ins.map (Ln.d A L))),("outputs",.tup (s.outs.map D.str)),("lines",.tup (s.ls.map (Ln.d A L)))]
section
seal wpAny
variable {P:Program}{w:World}{K:PySem.W.Frag}{mg:Str->Option Value}{base:Heap}{A:bO}{L:LA}{n j:Nat}{dd:List D}
theorem Df.never {x:Str}{st:Stmt}{ps:List Str}{sd:cL}(d:Df K mg x st ps)(h:∀ ds Q,¬sd ds Q):az P w K mg base j x ps sd:=by
 obtain⟨f,fd,F,m,b⟩:=d.ex
 exact⟨⟨f,fd,⟨fun vs H Q E ⟨ds,_,q⟩=>(h _ _ q).elim,fun A outer s H args us vs Q E _ _ _ _ ⟨ds,_,q⟩=>(h _ _ q).elim⟩,m,F.kp,b⟩,fun ds P P' g q=>(h _ _ q).elim⟩
theorem Er (hL:pq K L)(d:Di K mg "Input" L.lC "Input.__init__" dC ["self","name","kind","on"] dd)(bP:az P w K mg base j "need_name" ["name"] yK)(hZ:az P w K mg base j "need_on" ["on"] JS)(ag:az P w K mg base j "need_sheet" ["holds","words"] wU)(cS:az P w K mg base j "is_plain_kind" ["kind"] JT)(c_is_stretch:az P w K mg base j "is_stretch" ["kind"] Fx) :
  n6 P w K mg base (j+1) "Input" L.lC LL dd:=by
 have hc:=hL.cl L.lC (by simp)
 have hn:=hL.fD L.lC (by simp)
 refine d.BK gh (fun ds P P' g ⟨n,k,o,e,h1,h2,h3,h4,q⟩=>⟨n,k,o,e,h1,h2,h3,h4,g _ q⟩) (fun ds Q ⟨n,k,o,e,_⟩=>by rw [e];rfl) (fun f cdv A outer s H E hr=>have hu:=hr.units;have hh:=hr.hd;have sc:=gh
  (aq (d6 (bM (aH bP hr (by omega) (by rfl) (aA (dv 1) aC))))
 (aq (d6 (bM (aH hZ hr (by omega) (by rfl) (aA (dv 3) aC))))
 (aq (d6 (bM (aH ag hr (by omega) (by rfl) (aA (J6 (aH cS hr (by omega) (by rfl) (aA (dv 2) aC)) (qC (aH c_is_stretch hr (by omega) (by rfl) (aA (dv 2) aC)))) (aA aZ aC)))))
 (aq (bW K rfl rfl (Or.inl rfl) (dv 1))
 (aq (bW K rfl rfl (Or.inl rfl) (dv 2))
 (aq (bW K rfl rfl (Or.inl rfl) (dv 3))
 yw))))))) ?_
 rintro a ds Q ⟨n,k,o,rfl,h1,h2,h3,h4,q⟩
 exact⟨_,rfl,n,rfl,h1,h2,_,rfl,o,rfl,h3,_,rfl,k,rfl,h4,true,rfl,av ⟨_,rfl,_,rfl,rfl,hc,hn _ (by decide),r_,_,rfl,rfl,hc,hn _ (by decide),sD,_,rfl,rfl,hc,hn _ (by decide),sE,q⟩⟩
theorem KU (hL:pq K L)(d:Di K mg "Row" L.row "Row.__init__" eF ["self","name","kind","part","on"] dd)(bP:az P w K mg base j "need_name" ["name"] yK)(hZ:az P w K mg base j "need_on" ["on"] JS)(ag:az P w K mg base j "need_sheet" ["holds","words"] wU)(cS:az P w K mg base j "is_plain_kind" ["kind"] JT) :
  n6 P w K mg base (j+1) "Row" L.row HC dd:=by
 have hc:=hL.cl L.row (by simp)
 have hn:=hL.fD L.row (by simp)
 refine d.BK jJ (fun ds P P' g ⟨n,k,p,o,e,h1,h2,h3,h4,q⟩=>⟨n,k,p,o,e,h1,h2,h3,h4,g _ q⟩) (fun ds Q ⟨n,k,p,o,e,_⟩=>by rw [e];rfl) (fun f cdv A outer s H E hr=>have hu:=hr.units;have hh:=hr.hd;have sc:=jJ
  (aq (d6 (bM (aH bP hr (by omega) (by rfl) (aA (dv 1) aC))))
 (aq (d6 (bM (aH hZ hr (by omega) (by rfl) (aA (dv 4) aC))))
 (aq (d6 (bM (aH ag hr (by omega) (by rfl) (aA (aH cS hr (by omega) (by rfl) (aA (dv 2) aC)) (aA aZ aC)))))
 (aq (bW K rfl rfl (Or.inl rfl) (dv 1))
 (aq (bW K rfl rfl (Or.inl rfl) (dv 2))
 (aq (bW K rfl rfl (Or.inl rfl) (dv 3))
 (aq (bW K rfl rfl (Or.inl rfl) (dv 4))
 yw)))))))) ?_
 rintro a ds Q ⟨n,k,p,o,rfl,h1,h2,h3,h4,q⟩
 exact⟨_,rfl,n,rfl,h1,h2,_,rfl,o,rfl,h3,_,rfl,k,rfl,h4,_,rfl,_,rfl,rfl,hc,hn _ (by decide),r_,_,rfl,rfl,hc,hn _ (by decide),sD,_,rfl,rfl,hc,hn _ (by decide),sE,_,rfl,rfl,hc,hn _ (by decide),Nf,q⟩
theorem Es (hL:pq K L)(d:Di K mg "Sheet" L.sh "Sheet.__init__" eU ["self","name","inputs","outputs","lines"] [])(n_tuple:mg "tuple"=none)(jV:az P w K mg base j "need_word" ["word"] LJ)(g4:az P w K mg base j "need_counts" ["sheet"] (wQ A L))(gO:az P w K mg base j "need_once" ["names","words"] zc)
  (m_names:∀ C,AN L C->bY P w K mg base j C "names" (ni A L (fun _=>True) (fun s=>.lst (s.names.map D.str)) C) [])(m_lines_by_name:∀ C,AN L C->bY P w K mg base j C "lines_by_name" (ni A L (fun s=>s.names.Nodup) (fun s=>.dK (s.tab A L)) C) [])
  (ia:az P w K mg base j "need_known" ["sheet","found"] (zY A L))(mJ:az P w K mg base j "need_ons" ["sheet","found"] (HB A L)):n6 P w K mg base (j+1) "Sheet" L.sh (LM A L) []:=by
 have hc:=hL.cl L.sh (by simp)
 have hn:=hL.fD L.sh (by simp)
 refine d.BK gj (fun ds P P' g ⟨s,e,h,q⟩=>⟨s,e,h,g _ q⟩) (fun ds Q ⟨s,e,_⟩=>by rw [e];rfl) (fun f cdv A outer s H E hr=>have hu:=hr.units;have hh:=hr.hd;have sc:=gj
  (aq (d6 (bM (aH jV hr (by omega) (by rfl) (aA (dv 1) aC))))
 (aq (bW K rfl rfl (Or.inl rfl) (dv 1))
 (aq (bW K rfl rfl (Or.inl rfl) (ic (by rfl) n_tuple (aA (dv 2) aC)))
 (aq (bW K rfl rfl (Or.inl rfl) (ic (by rfl) n_tuple (aA (dv 3) aC)))
 (aq (bW K rfl rfl (Or.inl rfl) (ic (by rfl) n_tuple (aA (dv 4) aC)))
 (j_ (aI (bM (aH g4 hr (by omega) (by rfl) (aA (dv 0) aC)))
 (aI (bM (aH gO hr (by omega) (by rfl) (aA (cE m_names hr (by omega) (dv 0)) (aA aZ aC))))
 (aI (bM (aH gO hr (by omega) (by rfl) (aA (aT K rfl (dv 0) (by rfl)) (aA aZ aC))))
 (aI (bI (i:=5) sc.nd rfl (Or.inl rfl) (cE m_lines_by_name hr (by omega) (dv 0)))
 (aI (bM (aH ia hr (by omega) (by rfl) (aA (dv 0) (aA (dv 5) aC))))
 (aF (bM (aH mJ hr (by omega) (by rfl) (aA (dv 0) (aA (dv 5) aC))))))))))))))))) ?_
 rintro a ds Q ⟨s,rfl,hg,q⟩
 have hnl:s.names.length<=200:=by
  have h1:=my (xs:=s.all) hg.ok.ln
  have h2:=hg.ok.kx
  unfold Sh.names
  omega
 refine⟨_,rfl,s.nm,rfl,hg.wd.1,hg.wd.2,_,rfl,rfl,hc,hn _ (by decide),r_,_,rfl,_,.inl rfl,rfl,hc,hn _ (by decide),sD,_,rfl,_,.inl rfl,rfl,hc,hn _ (by decide),sE,_,rfl,_,.inl rfl,rfl,hc,hn _ (by decide),Nf,rfl,?_⟩
 refine⟨s.d A L,rfl,s,rfl,hg.ok,hg.cnt.1,hg.cnt.2.1,hg.cnt.2.2,?_⟩
 refine fE (s:=s) bu Ad ⟨_,rfl,rfl⟩ hg.ok True.intro ⟨s.names,_,.inl rfl,hg.nd,hnl,?_⟩
 refine aV (r:=.tup (s.outs.map D.str)) rfl hc (hn _ (by decide)) (by kernel_rfl) ⟨s.outs,_,.inr rfl,hg.N2,by have:=hg.cnt;omega,?_⟩
 refine fE (s:=s) bu xo ⟨_,rfl,rfl⟩ hg.ok hg.nd ?_
 refine⟨s.d A L,rfl,.dK (s.tab A L),rfl,s,rfl,hg.ok,hg.nd,hg.cnt.2.1,hg.Nz,?_⟩
 exact⟨s.d A L,rfl,.dK (s.tab A L),rfl,s,rfl,hg.ok,hg.nd,hg.N4,q⟩
theorem mI {α:Type}{xs:List α}{i:Int}(h0:0<=i)(h1:i<xs.length):∃ r,r∈xs/\L2.rB xs i=some r:=by
 unfold L2.rB L2.BJ
 rw [if_pos h0,if_pos h1]
 have h:i.toNat<xs.length:=by omega
 exact⟨xs[i.toNat],List.getElem_mem h,by simp [List.getElem?_eq_getElem h]⟩
theorem ky {α:Type}{xs:List α}{i:Nat}{x:α}(h:xs[i]?=some x):L2.rB xs (i:Int)=some x:=by
 unfold L2.rB L2.BJ
 have hl:i<xs.length:=(List.getElem?_eq_some_iff.mp h).1
 rw [if_pos (by omega),if_pos (by omega),Int.toNat_natCast]
 exact h
theorem D7 (x y:Str):(x++y).cps.toList=x.cps.toList++y.cps.toList:=by
 show(x.cps++y.cps).toList=_
 exact Array.toList_append
theorem uC (x:Str):x.length=x.cps.toList.length:=by
 show x.cps.size=_
 exact Array.length_toList.symm
theorem D8 (x y:Str):(x++y).length=x.length+y.length:=by rw [uC,D7,List.length_append,<- uC,<- uC]
theorem cd {i j:Int}(h:0<j)(h2:j<1073741824):HJ i j:=⟨h,h2⟩
theorem cX (a:Int){b:Int}(h:0<b):0<=a%b:=Int.emod_nonneg _ (by omega)
theorem cO (a:Int){b:Int}(h:0<b):a%b<b:=Int.emod_lt_of_pos _ h
def FH (c k:Int):Int:=(c+7919*k+11)*48271%2147483647
theorem FI (c k:Int):0<=FH c k/\FH c k<2147483647:=⟨Int.emod_nonneg _ (by decide),Int.emod_lt_of_pos _ (by decide)⟩
def gq:cL:=fun ds Q=>∃ c k:Int,ds=[.int c,.int k]/\∀ m:Int,Q (.int m)
def yJ:cL:=fun ds Q=>∃(ns:List Int) (k:Nat),ds=[.lst (ns.map D.int),.int (k:Int)]/\∀ c:Int,Q (.int c)
structure BP (ns:List Str):Prop where
 len:ns.length=8
 nd:ns.Nodup
 ok:∀ x∈ns,mU x
def zb:cL:=fun ds Q=>∃ c:Int,ds=[.int c]/\∀ ns:List Str,BP ns->Q (.lst (ns.map D.str))
def Gx (x:Str):Bool:=f9 x&&(decide (x.length<=100)&&PyData.strOk x)
def xr (ns:List Str):Bool:=decide (ns.length=8)&&decide ns.Nodup&&ns.all Gx
theorem pb {ns:List Str}(h:xr ns=true):BP ns:=by
 unfold xr at h
 rw [Bool.and_eq_true,Bool.and_eq_true] at h
 refine⟨of_decide_eq_true h.1.1,of_decide_eq_true h.1.2,fun x hx=>?_⟩
 have z:=List.all_eq_true.mp h.2 x hx
 unfold Gx at z
 rw [Bool.and_eq_true,Bool.and_eq_true] at z
 exact⟨z.1,of_decide_eq_true z.2.1,z.2.2⟩
def MC:Str:="abcdefghijklm"
def Mn (ch:Nat):List Str:=(List.range 8).map fun i:Nat=>CY ⟨#[ch]⟩ (0+(i:Int)+1)
theorem Ia:(MC.cps.toList.all fun ch=>xr (Mn ch))=true:=by decide +kernel
def l1:List Str:=["in","not","row","use","end","on","yes","held"]
def NZ:List Str:=l1.map (·++"z")
theorem Ib:xr NZ=true:=by decide +kernel
def l2:List Str:=["row","no","z","zz","if","abcdefgh","or","in"]
def Na:List Str:=l2.map fun x=>"in."++x++".q"
theorem Ic:xr Na=true:=by decide +kernel
def zq:Str:="zqzqzqzq"
def bc:Str:="bcdfghjk"
def wd (sz:Int):Str:=Txt.slice zq none (some sz)
def Jp (sz sp:Int)(ch:Nat):Str:=Txt.slice (wd sz) none (some sp)++⟨#[ch]⟩++Txt.slice (wd sz) (some (sp+1)) none
def Lu (sz sp:Int):List Str:=(List.range 8).map fun i:Nat=>Jp sz sp ((L2.rB bc.cps.toList (0+(i:Int))).getD 0)
theorem Ie:((List.range 7).all fun a:Nat=>(List.range 8).all fun b:Nat=>xr (Lu (2+(a:Int)) (b:Int)))=true:=by decide +kernel
def IC (sz sp:Int):Bool:=decide ((wd sz).length<=8)&&(decide ((Txt.slice (wd sz) none (some sp)).length<=8)&&decide ((Txt.slice (wd sz) (some (sp+1)) none).length<=8))
theorem Ey:((List.range 7).all fun a:Nat=>(List.range 8).all fun b:Nat=>IC (2+(a:Int)) (b:Int))=true:=by decide +kernel
def g0 (ch:Nat):D->D
 | .int i=>.str (CY ⟨#[ch]⟩ (i+1))
 | _=>.aj
def g1:D->D
 | .str x=>.str (x++"z")
 | _=>.aj
def g2:D->D
 | .str x=>.str ("in."++x++".q")
 | _=>.aj
def g3 (sz sp:Int):D->D
 | .int i=>.str (Jp sz sp ((L2.rB bc.cps.toList i).getD 0))
 | _=>.aj
theorem K_ {d:D}(h:d∈(List.range (8:Int).toNat).map fun i:Nat=>D.int (0+(i:Int))):∃ i:Nat,i<8/\d=.int (0+(i:Int)):=by
 obtain⟨i,hi,rfl⟩:=List.mem_map.mp h
 exact⟨i,List.mem_range.mp hi,rfl⟩
theorem EH (d:Df K mg "_law_mixed" i7 ["_law_cell_here","_law_k"]):az P w K mg base (j+1) "_law_mixed" ["_law_cell_here","_law_k"] gq:=by
 refine d.cp l0 (fun ds P P' f ⟨c,k,e,q⟩=>⟨c,k,e,fun m=>f _ (q m)⟩) (fun ds Q ⟨c,k,e,_⟩=>by rw [e];rfl) (fun f cdv A outer s H E hr=>have hu:=hr.units;have hh:=hr.hd;have sc:=l0
  (aI (bI (i:=2) sc.nd rfl (Or.inl rfl) (bg (yk (cA (cA (dv 0) (yk aD (dv 1))) aD) aD) aD))
 (aF (aP (bg (cA (yk (dv 2) (dv 2)) (yk aD (dv 2))) aD))))) ?_
 rintro ds Q ⟨c,k,rfl,q⟩
 have hb:=FI c k
 refine⟨_,rfl,_,rfl,zp.ok (.inl ⟨by decide,by decide⟩),zp.ok (.inr ⟨by decide,by decide⟩),iP2147483647,?_⟩
 exact⟨_,rfl,_,rfl,zp.ok (i:=FH c k) (j:=FH c k) (.inl ⟨by omega,by omega⟩),_,rfl,zp.ok (.inl ⟨by decide,by decide⟩),iP2147483399,q _⟩
theorem HU (d:Df K mg "_law_cell" kO ["_law_script","_law_k"])(n_len:mg "len"=none):az P w K mg base (j+1) "_law_cell" ["_law_script","_law_k"] yJ:=by
 refine d.cp nS (fun ds P P' f ⟨c,k,e,q⟩=>⟨c,k,e,fun c=>f _ (q c)⟩) (fun ds Q ⟨c,k,e,_⟩=>by rw [e];rfl) (fun f cdv A outer s H E hr=>have hu:=hr.units;have hh:=hr.hd;have sc:=nS
  (aI (cG (A0 (dv 1) (dt (by rfl) n_len (aA (dv 0) aC))) (aF (aP (bU (dv 0) (dv 1) (fun _ _=>rfl)))) ak)
 (aF (aP aD)))) ?_
 rintro ds Q ⟨ns,k,rfl,q⟩
 refine⟨_,rfl,_,rfl,_,_,rfl,rfl,_,rfl,?_⟩
 show if decide ((k:Int)<((ns.map D.int).length:Int))=true then _ else _
 rw [List.length_map]
 cases h:decide ((k:Int)<(ns.length:Int)) with
 | true =>
  have hk':k<ns.length:=by have:=of_decide_eq_true h;omega
  exact av ⟨_,rfl,_,rfl,.int ns[k],ky (by rw [List.getElem?_map,List.getElem?_eq_getElem hk'];rfl),q _⟩
 | false=>exact aW (q _)
theorem EI (d:Df K mg "_law_names" i8 ["_law_cell_here"])(n_range:mg "range"=none):az P w K mg base (j+1) "_law_names" ["_law_cell_here"] zb:=by
 refine d.cp l4 (fun ds P P' f ⟨c,e,q⟩=>⟨c,e,fun l h=>f _ (q l h)⟩) (fun ds Q ⟨c,e,_⟩=>by rw [e];rfl) (fun f cdv A outer s H E hr=>have hu:=hr.units;have hh:=hr.hd;have sc:=l4
  (aI (bI (i:=1) sc.nd rfl (Or.inl rfl) (bg (dv 0) aD))
 (aI (cG (cW hu (dv 1) aD) (aF (aP (mN (x:="_law_k") (caps:=[0]) (cn:=["_law_cell_here"]) (cl:=[("_law_cell_here",s.heap.objs.size+1)]) (o6 (by rfl) (by rfl) (by decide +kernel) (gR ["_law_cell_here"] rfl (by decide +kernel)) (by decide +kernel) (b_ (by rfl) dY) (.cons ⟨rfl,.inl rfl,rfl⟩ .nil)) rfl (qM (by rfl) n_range (aA aD aC)) (fun C fp s₂ H₂=>bF (i:=0) (show(["_law_k","_law_cell_here"]:List Str).Nodup by decide +kernel) rfl (Or.inl rfl) (.inr rfl)) (fun C fp s₂ H₂=>dX) (fun C fp s₂ H₂=>(Hg (bU aZ (bg (Bk (dv 1) aD) aD) (fun _ _=>rfl)) (cA (dv 0) aD)))))) ak)
 (aI (cG (cW hu (dv 1) aD) (aF (aP (mN (x:="_law_word") (caps:=[]) (cn:=[]) (cl:=[]) (h_ (by rfl) (by rfl) (by decide +kernel) (by decide +kernel) (by decide +kernel)) rfl (br (bb (jT (by rfl)))) (fun C fp s₂ H₂=>bF (i:=0) (show(["_law_word"]:List Str).Nodup by decide +kernel) rfl (Or.inl rfl) (.inr rfl)) (fun C fp s₂ H₂=>dX) (fun C fp s₂ H₂=>(cA (dv 0) aZ))))) ak)
 (aI (cG (cW hu (dv 1) aD) (aF (aP (mN (x:="_law_word") (caps:=[]) (cn:=[]) (cl:=[]) (h_ (by rfl) (by rfl) (by decide +kernel) (by decide +kernel) (by decide +kernel)) rfl (br (bb (jT (by rfl)))) (fun C fp s₂ H₂=>bF (i:=0) (show(["_law_word"]:List Str).Nodup by decide +kernel) rfl (Or.inl rfl) (.inr rfl)) (fun C fp s₂ H₂=>dX) (fun C fp s₂ H₂=>(cA (cA aZ (dv 0)) aZ))))) ak)
 (aI (bI (i:=2) sc.nd rfl (Or.inl rfl) (cA aD (bg (Bk (dv 0) aD) aD)))
 (aI (bI (i:=3) sc.nd rfl (Or.inr rfl) (bg (Bk (dv 0) aD) (dv 2)))
 (aI (bI (i:=4) sc.nd rfl (Or.inr rfl) (dz aZ g8 (fM (dv 2))))
 (aF (aP (mN (x:="_law_k") (caps:=[4,3]) (cn:=["_law_word","_law_spot"]) (cl:=[("_law_word",s.heap.objs.size+2),("_law_spot",s.heap.objs.size+3)]) (o6 (by rfl) (by rfl) (by decide +kernel) (gR ["_law_word","_law_spot"] rfl (by decide +kernel)) (by decide +kernel) (b_ (by rfl) (b_ (by rfl) dY)) (.cons ⟨rfl,.inl rfl,rfl⟩ (.cons ⟨rfl,.inl rfl,rfl⟩ .nil))) rfl (qM (by rfl) n_range (aA aD aC)) (fun C fp s₂ H₂=>bF (i:=0) (show(["_law_k","_law_word","_law_spot"]:List Str).Nodup by decide +kernel) rfl (Or.inl rfl) (.inr rfl)) (fun C fp s₂ H₂=>dX) (fun C fp s₂ H₂=>(cA (cA (dz (dv 1) g8 (fM (dv 2))) (bU aZ (dv 0) (fun _ _=>rfl))) (dz (dv 1) (fM (cA (dv 2) aD)) g8)))))))))))))) ?_
 rintro ds Q ⟨c,rfl,q⟩
 refine⟨_,rfl,iP5,_,rfl,_,rfl,?_⟩
 cases h0:decide (c%5=0) with
 | true =>
  obtain⟨ch,hch,ech⟩:=mI (xs:=MC.cps.toList) (cX (c / 5) iP13) (by rw [show((MC.cps.toList.length:Nat):Int)=13 by decide +kernel];exact cO _ (by decide))
  refine av ⟨8,rfl,(by decide),(by decide),mO (g0 ch) _,oU,?_,(by decide),?_⟩
  ·intro i d o a1 a2
   obtain⟨hd,rfl⟩:=rg a1 a2
   obtain⟨i,hi,rfl⟩:=K_ hd
   exact⟨rfl,fun _=>⟨_,rfl,cd (by decide) (by decide),iP13,(by decide +kernel),ch,ech,_,rfl,_,_,rfl,rfl,(by omega),(by omega),(show(0:Nat)<1 by decide),(show(1:Nat)<1000 by decide),rfl⟩⟩
  ·rw [mS,show((List.range (8:Int).toNat).map fun i:Nat=>D.int (0+(i:Int))).map (g0 ch)=(Mn ch).map D.str by unfold Mn;rw [List.map_map,List.map_map];rfl]
   exact q _ (pb (List.all_eq_true.mp Ia ch hch))
 | false =>
  refine aW ⟨_,rfl,_,rfl,?_⟩
  cases h1:decide (c%5=1) with
  | true =>
   refine av ⟨zL8,_,rfl,mO g1 _,oU,?_,(by decide),?_⟩
   ·intro i d o a1 a2
    obtain⟨hd,rfl⟩:=rg a1 a2
    have hd':d∈l1.map D.str:=hd
    obtain⟨x,hx,rfl⟩:=List.mem_map.mp hd'
    have hl:x.length+1<=sizeLine:=Nat.le_trans (show x.length+1<=9 from(show ∀ x∈l1,x.length+1<=9 by decide +kernel) x hx) (by decide)
    exact⟨rfl,fun _=>⟨_,rfl,hl,rfl⟩⟩
   ·rw [mS]
    exact q NZ (pb Ib)
  | false =>
   refine aW ⟨_,rfl,_,rfl,?_⟩
   cases h2:decide (c%5=2) with
   | true =>
    refine av ⟨zL8,_,rfl,mO g2 _,oU,?_,(by decide),?_⟩
    ·intro i d o a1 a2
     obtain⟨hd,rfl⟩:=rg a1 a2
     have hd':d∈l2.map D.str:=hd
     obtain⟨x,hx,rfl⟩:=List.mem_map.mp hd'
     have hl:(Str.length "in."+x.length<=sizeLine)/\(("in."++x:Str).length+Str.length ".q"<=sizeLine):=by
      have z:∀ x∈l2,Str.length "in."+x.length<=20/\("in."++x:Str).length+Str.length ".q"<=20:=by decide +kernel
      exact⟨Nat.le_trans (z x hx).1 (by decide),Nat.le_trans (z x hx).2 (by decide)⟩
     exact⟨rfl,fun _=>⟨_,rfl,hl.1,hl.2,rfl⟩⟩
    ·rw [mS]
     exact q Na (pb Ic)
   | false =>
    have a0:=cX (c / 5) iP7
    have a7:=cO (c / 5) iP7
    refine aW ⟨_,rfl,cd (by decide) (by decide),iP7,?_⟩
    have hs:(0:Int)<2+c / 5%7:=by omega
    have b0:=cX (c / 40) hs
    have b8:=cO (c / 40) hs
    refine⟨_,rfl,cd (by decide) (by decide),_,rfl,hs,?_⟩
    dsimp only
    obtain⟨a,ea,ha⟩:∃ a:Nat,c / 5%7=(a:Int)/\a<7:=⟨(c / 5%7).toNat,by omega,by omega⟩
    rw [ea] at b0 b8 ⊢
    obtain⟨b,eb,hb⟩:∃ b:Nat,c / 40%(2+(a:Int))=(b:Int)/\b<8:=⟨(c / 40%(2+(a:Int))).toNat,by omega,by omega⟩
    rw [eb]
    have ok3:xr (Lu (2+(a:Int)) (b:Int))=true:=List.all_eq_true.mp (List.all_eq_true.mp Ie a (List.mem_range.mpr ha)) b (List.mem_range.mpr hb)
    refine⟨_,rfl,_,rfl,(by decide +kernel),?_⟩
    have z3:IC (2+(a:Int)) (b:Int)=true:=List.all_eq_true.mp (List.all_eq_true.mp Ey a (List.mem_range.mpr ha)) b (List.mem_range.mpr hb)
    unfold IC at z3
    rw [Bool.and_eq_true,Bool.and_eq_true] at z3
    have hw:(wd (2+(a:Int))).length<=8:=of_decide_eq_true z3.1
    have e1:(Txt.slice (wd (2+(a:Int))) none (some (b:Int))).length<=8:=of_decide_eq_true z3.2.1
    have e2:(Txt.slice (wd (2+(a:Int))) (some ((b:Int)+1)) none).length<=8:=of_decide_eq_true z3.2.2
    refine⟨8,rfl,(by decide),(by decide),mO (g3 (2+(a:Int)) (b:Int)) _,oU,?_,(by decide),?_⟩
    ·intro i d o a1 a2
     obtain⟨hd,rfl⟩:=rg a1 a2
     obtain⟨i,hi,rfl⟩:=K_ hd
     obtain⟨ch,hch,ech⟩:=mI (xs:=bc.cps.toList) (i:=0+(i:Int)) (by omega) (by rw [show((bc.cps.toList.length:Nat):Int)=8 by decide +kernel];omega)
     have eg:g3 (2+(a:Int)) (b:Int) (.int (0+(i:Int)))=.str (Jp (2+(a:Int)) (b:Int) ch):=by unfold g3;dsimp only;rw [ech];rfl
     refine⟨rfl,fun _=>⟨_,rfl,_,rfl,_,rfl,Nat.le_trans hw (by decide),_,rfl,(by decide +kernel),ch,ech,Nat.le_trans (show(Txt.slice (wd (2+(a:Int))) none (some (b:Int))).length+1<=9 by omega) (by decide),_,rfl,_,rfl,_,rfl,Nat.le_trans hw (by decide),?_,?_⟩⟩
     ·show(Txt.slice (wd (2+(a:Int))) none (some (b:Int))++⟨#[ch]⟩).length+(Txt.slice (wd (2+(a:Int))) (some ((b:Int)+1)) none).length<=sizeLine
      rw [D8]
      exact Nat.le_trans (show _+1+_<=17 by omega) (by decide)
     ·rw [eg];rfl
    ·rw [mS,show((List.range (8:Int).toNat).map fun i:Nat=>D.int (0+(i:Int))).map (g3 (2+(a:Int)) (b:Int))=(Lu (2+(a:Int)) (b:Int)).map D.str by unfold Lu;rw [List.map_map,List.map_map];rfl]
     exact q _ (pb ok3)
def Ln.aO (x:Ln):List Str:=match x.on with
 | none=>x.parts.flatMap Pt.aO
 | some o=>if o∈x.parts.flatMap Pt.aO then x.parts.flatMap Pt.aO else x.parts.flatMap Pt.aO++[o]
theorem fw:∀{ps:List Pt},(∀ p∈ps,p.depth<=4/\p.size<=40)->(ps.flatMap Pt.aO).length<=40*ps.length
 | [],_=>Nat.le_refl _
 | p::ps,h=>by
  rw [List.flatMap_cons,List.length_append,List.length_cons]
  have h1:=fw (ps:=ps) fun q hq=>h q (List.mem_cons_of_mem _ hq)
  have h2:=(h p List.mem_cons_self).2
  have h3:=p.ah
  omega
theorem zo {A:bO}{L:LA}{μ:Mu}(x:Ln):ay μ (x.d A L)=x.d A L:=by cases x<;>rfl
def LF (A:bO)(L:LA):cL:=fun ds Q=>∃ x:Ln,ds=[x.d A L]/\pY x/\Q (.lst (x.aO.map D.str))
theorem iZ (hL:pq K L)(d:Df K mg "line_needs" fi ["line"])(m_own_parts:∀ C,BI L C->bY P w K mg base j C "own_parts" (DI A L (fun x=>.tup (x.parts.map (Pt.d A))) C) [])(mf_needs:MF P w K mg base A j "needs" 4 okN Pt.aO):az P w K mg base (j+1) "line_needs" ["line"] (LF A L):=by
 refine d.n_ e6 (fun ds P P' f ⟨x,e,h,q⟩=>⟨x,e,h,f _ q⟩) (fun ds Q ⟨x,e,_⟩=>by rw [e];rfl) (fun f cdv A outer s H E hr=>have hu:=hr.units;have hh:=hr.hd;have sc:=e6
  (aM (lG (i:=1) sc.nd rfl (Or.inl rfl) aC)
 (aM (cY PassesOwn.never rfl (br (cE m_own_parts hr (by omega) (dv 0))) (bR (i:=2) sc.nd rfl (Or.inl rfl)) (aU (iE (i:=1) rfl (Or.inl rfl) (Ed mf_needs hr (by omega) (dv 2)))))
 (aM (gU (o3.td (w_and (lS (aT K rfl (dv 0) (by rfl)) jY) (kr (lT (aT K rfl (dv 0) (by rfl)) (dv 1) (by rfl))))) (aU (lF (i:=1) rfl (Or.inl rfl) (aT K rfl (dv 0) (by rfl)))) dS)
 (v5 (v7 (aF (aP (dv 1))))))))) ?_
 rintro ds Q ⟨x,rfl,ho,q⟩
 refine⟨zL0,fun a _=>?_⟩
 refine kC bu oX ⟨_,rfl,rfl⟩ ho ⟨x.parts.map (Pt.d A),rfl,fun i δ μ=>(∃ x2,δ=[some (x.d A L),some (.adr a),x2])/\μ=[(a,.lst (((x.parts.take i).flatMap Pt.aO).map D.str))],⟨⟨none,rfl⟩,rfl⟩,?_,?_⟩
 ·rintro i dd δ μ hd ⟨⟨x2,rfl⟩,rfl⟩
  rw [List.getElem?_map] at hd
  cases hp:x.parts[i]? with
  | none=>rw [hp] at hd;cases hd
  | some p =>
   rw [hp] at hd
   obtain rfl:p.d A=dd:=by simpa using hd
   have hop:=ho.2.2 p (List.mem_of_getElem? hp)
   obtain⟨gs,e1,e2⟩:=nG A oY p
   refine⟨a,_,rfl,b7,p.d A,rfl,p.cls A,gs,e1,e2,⟨p,rfl⟩,p,rfl,rfl,hop.1,Nat.le_trans hop.2 (by decide),fun b=>⟨b,_,rfl,b7,?_,⟨_,rfl⟩,?_⟩⟩
   ·rw [List.length_map,List.length_map]
    have h1:=fw (ps:=x.parts.take i) fun q hq=>ho.2.2 q (List.mem_of_mem_take hq)
    have h2:(x.parts.take i).length<=8:=Nat.le_trans (by rw [List.length_take];exact Nat.min_le_right _ _) ho.2.1
    have h3:=p.ah
    exact Nat.le_trans (show _+p.aO.length<=400 by omega) (by decide)
   ·rw [kN,<- List.map_append,List.take_succ,hp,List.flatMap_append]
    simp
 ·rintro δ μ ⟨⟨x2,rfl⟩,rfl⟩
  rw [List.length_map,List.take_length]
  have hl:=fw (ps:=x.parts) fun q hq=>ho.2.2 q hq
  have hl8:=ho.2.1
  have vw:∀ l:List Str,bZ [(a,.lst (l.map D.str))] [some (x.d A L),some (.adr a),x2]=[some (x.d A L),some (.lst (l.map D.str)),x2.map (ay [(a,.lst (l.map D.str))])]:=fun l=>by
   show[some (ay [(a,MD.lst (l.map D.str))] (x.d A L)),some (ay [(a,MD.lst (l.map D.str))] (.adr a)),_]=_
   rw [gw,zo]
   rfl
  dsimp only
  refine yx (vw _) ?_
  ·refine⟨x.d A L,rfl,g6 hL ?_⟩
   cases hon:x.on with
   | none =>
    refine⟨false,rfl,aW (aW ?_)⟩
    have e:x.aO=x.parts.flatMap Pt.aO:=by unfold Ln.aO;rw [hon]
    rw [e] at q
    unfold vq
    dsimp only
    refine k_ (vw _) ?_
    exact⟨_,rfl,q⟩
   | some y =>
    refine⟨true,rfl,av ⟨x.d A L,rfl,g6 hL ?_⟩⟩
    rw [hon]
    refine⟨_,rfl,rfl,dZ _,_,rfl,?_⟩
    show if(!inD (.str y) ((x.parts.flatMap Pt.aO).map D.str))=true then _ else _
    rw [ig]
    cases hin:(x.parts.flatMap Pt.aO).contains y with
    | true =>
     have e:x.aO=x.parts.flatMap Pt.aO:=by
      unfold Ln.aO
      rw [hon]
      exact if_pos (List.contains_iff_mem.mp hin)
     rw [e] at q
     refine aW ?_
     unfold vq
     dsimp only
     refine k_ (vw _) ?_
     exact⟨_,rfl,q⟩
    | false =>
     have e:x.aO=x.parts.flatMap Pt.aO++[y]:=by
      unfold Ln.aO
      rw [hon]
      exact if_neg (fun h=>by rw [List.contains_iff_mem.mpr h] at hin;cases hin)
     rw [e,List.map_append] at q
     refine av ⟨a,_,rfl,b7,?_,x.d A L,rfl,g6 hL ?_⟩
     ·rw [List.length_map]
      exact Nat.lt_of_le_of_lt (show _<=400 by omega) (by decide)
     ·rw [hon,kN]
      have v2:=vw (x.parts.flatMap Pt.aO++[y])
      rw [List.map_append] at v2
      dsimp only
      refine k_ v2 ?_
      exact⟨_,rfl,q⟩
def Ln.nm:Ln->Str
 | .lC n _ _=>n
 | .row n _ _ _=>n
theorem Ln.xw (x:Ln):x.own=[x.nm]:=by cases x<;>rfl
theorem zP:∀ xs:List Ln,xs.flatMap Ln.own=xs.map Ln.nm
 | []=>rfl
 | x::xs=>by rw [List.flatMap_cons,List.map_cons,zP xs,Ln.xw];rfl
theorem Sh.iF (s:Sh):s.names=s.all.map Ln.nm:=zP s.all
def Sh.Rows (s:Sh):Prop:=∀ x∈s.ls,∃ n k p o,x=.row n k p o
def Sh.qZ (s:Sh)(n:Str):List Str:=((s.all.find? fun x=>x.nm == n).map Ln.aO).getD []
theorem yr {n:Str}{x:Ln}:∀{xs:List Ln},(xs.map Ln.nm).Nodup->x∈xs->x.nm=n->(xs.find? fun x=>x.nm == n)=some x
 | y::xs,nd,h,e=>by
  rw [List.map_cons,List.nodup_cons] at nd
  rw [List.find?_cons]
  rcases List.mem_cons.mp h with h|h
  ·subst h;rw [e];simp
  ·have:(y.nm == n)=false:=by
    rw [beq_eq_false_iff_ne]
    intro z
    exact nd.1 (List.mem_map.mpr ⟨x,h,e.trans z.symm⟩)
   rw [this]
   exact yr nd.2 h e
theorem Sh.qa {s:Sh}(nd:s.names.Nodup){x:Ln}(h:x∈s.all):s.qZ x.nm=x.aO:=by
 unfold Sh.qZ
 rw [yr (by rw [<- s.iF];exact nd) h rfl]
 rfl
structure NS (K:PySem.W.Frag) (L:LA):Prop where
 o2:ft K L.row
 k2:kitOne K (.ref L.row) (.ref L.row)=some true
def yL (A:bO)(L:LA):cL:=fun ds Q=>∃ s:Sh,ds=[s.d A L]/\s.Rows/\Q .aj
def Sh.xj (s:Sh):List (Key × D):=dF s.names fun n=>ao (s.qZ n)
def LH (A:bO)(L:LA):cL:=fun ds Q=>∃ s:Sh,ds=[s.d A L]/\s.Ok/\s.names.Nodup/\s.Rows/\Q (.dK s.xj)
theorem iW {μ:Mu}{δ:SD}{i:Nat}{d:D}{Q:D->Prop}(h:δ[i]?=some (some d))(q:Q (ay μ d)):ny i (bZ μ δ) Q:=⟨ay μ d,by unfold bZ;rw [List.getElem?_map,h];rfl,q⟩
theorem bo {α:Type}{l:List α}{i:Nat}{x:α}(h:l[i]?=some x):l.take (i+1)=l.take i++[x]:=by rw [List.take_succ,h];rfl
theorem B4 {x:Ln}{Q:D->Prop}(hL:pq K L)(q:Q (.str x.nm)):∃ C gs r,x.d A L=.obj C gs/\q_ K C/\cq K C "name"/\gs.lookup ("name":Str)=some r/\Q r:=by
 have c:=hL.cl _ (Ln.aQ L x)
 have no:=hL.fD _ (Ln.aQ L x)
 cases x<;>exact⟨_,_,_,rfl,c,no _ (by decide),(by kernel_rfl),q⟩
theorem e9 (hL:pq K L)(hR:NS K L)(d:Df K mg "need_rows" kY ["sheet"])(n_isinstance:mg "isinstance"=none)(i_Row:mg "Row"=some (.ref L.row))(ag:az P w K mg base j "need_sheet" ["holds","words"] wU):az P w K mg base (j+1) "need_rows" ["sheet"] (yL A L):=by
 refine d.cp nZ (fun ds P P' f ⟨s,e,h,q⟩=>⟨s,e,h,f _ q⟩) (fun ds Q ⟨s,e,_⟩=>by rw [e];rfl) (fun f cdv A outer s H E hr=>have hu:=hr.units;have hh:=hr.hd;have sc:=nZ
  (aF (DE PassesOwn.never rfl (br (aT K rfl (dv 0) (by rfl))) (bR (i:=1) sc.nd rfl (Or.inl rfl)) (aF (bM (aH ag hr (by omega) (by rfl) (aA (Hc K rfl (dv 1) (by rfl) n_isinstance (by rfl) i_Row) (aA aZ aC)))))))) ?_
 rintro ds Q ⟨s,rfl,hr,q⟩
 have c:=hL.cl L.sh (by simp)
 have no:=hL.fD L.sh (by simp)
 refine aV (r:=.tup (s.ls.map (Ln.d A L))) rfl c (no _ (by decide)) (by kernel_rfl) ⟨s.ls.map (Ln.d A L),rfl,fun i δ=>∃ x1,δ=[some (s.d A L),x1],⟨none,rfl⟩,?_,?_⟩
 ·rintro i dd δ hd ⟨x1,rfl⟩
  obtain⟨x,hx,rfl⟩:=g7 hd
  obtain⟨m,k,p,o,rfl⟩:=hr x (List.mem_of_getElem? hx)
  exact⟨_,rfl,_,_,.o hR.o2,hR.k2,_,rfl,_,rfl⟩
 ·rintro δ ⟨x1,rfl⟩
  exact q
theorem mK (hL:pq K L)(d:Df K mg "needs_of" jC ["sheet"])(e9:az P w K mg base j "need_rows" ["sheet"] (yL A L))(m_all_lines:∀ C,AN L C->bY P w K mg base j C "all_lines" (ni A L (fun _=>True) (xK A L) C) [])(iZ:az P w K mg base j "line_needs" ["line"] (LF A L)):az P w K mg base (j+1) "needs_of" ["sheet"] (LH A L):=by
 refine d.n_ gp (fun ds P P' f ⟨s,e,h1,h2,h3,q⟩=>⟨s,e,h1,h2,h3,f _ q⟩) (fun ds Q ⟨s,e,_⟩=>by rw [e];rfl) (fun f cdv A outer s H E hr=>have hu:=hr.units;have hh:=hr.hd;have sc:=gp
  (aM (bw (bM (aH e9 hr (by omega) (by rfl) (aA (dv 0) aC))))
 (aM (dQ (i:=1) sc.nd rfl (Or.inl rfl) gQ)
 (aM (cY PassesOwn.never rfl (br (cE m_all_lines hr (by omega) (dv 0))) (bR (i:=2) sc.nd rfl (Or.inl rfl)) (aU (fX (i:=1) hu rfl (Or.inl rfl) (aT K rfl (dv 2) (by rfl)) (aH iZ hr (by omega) (by rfl) (aA (dv 2) aC)))))
 (aU (fK (dv 1))))))) ?_
 rintro ds Q ⟨s,rfl,ho,nd,hr,q⟩
 refine⟨_,rfl,s,rfl,hr,fun a _=>?_⟩
 refine fE bu lH ⟨_,rfl,rfl⟩ ho True.intro ⟨s.all.map (Ln.d A L),rfl,fun i δ μ=>(∃ x2,δ=[some (s.d A L),some (.adr a),x2])/\μ=[(a,.dK (dF ((s.all.take i).map Ln.nm) fun n=>ao (s.qZ n)))],⟨⟨none,rfl⟩,rfl⟩,?_,?_⟩
 ·rintro i dd δ μ hd ⟨⟨x2,rfl⟩,rfl⟩
  obtain⟨x,hx,rfl⟩:=g7 hd
  have hxa:=List.mem_of_getElem? hx
  refine⟨x.d A L,rfl,x,rfl,ho.ln x hxa,a,_,rfl,b7,?_,x.d A L,rfl,B4 hL ⟨.inr x.nm,rfl,⟨_,rfl⟩,?_⟩⟩
  ·rw [jX,List.length_map,List.length_take]
   have:=ho.kx
   exact Nat.lt_of_le_of_lt (show _<=18 by omega) (by decide)
  ·have hn:x.nm∉(s.all.take i).map Ln.nm:=fun z=>by
    have nd':(s.all.map Ln.nm).Nodup:=by rw [<- s.iF];exact nd
    obtain⟨y,hy,e⟩:=List.mem_map.mp z
    obtain⟨k,hk⟩:=List.mem_iff_getElem?.mp hy
    rw [List.getElem?_take] at hk
    split at hk
    ·have e1:(s.all.map Ln.nm)[k]?=some x.nm:=by rw [List.getElem?_map,hk,<- e];rfl
     have e2:(s.all.map Ln.nm)[i]?=some x.nm:=by rw [List.getElem?_map,hx];rfl
     have:=iG nd' e1 e2
     omega
    ·cases hk
   rw [kN,iK hn,bo hx,List.map_append]
   refine congrArg (fun t=>[(a,MD.dK t)]) (cT fun m hm=>?_)
   unfold oz
   split
   ·rename_i e
    rw [e,Sh.qa nd hxa]
    rfl
   ·rfl
 ·rintro δ μ ⟨⟨x2,rfl⟩,rfl⟩
  refine iW rfl ?_
  rw [gw,List.length_map,List.take_length,<- s.iF]
  exact q
def G9 (A:bO)(L:LA):pZ:=fun ds Q=>∃ x:Ln,ds=[x.d A L]/\pY x/\∀ a,Q (.adr a) [(a,.lst (x.aO.map D.str))]
def D1 (μ:Mu)(a:Addr)(l:List Str)(nf:Str->List Str)(af:Str->Addr):Prop:=μ.lookup a=some (.dK (dF l fun n=>.adr (af n)))/\∀ n∈l,μ.lookup (af n)=some (.lst ((nf n).map D.str))
def G_ (A:bO)(L:LA):pZ:=fun ds Q=>∃ s:Sh,ds=[s.d A L]/\s.Ok/\s.names.Nodup/\s.Rows/\∀ a μ af,D1 μ a s.names s.qZ af->Q (.adr a) μ
theorem g5 (hL:pq K L)(d:Df K mg "line_needs" fi ["line"])(m_own_parts:∀ C,BI L C->bY P w K mg base j C "own_parts" (DI A L (fun x=>.tup (x.parts.map (Pt.d A))) C) [])(mf_needs:MF P w K mg base A j "needs" 4 okN Pt.aO):fq P w K mg base (j+1) "line_needs" ["line"] (G9 A L):=by
 refine d.pU e6 (fun ds P P' f ⟨x,e,h,q⟩=>⟨x,e,h,fun a=>f _ _ (q a)⟩) (fun ds Q ⟨x,e,_⟩=>by rw [e];rfl) (fun f cdv A outer s H E hr=>have hu:=hr.units;have hh:=hr.hd;have sc:=e6
  (aM (lG (i:=1) sc.nd rfl (Or.inl rfl) aC)
 (aM (cY PassesOwn.never rfl (br (cE m_own_parts hr (by omega) (dv 0))) (bR (i:=2) sc.nd rfl (Or.inl rfl)) (aU (iE (i:=1) rfl (Or.inl rfl) (Ed mf_needs hr (by omega) (dv 2)))))
 (aM (gU (o3.td (w_and (lS (aT K rfl (dv 0) (by rfl)) jY) (kr (lT (aT K rfl (dv 0) (by rfl)) (dv 1) (by rfl))))) (aU (lF (i:=1) rfl (Or.inl rfl) (aT K rfl (dv 0) (by rfl)))) dS)
 (aU (bw (aP (dv 1)))))))) ?_
 rintro ds Q ⟨x,rfl,ho,q⟩
 refine⟨zL0,fun a _=>?_⟩
 refine kC bu oX ⟨_,rfl,rfl⟩ ho ⟨x.parts.map (Pt.d A),rfl,fun i δ μ=>(∃ x2,δ=[some (x.d A L),some (.adr a),x2])/\μ=[(a,.lst (((x.parts.take i).flatMap Pt.aO).map D.str))],⟨⟨none,rfl⟩,rfl⟩,?_,?_⟩
 ·rintro i dd δ μ hd ⟨⟨x2,rfl⟩,rfl⟩
  obtain⟨p,hp,rfl⟩:=g7 hd
  have hop:=ho.2.2 p (List.mem_of_getElem? hp)
  obtain⟨gs,e1,e2⟩:=nG A oY p
  refine⟨a,_,rfl,b7,p.d A,rfl,p.cls A,gs,e1,e2,⟨p,rfl⟩,p,rfl,rfl,hop.1,Nat.le_trans hop.2 (by decide),fun b=>⟨b,_,rfl,b7,?_,⟨_,rfl⟩,?_⟩⟩
  ·rw [List.length_map,List.length_map]
   have h1:=fw (ps:=x.parts.take i) fun q hq=>ho.2.2 q (List.mem_of_mem_take hq)
   have h2:(x.parts.take i).length<=8:=Nat.le_trans (by rw [List.length_take];exact Nat.min_le_right _ _) ho.2.1
   have h3:=p.ah
   exact Nat.le_trans (show _+p.aO.length<=400 by omega) (by decide)
  ·rw [kN,<- List.map_append,List.take_succ,hp,List.flatMap_append]
   simp
 ·rintro δ μ ⟨⟨x2,rfl⟩,rfl⟩
  rw [List.length_map,List.take_length]
  have hl:=fw (ps:=x.parts) fun q hq=>ho.2.2 q hq
  have hl8:=ho.2.1
  have vw:∀ l:List Str,bZ [(a,.lst (l.map D.str))] [some (x.d A L),some (.adr a),x2]=[some (x.d A L),some (.lst (l.map D.str)),x2.map (ay [(a,.lst (l.map D.str))])]:=fun l=>by
   show[some (ay [(a,MD.lst (l.map D.str))] (x.d A L)),some (ay [(a,MD.lst (l.map D.str))] (.adr a)),_]=_
   rw [gw,zo]
   rfl
  have fin:∀ l:List Str,x.aO=l->Q (.adr a) [(a,.lst (l.map D.str))]:=fun l e=>by rw [<- e];exact q a
  dsimp only
  refine yx (vw _) ?_
  refine⟨x.d A L,rfl,g6 hL ?_⟩
  cases hon:x.on with
  | none =>
   have e:x.aO=x.parts.flatMap Pt.aO:=by unfold Ln.aO;rw [hon]
   exact⟨false,rfl,aW (aW ⟨_,rfl,fin _ e⟩)⟩
  | some y =>
   refine⟨true,rfl,av ⟨x.d A L,rfl,g6 hL ?_⟩⟩
   rw [hon]
   refine⟨_,rfl,rfl,dZ _,_,rfl,?_⟩
   show if(!inD (.str y) ((x.parts.flatMap Pt.aO).map D.str))=true then _ else _
   rw [ig]
   cases hin:(x.parts.flatMap Pt.aO).contains y with
   | true =>
    have e:x.aO=x.parts.flatMap Pt.aO:=by
     unfold Ln.aO
     rw [hon]
     exact if_pos (List.contains_iff_mem.mp hin)
    exact aW ⟨_,rfl,fin _ e⟩
   | false =>
    have e:x.aO=x.parts.flatMap Pt.aO++[y]:=by
     unfold Ln.aO
     rw [hon]
     exact if_neg (fun h=>by rw [List.contains_iff_mem.mpr h] at hin;cases hin)
    refine av ⟨a,_,rfl,b7,?_,x.d A L,rfl,g6 hL ?_⟩
    ·rw [List.length_map]
     exact Nat.lt_of_le_of_lt (show _<=400 by omega) (by decide)
    ·rw [hon,kN]
     have z:=fin _ e
     rw [List.map_append] at z
     exact⟨_,rfl,z⟩
theorem jW (hL:pq K L)(d:Df K mg "needs_of" jC ["sheet"])(e9:az P w K mg base j "need_rows" ["sheet"] (yL A L))(m_all_lines:∀ C,AN L C->bY P w K mg base j C "all_lines" (ni A L (fun _=>True) (xK A L) C) [])(g5:fq P w K mg base j "line_needs" ["line"] (G9 A L)):fq P w K mg base (j+1) "needs_of" ["sheet"] (G_ A L):=by
 refine d.pU gp (fun ds P P' f ⟨s,e,h1,h2,h3,q⟩=>⟨s,e,h1,h2,h3,fun a μ af h=>f _ _ (q a μ af h)⟩) (fun ds Q ⟨s,e,_⟩=>by rw [e];rfl) (fun f cdv A outer s H E hr=>have hu:=hr.units;have hh:=hr.hd;have sc:=gp
  (aM (bw (bM (aH e9 hr (by omega) (by rfl) (aA (dv 0) aC))))
 (aM (dQ (i:=1) sc.nd rfl (Or.inl rfl) gQ)
 (aM (cY PassesOwn.never rfl (br (cE m_all_lines hr (by omega) (dv 0))) (bR (i:=2) sc.nd rfl (Or.inl rfl)) (aU (CS (i:=1) hu rfl (Or.inl rfl) (aT K rfl (dv 2) (by rfl)) (rV g5 hr (by omega) (by rfl) (aA (dv 2) aC)))))
 (aU (bw (aP (dv 1)))))))) ?_
 rintro ds Q ⟨s,rfl,ho,nd,hr,q⟩
 refine⟨_,rfl,s,rfl,hr,fun a _=>?_⟩
 refine fE bu lH ⟨_,rfl,rfl⟩ ho True.intro ⟨s.all.map (Ln.d A L),rfl,fun i δ μ=>(∃ x2,δ=[some (s.d A L),some (.adr a),x2])/\∃ af,D1 μ a ((s.all.take i).map Ln.nm) s.qZ af,⟨⟨none,rfl⟩,fun _=>0,b7,fun n hn=>nomatch hn⟩,?_,?_⟩
 ·rintro i dd δ μ hd ⟨⟨x2,rfl⟩,af,ha,hl⟩
  obtain⟨x,hx,rfl⟩:=g7 hd
  have hxa:=List.mem_of_getElem? hx
  refine⟨x.d A L,rfl,x,rfl,ho.ln x hxa,fun b hb=>⟨a,_,rfl,ha,?_,x.d A L,rfl,B4 hL ⟨.inr x.nm,rfl,⟨_,rfl⟩,BC af x.nm b,?_,?_⟩⟩⟩
  ·rw [jX,List.length_map,List.length_take]
   have:=ho.kx
   exact Nat.lt_of_le_of_lt (show _<=18 by omega) (by decide)
  ·have hn:x.nm∉(s.all.take i).map Ln.nm:=fun z=>by
    have nd':(s.all.map Ln.nm).Nodup:=by rw [<- s.iF];exact nd
    obtain⟨y,hy,e⟩:=List.mem_map.mp z
    obtain⟨k,hk⟩:=List.mem_iff_getElem?.mp hy
    rw [List.getElem?_take] at hk
    split at hk
    ·have e1:(s.all.map Ln.nm)[k]?=some x.nm:=by rw [List.getElem?_map,hk,<- e];rfl
     have e2:(s.all.map Ln.nm)[i]?=some x.nm:=by rw [List.getElem?_map,hx];rfl
     have:=iG nd' e1 e2
     omega
    ·cases hk
   rw [kG (nD ha hb),iK hn,bo hx,List.map_append]
   refine congrArg (fun t=>some (MD.dK t)) (cT fun m hm=>?_)
   exact congrFun (um af D.adr x.nm b) m
  ·intro m hm
   have nab:∀ m∈(s.all.take i).map Ln.nm,af m≠a:=fun m hm e=>by
    have:=hl m hm
    rw [e,ha] at this
    cases this
   have hba:b≠a:=fun e=>by
    rw [List.map_append,List.map_cons,List.map_nil,List.singleton_append,List.nodup_cons] at hb
    exact hb.1 (e ▸ mem_keys ha)
   by_cases e:m=x.nm
   ·rw [e,iV,cv hba,Sh.qa nd hxa]
    exact look_same
   ·rw [mj e]
    rw [bo hx,List.map_append] at hm
    rcases List.mem_append.mp hm with hm|hm
    ·rw [cv (nab m hm)]
     exact nD (hl m hm) hb
    ·exact absurd (List.mem_singleton.mp hm) e
 ·rintro δ μ ⟨⟨x2,rfl⟩,af,ha,hl⟩
  rw [List.length_map,List.take_length,<- s.iF] at ha hl
  exact⟨_,rfl,q a μ af ⟨ha,hl⟩⟩
theorem FF {acc:List Str}{n m:Str}(h:m∈au acc n):m∈acc\/m=n:=by
 unfold au at h
 split at h
 ·exact .inl h
 ·rcases List.mem_append.mp h with h|h
  ·exact .inl h
  ·exact .inr (List.mem_singleton.mp h)
theorem vt {m:Str}:∀{l acc:List Str},m∈l.foldl au acc->m∈acc\/m∈l
 | [],_,h=>.inl h
 | n::l,acc,h=>by
  rcases vt (l:=l) h with h|h
  ·rcases FF h with h|h
   ·exact .inl h
   ·exact .inr (h ▸ List.mem_cons_self)
  ·exact .inr (List.mem_cons_of_mem _ h)
theorem rh {m:Str}:∀{ls:List (List Str)} {acc:List Str},m∈ls.foldl (fun acc l=>l.foldl au acc) acc->m∈acc\/∃ l∈ls,m∈l
 | [],_,h=>.inl h
 | k::ls,acc,h=>by
  rcases rh (ls:=ls) h with h|⟨l,hl,h⟩
  ·rcases vt h with h|h
   ·exact .inl h
   ·exact .inr ⟨k,List.mem_cons_self,h⟩
  ·exact .inr ⟨l,List.mem_cons_of_mem _ hl,h⟩
theorem fz {m:Str}{ls:List (List Str)}(h:m∈ba ls):∃ l∈ls,m∈l:=(rh h).resolve_left fun z=>nomatch z
theorem Pt.dN {p:Pt}{ns:List Str}(h1:∀ q∈p.inner,∀ n∈q.names,n∈ns)(h2:∀ n∈p.own,n∈ns):∀ n∈p.names,n∈ns:=fun n hn=>by
 rw [Pt.gX] at hn
 obtain⟨l,hl,hn⟩:=fz hn
 rcases List.mem_append.mp hl with hl|hl
 ·obtain⟨q,hq,rfl⟩:=List.mem_map.mp hl
  exact h1 q hq n hn
 ·rw [List.mem_singleton.mp hl] at hn
  exact h2 n hn
structure Tr (ns:List Str) (dp sz:Nat) (p:Pt):Prop where
 ok:p.ok
 nm:∀ n∈p.names,n∈ns
 dp:p.depth<=dp
 sz:p.size<=sz
def pj:Nat->Nat
 | 0=>1
 | d+1=>3*pj d+1
theorem lR:∀ d,1<=pj d
 | 0=>Nat.le_refl _
 | d+1=>by unfold pj;omega
theorem Tr.up {ns ms:List Str}{d e s t:Nat}{p:Pt}(h:Tr ns d s p)(hn:∀ n∈ns,n∈ms)(hd:d<=e)(hs:s<=t):Tr ms e t p:=⟨h.ok,fun n hn'=>hn n (h.nm n hn'),Nat.le_trans h.dp hd,Nat.le_trans h.sz hs⟩
section
variable {ns:List Str}{d e f a b c:Nat}{p q r:Pt}
theorem wj {v:D}(h:isVal v):Tr ns 1 1 (.given v):=⟨h,Pt.dN (fun q hq=>nomatch hq) (fun n hn=>nomatch hn),Nat.le_refl _,Nat.le_refl _⟩
theorem De {n:Str}(h:n∈ns)(o:mU n):Tr ns 1 1 (.named n):=⟨o,Pt.dN (fun q hq=>nomatch hq) (fun m hm=>by rw [List.mem_singleton.mp hm];exact h),Nat.le_refl _,Nat.le_refl _⟩
theorem A5 (h:Tr ns d a p):Tr ns (d+1) (a+1) (.turned p):=⟨h.ok,Pt.dN (fun q hq=>by rw [List.mem_singleton.mp hq];exact h.nm) (fun n hn=>nomatch hn),Nat.succ_le_succ h.dp,Nat.succ_le_succ h.sz⟩
theorem sP {v:D}(h:Tr ns d a p)(hv:dP v):Tr ns (d+1) (a+1) (.before p v):=⟨⟨h.ok,hv⟩,Pt.dN (fun q hq=>by rw [List.mem_singleton.mp hq];exact h.nm) (fun n hn=>nomatch hn),Nat.succ_le_succ h.dp,Nat.succ_le_succ h.sz⟩
theorem Jc {n:Str}(h:Tr ns d a p)(hn:n∈ns)(o:mU n):Tr ns (d+1) (a+1) (.cI p n):=⟨⟨h.ok,o⟩,Pt.dN (fun q hq=>by rw [List.mem_singleton.mp hq];exact h.nm) (fun m hm=>by rw [List.mem_singleton.mp hm];exact hn),Nat.succ_le_succ h.dp,Nat.succ_le_succ h.sz⟩
theorem GC {n:Str}{v:D}(h:Tr ns d a p)(hn:n∈ns)(o:mU n)(hv:dP v):Tr ns (d+1) (a+1) (.held p n v):=⟨⟨h.ok,o,hv⟩,Pt.dN (fun q hq=>by rw [List.mem_singleton.mp hq];exact h.nm) (fun m hm=>by rw [List.mem_singleton.mp hm];exact hn),Nat.succ_le_succ h.dp,Nat.succ_le_succ h.sz⟩
theorem Hs {α:Type}{P:α->Prop}{x y:α}(hx:P x)(hy:P y):∀ z∈[x,y],P z:=fun z hz=>by
 rcases List.mem_cons.mp hz with rfl|hz
 ·exact hx
 ·rw [List.mem_singleton.mp hz];exact hy
theorem Eh {α:Type}{P:α->Prop}{x y w:α}(hx:P x)(hy:P y)(hw:P w):∀ z∈[x,y,w],P z:=fun z hz=>by
 rcases List.mem_cons.mp hz with rfl|hz
 ·exact hx
 ·exact Hs hy hw z hz
theorem GF {g:Str}(hg:g∈gr)(h:Tr ns d a p)(k:Tr ns d b q):Tr ns (d+1) (a+b+1) (.pair g p q):=⟨⟨hg,h.ok,k.ok⟩,Pt.dN (Hs h.nm k.nm) (fun n hn=>nomatch hn),Nat.succ_le_succ (Nat.max_le.mpr ⟨h.dp,k.dp⟩),by have:=h.sz;have:=k.sz;show p.size+q.size+1<=_;omega⟩
theorem Dc (h:Tr ns d a p)(k:Tr ns d b q):Tr ns (d+1) (a+b+1) (.led p q):=⟨⟨h.ok,k.ok⟩,Pt.dN (Hs h.nm k.nm) (fun n hn=>nomatch hn),Nat.succ_le_succ (Nat.max_le.mpr ⟨h.dp,k.dp⟩),by have:=h.sz;have:=k.sz;show p.size+q.size+1<=_;omega⟩
theorem A4 (h:Tr ns d a p)(k:Tr ns d b q)(l:Tr ns d c r):Tr ns (d+1) (a+b+c+1) (.choice p q r):=⟨⟨h.ok,k.ok,l.ok⟩,Pt.dN (Eh h.nm k.nm l.nm) (fun n hn=>nomatch hn),Nat.succ_le_succ (Nat.max_le.mpr ⟨h.dp,Nat.max_le.mpr ⟨k.dp,l.dp⟩⟩),by have:=h.sz;have:=k.sz;have:=l.sz;show p.size+q.size+r.size+1<=_;omega⟩
end
structure BL (ks:List Str) (kf:Str->Str):Prop where
 nm:∀ n∈ks,mU n
 kd:∀ n∈ks,kf n∈oO
 len:ks.length<=8
def xX (ks:List Str)(kf:Str->Str):D:=.dK (dF ks fun n=>.str (kf n))
def oi:cL:=fun ds Q=>∃(k:Str) (c:Int) (ks:List Str) (kf:Str->Str),ds=[.str k,.int c,xX ks kf]/\BL ks kf/\∀ p,Tr ks 1 1 p->Q p.told
def DH:cL:=fun ds Q=>∃(k:Str) (c:Int),ds=[.str k,.int c]/\∀ v,dP v->Q v
def oj (d:Nat):cL:=fun ds Q=>∃(k:Str) (c:Int) (ks:List Str) (kf:Str->Str) (e:Nat),ds=[.str k,.int c,.int (e:Int),xX ks kf]/\e<=d/\BL ks kf/\∀ p,Tr ks (e+1) (pj e) p->Q p.told
def zf (d:Nat):cL:=fun ds Q=>∃(k:Str) (c w:Int) (ks:List Str) (kf:Str->Str) (e:Nat),ds=[.str k,.int c,.int ((e+1:Nat):Int),xX ks kf,.int w]/\e<=d/\BL ks kf/\∀ p,Tr ks (e+2) (pj (e+1)) p->Q p.told
theorem Hr {tA tB:TD}{T R:jS}{E:lU}{δ:SD}(r:R E δ)(h:R E δ->tA δ fun b1=>if b1=true then tB δ fun b2=>(if b2=true then T { E with nx:=R E } δ else R E δ) else R E δ):C6 (Mr (GK tA tB) T C5) R E δ:=h r
theorem Gq {tA tB:TD}{T R:jS}{E:lU}{δ:SD}(t:T { E with nx:=R E } δ)(h:T { E with nx:=R E } δ->tA δ fun b1=>if b1=true then T { E with nx:=R E } δ else tB δ fun b2=>(if b2=true then T { E with nx:=R E } δ else R E δ)):C6 (Mr (L5 tA tB) T C5) R E δ:=h t
theorem MK (e:Nat):(((e+1:Nat)):Int) - 1=(e:Int):=by omega
theorem eW {k:Str}{m:Int}{e:Nat}{d:D}:[D.str k,.int m,.int ((((e+1:Nat)):Int) - 1),d]=[.str k,.int m,.int (e:Int),d]:=by rw [MK]
theorem mn {α:Type}{xs:List α}(f:α->D){i:Int}(h0:0<=i)(h1:i<xs.length):∃ x∈xs,L2.rB (xs.map f) i=some (f x):=by
 obtain⟨r,hr,er⟩:=mI (xs:=xs.map f) h0 (by rw [List.length_map];exact h1)
 obtain⟨x,hx,rfl⟩:=List.mem_map.mp hr
 exact⟨x,hx,er⟩
theorem F4 {t u:jS}{E:lU}{δ:SD}(I:SD->Prop)(hI:∀ δ,I δ->u E δ)(hA:∀ N:SD->Prop,(∀ δ,I δ->N δ)->t { E with nx:=N } δ):C6 t u E δ:=hA (u E) hI
theorem LK {i:Nat}{d:D}{u:jS}{E:lU}{δ:SD}(h:u E (δ.set i (some d))):C6 (Ap i (vC d)) u E δ:=h
theorem qT {c:Bool}{A B:Prop}(a:A)(b:B):if c=true then A else B:=by cases c;exact b;exact a
def Nj:List Str:=["+","-","*"]
def Nk:List Str:=["not","<","<=","=","=","and","or"]
theorem JU:∀ g∈Nj,g="not"\/g∈gr:=by decide +kernel
theorem DO:∀ g∈Nk,g="not"\/g∈gr:=by decide +kernel
theorem len_str {F:List Str}(h:F.length<=8):F.length<sizeLine:=Nat.lt_of_le_of_lt h (by decide)
theorem HV (d:Df K mg "_law_leaf" kP ["_law_kind","_law_seed","_law_kinds_here"])(n_len:mg "len"=none)(c__law_mixed:az P w K mg base j "_law_mixed" ["_law_cell_here","_law_k"] gq):az P w K mg base (j+1) "_law_leaf" ["_law_kind","_law_seed","_law_kinds_here"] oi:=by
 refine d.cp nU (fun ds P P' f ⟨k,c,ks,kf,e,h2,q⟩=>⟨k,c,ks,kf,e,h2,fun p hp=>f _ (q p hp)⟩) (fun ds Q ⟨k,c,ks,kf,e,_⟩=>by rw [e];rfl) (fun f cdv A outer s H E hr=>have hu:=hr.units;have hh:=hr.hd;have sc:=nU
  (aI (G8 (k:=3) sc.nd rfl (Or.inl rfl) (i:=2) (x:="_law_name") (caps:=[0,2]) (cn:=["_law_kind","_law_kinds_here"]) (cl:=[("_law_kinds_here",s.heap.objs.size+2),("_law_kind",s.heap.objs.size+1)]) rfl (Or.inr (Or.inl rfl)) (o6 (by rfl) (by rfl) (by decide +kernel) (gR ["_law_kinds_here","_law_kind"] rfl (by decide +kernel)) (by decide +kernel) (b_ (by rfl) (b_ (by rfl) dY)) (.cons ⟨rfl,.inl rfl,rfl⟩ (.cons ⟨rfl,.inl rfl,rfl⟩ .nil))) rfl (fun C fp s₂ H₂=>bF (i:=0) (show(["_law_name","_law_kind","_law_kinds_here"]:List Str).Nodup by decide +kernel) rfl (Or.inl rfl) (.inr rfl)) (fun C fp s₂ H₂=>(oy (cW hu (cH hu (dv 2) (dv 0) (fun _ _=>rfl)) (dv 1)))) (fun C fp s₂ H₂=>(dv 0)))
 (aI (cG (o3.td (w_and (DT (dt (by rfl) n_len (aA (dv 3) aC)) aD) (kr (DT (bg (aH c__law_mixed hr (by omega) (by rfl) (aA (dv 1) (aA aD aC))) aD) aD)))) (aF (aP (bT (aA aZ (aA (bU (dv 3) (bg (aH c__law_mixed hr (by omega) (by rfl) (aA (dv 1) (aA aD aC))) (dt (by rfl) n_len (aA (dv 3) aC))) (fun _ _=>rfl)) aC))))) ak)
 (aI (cG (cW hu (dv 0) aZ) (aF (aP (bT (aA aZ (aA (xD hu (bg (aH c__law_mixed hr (by omega) (by rfl) (aA (dv 1) (aA aD aC))) aD) aD) aC))))) ak)
 (aF (aP (bT (aA aZ (aA (bU (bb (aA (Gb aD) (aA aD (aA aD (aA (e_ (bg (aH c__law_mixed hr (by omega) (by rfl) (aA (dv 1) (aA aD aC))) aD) aD) aC))))) (bg (aH c__law_mixed hr (by omega) (by rfl) (aA (dv 1) (aA aD aC))) aD) (fun _ _=>rfl)) aC))))))))) ?_
 rintro ds Q ⟨k,c,ks,kf,rfl,hks,q⟩
 refine⟨_,rfl,?_⟩
 rw [mw]
 refine⟨outF (fun n=>decide (kf n=k)) D.str ks,iH,fm fun n hn=>?_,rG (len_str hks.len),?_⟩
 ·refine⟨_,rfl,_,rfl,_,.inr n,_,rfl,rfl,bz hn,_,rfl,_,rfl,?_⟩
  show decide (kf n=k)=_/\_
  cases decide (kf n=k) with
  | true=>exact⟨rfl,fun _=>⟨_,rfl,rfl⟩⟩
  | false=>exact⟨rfl,fun z=>nomatch z⟩
 rw [iI]
 have hin:∀ n∈ks.filter fun n=>decide (kf n=k),n∈ks:=fun n hn=>(List.mem_filter.mp hn).1
 generalize (ks.filter fun n=>decide (kf n=k))=F at hin ⊢
 dsimp only
 refine Hr ?_ fun rest=>?_
 ·refine⟨_,rfl,_,rfl,?_⟩
  show if decide (k="truth")=true then _ else _
  cases decide (k="truth") with
  | true=>exact av ⟨_,rfl,c,4,rfl,fun m=>⟨iP2,zL2,q (.given (.bl _)) (wj (.inl ⟨_,rfl⟩))⟩⟩
  | false =>
   refine aW ⟨_,rfl,_,rfl,c,5,rfl,fun m5=>⟨iP256,zL4,_,rfl,c,4,rfl,fun m4=>⟨iP4,?_⟩⟩⟩
   obtain⟨r,hr,er⟩:=mI (xs:=[D.int (-128),.int 127,.int 0,.int (m5%256 - 128)]) (cX m4 iP4) (cO m4 iP4)
   refine⟨r,er,zL2,q (.given r) (wj ?_)⟩
   have h1:=cX m5 iP256
   have h2:=cO m5 iP256
   simp only [List.mem_cons,List.not_mem_nil,or_false] at hr
   rcases hr with rfl|rfl|rfl|rfl
   ·exact .inr ⟨_,rfl,by omega,by omega⟩
   ·exact .inr ⟨_,rfl,by omega,by omega⟩
   ·exact .inr ⟨_,rfl,by omega,by omega⟩
   ·exact .inr ⟨_,rfl,by omega,by omega⟩
 ·refine⟨_,rfl,_,_,rfl,rfl,_,rfl,?_⟩
  cases h0:decide ((0:Int)<((F.map D.str).length:Int)) with
  | false=>exact aW rest
  | true =>
   have h0':=of_decide_eq_true h0
   refine av ⟨_,rfl,c,2,rfl,fun m=>⟨iP3,_,rfl,?_⟩⟩
   cases decide ((0:Int)<m%3) with
   | false=>exact aW rest
   | true =>
    refine av ⟨_,rfl,_,rfl,c,3,rfl,fun m3=>⟨_,rfl,_,_,rfl,rfl,h0',?_⟩⟩
    obtain⟨r,hr,er⟩:=mI (xs:=F.map D.str) (cX m3 h0') (cO m3 h0')
    obtain⟨n,hn,rfl⟩:=List.mem_map.mp hr
    exact⟨_,er,zL2,q (.named n) (De (hin n hn) (hks.nm n (hin n hn)))⟩
theorem EB (d:Df K mg "_law_first" i4 ["_law_kind","_law_seed"])(c__law_mixed:az P w K mg base j "_law_mixed" ["_law_cell_here","_law_k"] gq):az P w K mg base (j+1) "_law_first" ["_law_kind","_law_seed"] DH:=by
 refine d.cp lx (fun ds P P' f ⟨k,c,e,q⟩=>⟨k,c,e,fun p hp=>f _ (q p hp)⟩) (fun ds Q ⟨k,c,e,_⟩=>by rw [e];rfl) (fun f cdv A outer s H E hr=>have hu:=hr.units;have hh:=hr.hd;have sc:=lx
  (aI (cG (cW hu (bg (aH c__law_mixed hr (by omega) (by rfl) (aA (dv 1) (aA aD aC))) aD) aD) (aF (aP jY)) ak)
 (aI (cG (cW hu (dv 0) aZ) (aF (aP (xD hu (bg (aH c__law_mixed hr (by omega) (by rfl) (aA (dv 1) (aA aD aC))) aD) aD))) ak)
 (aF (aP (e_ (bg (aH c__law_mixed hr (by omega) (by rfl) (aA (dv 1) (aA aD aC))) aD) aD)))))) ?_
 rintro ds Q ⟨k,c,rfl,q⟩
 refine⟨_,rfl,c,6,rfl,fun m=>⟨iP2,_,rfl,?_⟩⟩
 show if decide (m%2=0)=true then _ else _
 cases decide (m%2=0) with
 | true=>exact av (q _ (.inl rfl))
 | false =>
  refine aW ⟨_,rfl,_,rfl,?_⟩
  show if decide (k="truth")=true then _ else _
  cases decide (k="truth") with
  | true=>exact av ⟨_,rfl,c,7,rfl,fun m=>⟨iP2,q _ (.inr (.inl ⟨_,rfl⟩))⟩⟩
  | false =>
   refine aW ⟨_,rfl,c,7,rfl,fun m=>⟨iP256,q _ (.inr (.inr ⟨_,rfl,?_,?_⟩))⟩⟩
   ·have h1:=cX m iP256
    omega
   ·have h2:=cO m iP256
    omega
theorem EL {N0:Nat}(d:Df K mg "_law_timed" eK ["_law_kind","_law_seed","_law_deep","_law_kinds_here","_law_way"])(n_len:mg "len"=none)(c__law_mixed:az P w K mg base j "_law_mixed" ["_law_cell_here","_law_k"] gq)(c__law_first:az P w K mg base j "_law_first" ["_law_kind","_law_seed"] DH)(c__law_tree:az P w K mg base j "_law_tree" ["_law_kind","_law_seed","_law_deep","_law_kinds_here"] (oj N0)) :
  az P w K mg base (j+1) "_law_timed" ["_law_kind","_law_seed","_law_deep","_law_kinds_here","_law_way"] (zf N0):=by
 refine d.cp l7 (fun ds P P' f ⟨k,c,w,ks,kf,e,e1,h1,h2,q⟩=>⟨k,c,w,ks,kf,e,e1,h1,h2,fun p hp=>f _ (q p hp)⟩) (fun ds Q ⟨k,c,w,ks,kf,e,e1,_⟩=>by rw [e1];rfl) (fun f cdv A outer s H E hr=>have hu:=hr.units;have hh:=hr.hd;have sc:=l7
  (aI (bI (i:=5) sc.nd rfl (Or.inl rfl) (aH c__law_tree hr (by omega) (by rfl) (aA (dv 0) (aA (aH c__law_mixed hr (by omega) (by rfl) (aA (dv 1) (aA aD aC))) (aA (e_ (dv 2) aD) (aA (dv 3) aC))))))
 (aI (G8 (k:=6) sc.nd rfl (Or.inl rfl) (i:=3) (x:="_law_name") (caps:=[3]) (cn:=["_law_kinds_here"]) (cl:=[("_law_kinds_here",s.heap.objs.size+1)]) rfl (Or.inr (Or.inl rfl)) (o6 (by rfl) (by rfl) (by decide +kernel) (gR ["_law_kinds_here"] rfl (by decide +kernel)) (by decide +kernel) (b_ (by rfl) dY) (.cons ⟨rfl,.inl rfl,rfl⟩ .nil)) rfl (fun C fp s₂ H₂=>bF (i:=0) (show(["_law_name","_law_kinds_here"]:List Str).Nodup by decide +kernel) rfl (Or.inl rfl) (.inr rfl)) (fun C fp s₂ H₂=>(oy (cW hu (cH hu (dv 1) (dv 0) (fun _ _=>rfl)) aZ))) (fun C fp s₂ H₂=>(dv 0)))
 (aI (cG (o3.td (w_or (cW hu (dv 4) aD) (mE (cW hu (dt (by rfl) n_len (aA (dv 6) aC)) aD)))) (aF (aP (bT (aA aZ (aA (dv 5) (aA (aH c__law_first hr (by omega) (by rfl) (aA (dv 0) (aA (dv 1) aC))) aC)))))) ak)
 (aI (cG (cW hu (dv 4) aD) (aF (aP (bT (aA aZ (aA (dv 5) (aA (aH c__law_tree hr (by omega) (by rfl) (aA (dv 0) (aA (aH c__law_mixed hr (by omega) (by rfl) (aA (dv 1) (aA aD aC))) (aA (e_ (dv 2) aD) (aA (dv 3) aC))))) aC)))))) ak)
 (aI (bI (i:=7) sc.nd rfl (Or.inl rfl) (bU (dv 6) (bg (aH c__law_mixed hr (by omega) (by rfl) (aA (dv 1) (aA aD aC))) (dt (by rfl) n_len (aA (dv 6) aC))) (fun _ _=>rfl)))
 (aI (cG (cW hu (dv 4) aD) (aF (aP (bT (aA aZ (aA (dv 5) (aA (dv 7) aC)))))) ak)
 (aF (aP (bT (aA aZ (aA (dv 5) (aA (dv 7) (aA (aH c__law_first hr (by omega) (by rfl) (aA (dv 0) (aA (dv 1) aC))) aC)))))))))))))) ?_
 rintro ds Q ⟨k,c,w,ks,kf,e,rfl,he,hks,q⟩
 refine⟨_,rfl,_,rfl,c,11,rfl,fun m1=>⟨_,rfl,_,rfl,k,m1,ks,kf,e,eW,he,hks,fun p1 h1=>?_⟩⟩
 refine⟨_,rfl,?_⟩
 rw [mw]
 refine⟨outF (fun n=>decide (kf n="truth")) D.str ks,iH,fm fun n hn=>?_,rG (len_str hks.len),?_⟩
 ·refine⟨_,rfl,_,rfl,_,.inr n,_,rfl,rfl,bz hn,_,rfl,?_⟩
  show decide (kf n="truth")=_/\_
  cases decide (kf n="truth") with
  | true=>exact⟨rfl,fun _=>⟨_,rfl,rfl⟩⟩
  | false=>exact⟨rfl,fun z=>nomatch z⟩
 rw [iI]
 have hin:∀ n∈ks.filter fun n=>decide (kf n="truth"),n∈ks:=fun n hn=>(List.mem_filter.mp hn).1
 generalize (ks.filter fun n=>decide (kf n="truth"))=F at hin ⊢
 have sz1:pj e+1<=pj (e+1):=by have:=lR e;show _<=3*pj e+1;omega
 have sz2:pj e+pj e+1<=pj (e+1):=by have:=lR e;show _<=3*pj e+1;omega
 dsimp only
 refine Gq ?_ fun t=>?_
 ·exact⟨_,rfl,_,rfl,_,rfl,k,c,rfl,fun v hv=>⟨zL3,q (.before p1 v) ((sP h1 hv).up (fun n h=>h) (Nat.le_refl _) sz1)⟩⟩
 ·refine⟨_,rfl,_,rfl,?_⟩
  show if decide (w=0)=true then _ else _
  cases decide (w=0) with
  | true=>exact av t
  | false =>
   refine aW ⟨_,rfl,_,_,rfl,rfl,_,rfl,?_⟩
   show if decide (((F.map D.str).length:Int)=0)=true then _ else _
   cases h0:decide (((F.map D.str).length:Int)=0) with
   | true=>exact av t
   | false =>
    have h0':(0:Int)<((F.map D.str).length:Int):=by have:=of_decide_eq_false h0;omega
    refine aW ⟨_,rfl,_,rfl,?_⟩
    show if decide (w=1)=true then _ else _
    cases decide (w=1) with
    | true=>exact av ⟨_,rfl,_,rfl,_,rfl,c,12,rfl,fun m2=>⟨_,rfl,_,rfl,k,m2,ks,kf,e,eW,he,hks,fun p2 h2=>⟨zL3,q (.led p1 p2) ((Dc h1 h2).up (fun n h=>h) (Nat.le_refl _) sz2)⟩⟩⟩
    | false =>
     refine aW ⟨_,rfl,_,rfl,c,8,rfl,fun m3=>⟨_,rfl,_,_,rfl,rfl,h0',?_⟩⟩
     obtain⟨r,hr,er⟩:=mI (xs:=F.map D.str) (cX m3 h0') (cO m3 h0')
     obtain⟨n,hn,rfl⟩:=List.mem_map.mp hr
     refine⟨_,er,_,rfl,_,rfl,?_⟩
     show if decide (w=2)=true then _ else _
     cases decide (w=2) with
     | true=>exact av ⟨_,rfl,_,rfl,zL3,q (.cI p1 n) ((Jc h1 (hin n hn) (hks.nm n (hin n hn))).up (fun n h=>h) (Nat.le_refl _) sz1)⟩
     | false=>exact aW ⟨_,rfl,_,rfl,_,rfl,_,rfl,k,c,rfl,fun v hv=>⟨zL4,q (.held p1 n v) ((GC h1 (hin n hn) (hks.nm n (hin n hn)) hv).up (fun n h=>h) (Nat.le_refl _) sz1)⟩⟩
theorem A6 (d:Df K mg "_law_tree" fF ["_law_kind","_law_seed","_law_deep","_law_kinds_here"])(c__law_mixed:az P w K mg base j "_law_mixed" ["_law_cell_here","_law_k"] gq)(c__law_leaf:az P w K mg base j "_law_leaf" ["_law_kind","_law_seed","_law_kinds_here"] oi)
  (d2:Df K mg "_law_timed" eK ["_law_kind","_law_seed","_law_deep","_law_kinds_here","_law_way"]):az P w K mg base (j+1) "_law_tree" ["_law_kind","_law_seed","_law_deep","_law_kinds_here"] (oj 0):=by
 have c__law_timed:az P w K mg base j "_law_timed" ["_law_kind","_law_seed","_law_deep","_law_kinds_here","_law_way"] Fx:=Df.never d2 fun ds Q h=>h
 have c__law_tree:az P w K mg base j "_law_tree" ["_law_kind","_law_seed","_law_deep","_law_kinds_here"] Fx:=Df.never d fun ds Q h=>h
 refine d.cp fj (fun ds P P' f ⟨k,c,ks,kf,e,e1,h1,h2,q⟩=>⟨k,c,ks,kf,e,e1,h1,h2,fun p hp=>f _ (q p hp)⟩) (fun ds Q ⟨k,c,ks,kf,e,e1,_⟩=>by rw [e1];rfl) (fun f cdv A outer s H E hr=>have hu:=hr.units;have hh:=hr.hd;have sc:=fj
  (aI (bI (i:=4) sc.nd rfl (Or.inl rfl) (bg (aH c__law_mixed hr (by omega) (by rfl) (aA (dv 1) (aA aD aC))) aD))
 (aI (cG (o3.td (w_or (cW hu (dv 2) aD) (mE (A0 (dv 4) aD)))) (aF (aP (aH c__law_leaf hr (by omega) (by rfl) (aA (dv 0) (aA (dv 1) (aA (dv 3) aC)))))) ak)
 (aI (cG (A0 (dv 4) aD) (aF (aP (aH c__law_timed hr (by omega) (by rfl) (aA (dv 0) (aA (dv 1) (aA (dv 2) (aA (dv 3) (aA (e_ (dv 4) aD) aC)))))))) ak)
 (aI (cG (cW hu (dv 4) aD) (aI (bI (i:=8) sc.nd rfl (Or.inl rfl) (aH c__law_tree hr (by omega) (by rfl) (aA aZ (aA (aH c__law_mixed hr (by omega) (by rfl) (aA (dv 1) (aA aD aC))) (aA (e_ (dv 2) aD) (aA (dv 3) aC))))))
 (aI (bI (i:=7) sc.nd rfl (Or.inl rfl) (aH c__law_tree hr (by omega) (by rfl) (aA (dv 0) (aA (aH c__law_mixed hr (by omega) (by rfl) (aA (dv 1) (aA aD aC))) (aA (e_ (dv 2) aD) (aA (dv 3) aC))))))
 (aF (aP (bT (aA aZ (aA (dv 8) (aA (dv 7) (aA (aH c__law_tree hr (by omega) (by rfl) (aA (dv 0) (aA (aH c__law_mixed hr (by omega) (by rfl) (aA (dv 1) (aA aD aC))) (aA (e_ (dv 2) aD) (aA (dv 3) aC))))) aC))))))))) ak)
 (aI (bI (i:=5) sc.nd rfl (Or.inl rfl) (bU (bb (jT (by rfl))) (bg (aH c__law_mixed hr (by omega) (by rfl) (aA (dv 1) (aA aD aC))) aD) (fun _ _=>rfl)))
 (aI (bI (i:=6) sc.nd rfl (Or.inl rfl) aZ)
 (aI (cG (cW hu (dv 0) aZ) (aI (bI (i:=5) sc.nd rfl (Or.inl rfl) (bU (bb (jT (by rfl))) (bg (aH c__law_mixed hr (by omega) (by rfl) (aA (dv 1) (aA aD aC))) aD) (fun _ _=>rfl)))
 (aF (cG (o3.td (w_or (Az (dv 5) (bb (jT (by rfl))) (by rfl)) (mE (o3.td (w_and (cW hu (dv 5) aZ) (kr (cW hu (bg (aH c__law_mixed hr (by omega) (by rfl) (aA (dv 1) (aA aD aC))) aD) aD))))))) (aF (bI (i:=6) sc.nd rfl (Or.inl rfl) aZ)) ak))) ak)
 (aI (bI (i:=7) sc.nd rfl (Or.inl rfl) (aH c__law_tree hr (by omega) (by rfl) (aA (dv 6) (aA (aH c__law_mixed hr (by omega) (by rfl) (aA (dv 1) (aA aD aC))) (aA (e_ (dv 2) aD) (aA (dv 3) aC))))))
 (aI (cG (cW hu (dv 5) aZ) (aF (aP (bT (aA aZ (aA (dv 7) aC))))) ak)
 (aF (aP (bT (aA (dv 5) (aA (dv 7) (aA (aH c__law_tree hr (by omega) (by rfl) (aA (dv 6) (aA (aH c__law_mixed hr (by omega) (by rfl) (aA (dv 1) (aA aD aC))) (aA (e_ (dv 2) aD) (aA (dv 3) aC))))) aC)))))))))))))))) ?_
 rintro ds Q ⟨k,c,ks,kf,e,rfl,he,hks,q⟩
 obtain rfl:e=0:=Nat.le_zero.mp he
 refine⟨_,rfl,c,1,rfl,fun m=>⟨iP9,_,rfl,_,rfl,av (av ?_)⟩⟩
 exact⟨_,rfl,_,rfl,_,rfl,k,c,ks,kf,rfl,hks,fun p hp=>q p hp⟩
theorem HX {N0:Nat}(d:Df K mg "_law_tree" fF ["_law_kind","_law_seed","_law_deep","_law_kinds_here"])(c__law_mixed:az P w K mg base j "_law_mixed" ["_law_cell_here","_law_k"] gq)(c__law_leaf:az P w K mg base j "_law_leaf" ["_law_kind","_law_seed","_law_kinds_here"] oi)
  (c__law_timed:az P w K mg base j "_law_timed" ["_law_kind","_law_seed","_law_deep","_law_kinds_here","_law_way"] (zf N0))(c__law_tree:az P w K mg base j "_law_tree" ["_law_kind","_law_seed","_law_deep","_law_kinds_here"] (oj N0)):az P w K mg base (j+1) "_law_tree" ["_law_kind","_law_seed","_law_deep","_law_kinds_here"] (oj (N0+1)):=by
 refine d.cp fj (fun ds P P' f ⟨k,c,ks,kf,e,e1,h1,h2,q⟩=>⟨k,c,ks,kf,e,e1,h1,h2,fun p hp=>f _ (q p hp)⟩) (fun ds Q ⟨k,c,ks,kf,e,e1,_⟩=>by rw [e1];rfl) (fun f cdv A outer s H E hr=>have hu:=hr.units;have hh:=hr.hd;have sc:=fj
  (aI (bI (i:=4) sc.nd rfl (Or.inl rfl) (bg (aH c__law_mixed hr (by omega) (by rfl) (aA (dv 1) (aA aD aC))) aD))
 (aI (cG (o3.td (w_or (cW hu (dv 2) aD) (mE (A0 (dv 4) aD)))) (aF (aP (aH c__law_leaf hr (by omega) (by rfl) (aA (dv 0) (aA (dv 1) (aA (dv 3) aC)))))) ak)
 (aI (cG (A0 (dv 4) aD) (aF (aP (aH c__law_timed hr (by omega) (by rfl) (aA (dv 0) (aA (dv 1) (aA (dv 2) (aA (dv 3) (aA (e_ (dv 4) aD) aC)))))))) ak)
 (aI (cG (cW hu (dv 4) aD) (aI (bI (i:=8) sc.nd rfl (Or.inl rfl) (aH c__law_tree hr (by omega) (by rfl) (aA aZ (aA (aH c__law_mixed hr (by omega) (by rfl) (aA (dv 1) (aA aD aC))) (aA (e_ (dv 2) aD) (aA (dv 3) aC))))))
 (aI (bI (i:=7) sc.nd rfl (Or.inl rfl) (aH c__law_tree hr (by omega) (by rfl) (aA (dv 0) (aA (aH c__law_mixed hr (by omega) (by rfl) (aA (dv 1) (aA aD aC))) (aA (e_ (dv 2) aD) (aA (dv 3) aC))))))
 (aF (aP (bT (aA aZ (aA (dv 8) (aA (dv 7) (aA (aH c__law_tree hr (by omega) (by rfl) (aA (dv 0) (aA (aH c__law_mixed hr (by omega) (by rfl) (aA (dv 1) (aA aD aC))) (aA (e_ (dv 2) aD) (aA (dv 3) aC))))) aC))))))))) ak)
 (aI (bI (i:=5) sc.nd rfl (Or.inl rfl) (bU (bb (jT (by rfl))) (bg (aH c__law_mixed hr (by omega) (by rfl) (aA (dv 1) (aA aD aC))) aD) (fun _ _=>rfl)))
 (aI (bI (i:=6) sc.nd rfl (Or.inl rfl) aZ)
 (aI (cG (cW hu (dv 0) aZ) (aI (bI (i:=5) sc.nd rfl (Or.inl rfl) (bU (bb (jT (by rfl))) (bg (aH c__law_mixed hr (by omega) (by rfl) (aA (dv 1) (aA aD aC))) aD) (fun _ _=>rfl)))
 (aF (cG (o3.td (w_or (Az (dv 5) (bb (jT (by rfl))) (by rfl)) (mE (o3.td (w_and (cW hu (dv 5) aZ) (kr (cW hu (bg (aH c__law_mixed hr (by omega) (by rfl) (aA (dv 1) (aA aD aC))) aD) aD))))))) (aF (bI (i:=6) sc.nd rfl (Or.inl rfl) aZ)) ak))) ak)
 (aI (bI (i:=7) sc.nd rfl (Or.inl rfl) (aH c__law_tree hr (by omega) (by rfl) (aA (dv 6) (aA (aH c__law_mixed hr (by omega) (by rfl) (aA (dv 1) (aA aD aC))) (aA (e_ (dv 2) aD) (aA (dv 3) aC))))))
 (aI (cG (cW hu (dv 5) aZ) (aF (aP (bT (aA aZ (aA (dv 7) aC))))) ak)
 (aF (aP (bT (aA (dv 5) (aA (dv 7) (aA (aH c__law_tree hr (by omega) (by rfl) (aA (dv 6) (aA (aH c__law_mixed hr (by omega) (by rfl) (aA (dv 1) (aA aD aC))) (aA (e_ (dv 2) aD) (aA (dv 3) aC))))) aC)))))))))))))))) ?_
 rintro ds Q ⟨k,c,ks,kf,e,rfl,he,hks,q⟩
 refine⟨_,rfl,c,1,rfl,fun m=>⟨iP9,?_⟩⟩
 dsimp only
 generalize m%9=way
 have leaf:∀ p,Tr ks 1 1 p->Q p.told:=fun p hp=>q p (hp.up (fun n h=>h) (by omega) (lR e))
 refine Gq ?_ fun t=>?_
 ·exact⟨_,rfl,_,rfl,_,rfl,k,c,ks,kf,rfl,hks,leaf⟩
 ·refine⟨_,rfl,_,rfl,?_⟩
  show if decide ((e:Int)=0)=true then _ else _
  cases h0:decide ((e:Int)=0) with
  | true=>exact av t
  | false =>
   obtain⟨e',rfl⟩:∃ e',e=e'+1:=⟨e - 1,by have:=of_decide_eq_false h0;omega⟩
   have he':e'<=N0:=by omega
   have sz1:pj e'+1<=pj (e'+1):=by have:=lR e';show _<=3*pj e'+1;omega
   have sz2:pj e'+pj e'+1<=pj (e'+1):=by have:=lR e';show _<=3*pj e'+1;omega
   have sz3:pj e'+pj e'+pj e'+1<=pj (e'+1):=by have:=lR e';show _<=3*pj e'+1;omega
   refine aW ⟨_,rfl,_,rfl,?_⟩
   show if decide (way<2)=true then _ else _
   cases decide (way<2) with
   | true=>exact av t
   | false =>
    refine aW ⟨_,rfl,_,rfl,?_⟩
    show if decide (way<6)=true then _ else _
    cases decide (way<6) with
    | true=>exact av ⟨_,rfl,_,rfl,_,rfl,_,rfl,_,rfl,k,c,way - 2,ks,kf,e',rfl,he',hks,fun p hp=>q p hp⟩
    | false =>
     refine aW ⟨_,rfl,_,rfl,?_⟩
     show if decide (way=6)=true then _ else _
     cases decide (way=6) with
     | true =>
      refine av ⟨_,rfl,c,13,rfl,fun m1=>⟨_,rfl,_,rfl,"truth",m1,ks,kf,e',eW,he',hks,fun p1 h1=>?_⟩⟩
      refine⟨_,rfl,_,rfl,c,14,rfl,fun m2=>⟨_,rfl,_,rfl,k,m2,ks,kf,e',eW,he',hks,fun p2 h2=>?_⟩⟩
      exact⟨_,rfl,_,rfl,_,rfl,_,rfl,c,15,rfl,fun m3=>⟨_,rfl,_,rfl,k,m3,ks,kf,e',eW,he',hks,fun p3 h3=>⟨zL4,q (.choice p1 p2 p3) ((A4 h1 h2 h3).up (fun n h=>h) (Nat.le_refl _) sz3)⟩⟩⟩
     | false =>
      refine aW ⟨zL3,_,rfl,c,9,rfl,fun m1=>⟨iP3,?_⟩⟩
      obtain⟨g,hg,eg⟩:=mn (xs:=Nj) D.str (cX m1 iP3) (cO m1 iP3)
      refine⟨_,eg,?_⟩
      dsimp only
      refine LK (F4 (fun δ=>∃ sg bt:Str,δ=[some (.str k),some (.int c),some (.int ((e'+1:Nat):Int)),some (xX ks kf),some (.int way),some (.str sg),some (.str bt),none,none]/\(sg="not"\/sg∈gr)) ?_ fun N hN=>?_)
      ·rintro δ ⟨sg,bt,rfl,hs⟩
       refine⟨_,rfl,_,rfl,c,16,rfl,fun m2=>⟨_,rfl,_,rfl,bt,m2,ks,kf,e',eW,he',hks,fun p1 h1=>?_⟩⟩
       refine⟨_,rfl,_,rfl,?_⟩
       show if decide (sg="not")=true then _ else _
       cases hn:decide (sg="not") with
       | true=>exact av ⟨_,rfl,zL2,q (.turned p1) ((A5 h1).up (fun n h=>h) (Nat.le_refl _) sz1)⟩
       | false=>exact aW ⟨_,rfl,_,rfl,_,rfl,_,rfl,c,17,rfl,fun m3=>⟨_,rfl,_,rfl,bt,m3,ks,kf,e',eW,he',hks,fun p2 h2=>⟨zL3,q (.pair sg p1 p2) ((GF (hs.resolve_left (of_decide_eq_false hn)) h1 h2).up (fun n h=>h) (Nat.le_refl _) sz2)⟩⟩⟩
      ·refine⟨_,rfl,_,rfl,?_⟩
       show if decide (k="truth")=true then _ else _
       cases decide (k="truth") with
       | false=>exact aW (hN _ ⟨g,"number",rfl,JU g hg⟩)
       | true =>
        refine av ⟨zL7,_,rfl,c,9,rfl,fun m1=>⟨iP7,?_⟩⟩
        obtain⟨g,hg,eg⟩:=mn (xs:=Nk) D.str (cX m1 iP7) (cO m1 iP7)
        refine⟨_,eg,?_⟩
        dsimp only
        have hT:=hN _ ⟨g,"truth",rfl,DO g hg⟩
        have hF:=hN _ ⟨g,"number",rfl,DO g hg⟩
        refine⟨_,rfl,zL3,rfl,(by decide +kernel),_,rfl,?_⟩
        refine qT hT ⟨_,rfl,_,rfl,qT ⟨_,rfl,c,10,rfl,fun m=>⟨iP2,_,rfl,qT hT hF⟩⟩ hF⟩
theorem wk (d1:Df K mg "_law_tree" fF ["_law_kind","_law_seed","_law_deep","_law_kinds_here"])(d2:Df K mg "_law_timed" eK ["_law_kind","_law_seed","_law_deep","_law_kinds_here","_law_way"])(n_len:mg "len"=none)(cm:∀ j,az P w K mg base (j+1) "_law_mixed" ["_law_cell_here","_law_k"] gq)(cl:∀ j,az P w K mg base (j+2) "_law_leaf" ["_law_kind","_law_seed","_law_kinds_here"] oi)(cf:∀ j,az P w K mg base (j+2) "_law_first" ["_law_kind","_law_seed"] DH) :
  ∀ n j,az P w K mg base (2*n+3+j) "_law_tree" ["_law_kind","_law_seed","_law_deep","_law_kinds_here"] (oj n)
 | 0,j=>by
  have h:=A6 (j:=j+2) d1 (cm (j+1)) (cl j) d2
  exact h.up (by omega)
 | n+1,j=>by
  have ih:=wk d1 d2 n_len cm cl cf n
  have t:=EL (j:=2*n+3+j) (N0:=n) d2 n_len ((cm 0).up (by omega)) ((cf 0).up (by omega)) (ih j)
  have h:=HX (j:=2*n+3+j+1) (N0:=n) d1 ((cm 0).up (by omega)) ((cl 0).up (by omega)) t ((ih j).up (by omega))
  exact h.up (by omega)
def Pt.word:Pt->Str
 | .given _=>"given"|.named _=>"named"|.turned _=>"not"|.pair g _ _=>g|.choice _ _ _=>"if"|.before _ _=>"before"|.led _ _=>"then"|.cI _ _=>"when"|.held _ _ _=>"held"
def Pt.tail:Pt->List D
 | .given v=>[v]|.named n=>[.str n]|.before _ f=>[f]|.cI _ n=>[.str n]|.held _ n f=>[.str n,f]|_=>[]
theorem Pt.uj (p:Pt):p.told=.tup (.str p.word::(p.inner.map Pt.told++p.tail)):=by cases p<;>rfl
def Pt.rep:Pt->Nat->Pt->Pt
 | .turned _,_,q=>.turned q
 | .pair g _ b,0,q=>.pair g q b
 | .pair g a _,_+1,q=>.pair g a q
 | .choice _ a b,0,q=>.choice q a b
 | .choice t _ b,1,q=>.choice t q b
 | .choice t a _,_+2,q=>.choice t a q
 | .before _ f,_,q=>.before q f
 | .led _ b,0,q=>.led q b
 | .led a _,_+1,q=>.led a q
 | .cI _ n,_,q=>.cI q n
 | .held _ n f,_,q=>.held q n f
 | p,_,_=>p
theorem f_ {α:Type}{P:Prop}{x:α}{i:Nat}(h:([]:List α)[i]?=some x):P:=by rw [List.getElem?_nil] at h;cases h
theorem sI {p q x:Pt}{i:Nat}(h:p.inner[i]?=some x):(p.rep i q).inner=p.inner.set i q/\(p.rep i q).own=p.own/\(p.rep i q).word=p.word/\(p.rep i q).tail=p.tail:=by
 cases p with
 | given v=>exact f_ h
 | named n=>exact f_ h
 | pair g a b =>
  match i,h with
  | 0,h=>exact⟨rfl,rfl,rfl,rfl⟩
  | 1,h=>exact⟨rfl,rfl,rfl,rfl⟩
  | k+2,h=>exact f_ (i:=k) h
 | choice t a b =>
  match i,h with
  | 0,h=>exact⟨rfl,rfl,rfl,rfl⟩
  | 1,h=>exact⟨rfl,rfl,rfl,rfl⟩
  | 2,h=>exact⟨rfl,rfl,rfl,rfl⟩
  | k+3,h=>exact f_ (i:=k) h
 | led a b =>
  match i,h with
  | 0,h=>exact⟨rfl,rfl,rfl,rfl⟩
  | 1,h=>exact⟨rfl,rfl,rfl,rfl⟩
  | k+2,h=>exact f_ (i:=k) h
 | _ =>
  match i,h with
  | 0,h=>exact⟨rfl,rfl,rfl,rfl⟩
  | k+1,h=>exact f_ (i:=k) h
theorem DA {p q x:Pt}{i:Nat}(h:p.inner[i]?=some x):(p.rep i q).told=.tup (.str p.word::((p.inner.map Pt.told).set i q.told++p.tail)):=by
 obtain⟨h1,_,h3,h4⟩:=sI (q:=q) h
 rw [Pt.uj,h1,h3,h4,List.map_set]
theorem qX {acc:List Str}{n m:Str}(h:m∈acc\/m=n):m∈au acc n:=by
 unfold au
 split
 ·rename_i hc
  rcases h with h|h
  ·exact h
  ·rw [h];exact List.contains_iff_mem.mp hc
 ·rcases h with h|h
  ·exact List.mem_append_left _ h
  ·exact List.mem_append_right _ (List.mem_singleton.mpr h)
theorem kI {m:Str}:∀{l acc:List Str},m∈acc\/m∈l->m∈l.foldl au acc
 | [],_,h=>h.resolve_right fun z=>nomatch z
 | n::l,acc,h=>by
  refine kI (l:=l) ?_
  rcases h with h|h
  ·exact .inl (qX (.inl h))
  ·rcases List.mem_cons.mp h with h|h
   ·exact .inl (qX (.inr h))
   ·exact .inr h
theorem nE {m:Str}:∀{ls:List (List Str)} {acc:List Str},(m∈acc\/∃ l∈ls,m∈l)->m∈ls.foldl (fun acc l=>l.foldl au acc) acc
 | [],_,h=>h.resolve_right fun⟨l,hl,_⟩=>nomatch hl
 | k::ls,acc,h=>by
  refine nE (ls:=ls) ?_
  rcases h with h|⟨l,hl,h⟩
  ·exact .inl (kI (.inl h))
  ·rcases List.mem_cons.mp hl with rfl|hl
   ·exact .inl (kI (.inr h))
   ·exact .inr ⟨l,hl,h⟩
theorem cg {m:Str}{ls:List (List Str)}{l:List Str}(hl:l∈ls)(h:m∈l):m∈ba ls:=nE (.inr ⟨l,hl,h⟩)
theorem Pt.vY {p q:Pt}(h:q∈p.inner){n:Str}(hn:n∈q.names):n∈p.names:=by
 rw [Pt.gX]
 exact cg (List.mem_append_left _ (List.mem_map.mpr ⟨q,h,rfl⟩)) hn
theorem Pt.Ai {p:Pt}{n:Str}(hn:n∈p.own):n∈p.names:=by
 rw [Pt.gX]
 exact cg (List.mem_append_right _ (List.mem_singleton.mpr rfl)) hn
theorem JL {p q x:Pt}{i:Nat}(h:p.inner[i]?=some x)(ho:p.ok)(hq:q.ok)(hd:q.depth<=x.depth)(hs:q.size<=x.size):(p.rep i q).ok/\(p.rep i q).depth<=p.depth/\(p.rep i q).size<=p.size:=by
 cases p with
 | given v=>exact f_ h
 | named n=>exact f_ h
 | turned a =>
  match i,h with
  | 0,h=>cases h;exact⟨hq,Nat.succ_le_succ hd,Nat.succ_le_succ hs⟩
  | k+1,h=>exact f_ (i:=k) h
 | before a f =>
  match i,h with
  | 0,h=>cases h;exact⟨⟨hq,ho.2⟩,Nat.succ_le_succ hd,Nat.succ_le_succ hs⟩
  | k+1,h=>exact f_ (i:=k) h
 | cI a f =>
  match i,h with
  | 0,h=>cases h;exact⟨⟨hq,ho.2⟩,Nat.succ_le_succ hd,Nat.succ_le_succ hs⟩
  | k+1,h=>exact f_ (i:=k) h
 | held a f g =>
  match i,h with
  | 0,h=>cases h;exact⟨⟨hq,ho.2⟩,Nat.succ_le_succ hd,Nat.succ_le_succ hs⟩
  | k+1,h=>exact f_ (i:=k) h
 | pair g a b =>
  match i,h with
  | 0,h=>cases h;exact⟨⟨ho.1,hq,ho.2.2⟩,by simp only [Pt.rep,Pt.depth];omega,by simp only [Pt.rep,Pt.size];omega⟩
  | 1,h=>cases h;exact⟨⟨ho.1,ho.2.1,hq⟩,by simp only [Pt.rep,Pt.depth];omega,by simp only [Pt.rep,Pt.size];omega⟩
  | k+2,h=>exact f_ (i:=k) h
 | led a b =>
  match i,h with
  | 0,h=>cases h;exact⟨⟨hq,ho.2⟩,by simp only [Pt.rep,Pt.depth];omega,by simp only [Pt.rep,Pt.size];omega⟩
  | 1,h=>cases h;exact⟨⟨ho.1,hq⟩,by simp only [Pt.rep,Pt.depth];omega,by simp only [Pt.rep,Pt.size];omega⟩
  | k+2,h=>exact f_ (i:=k) h
 | choice t a b =>
  match i,h with
  | 0,h=>cases h;exact⟨⟨hq,ho.2⟩,by simp only [Pt.rep,Pt.depth];omega,by simp only [Pt.rep,Pt.size];omega⟩
  | 1,h=>cases h;exact⟨⟨ho.1,hq,ho.2.2⟩,by simp only [Pt.rep,Pt.depth];omega,by simp only [Pt.rep,Pt.size];omega⟩
  | 2,h=>cases h;exact⟨⟨ho.1,ho.2.1,hq⟩,by simp only [Pt.rep,Pt.depth];omega,by simp only [Pt.rep,Pt.size];omega⟩
  | k+3,h=>exact f_ (i:=k) h
theorem JM {ns:List Str}{p q x:Pt}{i:Nat}(h:p.inner[i]?=some x)(ho:p.ok)(hn:∀ n∈p.names,n∈ns)(t:Tr ns x.depth x.size q):Tr ns p.depth p.size (p.rep i q):=by
 obtain⟨h1,h2,_,_⟩:=sI (q:=q) h
 obtain⟨g1,g2,g3⟩:=JL h ho t.ok t.dp t.sz
 refine⟨g1,Pt.dN (fun y hy n hny=>?_) (fun n hno=>?_),g2,g3⟩
 ·rw [h1] at hy
  rcases List.mem_or_eq_of_mem_set hy with hy|rfl
  ·exact hn n (Pt.vY hy hny)
  ·exact t.nm n hny
 ·rw [h2] at hno
  exact hn n (Pt.Ai hno)
theorem DP:∀ g∈gr,PyData.strOk g=true:=by decide +kernel
theorem zA {v:D}(h:isVal v):Lay 0 v:=by
 rcases h with⟨b,rfl⟩|⟨i,rfl,_⟩
 ·exact IB b
 ·exact Eu i
theorem rf {v:D}(h:dP v):Lay 0 v:=by
 rcases h with rfl|h
 ·exact Ew
 ·exact zA h
theorem uA {k:Nat}{x y:D}(hx:Lay k x)(hy:Lay k y):Lay (k+1) (.tup [x,y]):=t_ (Hs hx hy)
theorem lE {k:Nat}{x y z:D}(hx:Lay k x)(hy:Lay k y)(hz:Lay k z):Lay (k+1) (.tup [x,y,z]):=t_ (Eh hx hy hz)
theorem vm {k:Nat}{x y z u:D}(hx:Lay k x)(hy:Lay k y)(hz:Lay k z)(hu:Lay k u):Lay (k+1) (.tup [x,y,z,u]):=t_ fun d hd=>by
 rcases List.mem_cons.mp hd with rfl|hd
 ·exact hx
 ·exact Eh hy hz hu d hd
theorem Pt.lay:∀{p:Pt},p.ok->Lay p.depth p.told
 | .given v,h=>uA (dA (by decide +kernel)) (zA h)
 | .named n,h=>uA (dA (by decide +kernel)) (dA h.2.2)
 | .turned p,h=>uA ((dA (by decide +kernel)).up (Nat.zero_le _)) (Pt.lay (p:=p) h)
 | .pair g a b,h=>lE ((dA (DP g h.1)).up (Nat.zero_le _)) ((Pt.lay (p:=a) h.2.1).up (Nat.le_max_left _ _)) ((Pt.lay (p:=b) h.2.2).up (Nat.le_max_right _ _))
 | .choice t a b,h=>vm ((dA (by decide +kernel)).up (Nat.zero_le _)) ((Pt.lay (p:=t) h.1).up (Nat.le_max_left _ _)) ((Pt.lay (p:=a) h.2.1).up (Nat.le_trans (Nat.le_max_left _ _) (Nat.le_max_right _ _))) ((Pt.lay (p:=b) h.2.2).up (Nat.le_trans (Nat.le_max_right _ _) (Nat.le_max_right _ _)))
 | .before p f,h=>lE ((dA (by decide +kernel)).up (Nat.zero_le _)) (Pt.lay (p:=p) h.1) ((rf h.2).up (Nat.zero_le _))
 | .led a b,h=>lE ((dA (by decide +kernel)).up (Nat.zero_le _)) ((Pt.lay (p:=a) h.1).up (Nat.le_max_left _ _)) ((Pt.lay (p:=b) h.2).up (Nat.le_max_right _ _))
 | .cI p n,h=>lE ((dA (by decide +kernel)).up (Nat.zero_le _)) (Pt.lay (p:=p) h.1) ((dA h.2.2.2).up (Nat.zero_le _))
 | .held p n f,h=>vm ((dA (by decide +kernel)).up (Nat.zero_le _)) (Pt.lay (p:=p) h.1) ((dA h.2.1.2.2).up (Nat.zero_le _)) ((rf h.2.2).up (Nat.zero_le _))
theorem vP {v:D}(h:isVal v):cM v=true:=by
 rcases h with⟨b,rfl⟩|⟨i,rfl,_⟩<;>rw [cM]
theorem qE {v:D}(h:dP v):cM v=true:=by
 rcases h with rfl|h
 ·rw [cM]
 ·exact vP h
theorem cU (x:Str):cM (.str x)=true:=by rw [cM]
theorem vO:∀{ds:List D},(∀ d∈ds,cM d=true)->jZ ds=true
 | [],_=>by rw [jZ]
 | d::ds,h=>by
  rw [jZ,h d List.mem_cons_self,vO fun e he=>h e (List.mem_cons_of_mem _ he)]
  rfl
theorem d0 {ds:List D}(h:∀ d∈ds,cM d=true):cM (.tup ds)=true:=by rw [cM];exact vO h
theorem Pt.deep:∀{p:Pt},p.ok->cM p.told=true
 | .given v,h=>d0 (Hs (cU _) (vP h))
 | .named n,h=>d0 (Hs (cU _) (cU _))
 | .turned p,h=>d0 (Hs (cU _) (Pt.deep (p:=p) h))
 | .pair g a b,h=>d0 (Eh (cU _) (Pt.deep (p:=a) h.2.1) (Pt.deep (p:=b) h.2.2))
 | .choice t a b,h=>d0 fun d hd=>by
  rcases List.mem_cons.mp hd with rfl|hd
  ·exact cU _
  ·exact Eh (P:=fun d=>cM d=true) (Pt.deep (p:=t) h.1) (Pt.deep (p:=a) h.2.1) (Pt.deep (p:=b) h.2.2) d hd
 | .before p f,h=>d0 (Eh (cU _) (Pt.deep (p:=p) h.1) (qE h.2))
 | .led a b,h=>d0 (Eh (cU _) (Pt.deep (p:=a) h.1) (Pt.deep (p:=b) h.2))
 | .cI p n,h=>d0 (Eh (cU _) (Pt.deep (p:=p) h.1) (cU _))
 | .held p n f,h=>d0 fun d hd=>by
  rcases List.mem_cons.mp hd with rfl|hd
  ·exact cU _
  ·exact Eh (P:=fun d=>cM d=true) (Pt.deep (p:=p) h.1) (cU _) (qE h.2.2) d hd
theorem E9 {tA tB:TD}{T R:eY}{E:gN}{δ δ':SD}{μ:Mu}(e:bZ μ δ=δ')(t:T { E with nx:=R E } δ μ)(h:T { E with nx:=R E } δ μ->tA δ' fun b1=>if b1=true then T { E with nx:=R E } δ μ else tB δ' fun b2=>(if b2=true then T { E with nx:=R E } δ μ else R E δ μ)):qW (II (L5 tA tB) T vq) R E δ μ:=by
 unfold qW II
 rw [e]
 exact h t
theorem As {i:Nat}{te:ED}{R:eY}{E:gN}{δ δ':SD}{μ:Mu}(e:bZ μ δ=δ')(h:te δ' fun d=>cM d=true/\R E (δ.set i (some d)) μ):qW (CJ i te) R E δ μ:=by
 unfold qW CJ
 rw [e]
 exact h
theorem xZ {i:Nat}{te tk:ED}{R:eY}{E:gN}{δ δ':SD}{μ:Mu}(e:bZ μ δ=δ')(h:te δ' fun d=>cM d=true/\∃ a ds,δ[i]?=some (some (.adr a))/\μ.lookup a=some (.lst ds)/\tk δ' fun y=>∃ k j,y=.int k/\BJ ds.length k=some j/\R E δ (fZ a (.lst (ds.set j d)) μ)):qW (xa i tk te) R E δ μ:=by
 unfold qW xa
 rw [e]
 exact h
theorem wL {te:ED}{E:gN}{δ δ':SD}{μ:Mu}(e:bZ μ δ=δ')(h:te δ' fun d=>E.rt d []):IJ te E δ μ:=by
 unfold IJ
 rw [e]
 exact h
theorem En {n i:Nat}(h:i<n):L2.BJ n (i:Int)=some i:=by
 unfold L2.BJ
 rw [if_pos (by omega),if_pos (by omega),Int.toNat_natCast]
theorem sW {μ:Mu}(p:Pt):ay μ p.told=p.told:=by cases p<;>rfl
def MX:List D:=[.str "given",.str "named"]
def MY:List D:=[.str "not",.str "before",.str "when",.str "held"]
theorem nr:∀ g∈gr,inD (.str g) MX=false/\inD (.str g) MY=false/\g≠"before"/\g≠"named"/\inD (.str g) [.str "when",.str "held"]=false:=by decide +kernel
def nh:pZ:=fun ds Q=>∃ p:Pt,ds=[p.told]/\p.ok/\∀ a,Q (.adr a) [(a,.lst (p.inner.map Pt.told))]
def wR:cL:=fun ds Q=>∃ p:Pt,ds=[p.told]/\p.ok/\Q (.lst (p.inner.map Pt.told))
def nj (n:Nat):cL:=fun ds Q=>∃(p:Pt) (c:Int) (ks:List Str) (kf:Str->Str),ds=[p.told,.int c,xX ks kf]/\p.depth<=n/\n<=10/\BL ks kf/\p.ok/\(∀ m∈p.names,m∈ks)/\∀ p',Tr ks p.depth p.size p'->Q p'.told
def ph (n:Nat):cL:=fun ds Q=>∃ p:Pt,ds=[p.told]/\p.depth<=n/\p.size<=900/\p.ok/\Q (ao p.aO)
theorem Bf (d:Df K mg "_law_inner" i5 ["_law_told"])(n_list:mg "list"=none):fq P w K mg base (j+1) "_law_inner" ["_law_told"] nh:=by
 refine d.pU ly (fun ds P P' f ⟨p,e,h,q⟩=>⟨p,e,h,fun a=>f _ _ (q a)⟩) (fun ds Q ⟨p,e,_⟩=>by rw [e];rfl) (fun f cdv A outer s H E hr=>have hu:=hr.units;have hh:=hr.hd;have sc:=ly
  (aM (gU (Az (bU (dv 0) aD (fun _ _=>rfl)) (bb (jT (by rfl))) (by rfl)) (aU (gW (qI aC))) dS)
 (aM (gU (Az (bU (dv 0) aD (fun _ _=>rfl)) (bb (jT (by rfl))) (by rfl)) (aU (gW (qI (aA (bU (dv 0) aD (fun _ _=>rfl)) aC)))) dS)
 (aU (gW (rW (by rfl) n_list (aA (dz (dv 0) (fM aD) g8) aC))))))) ?_
 rintro ds Q ⟨p,rfl,ho,q⟩
 have z1:1<=sizeLine:=by decide
 cases p with
 | given v=>exact⟨_,rfl,_,rfl,(by decide),rfl,(by decide +kernel),true,congrArg D.bl (by decide +kernel),av ⟨zL0,fun a=>q a⟩⟩
 | named v=>exact⟨_,rfl,_,rfl,(by decide),rfl,(by decide +kernel),true,congrArg D.bl (by decide +kernel),av ⟨zL0,fun a=>q a⟩⟩
 | turned v=>exact⟨_,rfl,_,rfl,(by decide),rfl,(by decide +kernel),false,congrArg D.bl (by decide +kernel),aW ⟨_,rfl,_,rfl,(by decide),rfl,(by decide +kernel),true,congrArg D.bl (by decide +kernel),av ⟨_,rfl,_,rfl,z1,fun a=>q a⟩⟩⟩
 | before v f=>exact⟨_,rfl,_,rfl,(by decide),rfl,(by decide +kernel),false,congrArg D.bl (by decide +kernel),aW ⟨_,rfl,_,rfl,(by decide),rfl,(by decide +kernel),true,congrArg D.bl (by decide +kernel),av ⟨_,rfl,_,rfl,z1,fun a=>q a⟩⟩⟩
 | cI v f=>exact⟨_,rfl,_,rfl,(by decide),rfl,(by decide +kernel),false,congrArg D.bl (by decide +kernel),aW ⟨_,rfl,_,rfl,(by decide),rfl,(by decide +kernel),true,congrArg D.bl (by decide +kernel),av ⟨_,rfl,_,rfl,z1,fun a=>q a⟩⟩⟩
 | held v m f=>exact⟨_,rfl,_,rfl,(by decide),rfl,(by decide +kernel),false,congrArg D.bl (by decide +kernel),aW ⟨_,rfl,_,rfl,(by decide),rfl,(by decide +kernel),true,congrArg D.bl (by decide +kernel),av ⟨_,rfl,_,rfl,z1,fun a=>q a⟩⟩⟩
 | pair g a b=>exact⟨_,rfl,_,rfl,(by decide),rfl,(by decide +kernel),false,congrArg D.bl (nr g ho.1).1,aW ⟨_,rfl,_,rfl,(by decide),rfl,(by decide +kernel),false,congrArg D.bl (nr g ho.1).2.1,aW ⟨_,rfl,_,rfl,fL,[a.told,b.told],.inr rfl,fun a=>q a⟩⟩⟩
 | choice t a b=>exact⟨_,rfl,_,rfl,(by decide),rfl,(by decide +kernel),false,congrArg D.bl (by decide +kernel),aW ⟨_,rfl,_,rfl,(by decide),rfl,(by decide +kernel),false,congrArg D.bl (by decide +kernel),aW ⟨_,rfl,_,rfl,fL,[t.told,a.told,b.told],.inr rfl,fun a=>q a⟩⟩⟩
 | led a b=>exact⟨_,rfl,_,rfl,(by decide),rfl,(by decide +kernel),false,congrArg D.bl (by decide +kernel),aW ⟨_,rfl,_,rfl,(by decide),rfl,(by decide +kernel),false,congrArg D.bl (by decide +kernel),aW ⟨_,rfl,_,rfl,fL,[a.told,b.told],.inr rfl,fun a=>q a⟩⟩⟩
theorem EC {j:Nat}(c:fq P w K mg base j "_law_inner" ["_law_told"] nh):az P w K mg base j "_law_inner" ["_law_told"] wR:=c.cp (fun ds P P' f ⟨p,e,h,q⟩=>⟨p,e,h,f _ q⟩) fun ds Q ⟨p,e,h,q⟩=>⟨p,e,h,fun a=>by show Q (ay _ _);rw [gw];exact q⟩
theorem wZ (d:Df K mg "_law_spoilt" et ["_law_told","_law_seed","_law_kinds_here"])(n_len:mg "len"=none)(n_tuple:mg "tuple"=none)(c__law_mixed:az P w K mg base j "_law_mixed" ["_law_cell_here","_law_k"] gq)(c__law_leaf:az P w K mg base j "_law_leaf" ["_law_kind","_law_seed","_law_kinds_here"] oi)
  (cf__law_inner:fq P w K mg base j "_law_inner" ["_law_told"] nh)(c__law_spoilt:az P w K mg base j "_law_spoilt" ["_law_told","_law_seed","_law_kinds_here"] (nj n)):az P w K mg base (j+1) "_law_spoilt" ["_law_told","_law_seed","_law_kinds_here"] (nj (n+1)):=by
 refine d.n_ ki (fun ds P P' f ⟨p,c,ks,kf,e,h1,h2,h3,h4,h5,q⟩=>⟨p,c,ks,kf,e,h1,h2,h3,h4,h5,fun p hp=>f _ (q p hp)⟩) (fun ds Q ⟨p,c,ks,kf,e,_⟩=>by rw [e];rfl) (fun f cdv A outer s H E hr=>have hu:=hr.units;have hh:=hr.hd;have sc:=ki
  (aM (dQ (i:=3) sc.nd rfl (Or.inl rfl) (rV cf__law_inner hr (by omega) (by rfl) (aA (dv 0) aC)))
 (aM (gU (o3.td (w_or (cW hu (dv 3) (bb aC)) (mE (cW hu (bg (aH c__law_mixed hr (by omega) (by rfl) (aA (dv 1) (aA aD aC))) aD) aD)))) (aU (fK (aH c__law_leaf hr (by omega) (by rfl) (aA (bU (bb (jT (by rfl))) (bg (aH c__law_mixed hr (by omega) (by rfl) (aA (dv 1) (aA aD aC))) aD) (fun _ _=>rfl)) (aA (aH c__law_mixed hr (by omega) (by rfl) (aA (dv 1) (aA aD aC))) (aA (dv 2) aC)))))) dS)
 (aM (zJ (i:=4) sc.nd rfl (Or.inl rfl) (bg (aH c__law_mixed hr (by omega) (by rfl) (aA (dv 1) (aA aD aC))) (dt (by rfl) n_len (aA (dv 3) aC))))
 (aM (CU (i:=3) rfl (Or.inl rfl) (dv 4) (aH c__law_spoilt hr (by omega) (by rfl) (aA (bU (dv 3) (dv 4) (fun _ _=>rfl)) (aA (aH c__law_mixed hr (by omega) (by rfl) (aA (dv 1) (aA aD aC))) (aA (dv 2) aC)))))
 (aU (fK (cA (cA (bT (aA (bU (dv 0) aD (fun _ _=>rfl)) aC)) (ic (by rfl) n_tuple (aA (dv 3) aC))) (dz (dv 0) (fM (cA aD (dt (by rfl) n_len (aA (dv 3) aC)))) g8))))))))) ?_
 rintro ds Q ⟨p,c,ks,kf,rfl,hd,hn,hks,ho,hnm,q⟩
 refine⟨_,rfl,p,rfl,ho,fun a _=>?_⟩
 have vw:∀(M:List D) (x4:Option D),bZ [(a,.lst M)] [some p.told,some (.int c),some (xX ks kf),some (.adr a),x4]=[some p.told,some (.int c),some (xX ks kf),some (.lst M),x4.map (ay [(a,.lst M)])]:=fun M x4=>by
  show[some (ay _ p.told),some (ay _ (.int c)),some (ay _ (xX ks kf)),some (ay _ (.adr a)),_]=_
  rw [gw,sW]
  rfl
 dsimp only
 refine E9 (vw _ _) ?_ fun t=>?_
 ·refine wL (vw _ _) ?_
  refine⟨zL2,_,rfl,c,22,rfl,fun m=>⟨iP2,?_⟩⟩
  obtain⟨k,hk,ek⟩:=mn (xs:=oO) D.str (cX m iP2) (cO m iP2)
  exact⟨_,ek,_,rfl,c,23,rfl,fun m2=>⟨_,rfl,k,m2,ks,kf,rfl,hks,fun p' hp'=>by show Q (ay [] p'.told);rw [sW];exact q p' (hp'.up (fun n h=>h) p.fk (by cases p<;>simp only [Pt.size]<;>omega))⟩⟩
 ·have lay:Lay (n+1) (.lst (p.inner.map Pt.told)):=tw fun d hd'=>by
   obtain⟨x,hx,rfl⟩:=List.mem_map.mp hd'
   exact(Pt.lay (Pt.zM hx ho)).up (Pt.d7 hx hd)
  refine⟨_,rfl,zL0,Gf lay (by omega) ⟨_,rfl,?_⟩⟩
  cases hem:(p.inner.map Pt.told).isEmpty with
  | true=>exact av t
  | false =>
   refine aW ⟨_,rfl,c,21,rfl,fun m=>⟨iP7,_,rfl,?_⟩⟩
   refine qT t ?_
   have hpos:(0:Int)<((p.inner.map Pt.told).length:Int):=by
    cases hi:p.inner.map Pt.told with
    | nil=>rw [hi] at hem;cases hem
    | cons x l=>rw [List.length_cons];omega
   refine As (vw _ _) ⟨_,rfl,c,24,rfl,fun m4=>⟨_,rfl,_,_,rfl,rfl,hpos,(by rw [cM]),?_⟩⟩
   have hlo:=cX m4 hpos
   have hhi:=cO m4 hpos
   obtain⟨i,ei⟩:∃ i:Nat,m4%((p.inner.map Pt.told).length:Int)=(i:Int):=⟨(m4%((p.inner.map Pt.told).length:Int)).toNat,by omega⟩
   dsimp only
   rw [ei] at hlo hhi ⊢
   have hi:i<(p.inner.map Pt.told).length:=by omega
   obtain⟨x,hx⟩:∃ x,p.inner[i]?=some x:=⟨_,List.getElem?_eq_getElem (by rw [List.length_map] at hi;exact hi)⟩
   have hxm:=List.mem_of_getElem? hx
   have ex:(p.inner.map Pt.told)[i]?=some x.told:=by rw [List.getElem?_map,hx];rfl
   refine xZ (vw _ _) ⟨_,rfl,_,rfl,x.told,ky ex,_,rfl,c,25,rfl,fun m5=>⟨_,rfl,x,m5,ks,kf,rfl,Pt.d7 hxm hd,by omega,hks,Pt.zM hxm ho,fun m hm=>hnm m (Pt.vY hxm hm),fun q' hq'=>⟨Pt.deep hq'.ok,a,_,rfl,b7,_,rfl,(i:Int),i,rfl,En hi,?_⟩⟩⟩
   rw [List.append_nil,kN]
   refine wL (vw _ _) ?_
   have hl:((p.inner.map Pt.told).set i q'.told).length=p.inner.length:=by rw [List.length_set,List.length_map]
   have h3:=p.df
   have ht:p.tail.length<=2:=by cases p<;>simp [Pt.tail]
   rw [Pt.uj]
   refine⟨_,rfl,_,ky (i:=0) rfl,zL1,_,rfl,_,.inl rfl,?_,_,rfl,_,rfl,_,_,rfl,rfl,_,rfl,?_⟩
   ·rw [hl]
    exact Nat.le_trans (show 1+p.inner.length<=4 by omega) (by decide)
   rw [show(1:Int)+((((p.inner.map Pt.told).set i q'.told).length:Nat):Int)=((1+p.inner.length:Nat):Int) by rw [hl];omega]
   have hle:1+p.inner.length<=(D.str p.word::(p.inner.map Pt.told++p.tail)).length:=by rw [List.length_cons,List.length_append,List.length_map];omega
   have hc:DC.cutD (D.str p.word::(p.inner.map Pt.told++p.tail)) (some ((1+p.inner.length:Nat):Int)) none=p.tail:=by
    rw [vI hle,Nat.add_comm,List.drop_succ_cons,List.drop_left' (by rw [List.length_map])]
   refine⟨wF (by omega) hle,?_,?_⟩
   ·rw [hc,List.length_append,hl]
    exact Nat.le_trans (show 1+p.inner.length+p.tail.length<=6 by omega) (by decide)
   ·rw [hc]
    have z:=q _ (JM hx ho hnm hq')
    rw [DA hx] at z
    exact z
theorem qo (d:Df K mg "_law_spoilt" et ["_law_told","_law_seed","_law_kinds_here"])(n_len:mg "len"=none)(n_tuple:mg "tuple"=none)(cm:∀ j,az P w K mg base (j+1) "_law_mixed" ["_law_cell_here","_law_k"] gq)(cl:∀ j,az P w K mg base (j+2) "_law_leaf" ["_law_kind","_law_seed","_law_kinds_here"] oi)(ci:∀ j,fq P w K mg base (j+1) "_law_inner" ["_law_told"] nh) :
  ∀ n,az P w K mg base (n+3) "_law_spoilt" ["_law_told","_law_seed","_law_kinds_here"] (nj n)
 | 0=>Df.never d fun ds Q ⟨p,c,ks,kf,_,h,_⟩=>absurd p.fk (by omega)
 | n+1=>(wZ (j:=n+3) d n_len n_tuple ((cm 0).up (by omega)) ((cl 0).up (by omega)) ((ci 0).up (by omega)) (qo d n_len n_tuple cm cl ci n)).up (by omega)
theorem zt {acc:List Str}{n:Str}(h:acc.Nodup):(au acc n).Nodup:=by
 unfold au
 split
 ·exact h
 ·rename_i hc
  refine List.nodup_append.mpr ⟨h,by simp,fun a ha b hb=>?_⟩
  rw [List.mem_singleton.mp hb]
  intro e
  exact hc (List.contains_iff_mem.mpr (e ▸ ha))
theorem o9:∀{l acc:List Str},acc.Nodup->(l.foldl au acc).Nodup
 | [],_,h=>h
 | _::l,_,h=>o9 (l:=l) (zt h)
theorem o_:∀{ls:List (List Str)} {acc:List Str},acc.Nodup->(ls.foldl (fun acc l=>l.foldl au acc) acc).Nodup
 | [],_,h=>h
 | _::ls,_,h=>o_ (ls:=ls) (o9 h)
theorem Pt.pF (p:Pt):p.aO.Nodup:=by
 by_cases h:p.iC=true
 ·cases p with
  | before x f=>exact List.nodup_nil
  | _=>cases h
 ·rw [Pt.kJ p (by simpa using h)]
  exact o_ List.nodup_nil
theorem fold_filter:∀{l acc:List Str},l.Nodup->l.foldl au acc=acc++l.filter fun n=>!acc.contains n
 | [],acc,_=>by simp
 | n::l,acc,h=>by
  rw [List.nodup_cons] at h
  rw [List.foldl_cons,fold_filter h.2,List.filter_cons]
  unfold au
  cases hc:acc.contains n with
  | true=>rw [if_pos rfl];simp
  | false =>
   rw [if_neg Bool.false_ne_true]
   simp only [Bool.not_false,if_true,List.append_assoc,List.singleton_append]
   congr 2
   refine List.filter_congr fun m hm=>?_
   have e:m≠n:=fun e=>h.1 (e ▸ hm)
   rw [List.contains_eq_mem,List.contains_eq_mem]
   simp [e]
theorem Aj (p:Pt):p.own.Nodup:=by cases p<;>simp [Pt.own]
theorem Pt.KS {p q:Pt}(h:q∈p.inner):q.size<=p.size:=by
 cases p<;>simp only [Pt.inner,Pt.size,List.mem_cons,List.not_mem_nil,or_false] at h ⊢
 case turned=>subst h;omega
 case pair=>rcases h with rfl|rfl<;>omega
 case choice=>rcases h with rfl|rfl|rfl<;>omega
 case before=>subst h;omega
 case led=>rcases h with rfl|rfl<;>omega
 case cI=>subst h;omega
 case held=>subst h;omega
def accN (p:Pt)(i:Nat):List Str:=((p.inner.take i).map Pt.aO).foldl (fun acc l=>l.foldl au acc) []
theorem yf (p:Pt)(i:Nat):(accN p i).length+p.own.length<=p.size:=by
 have h1:=lJ ((p.inner.take i).map Pt.aO) []
 have h2:=p.sO
 have h3:=pO ((p.inner.map Pt.aO).map List.length) i
 rw [List.map_append,List.sum_append] at h2
 have h4:([p.own].map List.length).sum=p.own.length:=by simp
 rw [h4] at h2
 rw [<- List.map_take,<- List.map_take] at h3
 unfold accN
 simp only [List.length_nil,Nat.zero_add] at h1
 omega
theorem acc_step {p q:Pt}{i:Nat}(h:p.inner[i]?=some q):accN p (i+1)=q.aO.foldl au (accN p i):=by
 unfold accN
 rw [bo h,List.map_append,List.foldl_append]
 rfl
theorem D5 {p:Pt}(h:p.iC=false):p.aO=p.own.foldl au (accN p p.inner.length):=by
 rw [Pt.kJ p h]
 unfold accN ba
 rw [List.take_length,List.foldl_append]
 rfl
theorem wD {acc:List Str}{x:Str}{T:Prop}(h:(!acc.contains x)=true->T){o:Option D}(ho:o=if(!acc.contains x)=true then some (.str x) else none):(!acc.contains x)=o.isSome/\((!acc.contains x)=true->T):=by
 subst ho
 cases hc:acc.contains x with
 | true=>exact⟨rfl,fun z=>nomatch z⟩
 | false=>exact⟨rfl,fun _=>h (by rw [hc];rfl)⟩
theorem xl (d:Df K mg "_law_needs" fh ["_law_told"])(c__law_inner:az P w K mg base j "_law_inner" ["_law_told"] wR)(c__law_needs:az P w K mg base j "_law_needs" ["_law_told"] (ph n)):az P w K mg base (j+1) "_law_needs" ["_law_told"] (ph (n+1)):=by
 refine d.cp l5 (fun ds P P' f ⟨p,e,h1,h2,h3,q⟩=>⟨p,e,h1,h2,h3,f _ q⟩) (fun ds Q ⟨p,e,_⟩=>by rw [e];rfl) (fun f cdv A outer s H E hr=>have hu:=hr.units;have hh:=hr.hd;have sc:=l5
  (aI (cG (cW hu (bU (dv 0) aD (fun _ _=>rfl)) aZ) (aF (aP (bb aC))) ak)
 (aI (bI (i:=1) sc.nd rfl (Or.inr rfl) (bb aC))
 (aI (DE PassesOwn.never rfl (br (aH c__law_inner hr (by omega) (by rfl) (aA (dv 0) aC))) (bR (i:=2) sc.nd rfl (Or.inl rfl)) (aF (bI (i:=1) sc.nd rfl (Or.inr rfl) (cA (dv 1) (mN (x:="_law_name") (caps:=[1]) (cn:=["_law_found"]) (cl:=[("_law_found",s.heap.objs.size+1)]) (o6 (by rfl) (by rfl) (by decide +kernel) (gR ["_law_found"] rfl (by decide +kernel)) (by decide +kernel) (b_ (by rfl) dY) (.cons ⟨rfl,.inl rfl,rfl⟩ .nil)) rfl (br (aH c__law_needs hr (by omega) (by rfl) (aA (dv 2) aC))) (fun C fp s₂ H₂=>bF (i:=0) (show(["_law_name","_law_found"]:List Str).Nodup by decide +kernel) rfl (Or.inl rfl) (.inr rfl)) (fun C fp s₂ H₂=>(oy (lT (dv 0) (dv 1) (by rfl)))) (fun C fp s₂ H₂=>(dv 0)))))))
 (aI (bI (i:=3) sc.nd rfl (Or.inl rfl) (bb aC))
 (aI (cG (cW hu (bU (dv 0) aD (fun _ _=>rfl)) aZ) (aF (bI (i:=3) sc.nd rfl (Or.inl rfl) (bb (aA (bU (dv 0) aD (fun _ _=>rfl)) aC)))) ak)
 (aI (cG (Az (bU (dv 0) aD (fun _ _=>rfl)) (bb (jT (by rfl))) (by rfl)) (aF (bI (i:=3) sc.nd rfl (Or.inl rfl) (bb (aA (bU (dv 0) aD (fun _ _=>rfl)) aC)))) ak)
 (aF (aP (cA (dv 1) (mN (x:="_law_name") (caps:=[1]) (cn:=["_law_found"]) (cl:=[("_law_found",s.heap.objs.size+1)]) (o6 (by rfl) (by rfl) (by decide +kernel) (gR ["_law_found"] rfl (by decide +kernel)) (by decide +kernel) (b_ (by rfl) dY) (.cons ⟨rfl,.inl rfl,rfl⟩ .nil)) rfl (br (dv 3)) (fun C fp s₂ H₂=>bF (i:=0) (show(["_law_name","_law_found"]:List Str).Nodup by decide +kernel) rfl (Or.inl rfl) (.inr rfl)) (fun C fp s₂ H₂=>(oy (lT (dv 0) (dv 1) (by rfl)))) (fun C fp s₂ H₂=>(dv 0))))))))))))) ?_
 rintro ds Q ⟨p,rfl,hd,hs,ho,q⟩
 have hw:∀{R:D->Prop},R (.str p.word)->Nn (ny 0) (vC (.int 0)) [some p.told,none,none,none] R:=fun{R} r=>by
  rw [Pt.uj]
  exact⟨_,rfl,_,ky (i:=0) rfl,r⟩
 by_cases hb:p.iC=true
 ·cases p with
  | before x f=>exact⟨_,rfl,_,rfl,_,rfl,av ⟨zL0,q⟩⟩
  | _=>cases hb
 ·have hb':p.iC=false:=by simpa using hb
  have hwb:p.word≠"before":=by
   cases p with
   | pair g a b=>exact(nr g ho.1).2.2.1
   | before=>cases hb'
   | given=>exact(show("given":Str)≠"before" by decide)
   | named=>exact(show("named":Str)≠"before" by decide)
   | turned=>exact(show("not":Str)≠"before" by decide)
   | choice=>exact(show("if":Str)≠"before" by decide)
   | led=>exact(show("then":Str)≠"before" by decide)
   | cI=>exact(show("when":Str)≠"before" by decide)
   | held=>exact(show("held":Str)≠"before" by decide)
  refine hw ⟨_,rfl,?_⟩
  show if decide (p.word="before")=true then _ else _
  rw [decide_eq_false hwb]
  refine aW ⟨zL0,?_⟩
  refine⟨_,rfl,p,rfl,ho,_,rfl,fun i δ=>∃ x2,δ=[some p.told,some (ao (accN p i)),x2,none],⟨none,rfl⟩,?_,?_⟩
  ·rintro i dd δ hdd ⟨x2,rfl⟩
   obtain⟨x,hx,rfl⟩:=g7 hdd
   have hxm:=List.mem_of_getElem? hx
   have hxs:x.size<=900:=Nat.le_trans (Pt.KS hxm) hs
   refine⟨_,rfl,_,rfl,x,rfl,Pt.d7 hxm hd,hxs,Pt.zM hxm ho,x.aO.map D.str,rfl,?_⟩
   refine⟨outF (fun m=>!(accN p i).contains m) D.str x.aO,iH,fm fun m hm=>?_,rG (Nat.lt_of_le_of_lt (Nat.le_trans x.ah hxs) (by decide)),?_⟩
   ·refine⟨_,rfl,_,rfl,rfl,dZ _,_,rfl,?_⟩
    show(!inD (.str m) ((accN p i).map D.str))=_/\_
    rw [ig]
    exact wD (fun h=>⟨_,rfl,if_pos h⟩) rfl
   ·rw [iI]
    have hl:=yf p (i+1)
    rw [acc_step hx,fold_filter x.pF,List.length_append] at hl
    refine⟨?_,x.told,?_⟩
    ·rw [List.length_map,List.length_map]
     exact Nat.le_trans (show _<=900 by omega) (by decide)
    ·rw [acc_step hx,fold_filter x.pF]
     unfold ao
     rw [List.map_append]
     rfl
  ·rintro δ ⟨x2,rfl⟩
   rw [List.length_map]
   have he:=D5 hb'
   rw [fold_filter (Aj p)] at he
   have hl:=yf p p.inner.length
   generalize accN p p.inner.length=acc at he hl ⊢
   refine⟨zL0,?_⟩
   have fin:∀(R:D->Prop) (td:D),R (ao p.aO)->La (ny 1) (nv [1] (BV (ny 3)) (gv (yV (ny 0) (ny 1))) (ny 0)) [some td,some (ao acc),x2,some (ao p.own)] R:=fun R td r=>by
    have ho8:p.own.length<sizeLine:=Nat.lt_of_le_of_lt (show p.own.length<=900 by omega) (by decide)
    refine⟨_,rfl,_,rfl,p.own.map D.str,rfl,?_⟩
    refine⟨outF (fun m=>!acc.contains m) D.str p.own,iH,fm fun m hm=>?_,rG ho8,?_⟩
    ·refine⟨_,rfl,_,rfl,rfl,dZ _,_,rfl,?_⟩
     show(!inD (.str m) (acc.map D.str))=_/\_
     rw [ig]
     exact wD (fun h=>⟨_,rfl,if_pos h⟩) rfl
    ·rw [iI]
     have hf:=List.length_filter_le (fun m=>!acc.contains m) p.own
     refine⟨?_,?_⟩
     ·rw [List.length_map,List.length_map]
      exact Nat.le_trans (show _<=900 by omega) (by decide)
     ·rw [he] at r
      unfold ao at r
      rw [List.map_append] at r
      exact r
   have z1:1<=sizeLine:=by decide
   have z2:2<=sizeLine:=by decide
   have q':Q (ao p.aO):=q
   clear q hwb hw
   cases p with
   | given v=>exact⟨_,rfl,_,rfl,_,rfl,aW ⟨_,rfl,_,rfl,z2,rfl,(by decide +kernel),false,congrArg D.bl (by decide +kernel),aW (fin _ _ q')⟩⟩
   | named v=>exact⟨_,rfl,_,rfl,_,rfl,av ⟨_,rfl,_,rfl,z1,_,rfl,_,rfl,z2,rfl,(by decide +kernel),false,congrArg D.bl (by decide +kernel),aW (fin _ _ q')⟩⟩
   | turned v=>exact⟨_,rfl,_,rfl,_,rfl,aW ⟨_,rfl,_,rfl,z2,rfl,(by decide +kernel),false,congrArg D.bl (by decide +kernel),aW (fin _ _ q')⟩⟩
   | choice t a b=>exact⟨_,rfl,_,rfl,_,rfl,aW ⟨_,rfl,_,rfl,z2,rfl,(by decide +kernel),false,congrArg D.bl (by decide +kernel),aW (fin _ _ q')⟩⟩
   | led a b=>exact⟨_,rfl,_,rfl,_,rfl,aW ⟨_,rfl,_,rfl,z2,rfl,(by decide +kernel),false,congrArg D.bl (by decide +kernel),aW (fin _ _ q')⟩⟩
   | pair g a b=>exact⟨_,rfl,_,rfl,false,congrArg D.bl (decide_eq_false (nr g ho.1).2.2.2.1),aW ⟨_,rfl,_,rfl,z2,rfl,(by decide +kernel),false,congrArg D.bl (nr g ho.1).2.2.2.2,aW (fin _ _ q')⟩⟩
   | cI v f=>exact⟨_,rfl,_,rfl,_,rfl,aW ⟨_,rfl,_,rfl,z2,rfl,(by decide +kernel),true,congrArg D.bl (by decide +kernel),av ⟨_,rfl,_,rfl,z1,fin _ _ q'⟩⟩⟩
   | held v f g=>exact⟨_,rfl,_,rfl,_,rfl,aW ⟨_,rfl,_,rfl,z2,rfl,(by decide +kernel),true,congrArg D.bl (by decide +kernel),av ⟨_,rfl,_,rfl,z1,fin _ _ q'⟩⟩⟩
   | before v f=>cases hb'
theorem qb (d:Df K mg "_law_needs" fh ["_law_told"])(ci:∀ j,fq P w K mg base (j+1) "_law_inner" ["_law_told"] nh):∀ n,az P w K mg base (n+1) "_law_needs" ["_law_told"] (ph n)
 | 0=>Df.never d fun ds Q ⟨p,_,h,_⟩=>absurd p.fk (by omega)
 | n+1=>xl (j:=n+1) d (EC (ci n)) (qb d ci n)
structure Ji (l:List Str):Prop where
 lo:4<=l.length
 hi:l.length<=8
 nd:l.Nodup
 ok:∀ x∈l,mU x
def zX:cL:=fun ds Q=>∃(l:List Str) (c:Int),ds=[.lst (l.map D.str),.int c,.int ((l.length:Int) - 3)]/\Ji l/\∀ kf,BL l kf->Q (xX l kf)
def wV:cL:=fun ds Q=>∃(l:List Str) (c:Int),ds=[.lst (l.map D.str),.int c]/\l.length<=8/\∀ r:List Str,r.Perm l->Q (.lst (r.map D.str))
def kK (l:List Str)(of:Str->Option Str):List (Key × D):=dF l fun n=>zN (of n)
def FK (ks l r:List Str)(kf:Str->Str)(of:Str->Option Str):Prop:=∀ n∈ks,∀ m,of n=some m->m∈l/\kf m="truth"/\∃ i j:Nat,i<j/\r[i]?=some m/\r[j]?=some n
def DL:cL:=fun ds Q=>∃(l r:List Str) (kf:Str->Str) (c:Int),ds=[.lst (l.map D.str),xX l kf,.lst (r.map D.str),.int c]/\Ji l/\BL l kf/\r.Perm l/\∀ of,FK l l r kf of->Q (.dK (kK l of))
theorem c_ {α:Type}{l:List α}{i:Nat}{x:α}(nd:l.Nodup)(h:l[i]?=some x):x∉l.take i:=fun z=>by
 obtain⟨k,hk⟩:=List.mem_iff_getElem?.mp z
 rw [List.getElem?_take] at hk
 split at hk
 ·have:=iG nd hk h
  omega
 ·cases hk
theorem uH {l:List Str}(h:l.length<=8):l.length<sizeLine:=Nat.lt_of_le_of_lt h (by decide)
theorem BW {α:Type}{l:List α}{i:Nat}{x:α}(h:l[i]?=some x):i<l.length:=(List.getElem?_eq_some_iff.mp h).1
theorem CL {tA tB:TD}{T:eY}{E:gN}{δ δ':SD}{μ:Mu}(e:bZ μ δ=δ')(r:E.nx δ μ)(h:E.nx δ μ->tA δ' fun b1=>if b1=true then tB δ' fun b2=>(if b2=true then T E δ μ else E.nx δ μ) else E.nx δ μ):II (GK tA tB) T vq E δ μ:=by
 unfold II
 rw [e]
 exact h r
theorem EE (d:Df K mg "_law_kinds" i6 ["_law_names_here","_law_cell_here","_law_many"])(n_range:mg "range"=none)(c__law_mixed:az P w K mg base j "_law_mixed" ["_law_cell_here","_law_k"] gq):az P w K mg base (j+1) "_law_kinds" ["_law_names_here","_law_cell_here","_law_many"] zX:=by
 refine d.n_ lz (fun ds P P' f ⟨l,c,e,h,q⟩=>⟨l,c,e,h,fun kf hk=>f _ (q kf hk)⟩) (fun ds Q ⟨l,c,e,_⟩=>by rw [e];rfl) (fun f cdv A outer s H E hr=>have hu:=hr.units;have hh:=hr.hd;have sc:=lz
  (aM (dQ (i:=3) sc.nd rfl (Or.inl rfl) gQ)
 (aM (cY PassesOwn.never rfl (qM (by rfl) n_range (aA (cA aD (dv 2)) aC)) (bR (i:=4) sc.nd rfl (Or.inl rfl)) (aU (fX (i:=3) hu rfl (Or.inl rfl) (bU (dv 0) (dv 4) (fun _ _=>rfl)) (bU (bb (jT (by rfl))) (bg (aH c__law_mixed hr (by omega) (by rfl) (aA (dv 1) (aA (cA aD (dv 4)) aC))) aD) (fun _ _=>rfl)))))
 (aU (fK (dv 3)))))) ?_
 rintro ds Q ⟨l,c,rfl,hl,q⟩
 intro a _
 have h8:=hl.hi
 have h4:=hl.lo
 have en:(3+((l.length:Int) - 3)).toNat=l.length:=by omega
 refine⟨_,rfl,3+((l.length:Int) - 3),rfl,(by omega),(by omega),fun i δ μ=>(∃ x4,δ=[some (.lst (l.map D.str)),some (.int c),some (.int ((l.length:Int) - 3)),some (.adr a),x4])/\∃ kf:Str->Str,μ=[(a,.dK (dF (l.take i) fun n=>.str (kf n)))]/\∀ n∈l.take i,kf n∈oO,⟨⟨none,rfl⟩,fun _=>"truth",rfl,fun n hn=>nomatch hn⟩,?_,?_⟩
 ·rintro i dd δ μ hd ⟨⟨x4,rfl⟩,kf,rfl,hk⟩
  rw [en] at hd
  obtain⟨hi,rfl⟩:=JO hd
  obtain⟨n,hn⟩:∃ n,l[i]?=some n:=⟨_,List.getElem?_eq_getElem hi⟩
  refine⟨zL2,_,rfl,_,rfl,c,_,rfl,fun m=>⟨iP2,?_⟩⟩
  obtain⟨k,hk2,ek⟩:=mn (xs:=oO) D.str (cX m iP2) (cO m iP2)
  refine⟨_,ek,a,_,rfl,b7,?_,_,rfl,_,rfl,.str n,ky (by rw [List.getElem?_map,hn];rfl),.inr n,rfl,⟨_,rfl⟩,BC kf n k,?_,?_⟩
  ·rw [jX,List.length_take]
   exact Nat.lt_of_le_of_lt (show _<=8 by omega) (by decide)
  ·rw [kN,iK (c_ hl.nd hn),bo hn]
   rw [um kf D.str]
  ·intro m hm
   by_cases e:m=n
   ·rw [e,iV];exact hk2
   ·rw [mj e]
    rw [bo hn] at hm
    rcases List.mem_append.mp hm with hm|hm
    ·exact hk m hm
    ·exact absurd (List.mem_singleton.mp hm) e
 ·rintro δ μ ⟨⟨x4,rfl⟩,kf,rfl,hk⟩
  refine iW rfl ?_
  rw [gw]
  rw [List.length_map,List.length_range,en,List.take_length] at hk ⊢
  exact q kf ⟨hl.ok,hk,hl.hi⟩
theorem BX (d:Df K mg "_law_ranked" g_ ["_law_names_here","_law_cell_here"])(n_enumerate:mg "enumerate"=none)(c__law_mixed:az P w K mg base j "_law_mixed" ["_law_cell_here","_law_k"] gq):az P w K mg base (j+1) "_law_ranked" ["_law_names_here","_law_cell_here"] wV:=by
 refine d.n_ kh (fun ds P P' f ⟨l,c,e,h,q⟩=>⟨l,c,e,h,fun kf hk=>f _ (q kf hk)⟩) (fun ds Q ⟨l,c,e,_⟩=>by rw [e];rfl) (fun f cdv A outer s H E hr=>have hu:=hr.units;have hh:=hr.hd;have sc:=kh
  (aM (lG (i:=2) sc.nd rfl (Or.inl rfl) aC)
 (aM (cY PassesOwn.never rfl (xM (by rfl) n_enumerate (aA (dv 0) aC)) (yv (n:=2) rfl (eZ (bR (i:=3) sc.nd rfl (Or.inl rfl)) (eZ (bR (i:=4) sc.nd rfl (Or.inl rfl)) tQ))) (aU (AX (i:=2) rfl (Or.inl rfl) (aA (bg (aH c__law_mixed hr (by omega) (by rfl) (aA (dv 1) (aA (cA aD (dv 3)) aC))) (cA (dv 3) aD)) (aA (dv 4) aC)))))
 (aU (fK (dv 2)))))) ?_
 rintro ds Q ⟨l,c,rfl,hl,q⟩
 refine⟨zL0,fun a _=>?_⟩
 refine⟨_,rfl,_,rfl,fun i δ μ=>(∃ x3 x4,δ=[some (.lst (l.map D.str)),some (.int c),some (.adr a),x3,x4])/\∃ r:List Str,μ=[(a,.lst (r.map D.str))]/\r.Perm (l.take i),⟨⟨none,none,rfl⟩,[],rfl,List.Perm.refl _⟩,?_,?_⟩
 ·rintro i dd δ μ hd ⟨⟨x3,x4,rfl⟩,r,rfl,hr⟩
  obtain⟨n,hn,rfl⟩:=B1 hd
  have hi:=BW hn
  have hrl:r.length=i:=by rw [hr.length_eq,List.length_take];omega
  refine⟨_,rfl,rfl,_,_,rfl,_,_,rfl,rfl,a,_,rfl,b7,_,rfl,_,rfl,c,_,rfl,fun m=>⟨_,rfl,(show(0:Int)<(i:Int)+1 by omega),_,rfl,?_⟩⟩
  have hlo:=cX m (show(0:Int)<(i:Int)+1 by omega)
  have hhi:=cO m (show(0:Int)<(i:Int)+1 by omega)
  refine⟨(m%((i:Int)+1)).toNat,.str n,?_,?_,?_,?_,⟨_,_,rfl⟩,r.take (m%((i:Int)+1)).toNat++n::r.drop (m%((i:Int)+1)).toNat,?_,?_⟩
  ·rw [Int.toNat_of_nonneg hlo]
  ·rw [List.length_map];omega
  ·rw [List.length_map,hrl];exact Nat.lt_of_le_of_lt (show i<=8 by omega) (by decide)
  ·omega
  ·rw [kN,List.map_append,List.map_cons,List.map_take,List.map_drop]
  ·rw [bo hn]
   refine List.perm_middle.trans ?_
   rw [List.take_append_drop]
   exact(List.Perm.cons n hr).trans (List.perm_append_singleton n _).symm
 ·rintro δ μ ⟨⟨x3,x4,rfl⟩,r,rfl,hr⟩
  refine iW rfl ?_
  rw [gw]
  rw [mx,List.length_map,List.take_length] at hr
  exact q r hr
theorem Jy (d:Df K mg "_law_ons" mX ["_law_names_here","_law_kinds_here","_law_ranked_here","_law_cell_here"])(n_enumerate:mg "enumerate"=none)(n_len:mg "len"=none)(c__law_mixed:az P w K mg base j "_law_mixed" ["_law_cell_here","_law_k"] gq):az P w K mg base (j+1) "_law_ons" ["_law_names_here","_law_kinds_here","_law_ranked_here","_law_cell_here"] DL:=by
 refine d.n_ pJ (fun ds P P' f ⟨l,r,kf,c,e,h1,h2,h3,q⟩=>⟨l,r,kf,c,e,h1,h2,h3,fun of ho=>f _ (q of ho)⟩) (fun ds Q ⟨l,r,kf,c,e,_⟩=>by rw [e];rfl) (fun f cdv A outer s H E hr=>have hu:=hr.units;have hh:=hr.hd;have sc:=pJ
  (aM (dQ (i:=4) sc.nd rfl (Or.inl rfl) gQ)
 (aM (cY PassesOwn.never rfl (xM (by rfl) n_enumerate (aA (dv 0) aC)) (yv (n:=2) rfl (eZ (bR (i:=5) sc.nd rfl (Or.inl rfl)) (eZ (bR (i:=6) sc.nd rfl (Or.inl rfl)) tQ))) (aM (bw (JR (i:=7) sc.nd rfl (Or.inl rfl) (x:="_law_one") (caps:=[1]) (cn:=["_law_kinds_here"]) (cl:=[("_law_kinds_here",s.heap.objs.size+1)]) (o6 (by rfl) (by rfl) (by decide +kernel) (gR ["_law_kinds_here"] rfl (by decide +kernel)) (by decide +kernel) (b_ (by rfl) dY) (.cons ⟨rfl,.inl rfl,rfl⟩ .nil)) rfl (br (dz (dv 2) g8 (fM (vM (dv 2) (aA (dv 6) aC))))) (fun C fp s₂ H₂=>bF (i:=0) (show(["_law_one","_law_kinds_here"]:List Str).Nodup by decide +kernel) rfl (Or.inl rfl) (.inr rfl)) (fun C fp s₂ H₂=>(oy (cW hu (cH hu (dv 1) (dv 0) (fun _ _=>rfl)) aZ))) (fun C fp s₂ H₂=>(dv 0))))
 (aM (fX (i:=4) hu rfl (Or.inl rfl) (dv 6) jY)
 (aU (gU (o3.td (w_and (DT (dt (by rfl) n_len (aA (dv 7) aC)) aD) (kr (cW hu (bg (aH c__law_mixed hr (by omega) (by rfl) (aA (dv 3) (aA (cA aD (dv 5)) aC))) aD) aD)))) (aU (fX (i:=4) hu rfl (Or.inl rfl) (dv 6) (bU (dv 7) (bg (aH c__law_mixed hr (by omega) (by rfl) (aA (dv 3) (aA (cA aD (dv 5)) aC))) (dt (by rfl) n_len (aA (dv 7) aC))) (fun _ _=>rfl)))) dS)))))
 (aU (fK (dv 4)))))) ?_
 rintro ds Q ⟨l,r,kf,c,rfl,hl,hk,hr,q⟩
 intro a _
 have ndr:r.Nodup:=hr.nodup_iff.mpr hl.nd
 have hrl:r.length<=8:=by rw [hr.length_eq];exact hl.hi
 have h8:=hl.hi
 refine⟨_,rfl,_,rfl,fun i δ μ=>(∃ x5 x6 x7,δ=[some (.lst (l.map D.str)),some (xX l kf),some (.lst (r.map D.str)),some (.int c),some (.adr a),x5,x6,x7])/\∃ of,μ=[(a,.dK (kK (l.take i) of))]/\FK (l.take i) l r kf of,⟨⟨none,none,none,rfl⟩,fun _=>none,rfl,fun n hn=>nomatch hn⟩,?_,?_⟩
 ·rintro i dd δ μ hd ⟨⟨x5,x6,x7,rfl⟩,of,rfl,ho⟩
  obtain⟨n,hn,rfl⟩:=B1 hd
  have hnl:=List.mem_of_getElem? hn
  obtain⟨t,ht⟩:=List.mem_iff_getElem?.mp (hr.mem_iff.mpr hnl)
  have htl:=BW ht
  refine⟨_,rfl,rfl,_,_,rfl,_,_,rfl,rfl,?_⟩
  refine⟨_,rfl,_,rfl,r,rfl,_,rfl,n,rfl,t,ht,fun m y hm hy e=>?_,by omega,_,rfl,(r.take t).map D.str,?_,?_⟩
  ·subst e
   have:=iG ndr hy ht
   omega
  ·show some (DC.cutD _ none _)=_
   rw [tE,List.map_take]
  have hin:∀ m∈r.take t,m∈l:=fun m hm=>hr.mem_iff.mp (List.mem_of_mem_take hm)
  refine⟨outF (fun m=>decide (kf m="truth")) D.str (r.take t),iH,fm fun m hm=>?_,rG (Nat.lt_of_le_of_lt (show(r.take t).length<=8 by rw [List.length_take];omega) (by decide)),?_⟩
  ·refine⟨_,rfl,_,rfl,_,.inr m,_,rfl,rfl,bz (hin m hm),_,rfl,?_⟩
   show decide (kf m="truth")=_/\_
   cases decide (kf m="truth") with
   | true=>exact⟨rfl,fun _=>⟨_,rfl,rfl⟩⟩
   | false=>exact⟨rfl,fun z=>nomatch z⟩
  rw [iI]
  have hF:∀ m∈(r.take t).filter fun m=>decide (kf m="truth"),m∈l/\kf m="truth"/\∃ i j:Nat,i<j/\r[i]?=some m/\r[j]?=some n:=fun m hm=>by
   obtain⟨h1,h2⟩:=List.mem_filter.mp hm
   obtain⟨k,hk⟩:=List.mem_iff_getElem?.mp h1
   rw [List.getElem?_take] at hk
   split at hk
   ·exact⟨hin m h1,of_decide_eq_true h2,k,t,by assumption,hk,ht⟩
   ·cases hk
  generalize ((r.take t).filter fun m=>decide (kf m="truth"))=F at hF ⊢
  have hlen:∀ of,(kK (l.take i) of).length<sizeLine:=fun of=>by
   unfold kK
   rw [jX,List.length_take]
   exact Nat.lt_of_le_of_lt (show _<=8 by omega) (by decide)
  have hlen':∀ of,(kK (l.take (i+1)) of).length<sizeLine:=fun of=>by
   unfold kK
   rw [jX,List.length_take]
   exact Nat.lt_of_le_of_lt (show _<=8 by omega) (by decide)
  refine⟨a,_,rfl,b7,hlen _,_,rfl,.inr n,rfl,?_⟩
  have e1:gY (kK (l.take i) of) (.inr n) .aj=kK (l.take (i+1)) (BC of n none):=by
   unfold kK
   rw [iK (c_ hl.nd hn),bo hn]
   exact congrArg (dF _) (um of zN n none)
  have hup:∀ v,(∀ m,v=some m->m∈l/\kf m="truth"/\∃ i j:Nat,i<j/\r[i]?=some m/\r[j]?=some n)->FK (l.take (i+1)) l r kf (BC of n v):=fun v hv m hm x hx=>by
   by_cases e:m=n
   ·rw [e,iV] at hx
    rw [e]
    exact hv x hx
   ·rw [mj e] at hx
    rw [bo hn] at hm
    rcases List.mem_append.mp hm with hm|hm
    ·exact ho m hm x hx
    ·exact absurd (List.mem_singleton.mp hm) e
  rw [kN,e1]
  dsimp only
  refine CL rfl ⟨⟨_,_,_,rfl⟩,BC of n none,rfl,hup none fun m z=>nomatch z⟩ fun rest=>?_
  refine⟨_,rfl,_,_,rfl,rfl,_,rfl,?_⟩
  show if decide ((0:Int)<((F.map D.str).length:Int))=true then _ else _
  cases h0:decide ((0:Int)<((F.map D.str).length:Int)) with
  | false=>exact aW rest
  | true =>
   have h0':=of_decide_eq_true h0
   refine av ⟨_,rfl,_,rfl,c,_,rfl,fun m=>⟨iP3,_,rfl,qT ?_ rest⟩⟩
   refine⟨_,rfl,_,rfl,_,rfl,c,_,rfl,fun m3=>⟨_,rfl,_,_,rfl,rfl,h0',?_⟩⟩
   obtain⟨x,hx,er⟩:=mI (xs:=F.map D.str) (cX m3 h0') (cO m3 h0')
   obtain⟨y,hy,rfl⟩:=List.mem_map.mp hx
   refine⟨_,er,a,_,rfl,b7,hlen' _,_,rfl,.inr n,rfl,⟨_,_,_,rfl⟩,BC of n (some y),?_,hup (some y) fun m e=>by cases e;exact hF y hy⟩
   rw [kN]
   unfold kK
   rw [qe (by rw [bo hn];exact List.mem_append_right _ (List.mem_singleton.mpr rfl))]
   refine congrArg (fun t=>[(a,MD.dK t)]) (cT fun m hm=>?_)
   unfold oz
   by_cases e:m=n
   ·rw [if_pos e,e,iV];rfl
   ·rw [if_neg e]
    show zN (BC of n none m)=zN (BC of n (some y) m)
    rw [mj e,mj e]
 ·rintro δ μ ⟨⟨x5,x6,x7,rfl⟩,of,rfl,ho⟩
  refine iW rfl ?_
  rw [gw]
  rw [mx,List.length_map,List.take_length] at ho ⊢
  exact q of ho
def zC (kf:Str->Str)(of:Str->Option Str)(pf:Str->Pt)(n:Str):D:=.tup [.str n,.str (kf n),(pf n).told,zN (of n)]
def zZ:cL:=fun ds Q=>∃(l r:List Str) (kf:Str->Str) (of:Str->Option Str) (ns:List Int) (sp:Int),ds=[.lst (l.map D.str),xX l kf,.lst (r.map D.str),.dK (kK l of),.lst (ns.map D.int),.int sp]/\Ji l/\BL l kf/\r.Perm l /\
 ∀ pf:Str->Pt,(∀ n∈l.drop 3,Tr l 4 19 (pf n))->Q (.lst ((l.drop 3).map (zC kf of pf)))
theorem tI {α:Type}{l:List α}{k:Nat}{x:α}(h:x∈l.drop k):x∈l:=List.mem_of_mem_drop h
theorem BL.sub {ks ls:List Str}{kf:Str->Str}(h:BL ls kf)(hs:∀ n∈ks,n∈ls)(hl:ks.length<=8):BL ks kf:=⟨fun n hn=>h.nm n (hs n hn),fun n hn=>h.kd n (hs n hn),hl⟩
theorem wY {t u:eY}{E:gN}{δ:SD}{μ:Mu}(I:SD->Mu->Prop)(hA:∀ N:SD->Mu->Prop,(∀ δ μ,I δ μ->N δ μ)->t { E with nx:=N } δ μ)(hI:∀ δ μ,I δ μ->u E δ μ):qW t u E δ μ:=hA (u E) hI
theorem EG (d:Df K mg "_law_ranked_lines" dH ["_law_names_here","_law_kinds_here","_law_ranked_here","_law_ons_here","_law_script","_law_spoilt_here"])(n_enumerate:mg "enumerate"=none)(c__law_mixed:az P w K mg base j "_law_mixed" ["_law_cell_here","_law_k"] gq)(c__law_cell:az P w K mg base j "_law_cell" ["_law_script","_law_k"] yJ)
  (c__law_tree:az P w K mg base j "_law_tree" ["_law_kind","_law_seed","_law_deep","_law_kinds_here"] (oj 2))(c__law_spoilt:az P w K mg base j "_law_spoilt" ["_law_told","_law_seed","_law_kinds_here"] (nj 4)) :
  az P w K mg base (j+1) "_law_ranked_lines" ["_law_names_here","_law_kinds_here","_law_ranked_here","_law_ons_here","_law_script","_law_spoilt_here"] zZ:=by
 refine d.n_ fG (fun ds P P' f ⟨l,r,kf,of,ns,sp,e,h1,h2,h3,q⟩=>⟨l,r,kf,of,ns,sp,e,h1,h2,h3,fun pf hp=>f _ (q pf hp)⟩) (fun ds Q ⟨l,r,kf,of,ns,sp,e,_⟩=>by rw [e];rfl) (fun f cdv A outer s H E hr=>have hu:=hr.units;have hh:=hr.hd;have sc:=fG
  (aM (lG (i:=6) sc.nd rfl (Or.inl rfl) aC)
 (aM (cY PassesOwn.never rfl (xM (by rfl) n_enumerate (aA (dz (dv 0) (fM aD) g8) aC)) (yv (n:=2) rfl (eZ (bR (i:=7) sc.nd rfl (Or.inl rfl)) (eZ (bR (i:=8) sc.nd rfl (Or.inl rfl)) tQ))) (aM (bw (bI (i:=9) sc.nd rfl (Or.inl rfl) (aH c__law_cell hr (by omega) (by rfl) (aA (dv 4) (aA (cA aD (dv 7)) aC)))))
 (aM (dQ (i:=10) sc.nd rfl (Or.inl rfl) gQ)
 (aM (cY PassesOwn.never rfl (br (dz (dv 2) g8 (fM (vM (dv 2) (aA (dv 8) aC))))) (bR (i:=11) sc.nd rfl (Or.inl rfl)) (aU (fX (i:=10) hu rfl (Or.inl rfl) (dv 11) (cH hu (dv 1) (dv 11) (fun _ _=>rfl)))))
 (aM (zJ (i:=12) sc.nd rfl (Or.inl rfl) (aH c__law_tree hr (by omega) (by rfl) (aA (cH hu (dv 1) (dv 8) (fun _ _=>rfl)) (aA (aH c__law_mixed hr (by omega) (by rfl) (aA (dv 9) (aA aD aC))) (aA (bg (aH c__law_mixed hr (by omega) (by rfl) (aA (dv 9) (aA aD aC))) aD) (aA (dv 10) aC))))))
 (aM (gU (cW hu (bg (aH c__law_mixed hr (by omega) (by rfl) (aA (dv 9) (aA aD aC))) aD) aD) (aU (bw (bI (i:=12) sc.nd rfl (Or.inl rfl) (bT (aA aZ (aA (dv 12) (aA (bT (aA aZ (aA (aH c__law_tree hr (by omega) (by rfl) (aA (cH hu (dv 1) (dv 8) (fun _ _=>rfl)) (aA (aH c__law_mixed hr (by omega) (by rfl) (aA (dv 9) (aA aD aC))) (aA aD (aA (dv 1) aC))))) (aA jY aC)))) aC))))))) dS)
 (aM (gU (A0 (bg (aH c__law_mixed hr (by omega) (by rfl) (aA (dv 9) (aA aD aC))) aD) (dv 5)) (aU (bw (bI (i:=12) sc.nd rfl (Or.inl rfl) (aH c__law_spoilt hr (by omega) (by rfl) (aA (dv 12) (aA (aH c__law_mixed hr (by omega) (by rfl) (aA (dv 9) (aA aD aC))) (aA (dv 1) aC))))))) dS)
 (aU (lF (i:=6) rfl (Or.inl rfl) (bT (aA (dv 8) (aA (cH hu (dv 1) (dv 8) (fun _ _=>rfl)) (aA (dv 12) (aA (cH hu (dv 3) (dv 8) (fun _ _=>rfl)) aC))))))))))))))
 (aU (fK (dv 6)))))) ?_
 rintro ds Q ⟨l,r,kf,of,ns,sp,rfl,hl,hk,hr,q⟩
 refine⟨zL0,fun a _=>?_⟩
 have ndr:r.Nodup:=hr.nodup_iff.mpr hl.nd
 have hrl:r.length<=8:=by rw [hr.length_eq];exact hl.hi
 have h8:=hl.hi
 have h4:=hl.lo
 let δ0:Option D->Option D->Option D->Option D->Option D->Option D->SD:=fun x7 x8 x9 x10 x11 x12=>[some (.lst (l.map D.str)),some (xX l kf),some (.lst (r.map D.str)),some (.dK (kK l of)),some (.lst (ns.map D.int)),some (.int sp),some (.adr a),x7,x8,x9,x10,x11,x12]
 have ec:DC.cutD (l.map D.str) (some 3) none=(l.drop 3).map D.str:=by
  rw [show(some (3:Int))=some ((3:Nat):Int) from rfl,vI (by rw [List.length_map];omega),List.map_drop]
 refine⟨_,rfl,_,rfl,(l.drop 3).map D.str,congrArg (fun t=>[D.lst t]) ec,fun i δ μ=>(∃ x7 x8 x9 x10 x11 x12,δ=δ0 x7 x8 x9 x10 x11 x12)/\∃ pf:Str->Pt,μ.lookup a=some (.lst (((l.drop 3).take i).map (zC kf of pf)))/\∀ n∈(l.drop 3).take i,Tr l 4 19 (pf n),⟨⟨none,none,none,none,none,none,rfl⟩,fun _=>.named "z",b7,fun n hn=>nomatch hn⟩,?_,?_⟩
 ·rintro i dd δ μ hd ⟨⟨x7,x8,x9,x10,x11,x12,rfl⟩,pf,hla,hpf⟩
  obtain⟨n,hn,rfl⟩:=B1 hd
  have hnl:n∈l:=tI (List.mem_of_getElem? hn)
  obtain⟨t,ht⟩:=List.mem_iff_getElem?.mp (hr.mem_iff.mpr hnl)
  have htl:=BW ht
  refine⟨_,rfl,rfl,_,_,rfl,_,_,rfl,rfl,?_⟩
  refine⟨_,rfl,_,rfl,ns,3+i,?_,fun c=>?_⟩
  ·show[D.lst (ns.map D.int),D.int (3+(i:Int))]=_
   rw [show(3:Int)+(i:Int)=((3+i:Nat):Int) by omega]
  intro b hnd
  have hab:a≠b:=fun e=>by
   rw [List.map_append,List.map_cons,List.map_nil,List.singleton_append,List.nodup_cons] at hnd
   exact hnd.1 (e ▸ mem_keys hla)
  have z3:3<=sizeLine:=by decide
  refine⟨_,rfl,_,rfl,r,rfl,_,rfl,n,rfl,t,ht,fun m y hm hy e=>?_,by omega,_,rfl,(r.take t).map D.str,?_,fun k δ μ=>(∃ x11,δ=δ0 (some (.int i)) (some (.str n)) (some (.int c)) (some (.adr b)) x11 x12)/\μ.lookup a=some (.lst (((l.drop 3).take i).map (zC kf of pf)))/\μ.lookup b=some (.dK (dF ((r.take t).take k) fun m=>.str (kf m))),⟨⟨x11,rfl⟩,?_,look_same⟩,?_,?_⟩
  ·subst e
   have:=iG ndr hy ht
   omega
  ·show some (DC.cutD _ none _)=_
   rw [tE,List.map_take]
  ·exact(vp hab).trans hla
  ·rintro k dd δ μ hd ⟨⟨x11,rfl⟩,hla,hlb⟩
   obtain⟨m,hm,rfl⟩:=g7 hd
   have hml:m∈l:=hr.mem_iff.mp (List.mem_of_mem_take (List.mem_of_getElem? hm))
   refine⟨_,rfl,_,rfl,_,.inr m,_,rfl,rfl,bz hml,b,_,rfl,hlb,?_,_,rfl,.inr m,rfl,⟨_,rfl⟩,(cv hab).trans hla,(kG hlb).trans ?_⟩
   ·rw [jX,List.length_take,List.length_take]
    exact Nat.lt_of_le_of_lt (show _<=8 by omega) (by decide)
   ·rw [iK (c_ (List.Sublist.nodup (List.take_sublist _ _) ndr) hm),bo hm]
    refine congrArg (fun t=>some (MD.dK t)) (cT fun x hx=>?_)
    unfold oz
    split
    ·rename_i e;rw [e]
    ·rfl
  ·rintro δ μ ⟨⟨x11,rfl⟩,hla,hlb⟩
   rw [List.length_map,List.take_length] at hlb
   have hin:∀ m∈r.take t,m∈l:=fun m hm=>hr.mem_iff.mp (List.mem_of_mem_take hm)
   have hks:BL (r.take t) kf:=hk.sub hin (by rw [List.length_take];omega)
   refine⟨_,rfl,_,rfl,_,.inr n,_,rfl,rfl,bz hnl,_,rfl,c,31,rfl,fun m1=>⟨_,rfl,c,32,rfl,fun m2=>⟨iP3,_,congrArg (fun d=>some (some d)) (pk hlb),kf n,m1,r.take t,kf,(m2%3).toNat,?_,?_,hks,fun p1 h1=>⟨Pt.deep h1.ok,?_⟩⟩⟩⟩
   ·have:=cX m2 iP3
    rw [Int.toNat_of_nonneg this]
    rfl
   ·have:=cO m2 iP3
    omega
   have he2:(m2%3).toNat<=2:=by have:=cO m2 iP3;omega
   have h1':Tr l 3 13 p1:=h1.up hin (by omega) (by
    generalize (m2%3).toNat=e at he2
    match e,he2 with
    | 0,_=>decide
    | 1,_=>decide
    | 2,_=>decide)
   dsimp only
   have bef:∀{p2:Pt},Tr l 2 4 p2->Tr l 4 19 (.led p1 (.before p2 .aj)):=fun h2=>Dc h1' (sP h2 (.inl rfl))
   refine wY (fun δ μ=>(∃ p:Pt,δ=δ0 (some (.int i)) (some (.str n)) (some (.int c)) (some (.adr b)) x11 (some p.told)/\Tr l 4 19 p)/\μ.lookup a=some (.lst (((l.drop 3).take i).map (zC kf of pf)))) (fun N hN=>?_) ?_
   ·refine⟨_,rfl,c,35,rfl,fun m=>⟨iP3,_,rfl,qT ?_ (hN _ _ ⟨⟨p1,rfl,h1'.up (fun n h=>h) (by decide) (by decide)⟩,hla⟩)⟩⟩
    exact⟨_,rfl,_,rfl,_,rfl,_,.inr n,_,rfl,rfl,bz hnl,_,rfl,c,36,rfl,fun m=>⟨_,rfl,kf n,m,l,kf,1,rfl,by decide,hk,fun p2 h2=>⟨z3,z3,hN _ _ ⟨⟨.led p1 (.before p2 .aj),rfl,bef h2⟩,hla⟩⟩⟩⟩
   rintro δ μ ⟨⟨p,rfl,hp⟩,hla⟩
   refine wY (fun δ μ=>(∃ p:Pt,δ=δ0 (some (.int i)) (some (.str n)) (some (.int c)) (some (.adr b)) x11 (some p.told)/\Tr l 4 19 p)/\μ.lookup a=some (.lst (((l.drop 3).take i).map (zC kf of pf)))) (fun N hN=>?_) ?_
   ·refine⟨_,rfl,c,33,rfl,fun m=>⟨iP6,_,rfl,_,rfl,qT ?_ (hN _ _ ⟨⟨p,rfl,hp⟩,hla⟩)⟩⟩
    exact⟨_,rfl,_,rfl,c,34,rfl,fun m=>⟨_,rfl,p,m,l,kf,rfl,hp.dp,by decide,hk,hp.ok,hp.nm,fun p' hp'=>hN _ _ ⟨⟨p',rfl,hp'.up (fun n h=>h) hp.dp hp.sz⟩,hla⟩⟩⟩
   rintro δ μ ⟨⟨p,rfl,hp⟩,hla⟩
   refine⟨a,_,rfl,hla,?_,_,rfl,_,rfl,_,rfl,_,.inr n,_,rfl,rfl,bz hnl,_,rfl,_,rfl,_,rfl,_,.inr n,_,rfl,rfl,bz hnl,zL4,⟨_,_,_,_,_,_,rfl⟩,BC pf n p,(kG hla).trans ?_,?_⟩
   ·rw [List.length_map,List.length_take,List.length_drop]
    exact Nat.lt_of_le_of_lt (show _<=8 by omega) (by decide)
   ·have hnn:=c_ (List.Sublist.nodup (List.drop_sublist _ _) hl.nd) hn
    rw [bo hn,List.map_append]
    refine congrArg (fun t=>some (MD.lst t)) ?_
    refine congr (congrArg _ (List.map_congr_left fun m hm=>?_)) ?_
    ·unfold zC
     rw [mj (fun e:m=n=>hnn (e ▸ hm))]
    ·rw [List.map_cons,List.map_nil]
     unfold zC
     rw [iV]
   ·intro m hm
    by_cases e:m=n
    ·rw [e,iV];exact hp
    ·rw [mj e]
     rw [bo hn] at hm
     rcases List.mem_append.mp hm with hm|hm
     ·exact hpf m hm
     ·exact absurd (List.mem_singleton.mp hm) e
 ·rintro δ μ ⟨⟨x7,x8,x9,x10,x11,x12,rfl⟩,pf,hla,hpf⟩
  refine iW rfl ?_
  rw [pk hla]
  rw [mx,List.length_map,List.take_length] at hpf ⊢
  exact q pf hpf
def Ck:Option Str->List Str->List Str
 | none,b=>b
 | some o,b=>if o∈b then b else b++[o]
theorem Ln.Cb (x:Ln):x.aO=Ck x.on (x.parts.flatMap Pt.aO):=by
 unfold Ln.aO
 cases x.on<;>rfl
def baseOf (l:List Str)(pf:Str->Pt)(n:Str):List Str:=if n∈l.drop 3 then(pf n).aO else[]
def fB (l:List Str)(of:Str->Option Str)(pf:Str->Pt)(n:Str):List Str:=Ck (of n) (baseOf l pf n)
def qj:cL:=fun ds Q=>∃(l:List Str) (kf:Str->Str) (of:Str->Option Str) (pf:Str->Pt),ds=[.dK (kK l of),.lst ((l.drop 3).map (zC kf of pf))]/\Ji l/\(∀ n∈l.drop 3,Tr l 4 19 (pf n))/\Q (.dK (dF l fun n=>ao (fB l of pf n)))
theorem vE {l:List Str}{pf:Str->Pt}(h:∀ n∈l.drop 3,Tr l 4 19 (pf n))(n:Str):(baseOf l pf n).length<=19:=by
 unfold baseOf
 split
 ·rename_i hn
  exact Nat.le_trans (pf n).ah (h n hn).sz
 ·exact Nat.zero_le _
theorem vF (d:Df K mg "_law_all_needs" eV ["_law_ons_here","_law_lines"])(c__law_needs:az P w K mg base j "_law_needs" ["_law_told"] (ph 4)):az P w K mg base (j+1) "_law_all_needs" ["_law_ons_here","_law_lines"] qj:=by
 refine d.n_ gn (fun ds P P' f ⟨l,kf,of,pf,e,h1,h2,q⟩=>⟨l,kf,of,pf,e,h1,h2,f _ q⟩) (fun ds Q ⟨l,kf,of,pf,e,_⟩=>by rw [e];rfl) (fun f cdv A outer s H E hr=>have hu:=hr.units;have hh:=hr.hd;have sc:=gn
  (aM (dQ (i:=2) sc.nd rfl (Or.inl rfl) gQ)
 (aM (uE PassesOwn.never rfl (i:=0) rfl (Or.inl rfl) (bR (i:=3) sc.nd rfl (Or.inl rfl)) (aU (fX (i:=2) hu rfl (Or.inl rfl) (dv 3) (bb aC))))
 (aM (cY PassesOwn.never rfl (br (dv 1)) (yv (n:=4) rfl (eZ (bR (i:=3) sc.nd rfl (Or.inl rfl)) (eZ (bR (i:=4) sc.nd rfl (Or.inl rfl)) (eZ (bR (i:=5) sc.nd rfl (Or.inl rfl)) (eZ (bR (i:=6) sc.nd rfl (Or.inl rfl)) tQ))))) (aU (fX (i:=2) hu rfl (Or.inl rfl) (dv 3) (aH c__law_needs hr (by omega) (by rfl) (aA (dv 5) aC)))))
 (aM (uE PassesOwn.never rfl (i:=0) rfl (Or.inl rfl) (bR (i:=3) sc.nd rfl (Or.inl rfl)) (aU (gU (o3.td (w_and (lS (cH hu (dv 0) (dv 3) (fun _ _=>rfl)) jY) (kr (lT (cH hu (dv 0) (dv 3) (fun _ _=>rfl)) (cH hu (dv 2) (dv 3) (fun _ _=>rfl)) (by rfl))))) (aU (CT (i:=2) hu rfl (Or.inl rfl) (dv 3) (cA (cH hu (dv 2) (dv 3) (fun _ _=>rfl)) (bb (aA (cH hu (dv 0) (dv 3) (fun _ _=>rfl)) aC))))) dS)))
 (aU (fK (dv 2)))))))) ?_
 rintro ds Q ⟨l,kf,of,pf,rfl,hl,hp,q⟩
 intro a _
 have h8:=hl.hi
 have ek:((kK l of).map fun kv=>keyOf kv.1)=l.map D.str:=mw
 have hlen:∀(m:List Str) (f:Str->D),m.length<=8->(dF m f).length<sizeLine:=fun m f h=>by
  rw [jX]
  exact Nat.lt_of_le_of_lt h (by decide)
 let δ0:Option D->Option D->Option D->Option D->SD:=fun x3 x4 x5 x6=>[some (.dK (kK l of)),some (.lst ((l.drop 3).map (zC kf of pf))),some (.adr a),x3,x4,x5,x6]
 refine⟨_,rfl,?_⟩
 rw [ek]
 refine⟨fun i δ μ=>(∃ x3,δ=δ0 x3 none none none)/\μ=[(a,.dK (dF (l.take i) fun _=>ao []))],⟨⟨none,rfl⟩,rfl⟩,?_,?_⟩
 ·rintro i dd δ μ hd ⟨⟨x3,rfl⟩,rfl⟩
  obtain⟨n,hn,rfl⟩:=g7 hd
  refine⟨zL0,a,_,rfl,b7,hlen _ _ (by rw [List.length_take];omega),_,rfl,.inr n,rfl,⟨_,rfl⟩,?_⟩
  rw [kN,iK (c_ hl.nd hn),bo hn]
  refine congrArg (fun t=>[(a,MD.dK t)]) (cT fun m hm=>?_)
  unfold oz
  split<;>rfl
 rintro δ μ ⟨⟨x3,rfl⟩,rfl⟩
 rw [List.length_map,List.take_length]
 refine⟨_,rfl,(l.drop 3).map (zC kf of pf),rfl,fun i δ μ=>(∃ x3 x4 x5 x6,δ=δ0 x3 x4 x5 x6)/\μ=[(a,.dK (dF l fun n=>ao (if n∈(l.drop 3).take i then(pf n).aO else[])))],⟨⟨_,_,_,_,rfl⟩,?_⟩,?_,?_⟩
 ·refine congrArg (fun t=>[(a,MD.dK t)]) (cT fun m hm=>?_)
  rw [List.take_zero,if_neg (fun z=>nomatch z)]
 ·rintro i dd δ μ hd ⟨⟨x3,x4,x5,x6,rfl⟩,rfl⟩
  obtain⟨n,hn,rfl⟩:=g7 hd
  have hnd:=List.mem_of_getElem? hn
  have ht:=hp n hnd
  refine⟨_,rfl,rfl,_,_,rfl,_,_,rfl,_,_,rfl,_,_,rfl,rfl,?_⟩
  refine⟨_,rfl,pf n,rfl,ht.dp,Nat.le_trans ht.sz (by decide),ht.ok,a,_,rfl,b7,hlen _ _ h8,_,rfl,.inr n,rfl,⟨_,_,_,_,rfl⟩,?_⟩
  rw [kN,qe (tI hnd)]
  refine congrArg (fun t=>[(a,MD.dK t)]) (cT fun m hm=>?_)
  unfold oz
  rw [bo hn]
  by_cases e:m=n
  ·rw [if_pos e,e,if_pos (List.mem_append_right _ (List.mem_singleton.mpr rfl))]
  ·rw [if_neg e]
   have:(m∈(l.drop 3).take i++[n]) ↔ m∈(l.drop 3).take i:=by simp [e]
   simp only [this]
 rintro δ μ ⟨⟨x3,x4,x5,x6,rfl⟩,rfl⟩
 rw [List.length_map,List.take_length]
 refine⟨_,rfl,?_⟩
 rw [ek]
 refine⟨fun i δ μ=>(∃ x3,δ=δ0 x3 x4 x5 x6)/\μ=[(a,.dK (dF l fun n=>ao (if n∈l.take i then fB l of pf n else baseOf l pf n)))],⟨⟨_,rfl⟩,?_⟩,?_,?_⟩
 ·refine congrArg (fun t=>[(a,MD.dK t)]) (cT fun m hm=>?_)
  refine congrArg ao ?_
  exact(if_neg (show¬m∈l.take 0 by rw [List.take_zero];exact fun z=>nomatch z)).symm
 ·rintro i dd δ μ hd ⟨⟨x3,rfl⟩,rfl⟩
  obtain⟨n,hn,rfl⟩:=g7 hd
  have hnl:=List.mem_of_getElem? hn
  have hno:=c_ hl.nd hn
  have hg:eP (dF l fun n=>ao (if n∈l.take i then fB l of pf n else baseOf l pf n)) (.inr n)=some (ao (baseOf l pf n)):=by
   rw [bz hnl,if_neg hno]
  have oq:fB l of pf n=baseOf l pf n->(dF l fun n=>ao (if n∈l.take i then fB l of pf n else baseOf l pf n))=dF l fun n=>ao (if n∈l.take (i+1) then fB l of pf n else baseOf l pf n):=fun h=>cT fun m hm=>by
   rw [bo hn]
   by_cases e:m=n
   ·rw [e,if_neg hno,if_pos (List.mem_append_right _ (List.mem_singleton.mpr rfl)),h]
   ·have:(m∈l.take i++[n]) ↔ m∈l.take i:=by simp [e]
    simp only [this]
  have vf:∀ x3,(bZ [(a,.dK (dF l fun n=>ao (if n∈l.take i then fB l of pf n else baseOf l pf n)))] (δ0 x3 x4 x5 x6))[2]?=some (some (.dK (dF l fun n=>ao (if n∈l.take i then fB l of pf n else baseOf l pf n)))):=fun x3=>congrArg (fun d=>some (some d)) gw
  refine⟨_,rfl,_,rfl,_,.inr n,_,rfl,rfl,bz hnl,?_⟩
  cases ho:of n with
  | none =>
   have e:fB l of pf n=baseOf l pf n:=by unfold fB;rw [ho];rfl
   exact⟨false,rfl,aW (aW ⟨⟨_,rfl⟩,congrArg (fun t=>[(a,MD.dK t)]) (oq e)⟩)⟩
  | some o =>
   refine⟨true,rfl,av ⟨_,rfl,_,rfl,_,.inr n,_,rfl,rfl,bz hnl,?_⟩⟩
   rw [ho]
   refine⟨_,vf _,_,rfl,_,.inr n,_,rfl,rfl,hg,rfl,dZ _,_,rfl,?_⟩
   show if(!inD (.str o) ((baseOf l pf n).map D.str))=true then _ else _
   rw [ig]
   cases hin:(baseOf l pf n).contains o with
   | true =>
    have e:fB l of pf n=baseOf l pf n:=by unfold fB;rw [ho];exact if_pos (List.contains_iff_mem.mp hin)
    exact aW ⟨⟨_,rfl⟩,congrArg (fun t=>[(a,MD.dK t)]) (oq e)⟩
   | false =>
    have e:fB l of pf n=baseOf l pf n++[o]:=by
     unfold fB
     rw [ho]
     exact if_neg fun z=>by rw [List.contains_iff_mem.mpr z] at hin;cases hin
    refine av ⟨_,vf _,_,rfl,_,.inr n,_,rfl,rfl,hg,_,rfl,_,rfl,_,.inr n,_,rfl,rfl,bz hnl,zL1,?_⟩
    rw [ho]
    refine⟨?_,_,rfl,?_,fun p hp=>?_,a,_,rfl,b7,hlen _ _ h8,_,rfl,.inr n,rfl,⟨_,rfl⟩,?_⟩
    ·rw [List.length_map]
     exact Nat.le_trans (show _+1<=20 by have:=vE hp n;omega) (by decide)
    ·rw [List.all_append,dZ];rfl
    ·rw [List.mem_singleton.mp hp];exact⟨_,rfl⟩
    ·rw [kN,qe hnl]
     refine congrArg (fun t=>[(a,MD.dK t)]) (cT fun m hm=>?_)
     unfold oz
     rw [bo hn]
     by_cases em:m=n
     ·rw [if_pos em,em,if_pos (List.mem_append_right _ (List.mem_singleton.mpr rfl)),e]
      unfold ao
      rw [List.map_append]
      rfl
     ·rw [if_neg em]
      have:(m∈l.take i++[n]) ↔ m∈l.take i:=by simp [em]
      simp only [this]
 ·rintro δ μ ⟨⟨x3,rfl⟩,rfl⟩
  refine iW rfl ?_
  rw [gw,List.length_map,List.take_length]
  have e:(dF l fun n=>ao (if n∈l then fB l of pf n else baseOf l pf n))=dF l fun n=>ao (fB l of pf n):=cT fun m hm=>by rw [if_pos hm]
  rw [e]
  exact q
structure Bd (l:List Str) (kf:Str->Str) (of:Str->Option Str) (pf:Str->Pt):Prop where
 xn:Ji l
 kd:BL l kf
 on:∃ r:List Str,r.Perm l/\FK l l r kf of
 tr:∀ n∈l.drop 3,Tr l 4 19 (pf n)
def mT (l:List Str)(n3:Str)(kf:Str->Str)(of:Str->Option Str)(pf:Str->Pt):Sh:=⟨"z",(l.take 3).map fun n=>.lC n (kf n) (of n),[n3],(l.drop 3).map fun n=>.row n (kf n) (pf n) (of n)⟩
def kE (l:List Str)(kf:Str->Str)(of:Str->Option Str)(pf:Str->Pt)(n:Str):Ln:=if n∈l.drop 3 then .row n (kf n) (pf n) (of n) else .lC n (kf n) (of n)
def rk:List Str->Str->Nat
 | [],_=>0
 | x::r,n=>if x=n then 0 else rk r n+1
theorem G6:∀(r:List Str) (n:Str),rk r n<=r.length
 | [],_=>Nat.le_refl _
 | x::r,n=>by
  unfold rk
  rw [List.length_cons]
  split
  ·omega
  ·have:=G6 r n
   omega
theorem DB {n:Str}:∀{r:List Str} {i:Nat},r.Nodup->r[i]?=some n->rk r n=i
 | [],i,_,h=>by rw [List.getElem?_nil] at h;cases h
 | x::r,0,_,h=>by
  rw [List.getElem?_cons_zero] at h
  cases h
  exact if_pos rfl
 | x::r,i+1,nd,h=>by
  rw [List.getElem?_cons_succ] at h
  rw [List.nodup_cons] at nd
  unfold rk
  rw [if_neg (fun e:x=n=>nd.1 (e ▸ List.mem_of_getElem? h)),DB nd.2 h]
section
variable {l:List Str}{n3:Str}{kf:Str->Str}{of:Str->Option Str}{pf:Str->Pt}
theorem CI (n:Str):(kE l kf of pf n).nm=n:=by unfold kE;split<;>rfl
theorem zD (n:Str):(kE l kf of pf n).on=of n:=by unfold kE;split<;>rfl
theorem AS (n:Str):(kE l kf of pf n).qu=(kf n == "truth"):=by unfold kE;split<;>rfl
theorem nC (n:Str):(kE l kf of pf n).parts=if n∈l.drop 3 then[pf n] else[]:=by unfold kE;split<;>rfl
theorem ui {α:Type}{l:List α}(nd:l.Nodup){k:Nat}{x:α}(h:x∈l.take k):x∉l.drop k:=fun z=>by
 have e:=List.take_append_drop k l
 rw [<- e] at nd
 exact(List.nodup_append.mp nd).2.2 x h x z rfl
theorem qY (nd:l.Nodup):(mT l n3 kf of pf).all=l.map (kE l kf of pf):=by
 have e1:(l.take 3).map (fun n=>Ln.lC n (kf n) (of n))=(l.take 3).map (kE l kf of pf):=List.map_congr_left fun n hn=>by unfold kE;rw [if_neg (ui nd hn)]
 have e2:(l.drop 3).map (fun n=>Ln.row n (kf n) (pf n) (of n))=(l.drop 3).map (kE l kf of pf):=List.map_congr_left fun n hn=>by unfold kE;rw [if_pos hn]
 show(l.take 3).map (fun n=>Ln.lC n (kf n) (of n))++(l.drop 3).map (fun n=>Ln.row n (kf n) (pf n) (of n))=_
 rw [e1,e2,<- List.map_append,List.take_append_drop]
theorem nF (nd:l.Nodup):(mT l n3 kf of pf).names=l:=by
 rw [Sh.iF,qY nd,List.map_map]
 have:(Ln.nm∘kE l kf of pf)=id:=by funext n;exact CI n
 rw [this,List.map_id]
theorem zI:(mT l n3 kf of pf).Rows:=fun x hx=>by
 obtain⟨n,_,rfl⟩:=List.mem_map.mp hx
 exact⟨_,_,_,_,rfl⟩
theorem Ko (b:Bd l kf of pf)(n:Str):pY (kE l kf of pf n):=by
 refine⟨?_,?_,?_⟩
 ·rw [Ln.xw];exact(by decide:(1:Nat)<=8)
 ·rw [nC];split
  ·exact(by decide:(1:Nat)<=8)
  ·exact Nat.zero_le _
 ·rw [nC]
  split
  ·rename_i h
   intro p hp
   rw [List.mem_singleton.mp hp]
   exact⟨(b.tr n h).dp,Nat.le_trans (b.tr n h).sz (by decide)⟩
  ·intro p hp;cases hp
theorem vy (b:Bd l kf of pf){n:Str}(hn:n∈l):(mT l n3 kf of pf).qZ n=fB l of pf n:=by
 have nd:=b.xn.nd
 have h:=Sh.qa (s:=mT l n3 kf of pf) (by rw [nF nd];exact nd) (x:=kE l kf of pf n) (by rw [qY nd];exact List.mem_map.mpr ⟨n,hn,rfl⟩)
 rw [CI] at h
 rw [h,Ln.Cb,zD,nC]
 unfold fB baseOf
 split<;>simp
theorem zH (b:Bd l kf of pf)(h3:l[3]?=some n3):(mT l n3 kf of pf).Good:=by
 have nd:=b.xn.nd
 have h4:=b.xn.lo
 have h8:=b.xn.hi
 obtain⟨r,hr,hof⟩:=b.on
 have ndr:r.Nodup:=hr.nodup_iff.mpr nd
 have hrl:r.length<=8:=by rw [hr.length_eq];exact h8
 refine⟨⟨⟨?_,?_⟩,fun x hx=>?_⟩,⟨by show("z":Str).length<=100000;decide,by show jM "z"=true;decide +kernel⟩,⟨Nat.le_refl 1,by show 1<=8;decide,?_⟩,by rw [nF nd];exact nd,by show[n3].Nodup;simp,fun n hn=>?_,rk r,fun n=>Nat.le_trans (G6 r n) (by omega),fun x hx n hn=>?_⟩
 ·show((l.take 3).map _).length<=8
  rw [List.length_map,List.length_take];omega
 ·show((l.drop 3).map _).length<=10
  rw [List.length_map,List.length_drop];omega
 ·rw [qY nd] at hx
  obtain⟨n,hn,rfl⟩:=List.mem_map.mp hx
  exact Ko b n
 ·show 1<=((l.drop 3).map _).length
  rw [List.length_map,List.length_drop];omega
 ·rw [nF nd]
  rcases List.mem_append.mp hn with hn|hn
  ·rw [List.mem_singleton.mp hn];exact List.mem_of_getElem? h3
  ·obtain⟨x,hx,hn⟩:=List.mem_flatMap.mp hn
   rw [qY nd] at hx
   obtain⟨m,hm,rfl⟩:=List.mem_map.mp hx
   rcases List.mem_append.mp hn with hn|hn
   ·rw [zD] at hn
    cases ho:of m with
    | none=>rw [ho] at hn;cases hn
    | some o =>
     rw [ho] at hn
     rw [List.mem_singleton.mp hn]
     exact(hof m hm o ho).1
   ·obtain⟨p,hp,hn⟩:=List.mem_flatMap.mp hn
    rw [nC] at hp
    split at hp
    ·rename_i h
     rw [List.mem_singleton.mp hp] at hn
     exact(b.tr m h).nm n hn
    ·cases hp
 ·rw [qY nd] at hx ⊢
  obtain⟨m,hm,rfl⟩:=List.mem_map.mp hx
  rw [zD] at hn
  obtain⟨g1,g2,i,j,hij,hi,hj⟩:=hof m hm n hn
  refine⟨kE l kf of pf n,List.mem_map.mpr ⟨n,g1,rfl⟩,by rw [Ln.xw,CI];exact List.mem_singleton.mpr rfl,by rw [AS,g2];simp,fun m' hm'=>?_⟩
  rw [zD] at hm'
  obtain⟨_,_,i',j',hij',hi',hj'⟩:=hof n g1 m' hm'
  rw [DB ndr hi',DB ndr hj']
  exact hij'
end
def ze (A:bO)(L:LA):cL:=fun ds Q=>∃(l:List Str) (kf:Str->Str) (of:Str->Option Str) (pf:Str->Pt),ds=[.lst (l.map D.str),xX l kf,.dK (kK l of),.lst ((l.drop 3).map (zC kf of pf))]/\Bd l kf of pf/\∀ n3,l[3]?=some n3->Q ((mT l n3 kf of pf).d A L)
theorem EK {N i:Nat}(hN:4<=N)(hi:i+1<=j)(d:Df K mg "_law_ranked_sheet" dJ ["_law_names_here","_law_kinds_here","_law_ons_here","_law_lines"])(c_part_of:az P w K mg base j "part_of" ["told"] (Ar A N))(k_Input_3:n6 P w K mg base i "Input" L.lC LL [])(k_Row_4:n6 P w K mg base i "Row" L.row HC [])(k_Sheet_4:n6 P w K mg base i "Sheet" L.sh (LM A L) []) :
  az P w K mg base (j+1) "_law_ranked_sheet" ["_law_names_here","_law_kinds_here","_law_ons_here","_law_lines"] (ze A L):=by
 refine d.cp fH (fun ds P P' f ⟨l,kf,of,pf,e,h1,q⟩=>⟨l,kf,of,pf,e,h1,fun n3 h=>f _ (q n3 h)⟩) (fun ds Q ⟨l,kf,of,pf,e,_⟩=>by rw [e];rfl) (fun f cdv A outer s H E hr=>have hu:=hr.units;have hh:=hr.hd;have sc:=fH
  (aI (JR (i:=4) sc.nd rfl (Or.inl rfl) (x:="_law_name") (caps:=[1,2]) (cn:=["_law_kinds_here","_law_ons_here"]) (cl:=[("_law_ons_here",s.heap.objs.size+2),("_law_kinds_here",s.heap.objs.size+1)]) (o6 (by rfl) (by rfl) (by decide +kernel) (gR ["_law_ons_here","_law_kinds_here"] rfl (by decide +kernel)) (by decide +kernel) (b_ (by rfl) (b_ (by rfl) dY)) (.cons ⟨rfl,.inl rfl,rfl⟩ (.cons ⟨rfl,.inl rfl,rfl⟩ .nil))) rfl (br (dz (dv 0) g8 (fM aD))) (fun C fp s₂ H₂=>bF (i:=0) (show(["_law_name","_law_kinds_here","_law_ons_here"]:List Str).Nodup by decide +kernel) rfl (Or.inl rfl) (.inr rfl)) (fun C fp s₂ H₂=>dX) (fun C fp s₂ H₂=>(pW k_Input_3 hr (by omega) (by rfl) (aA (dv 0) (aA (cH hu (dv 1) (dv 0) (fun _ _=>rfl)) (aA (cH hu (dv 2) (dv 0) (fun _ _=>rfl)) aC))))))
 (aI (LC (k:=5) sc.nd rfl (Or.inl rfl) (x:="_law_name") (y:="_law_kind") (z:="_law_told") (u:="_law_on") (caps:=[]) (cn:=[]) (cl:=[]) (h_ (by rfl) (by rfl) (by decide +kernel) (by decide +kernel) (by decide +kernel)) rfl (br (dv 3)) (fun C fp s₂ H₂=>Cw rfl (kL (bF (i:=0) (show(["_law_name","_law_kind","_law_told","_law_on"]:List Str).Nodup by decide +kernel) rfl (Or.inl rfl) (.inr rfl)) (kL (bF (i:=1) (show(["_law_name","_law_kind","_law_told","_law_on"]:List Str).Nodup by decide +kernel) rfl (Or.inl rfl) (.inr rfl)) (kL (bF (i:=2) (show(["_law_name","_law_kind","_law_told","_law_on"]:List Str).Nodup by decide +kernel) rfl (Or.inl rfl) (.inr rfl)) (kL (bF (i:=3) (show(["_law_name","_law_kind","_law_told","_law_on"]:List Str).Nodup by decide +kernel) rfl (Or.inl rfl) (.inr rfl)) zS))))) (fun C fp s₂ H₂=>dX) (fun C fp s₂ H₂=>(pW k_Row_4 hr (by omega) (by rfl) (aA (dv 0) (aA (dv 1) (aA (aH c_part_of hr (by omega) (by rfl) (aA (dv 2) aC)) (aA (dv 3) aC)))))))
 (aF (aP (pW k_Sheet_4 hr (by omega) (by rfl) (aA aZ (aA (dv 4) (aA (bb (aA (bU (dv 0) aD (fun _ _=>rfl)) aC)) (aA (dv 5) aC)))))))))) ?_
 rintro ds Q ⟨l,kf,of,pf,rfl,b,q⟩
 have h4:=b.xn.lo
 have h8:=b.xn.hi
 obtain⟨r,hr,hof⟩:=b.on
 obtain⟨n3,h3⟩:∃ n3,l[3]?=some n3:=⟨_,List.getElem?_eq_getElem (by omega)⟩
 have nmok:∀ n∈l,n.length<=100000/\f9 n=true:=fun n hn=>⟨Nat.le_trans (b.xn.ok n hn).2.1 (by decide),(b.xn.ok n hn).1⟩
 have onok:∀ n∈l,FL (of n):=fun n hn=>by
  cases ho:of n with
  | none=>exact True.intro
  | some o=>exact nmok o (hof n hn o ho).1
 have ht:∀ n∈l.take 3,n∈l:=fun n hn=>List.mem_of_mem_take hn
 refine⟨_,rfl,_,rfl,(l.take 3).map D.str,?_,uK (fun n=>(Ln.lC n (kf n) (of n)).d A L) (l.take 3),nJ,lK fun n hn=>⟨rfl,fun _=>?_⟩,rG (uH (by rw [List.length_take];omega)),?_⟩
 ·show some (DC.cutD (l.map D.str) none (some ((3:Nat):Int)))=_
  rw [tE,List.map_take]
 ·exact⟨_,rfl,_,rfl,_,rfl,_,.inr n,_,rfl,rfl,bz (ht n hn),_,rfl,_,rfl,_,.inr n,_,rfl,rfl,bz (ht n hn),n,kf n,of n,rfl,(nmok n (ht n hn)).1,(nmok n (ht n hn)).2,onok n (ht n hn),b.kd.kd n (ht n hn),rfl⟩
 rw [nK]
 refine⟨_,rfl,(l.drop 3).map (zC kf of pf),rfl,uK (fun n=>(Ln.row n (kf n) (pf n) (of n)).d A L) (l.drop 3),nJ,lK fun n hn=>⟨_,_,_,_,rfl,rfl,fun _=>?_⟩,rG (uH (by rw [List.length_drop];omega)),?_⟩
 ·have hnl:=tI hn
  have t:=b.tr n hn
  exact⟨_,rfl,_,rfl,_,rfl,pf n,rfl,Nat.le_trans t.dp hN,t.ok,⟨Nat.le_trans t.dp (by decide),Nat.le_trans t.sz (by decide)⟩,_,rfl,n,kf n,(pf n).d A,of n,rfl,(nmok n hnl).1,(nmok n hnl).2,onok n hnl,b.kd.kd n hnl,rfl⟩
 rw [nK]
 refine⟨_,rfl,_,rfl,.str n3,ky (i:=3) (by rw [List.getElem?_map,h3];rfl),zL1,_,rfl,mT l n3 kf of pf,?_,zH b h3,q n3 h3⟩
 show[D.str "z",_,_,_]=[D.str "z",_,_,_]
 unfold mT
 rw [List.map_map,List.map_map]
 rfl
def NT (l:List Str)(kf:Str->Str)(of:Str->Option Str)(pf:Str->Pt):List D:=[.lst (l.map D.str),xX l kf,.dK (kK l of),.lst ((l.drop 3).map (zC kf of pf))]
def zW:cL:=fun ds Q=>∃ ns mo:List Int,ds=[.lst (ns.map D.int),.lst (mo.map D.int)]/\mo.length=3/\∀ l kf of pf,Bd l kf of pf->Q (.tup (NT l kf of pf))
def sJ (A:bO)(L:LA):cL:=fun ds Q=>∃(l:List Str) (kf:Str->Str) (of:Str->Option Str) (pf:Str->Pt),ds=[.tup (NT l kf of pf)]/\Bd l kf of pf/\∀ n3,l[3]?=some n3->Q ((mT l n3 kf of pf).d A L)
structure Nd (l:List Str) (nf:Str->List Str):Prop where
 nd:l.Nodup
 len:l.length<=8
 ok:∀ n∈l,PyData.strOk n=true
 nl:∀ n∈l,(nf n).length<1000
 no:∀ n∈l,∀ x∈nf n,PyData.strOk x=true
def Du (l:List Str)(nf:Str->List Str):D:=.dK (dF l fun n=>ao (nf n))
theorem DX {l:List Str}(h:BP l){k:Nat}(h1:4<=k)(h2:k<=8):Ji (l.take k):=by
 have hl:=h.len
 refine⟨?_,?_,List.Sublist.nodup (List.take_sublist _ _) h.nd,fun x hx=>h.ok x (List.mem_of_mem_take hx)⟩
 ·rw [List.length_take];omega
 ·rw [List.length_take];omega
theorem EA (d:Df K mg "_law_built" i3 ["_law_script","_law_most"])(n_len:mg "len"=none)(c__law_mixed:az P w K mg base j "_law_mixed" ["_law_cell_here","_law_k"] gq)(c__law_cell:az P w K mg base j "_law_cell" ["_law_script","_law_k"] yJ)(c__law_names:az P w K mg base j "_law_names" ["_law_cell_here"] zb)
  (c__law_kinds:az P w K mg base j "_law_kinds" ["_law_names_here","_law_cell_here","_law_many"] zX)(c__law_ranked:az P w K mg base j "_law_ranked" ["_law_names_here","_law_cell_here"] wV)(c__law_ons:az P w K mg base j "_law_ons" ["_law_names_here","_law_kinds_here","_law_ranked_here","_law_cell_here"] DL)
  (c__law_ranked_lines:az P w K mg base j "_law_ranked_lines" ["_law_names_here","_law_kinds_here","_law_ranked_here","_law_ons_here","_law_script","_law_spoilt_here"] zZ):az P w K mg base (j+1) "_law_built" ["_law_script","_law_most"] zW:=by
 refine d.cp lu (fun ds P P' f ⟨ns,mo,e,h3,q⟩=>⟨ns,mo,e,h3,fun l kf of pf h=>f _ (q l kf of pf h)⟩) (fun ds Q ⟨ns,mo,e,_⟩=>by rw [e];rfl) (fun f cdv A outer s H E hr=>have hu:=hr.units;have hh:=hr.hd;have sc:=lu
  (aI (bI (i:=2) sc.nd rfl (Or.inl rfl) (dz (aH c__law_names hr (by omega) (by rfl) (aA (aH c__law_mixed hr (by omega) (by rfl) (aA (aH c__law_cell hr (by omega) (by rfl) (aA (dv 0) (aA aD aC))) (aA aD aC))) aC)) g8 (fM (cA aD (bg (aH c__law_mixed hr (by omega) (by rfl) (aA (aH c__law_cell hr (by omega) (by rfl) (aA (dv 0) (aA aD aC))) (aA aD aC))) aD)))))
 (aI (bI (i:=3) sc.nd rfl (Or.inl rfl) (aH c__law_kinds hr (by omega) (by rfl) (aA (dv 2) (aA (aH c__law_cell hr (by omega) (by rfl) (aA (dv 0) (aA aD aC))) (aA (e_ (dt (by rfl) n_len (aA (dv 2) aC)) aD) aC)))))
 (aI (bI (i:=4) sc.nd rfl (Or.inl rfl) (aH c__law_ranked hr (by omega) (by rfl) (aA (dv 2) (aA (aH c__law_cell hr (by omega) (by rfl) (aA (dv 0) (aA aD aC))) aC))))
 (aI (bI (i:=5) sc.nd rfl (Or.inl rfl) (aH c__law_ons hr (by omega) (by rfl) (aA (dv 2) (aA (dv 3) (aA (dv 4) (aA (aH c__law_cell hr (by omega) (by rfl) (aA (dv 0) (aA aD aC))) aC))))))
 (aI (bI (i:=6) sc.nd rfl (Or.inl rfl) (aH c__law_ranked_lines hr (by omega) (by rfl) (aA (dv 2) (aA (dv 3) (aA (dv 4) (aA (dv 5) (aA (dv 0) (aA (bU (dv 1) (bg (aH c__law_mixed hr (by omega) (by rfl) (aA (aH c__law_cell hr (by omega) (by rfl) (aA (dv 0) (aA aD aC))) (aA aD aC))) aD) (fun _ _=>rfl)) aC))))))))
 (aF (aP (bT (aA (dv 2) (aA (dv 3) (aA (dv 5) (aA (dv 6) aC))))))))))))) ?_
 rintro ds Q ⟨ns,mo,rfl,hmo,q⟩
 refine⟨_,rfl,ns,0,rfl,fun c0=>⟨c0,1,rfl,fun m0=>⟨m0,rfl,fun l8 h8=>⟨_,rfl,ns,1,rfl,fun c1=>⟨c1,2,rfl,fun m1=>⟨iP5,_,rfl,?_⟩⟩⟩⟩⟩⟩
 have lo:=cX m1 iP5
 have hi:=cO m1 iP5
 have hl:=DX h8 (k:=4+(m1%5).toNat) (by omega) (by omega)
 have ec:DC.cutD (l8.map D.str) none (some (4+m1%5))=(l8.take (4+(m1%5).toNat)).map D.str:=by
  rw [show(4:Int)+m1%5=((4+(m1%5).toNat:Nat):Int) by omega,tE,List.map_take]
 dsimp only [KC]
 rw [ec]
 generalize l8.take (4+(m1%5).toNat)=l at hl
 refine⟨_,rfl,_,rfl,ns,2,rfl,fun c2=>⟨_,rfl,_,_,rfl,rfl,l,c2,?_,hl,fun kf hk=>?_⟩⟩
 ·show[_,_,D.int (((l.map D.str).length:Int) - 3)]=_
  rw [List.length_map]
 refine⟨_,rfl,_,rfl,ns,1,rfl,fun c3=>⟨l,c3,rfl,hl.hi,fun r hr=>?_⟩⟩
 refine⟨_,rfl,_,rfl,_,rfl,_,rfl,ns,2,rfl,fun c4=>⟨l,r,kf,c4,rfl,hl,hk,hr,fun of ho=>?_⟩⟩
 refine⟨_,rfl,_,rfl,_,rfl,_,rfl,_,rfl,_,rfl,_,rfl,ns,1,rfl,fun c5=>⟨c5,3,rfl,fun m5=>⟨iP3,?_⟩⟩⟩
 obtain⟨sp,_,es⟩:=mn (xs:=mo) D.int (cX m5 iP3) (by rw [hmo];exact cO m5 iP3)
 refine⟨_,es,l,r,kf,of,ns,sp,rfl,hl,hk,hr,fun pf hp=>?_⟩
 exact⟨_,rfl,_,rfl,_,rfl,_,rfl,zL4,q l kf of pf ⟨hl,hk,⟨r,hr,ho⟩,hp⟩⟩
theorem xB (d:Df K mg "_law_sheet_of" fT ["_law_built_here"])(c__law_ranked_sheet:az P w K mg base j "_law_ranked_sheet" ["_law_names_here","_law_kinds_here","_law_ons_here","_law_lines"] (ze A L)):az P w K mg base (j+1) "_law_sheet_of" ["_law_built_here"] (sJ A L):=by
 refine d.cp iR (fun ds P P' f ⟨l,kf,of,pf,e,h,q⟩=>⟨l,kf,of,pf,e,h,fun n3 h3=>f _ (q n3 h3)⟩) (fun ds Q ⟨l,kf,of,pf,e,_⟩=>by rw [e];rfl) (fun f cdv A outer s H E hr=>have hu:=hr.units;have hh:=hr.hd;have sc:=iR
  (aF (aP (aH c__law_ranked_sheet hr (by omega) (by rfl) (aA (bU (dv 0) aD (fun _ _=>rfl)) (aA (bU (dv 0) aD (fun _ _=>rfl)) (aA (bU (dv 0) aD (fun _ _=>rfl)) (aA (bU (dv 0) aD (fun _ _=>rfl)) aC)))))))) ?_
 rintro ds Q ⟨l,kf,of,pf,rfl,b,q⟩
 exact⟨_,rfl,_,rfl,_,rfl,_,rfl,_,rfl,_,rfl,_,rfl,_,rfl,l,kf,of,pf,rfl,b,q⟩
def zd:cL:=fun ds Q=>∃(l:List Str) (nf:Str->List Str),ds=[Du l nf,Du l nf]/\Nd l nf/\Q (.bl true)
theorem EJ (d:Df K mg "_law_right" i9 ["_law_found","_law_due"])(n_isinstance:mg "isinstance"=none)(n_dict:mg "dict"=none)(n_list:mg "list"=none)(n_str:mg "str"=none):az P w K mg base (j+1) "_law_right" ["_law_found","_law_due"] zd:=by
 refine d.n_ l6 (fun ds P P' f ⟨l,nf,e,h,q⟩=>⟨l,nf,e,h,f _ q⟩) (fun ds Q ⟨l,nf,e,_⟩=>by rw [e];rfl) (fun f cdv A outer s H E hr=>have hu:=hr.units;have hh:=hr.hd;have sc:=l6
  (aM (gU (o3.td (w_or (jL (gu (CC (by rfl) n_isinstance (by rfl) n_dict (dv 0)))) (mE (Jb hu (yj hh (by rfl) n_list (aA (dv 0) aC)) (yj hh (by rfl) n_list (aA (dv 1) aC)))))) (aU (bw (aP tF))) dS)
 (aM (uE PassesOwn.never rfl (i:=1) rfl (Or.inl rfl) (bR (i:=2) sc.nd rfl (Or.inl rfl)) (aM (gU (o3.td (w_or (jL (gu (CD (by rfl) n_isinstance (by rfl) n_list (cH hu (dv 0) (dv 2) (fun _ _=>rfl))))) (mE (Jb hu (cH hu (dv 0) (dv 2) (fun _ _=>rfl)) (cH hu (dv 1) (dv 2) (fun _ _=>rfl)))))) (aU (bw (aP tF))) dS)
 (aU (gU (Jb hu (mN (x:="_law_one") (caps:=[]) (cn:=[]) (cl:=[]) (h_ (by rfl) (by rfl) (by decide +kernel) (by decide +kernel) (by decide +kernel)) rfl (br (cH hu (dv 0) (dv 2) (fun _ _=>rfl))) (fun C fp s₂ H₂=>bF (i:=0) (show(["_law_one"]:List Str).Nodup by decide +kernel) rfl (Or.inl rfl) (.inr rfl)) (fun C fp s₂ H₂=>(oy (jL (gu (El (by rfl) n_isinstance (by rfl) n_str (dv 0)))))) (fun C fp s₂ H₂=>(dv 0))) (bb aC)) (aU (bw (aP tF))) dS))))
 (aU (bw (aP tF)))))) ?_
 rintro ds Q ⟨l,nf,rfl,h,q⟩
 refine⟨_,rfl,true,rfl,true,rfl,aW ⟨_,rfl,_,rfl,_,rfl,_,rfl,?_⟩⟩
 rw [mw]
 refine ud rfl (nA h.ok) (by decide) ⟨_,rfl,aW ⟨_,rfl,?_⟩⟩
 rw [mw]
 refine⟨fun i δ μ=>(∃ x2,δ=[some (Du l nf),some (Du l nf),x2])/\μ=[],⟨⟨none,rfl⟩,rfl⟩,?_,?_⟩
 ·rintro i dd δ μ hd ⟨⟨x2,rfl⟩,rfl⟩
  obtain⟨n,hn,rfl⟩:=g7 hd
  have hnl:=List.mem_of_getElem? hn
  refine⟨_,rfl,_,rfl,_,.inr n,_,rfl,rfl,bz hnl,true,rfl,true,rfl,aW ⟨_,rfl,_,rfl,_,.inr n,_,rfl,rfl,bz hnl,_,rfl,_,rfl,_,.inr n,_,rfl,rfl,bz hnl,ud rfl (nA (h.no n hnl)) (by decide) ⟨_,rfl,aW ?_⟩⟩⟩
  refine⟨_,rfl,_,rfl,_,.inr n,_,rfl,rfl,bz hnl,(nf n).map D.str,rfl,outF (fun _=>false) D.str (nf n),iH,fm fun x hx=>⟨_,rfl,true,rfl,true,rfl,rfl,fun z=>nomatch z⟩,rG (Nat.lt_trans (h.nl n hnl) (by decide)),zL0,?_⟩
  rw [iI]
  have e0:((nf n).filter fun _=>false)=[]:=by simp
  rw [e0]
  exact Gf (nA (l:=[]) fun x hx=>nomatch hx) (by decide) ⟨_,rfl,aW ⟨⟨_,rfl⟩,rfl⟩⟩
 ·rintro δ μ ⟨⟨x2,rfl⟩,rfl⟩
  exact q
def LG:cL:=fun ds Q=>∃ ns:List Int,ds=[.lst (ns.map D.int)]/\Q (.bl true)
theorem Ac {p:Pt}:∀{n:Str},n∈p.aO->n∈p.names:=by
 induction p with
 | given v=>intro n h;exact h
 | named v=>intro n h;exact h
 | before p f _=>intro n h;cases h
 | turned p ih=>intro n h;obtain⟨l,hl,h⟩:=fz h;simp only [List.mem_cons,List.not_mem_nil,or_false] at hl;rcases hl with rfl|rfl;exact cg (l:=p.names) (by simp) (ih h);cases h
 | pair g a b iha ihb =>
  intro n h
  obtain⟨l,hl,h⟩:=fz h
  simp only [List.mem_cons,List.not_mem_nil,or_false] at hl
  rcases hl with rfl|rfl|rfl
  ·exact cg (l:=a.names) (by simp) (iha h)
  ·exact cg (l:=b.names) (by simp) (ihb h)
  ·cases h
 | choice t a b iht iha ihb =>
  intro n h
  obtain⟨l,hl,h⟩:=fz h
  simp only [List.mem_cons,List.not_mem_nil,or_false] at hl
  rcases hl with rfl|rfl|rfl|rfl
  ·exact cg (l:=t.names) (by simp) (iht h)
  ·exact cg (l:=a.names) (by simp) (iha h)
  ·exact cg (l:=b.names) (by simp) (ihb h)
  ·cases h
 | led a b iha ihb =>
  intro n h
  obtain⟨l,hl,h⟩:=fz h
  simp only [List.mem_cons,List.not_mem_nil,or_false] at hl
  rcases hl with rfl|rfl|rfl
  ·exact cg (l:=a.names) (by simp) (iha h)
  ·exact cg (l:=b.names) (by simp) (ihb h)
  ·cases h
 | cI p m ih =>
  intro n h
  obtain⟨l,hl,h⟩:=fz h
  simp only [List.mem_cons,List.not_mem_nil,or_false] at hl
  rcases hl with rfl|rfl
  ·exact cg (l:=p.names) (by simp) (ih h)
  ·exact cg (l:=[m]) (by simp) h
 | held p m f ih =>
  intro n h
  obtain⟨l,hl,h⟩:=fz h
  simp only [List.mem_cons,List.not_mem_nil,or_false] at hl
  rcases hl with rfl|rfl
  ·exact cg (l:=p.names) (by simp) (ih h)
  ·exact cg (l:=[m]) (by simp) h
theorem Jx {l:List Str}{kf:Str->Str}{of:Str->Option Str}{pf:Str->Pt}(b:Bd l kf of pf):Nd l (fB l of pf):=by
 have hin:∀ n∈l,∀ x∈fB l of pf n,x∈l:=fun n hn x hx=>by
  obtain⟨r,_,hof⟩:=b.on
  have hb:∀ x∈baseOf l pf n,x∈l:=fun x hx=>by
   unfold baseOf at hx
   split at hx
   ·rename_i h
    exact(b.tr n h).nm x (Ac hx)
   ·cases hx
  unfold fB at hx
  cases ho:of n with
  | none=>rw [ho] at hx;exact hb x hx
  | some o =>
   rw [ho] at hx
   have hx:x∈if o∈baseOf l pf n then baseOf l pf n else baseOf l pf n++[o]:=hx
   split at hx
   ·exact hb x hx
   ·rcases List.mem_append.mp hx with hx|hx
    ·exact hb x hx
    ·rw [List.mem_singleton.mp hx];exact(hof n hn o ho).1
 refine⟨b.xn.nd,b.xn.hi,fun n hn=>(b.xn.ok n hn).2.2,fun n hn=>?_,fun n hn x hx=>(b.xn.ok x (hin n hn x hx)).2.2⟩
 have h1:=vE b.tr n
 unfold fB Ck
 split
 ·omega
 ·split
  ·omega
  ·rw [List.length_append]
   show _+1<_
   omega
theorem BG {μ:Mu}{a:Addr}{l:List Str}{nf:Str->List Str}{af:Str->Addr}(h:D1 μ a l nf af):mD μ (.adr a)=Du l nf:=by
 unfold mD
 rw [pk h.1]
 show D.dK ((dF l fun n=>.adr (af n)).map fun kv=>(kv.1,ay μ kv.2))=_
 unfold dF Du dF
 rw [List.map_map]
 refine congrArg D.dK (List.map_congr_left fun n hn=>?_)
 show((Sum.inr n:Key),ay μ (.adr (af n)))=_
 rw [pk (h.2 n hn)]
 rfl
theorem BF {μ:Mu}{l:List Str}{nf:Str->List Str}:mD μ (Du l nf)=Du l nf:=by
 show D.dK ((dF l fun n=>ao (nf n)).map fun kv=>(kv.1,ay μ kv.2))=_
 unfold dF Du dF
 rw [List.map_map]
 rfl
theorem Lf {μ:Mu}{δ:SD}{i:Nat}{d:D}{Q:D->Prop}(h:δ[i]?=some (some d))(q:Q (mD μ d)):ny i (kq μ δ) Q:=⟨mD μ d,by unfold kq;rw [List.getElem?_map,h];rfl,q⟩
theorem Ig {x qual:Str}{st:Stmt}{f:Addr}{fd:FuncData}{N ps:List Str}{k:Nat}{sd:cL}{t:eY}(F:wy K x qual st f fd)(S:aE N ps (aB st))(len:∀ ds Q,sd ds Q->ds.length=ps.length)
  (hb:∀(f:Addr) (cdv:Value) (A:Around) (outer:List Env) (s:Shared) (H:Hp) (E:XK),cD k (A.deeper (envOfC qual (aB st) s.heap.objs.size f cdv))->rA (Bx P w K mg base N qual st f cdv A outer s H E) (bE st) t)
  (hr:∀ ds Q,sd ds Q->t { nx:=fun _ _=>Q .aj,rt:=fun d μ=>Q (ay μ d)} (cb N ds) []):cN P w K mg base pQ (k+1) f fd ps (qm K sd):=Mo F S len (hb f) hr
theorem B5 {n k:Str}{p:Pt}{o:Option Str}{Q:D->Prop}(hL:pq K L)(q:Q (p.d A)):∃ C gs r,(Ln.row n k p o).d A L=.obj C gs/\q_ K C/\cq K C "part"/\gs.lookup ("part":Str)=some r/\Q r:=⟨_,_,_,rfl,hL.cl L.row (by simp),hL.fD L.row (by simp) _ (by decide),(by kernel_rfl),q⟩
theorem Ih {f:Addr}{fd:FuncData}(hL:pq K L)(F:wy K "law" "law" kU f fd)
  (c__law_built:az P w K mg base j "_law_built" ["_law_script","_law_most"] zW)(c__law_sheet_of:az P w K mg base j "_law_sheet_of" ["_law_built_here"] (sJ A L))(c__law_all_needs:az P w K mg base j "_law_all_needs" ["_law_ons_here","_law_lines"] qj)
  (jW:fq P w K mg base j "needs_of" ["sheet"] (G_ A L))(mK:az P w K mg base j "needs_of" ["sheet"] (LH A L))(c__law_right:az P w K mg base j "_law_right" ["_law_found","_law_due"] zd)(m_told:MP P w K mg base A j "told" 4 Pt.told) :
  cN P w K mg base pQ (j+1) f fd ["_law_script"] (qm K LG):=by
 refine Ig F DF (fun ds Q ⟨ns,e,_⟩=>by rw [e];rfl) (fun f cdv A outer s H E hr=>have hu:=hr.units;have hh:=hr.hd;have sc:=DF
  (aM (bw (bI (i:=1) sc.nd rfl (Or.inl rfl) (aH c__law_built hr (by omega) (by rfl) (aA (dv 0) (aA (bb (jT (by rfl))) aC)))))
 (aM (bw (bI (i:=2) sc.nd rfl (Or.inl rfl) (aH c__law_sheet_of hr (by omega) (by rfl) (aA (dv 1) aC))))
 (aM (bw (bI (i:=3) sc.nd rfl (Or.inl rfl) (aH c__law_all_needs hr (by omega) (by rfl) (aA (bU (dv 1) aD (fun _ _=>rfl)) (aA (bU (dv 1) aD (fun _ _=>rfl)) aC)))))
 (aM (dQ (i:=4) sc.nd rfl (Or.inl rfl) (rV jW hr (by omega) (by rfl) (aA (dv 2) aC)))
 (aM (IV (jL (gu (aH c__law_right hr (by omega) (by rfl) (aA (dv 4) (aA (dv 3) aC))))) (aU (fK tF)) dS)
 (aM (AW (i:=4) (j:=5) PassesOwn.never rfl hu sc.nd rfl (Or.inl rfl) rfl (Or.inl rfl) (Or.inl rfl) (by decide) aZ (fun _ _=>rfl))
 (aM (AV (i:=4) rfl (Or.inl rfl))
 (aM (gU (jL (gu (aH c__law_right hr (by omega) (by rfl) (aA (aH mK hr (by omega) (by rfl) (aA (dv 2) aC)) (aA (dv 3) aC))))) (aU (fK tF)) dS)
 (aU (fK (xD hu (mN (x:="_law_line") (caps:=[]) (cn:=[]) (cl:=[]) (h_ (by rfl) (by rfl) (by decide +kernel) (by decide +kernel) (by decide +kernel)) rfl (br (aT K rfl (dv 2) (by rfl))) (fun C fp s₂ H₂=>bF (i:=0) (show(["_law_line"]:List Str).Nodup by decide +kernel) rfl (Or.inl rfl) (.inr rfl)) (fun C fp s₂ H₂=>dX) (fun C fp s₂ H₂=>(cE m_told hr (by omega) (aT K rfl (dv 0) (by rfl))))) (mN (x:="_law_line") (caps:=[]) (cn:=[]) (cl:=[]) (h_ (by rfl) (by rfl) (by decide +kernel) (by decide +kernel) (by decide +kernel)) rfl (br (bU (dv 1) aD (fun _ _=>rfl))) (fun C fp s₂ H₂=>bF (i:=0) (show(["_law_line"]:List Str).Nodup by decide +kernel) rfl (Or.inl rfl) (.inr rfl)) (fun C fp s₂ H₂=>dX) (fun C fp s₂ H₂=>(bU (dv 0) aD (fun _ _=>rfl)))))))))))))))) ?_
 rintro ds Q ⟨ns,rfl,q⟩
 refine⟨_,rfl,zL3,ns,[0,3,6],rfl,rfl,fun l kf of pf b=>?_⟩
 refine⟨_,rfl,l,kf,of,pf,rfl,b,fun n3 h3=>?_⟩
 refine⟨_,rfl,_,rfl,_,rfl,_,rfl,l,kf,of,pf,rfl,b.xn,b.tr,?_⟩
 have nd:=Jx b
 have hg:=zH (n3:=n3) b h3
 have h8:=b.xn.hi
 have en:(mT l n3 kf of pf).names=l:=nF b.xn.nd
 refine⟨_,rfl,mT l n3 kf of pf,rfl,hg.ok,hg.nd,zI,fun a μ af h _=>?_⟩
 have ho:D1 μ a l (fB l of pf) af:=by
  rw [en] at h
  exact⟨h.1,fun n hn=>by rw [h.2 n hn,vy b hn]⟩
 rw [List.append_nil]
 refine Lf rfl ?_
 rw [BG ho]
 refine Lf (d:=Du l (fB l of pf)) rfl ?_
 rw [BF]
 refine⟨l,fB l of pf,rfl,nd,true,rfl,aW ?_⟩
 refine⟨a,_,1000,rfl,ho.1,fun kv hkv=>?_,?_,(by show 5<6;decide),fun μ' ha=>?_⟩
 ·obtain⟨n,hn,rfl⟩:=List.mem_map.mp hkv
  exact⟨af n,_,rfl,ho.2 n hn,by rw [List.length_map];exact Nat.le_of_lt (nd.nl n hn)⟩
 ·rw [jX]
  exact Nat.lt_of_le_of_lt (show 1000+l.length<=1008 by omega) (by decide)
 refine⟨a,_,rfl,ha,?_⟩
 refine⟨_,rfl,mT l n3 kf of pf,rfl,hg.ok,hg.nd,zI,_,rfl,l,fB l of pf,?_,nd,true,rfl,aW ?_⟩
 ·show[D.dK (mT l n3 kf of pf).xj,_]=_
  unfold Sh.xj
  rw [en]
  refine congrArg (fun t=>[D.dK t,_]) (cT fun n hn=>?_)
  rw [vy b hn]
 have hll:(l.drop 3).length<sizeLine:=uH (by rw [List.length_drop];omega)
 refine⟨_,rfl,_,_,.tup ((l.drop 3).map fun n=>(Ln.row n (kf n) (pf n) (of n)).d A L),rfl,hL.cl L.sh (by simp),hL.fD L.sh (by simp) _ (by decide),?_,(l.drop 3).map fun n=>(Ln.row n (kf n) (pf n) (of n)).d A L,rfl,uK (fun n=>(pf n).told) (l.drop 3),nJ,lK fun n hn=>⟨rfl,fun _=>?_⟩,rG hll,?_⟩
 ·have e:((mT l n3 kf of pf).ls.map (Ln.d A L))=(l.drop 3).map fun n=>(Ln.row n (kf n) (pf n) (of n)).d A L:=by
   show((l.drop 3).map _).map _=_
   rw [List.map_map]
   rfl
  rw [e]
  kernel_rfl
 ·exact bJ jE cV ⟨_,rfl,B5 hL rfl⟩ (b.tr n hn).dp rfl
 ·rw [nK]
  refine⟨_,rfl,_,rfl,(l.drop 3).map (zC kf of pf),rfl,uK (fun n=>(pf n).told) (l.drop 3),nJ,lK fun n hn=>⟨rfl,fun _=>⟨_,rfl,_,rfl,rfl⟩⟩,rG hll,?_⟩
  rw [nK]
  refine ud (k:=5) rfl (tw fun d hd=>?_) (by decide) q
  obtain⟨n,hn,rfl⟩:=List.mem_map.mp hd
  exact(Pt.lay (b.tr n hn).ok).up (b.tr n hn).dp
end
/-! ### where things lie -/
def BN (x qual:Str)(st:Stmt)(ps:List Str):Prop:=∀(kV doc pm:Value) (an:Option Addr) (cdv ct:Value) (us:List Value),us.length=ps.length->bindArgs (fnOf x qual (cz st) (bE st) (aB st) .none kV doc pm an cdv ct) ⟨us,[]⟩=pure (ps.zip us)
section
variable {w:World}{K:PySem.W.Frag}{h:Heap}{mg:Str->Option Value}{x m qual:Str}{st:Stmt}{ps:List Str}{f C:Addr}{od an:Option Addr}{sl:Array (Option Value)}{oc kV dc pm cd ct dV:Value}
theorem bD (X:K.In h)(G:h.Ns mainGlobals mg)(a:nsIn K mainGlobals x=some (some (.ref f)):=by k_is)(l:K.lookup f=some ⟨oc,od,.func (fnOf x x (cz st) (bE st) (aB st) .none kV dc pm an cd ct),sl⟩:=by k_is)
  (c:codeIn K cd x=true:=by k_is)(k:keepIn K (.ref f)=true:=by k_is)(b:BN x x st ps:=by first|exact(fun _ _ _ _ _ _ us hl=>match us,hl with|[_],_=>rfl)|exact(fun _ _ _ _ _ _ us hl=>match us,hl with|[_,_],_=>rfl)|exact(fun _ _ _ _ _ _ us hl=>match us,hl with|[_,_,_],_=>rfl)|exact(fun _ _ _ _ _ _ us hl=>match us,hl with|[_,_,_,_],_=>rfl)|exact(fun _ _ _ _ _ _ us hl=>match us,hl with|[_,_,_,_,_],_=>rfl)|exact(fun _ _ _ _ _ _ us hl=>match us,hl with|[_,_,_,_,_,_],_=>rfl)):Df K mg x st ps:=⟨⟨f,_,oF (st:=st) l c k,mg_of X G a,(oF (st:=st) l c k).binds b⟩⟩
structure cJ (K:PySem.W.Frag) (C:Addr) (m qual:Str) (st:Stmt):Prop where
 ex:∃ f fd,wy K m qual st f fd/\Meth K C m f/\Binds K fd ["self"] []
theorem aS (a:findIn K (.ref C) m=some (some (.ref f)):=by k_is)(l:K.lookup f=some ⟨oc,od,.func (fnOf m qual (cz st) (bE st) (aB st) .none kV dc pm an cd ct),sl⟩:=by k_is)
  (c:codeIn K cd qual=true:=by k_is)(k:keepIn K (.ref f)=true:=by k_is)(n:isFn K (.ref f)=true:=by k_is)(b:BN m qual st ["self"]:=by exact(fun _ _ _ _ _ _ us hl=>match us,hl with|[_],_=>rfl)):cJ K C m qual st:=⟨⟨f,_,oF (st:=st) l c k,⟨a,n,k⟩,(oF (st:=st) l c k).binds b⟩⟩
theorem cJ.dm (d:cJ K C m qual st)(c:q_ K C):Dm K C m qual st ["self"]:=let ⟨f,fd,F,M,b⟩:=d.ex;⟨⟨f,fd,F,M,c,b⟩⟩
theorem o8 (X:K.In h)(G:h.Ns mainGlobals mg)(hc:nsIn K mainGlobals x=some (some (.ref C)):=by k_is)(mk:makesIn K C=true:=by k_is)(ini:findIn K (.ref C) "__init__"=some (some (.ref f)):=by k_is)(fn:isFn K (.ref f)=true:=by k_is)(kp:keepIn K (.ref C)=true:=by k_is)
  (l:K.lookup f=some ⟨oc,od,.func (fnOf "__init__" qual (cz st) (bE st) (aB st) .none kV dc pm an cd ct),sl⟩:=by k_is)(c:codeIn K cd qual=true:=by k_is)(k:keepIn K (.ref f)=true:=by k_is)
  (b:BN "__init__" qual st ps:=by first|exact(fun _ _ _ _ _ _ us hl=>match us,hl with|[_,_],_=>rfl)|exact(fun _ _ _ _ _ _ us hl=>match us,hl with|[_,_,_],_=>rfl)|exact(fun _ _ _ _ _ _ us hl=>match us,hl with|[_,_,_,_],_=>rfl)|exact(fun _ _ _ _ _ _ us hl=>match us,hl with|[_,_,_,_,_],_=>rfl)):Di K mg x C qual st ps [] :=
 ⟨⟨f,_,[],[],⟨⟨oc,od,.none,kV,dc,pm,an,cd,ct,sl,rfl,l,c⟩,k⟩,⟨mk,ini,fn,kp⟩,mg_of X G hc,(oF (st:=st) l c k).binds b,.nil,fun _=>.nil⟩⟩
def uw (x qual:Str)(st:Stmt)(ps:List Str):Prop:=∀(K:PySem.W.Frag) (T:Addr) (ob:Obj) (v:Value) (n:Nat),K.lookup T=some ob->ob.data=.seq #[v] n->∀(kV doc pm:Value) (an:Option Addr) (cdv ct:Value),Binds K (fnOf x qual (cz st) (bE st) (aB st) (.ref T) kV doc pm an cdv ct) ps []
theorem tH {Ta:Addr}{tc v:Value}{td:Option Addr}{tn:Nat}{tsl:Array (Option Value)}(X:K.In h)(G:h.Ns mainGlobals mg)(b:uw "__init__" qual st ps)(hc:nsIn K mainGlobals x=some (some (.ref C)):=by k_is)(mk:makesIn K C=true:=by k_is)(ini:findIn K (.ref C) "__init__"=some (some (.ref f)):=by k_is)
  (fn:isFn K (.ref f)=true:=by k_is)(kp:keepIn K (.ref C)=true:=by k_is)(l:K.lookup f=some ⟨oc,od,.func (fnOf "__init__" qual (cz st) (bE st) (aB st) (.ref Ta) kV dc pm an cd ct),sl⟩:=by k_is)(c:codeIn K cd qual=true:=by k_is)(k:keepIn K (.ref f)=true:=by k_is)
  (lt:K.lookup Ta=some ⟨tc,td,.seq #[v] tn,tsl⟩:=by k_is):Di K mg x C qual st ps [] :=
 ⟨⟨f,_,[],[],⟨⟨oc,od,.ref Ta,kV,dc,pm,an,cd,ct,sl,rfl,l,c⟩,k⟩,⟨mk,ini,fn,kp⟩,mg_of X G hc,b K Ta _ v tn lt rfl kV dc pm an cd ct,.nil,fun _=>.nil⟩⟩
theorem fN (a:plainGet K C Str.empty=true:=by k_is)(b:hasDictIn K C=true:=by k_is)(c:plainOver K C=true:=by k_is)(d:findIn K (.ref C) "__setattr__"=some (some (.builtin "object.__setattr__")):=by k_is)
  (e:findIn K (.ref C) "__class__"=some (some (.builtin "object.__class__")):=by k_is)(f:PySem.W.specialIn K (.builtin "object.__class__") "__get__"=some (some (.builtin "getset_descriptor.__get__")):=by k_is)(g:PySem.W.takesIn K (.builtin "object.__class__")=some true:=by k_is)(h:PySem.W.mroIn K C (.type "object")=some true:=by k_is):ft K C:=⟨⟨a,b,c,d⟩,e,f,g,h⟩
theorem m8 {i:Int}{t:Tok}(X:K.In h)(G:h.Ns mainGlobals mg)(e:nsIn K mainGlobals x=some (some (.int i t))):GI mg x i:=⟨⟨t,mg_of X G e⟩⟩
theorem KH {y:Str}{t:Tok}(X:K.In h)(G:h.Ns mainGlobals mg)(e:nsIn K mainGlobals x=some (some (.str y t))):GD K mg x (.str y):=⟨⟨.str y,.str y t,mg_of X G e,⟨_,rfl⟩,fun _=>.str y⟩⟩
def Jv (K:PySem.W.Frag)(t:Addr)(ds:List D):Prop:=∀ H,Dv K H (.ref t) (.tup ds)
theorem cw {t:Addr}{its:Array Value}{n:Nat}(vs:List V){ds:List D}(l:K.lookup t=some ⟨.type "tuple",od,.seq its n,sl⟩)(z:its.size<=1000)(v:Vals vs its.toList)(d:∀ H,bS K H vs ds):Jv K t ds :=
 fun H=>.tup (.inr ⟨_,its,n,l,rfl,rfl,Nat.le_of_lt (Au z),v⟩) (d H)
theorem KI {t:Addr}{ds:List D}(X:K.In h)(G:h.Ns mainGlobals mg)(e:nsIn K mainGlobals x=some (some (.ref t)))(l:Jv K t ds):GD K mg x (.tup ds):=⟨⟨.ref t,.ref t,mg_of X G e,rfl,l⟩⟩
theorem Gs {s:Addr}{es:Array DictEntry}{n:Nat}{kvs:List (Str × V)}{tab:List (Str × D)}(X:K.In h)(G:h.Ns mainGlobals mg)(e:nsIn K mainGlobals x=some (some (.ref s)))(l:K.lookup s=some ⟨.type "dict",none,.dict es n,#[]⟩)(hk:PySem.W.KeysLit w.params es.toList)
  (he:n5 kvs es.toList)(sys:(s == sysModules)=false)(t:Tb K kvs tab):Dz w K mg x s tab:=⟨mg_of X G e,kvs,⟨⟨es,n,l,hk,he⟩,sys⟩,t⟩
theorem bx {y:Str}{t:Tok}{r:Addr}{en:DictEntry}{kvs:List (Str × V)}{es:List DictEntry}(hk:en.key=.str y t)(hv:en.val=.ref r)(q:n5 kvs es):n5 ((y,.ref r)::kvs) (en::es):=.cons hk hv q
theorem AA (ws:List Str):∀ H,bS K H (ws.map V.str) (ws.map D.str):=fun _=>qH ws
def BQ (K:PySem.W.Frag)(C:Addr):Prop:=∀ f∈(["value","name","part","sign","one","other","truth","first","head","rest"]:List Str),cq K C f
theorem ik (h0:findIn K (.ref C) "value"=some none:=by k_is)(h1:findIn K (.ref C) "name"=some none:=by k_is)(h2:findIn K (.ref C) "part"=some none:=by k_is)(h3:findIn K (.ref C) "sign"=some none:=by k_is)(h4:findIn K (.ref C) "one"=some none:=by k_is)(h5:findIn K (.ref C) "other"=some none:=by k_is)(h6:findIn K (.ref C) "truth"=some none:=by k_is)(h7:findIn K (.ref C) "first"=some none:=by k_is)(h8:findIn K (.ref C) "head"=some none:=by k_is)(h9:findIn K (.ref C) "rest"=some none:=by k_is):BQ K C:=by
 unfold BQ
 simp only [List.mem_cons,List.not_mem_nil,or_false,forall_eq_or_imp,forall_eq]
 exact⟨h0,h1,h2,h3,h4,h5,h6,h7,h8,h9⟩
def Jt (K:PySem.W.Frag)(C:Addr):Prop:=∀ f∈Jo,cq K C f
theorem xq (h0:findIn K (.ref C) "name"=some none:=by k_is)(h1:findIn K (.ref C) "kind"=some none:=by k_is)(h2:findIn K (.ref C) "part"=some none:=by k_is)(h3:findIn K (.ref C) "on"=some none:=by k_is)(h4:findIn K (.ref C) "binds"=some none:=by k_is)(h5:findIn K (.ref C) "module"=some none:=by k_is)(h6:findIn K (.ref C) "parts"=some none:=by k_is)(h7:findIn K (.ref C) "inputs"=some none:=by k_is)(h8:findIn K (.ref C) "outputs"=some none:=by k_is)(h9:findIn K (.ref C) "lines"=some none:=by k_is):Jt K C:=by
 unfold Jt
 simp only [Jo,List.mem_cons,List.not_mem_nil,or_false,forall_eq_or_imp,forall_eq]
 exact⟨h0,h1,h2,h3,h4,h5,h6,h7,h8,h9⟩
end
theorem mq:uw "__init__" "Before.__init__" cj ["self","part","first"]:=fun K T ob v n ho hs _ _ _ _ _ _ s us X hl=>match us,hl with|[_,_,_],_=>binds_K X rfl ho hs rfl rfl
theorem pT:uw "__init__" "Held.__init__" dR ["self","part","name","first"]:=fun K T ob v n ho hs _ _ _ _ _ _ s us X hl=>match us,hl with|[_,_,_,_],_=>binds_K X rfl ho hs rfl rfl
theorem n8:uw "__init__" "Input.__init__" dC ["self","name","kind","on"]:=fun K T ob v n ho hs _ _ _ _ _ _ s us X hl=>match us,hl with|[_,_,_,_],_=>binds_K X rfl ho hs rfl rfl
theorem p7:uw "__init__" "Row.__init__" eF ["self","name","kind","part","on"]:=fun K T ob v n ho hs _ _ _ _ _ _ s us X hl=>match us,hl with|[_,_,_,_,_],_=>binds_K X rfl ho hs rfl rfl
/-- the law's promise over values -/
def wX (K:PySem.W.Frag):Sp:=fun vs H Q _=>∃(q:Addr) (ns:List Int),vs=[.ref q]/\dg K H q (ns.map V.int)/\ns.length<=63/\∀ H',Q (.bl true) H'
theorem vU {K:PySem.W.Frag}{H:Hp}:∀ ns:List Int,bS K H (ns.map V.int) (ns.map D.int)
 | []=>.nil
 | n::ns=>.cons (.int n) (vU ns)
section
variable {P:Program}{w:World}{K:PySem.W.Frag}{mg:Str->Option Value}{base:Heap}{A:bO}{j k:Nat}{x:Str}{ps:List Str}
theorem wH (d:Df K mg "part_of" lO ["told"])(c0:az P w K mg base 2 "many_within" ["told"] (uY Pt.ok fun p=>.int p.inner.length))(c1:az P w K mg base 1 "has_shape" ["told"] (uY Pt.ok fun p=>.bl (!p.qP)))
  (c2:az P w K mg base 15 "plain_by" ["told","inner"] (yI A 10 true))(c3:az P w K mg base 15 "timed_by" ["told","inner"] (yI A 10 false))
  (k:n6 P w K mg base 13 "Pair" A.pair (fun ds Q=>∃(g:Str) (x y:Pt),ds=[.str g,x.d A,y.d A]/\g∈gr/\(Pt.pair g x y).depth<=10/\pH (.pair g x y)/\Q [("sign",.str g),("one",x.d A),("other",y.d A)]) []) :
  ∀ n,n<=10->az P w K mg base (n+15) "part_of" ["told"] (Ar A n)
 | 0,_=>Df.never d fun ds Q ⟨p,_,h,_⟩=>absurd p.fk (by omega)
 | n+1,h=>Ak (m:=n) (N:=10) (by omega) h d (c0.up (by omega)) (c1.up (by omega)) (wH d c0 c1 c2 c3 k n (by omega)) (by omega) (c2.up (by omega)) (c3.up (by omega)) k
end
theorem HQ {w:World}{K:PySem.W.Frag}{h:Heap}{mg:Str->Option Value}{a1 a2 a3 a4 a5 a6 a7 a8 a9 l1 l2 l3 sa sb:Addr}(X:K.In h)(G:h.Ns mainGlobals mg)
  (j0:nsIn K mainGlobals "Given"=some (some (.ref a1)))
  (j1:nsIn K mainGlobals "Named"=some (some (.ref a2)))
  (j2:nsIn K mainGlobals "Turned"=some (some (.ref a3)))
  (j3:nsIn K mainGlobals "Pair"=some (some (.ref a4)))
  (j4:nsIn K mainGlobals "Choice"=some (some (.ref a5)))
  (j5:nsIn K mainGlobals "Before"=some (some (.ref a6)))
  (j6:nsIn K mainGlobals "Led"=some (some (.ref a7)))
  (j7:nsIn K mainGlobals "When"=some (some (.ref a8)))
  (j8:nsIn K mainGlobals "Held"=some (some (.ref a9)))
  (j9:nsIn K mainGlobals "Input"=some (some (.ref l1)))
  (ja:nsIn K mainGlobals "Row"=some (some (.ref l2)))
  (jb:nsIn K mainGlobals "Sheet"=some (some (.ref l3)))
  (jc:[a1,a2,a3,a4,a5,a6,a7,a8,a9].Nodup)
  (jd:l1≠l2)
  (je:ft K a1)
  (jf:BQ K a1)
  (jg:cJ K a1 "told" "Given.told" fb)
  (jh:cJ K a1 "inner" "Part.inner" cP)
  (ji:cJ K a1 "size" "Part.size" bQ)
  (jj:cJ K a1 "depth" "Part.depth" bG)
  (jk:cJ K a1 "need_bounds" "Part.need_bounds" aY)
  (jl:cJ K a1 "names" "Part.names" bH)
  (jm:cJ K a1 "own_names" "Part.own_names" aR)
  (jn:cJ K a1 "needs" "Part.needs" bX)
  (jo:Di K mg "Given" a1 "Given.__init__" eR ["self","value"] [])
  (jp:ft K a2)
  (jq:BQ K a2)
  (jr:cJ K a2 "told" "Named.told" fe)
  (js:cJ K a2 "inner" "Part.inner" cP)
  (jt:cJ K a2 "size" "Part.size" bQ)
  (ju:cJ K a2 "depth" "Part.depth" bG)
  (jv:cJ K a2 "need_bounds" "Part.need_bounds" aY)
  (jw:cJ K a2 "names" "Part.names" bH)
  (jx:cJ K a2 "own_names" "Named.own_names" ck)
  (jy:cJ K a2 "needs" "Part.needs" bX)
  (jz:Di K mg "Named" a2 "Named.__init__" eT ["self","name"] [])
  (j10:ft K a3)
  (j11:BQ K a3)
  (j12:cJ K a3 "told" "Turned.told" el)
  (j13:cJ K a3 "inner" "Turned.inner" eJ)
  (j14:cJ K a3 "size" "Part.size" bQ)
  (j15:cJ K a3 "depth" "Part.depth" bG)
  (j16:cJ K a3 "need_bounds" "Part.need_bounds" aY)
  (j17:cJ K a3 "names" "Part.names" bH)
  (j18:cJ K a3 "own_names" "Part.own_names" aR)
  (j19:cJ K a3 "needs" "Part.needs" bX)
  (j1a:Di K mg "Turned" a3 "Turned.__init__" eI ["self","part"] [])
  (j1b:ft K a4)
  (j1c:BQ K a4)
  (j1d:cJ K a4 "told" "Pair.told" gc)
  (j1e:cJ K a4 "inner" "Pair.inner" ff)
  (j1f:cJ K a4 "size" "Part.size" bQ)
  (j1g:cJ K a4 "depth" "Part.depth" bG)
  (j1h:cJ K a4 "need_bounds" "Part.need_bounds" aY)
  (j1i:cJ K a4 "names" "Part.names" bH)
  (j1j:cJ K a4 "own_names" "Part.own_names" aR)
  (j1k:cJ K a4 "needs" "Part.needs" bX)
  (j1l:Di K mg "Pair" a4 "Pair.__init__" fO ["self","sign","one","other"] [])
  (j1m:ft K a5)
  (j1n:BQ K a5)
  (j1o:cJ K a5 "told" "Choice.told" ef)
  (j1p:cJ K a5 "inner" "Choice.inner" eB)
  (j1q:cJ K a5 "size" "Part.size" bQ)
  (j1r:cJ K a5 "depth" "Part.depth" bG)
  (j1s:cJ K a5 "need_bounds" "Part.need_bounds" aY)
  (j1t:cJ K a5 "names" "Part.names" bH)
  (j1u:cJ K a5 "own_names" "Part.own_names" aR)
  (j1v:cJ K a5 "needs" "Part.needs" bX)
  (j1w:Di K mg "Choice" a5 "Choice.__init__" eA ["self","truth","one","other"] [])
  (j1x:ft K a6)
  (j1y:BQ K a6)
  (j1z:cJ K a6 "told" "Before.told" ee)
  (j20:cJ K a6 "inner" "Before.inner" d9)
  (j21:cJ K a6 "size" "Part.size" bQ)
  (j22:cJ K a6 "depth" "Part.depth" bG)
  (j23:cJ K a6 "need_bounds" "Part.need_bounds" aY)
  (j24:cJ K a6 "names" "Part.names" bH)
  (j25:cJ K a6 "own_names" "Part.own_names" aR)
  (j26:cJ K a6 "needs" "Before.needs" d_)
  (j27:Di K mg "Before" a6 "Before.__init__" cj ["self","part","first"] [])
  (j28:ft K a7)
  (j29:BQ K a7)
  (j2a:cJ K a7 "told" "Led.told" iz)
  (j2b:cJ K a7 "inner" "Led.inner" gb)
  (j2c:cJ K a7 "size" "Part.size" bQ)
  (j2d:cJ K a7 "depth" "Part.depth" bG)
  (j2e:cJ K a7 "need_bounds" "Part.need_bounds" aY)
  (j2f:cJ K a7 "names" "Part.names" bH)
  (j2g:cJ K a7 "own_names" "Part.own_names" aR)
  (j2h:cJ K a7 "needs" "Part.needs" bX)
  (j2i:Di K mg "Led" a7 "Led.__init__" gC ["self","head","rest"] [])
  (j2j:ft K a8)
  (j2k:BQ K a8)
  (j2l:cJ K a8 "told" "When.told" gd)
  (j2m:cJ K a8 "inner" "When.inner" fg)
  (j2n:cJ K a8 "size" "Part.size" bQ)
  (j2o:cJ K a8 "depth" "Part.depth" bG)
  (j2p:cJ K a8 "need_bounds" "Part.need_bounds" aY)
  (j2q:cJ K a8 "names" "Part.names" bH)
  (j2r:cJ K a8 "own_names" "When.own_names" dD)
  (j2s:cJ K a8 "needs" "Part.needs" bX)
  (j2t:Di K mg "When" a8 "When.__init__" fS ["self","part","name"] [])
  (j2u:ft K a9)
  (j2v:BQ K a9)
  (j2w:cJ K a9 "told" "Held.told" gZ)
  (j2x:cJ K a9 "inner" "Held.inner" fc)
  (j2y:cJ K a9 "size" "Part.size" bQ)
  (j2z:cJ K a9 "depth" "Part.depth" bG)
  (j30:cJ K a9 "need_bounds" "Part.need_bounds" aY)
  (j31:cJ K a9 "names" "Part.names" bH)
  (j32:cJ K a9 "own_names" "Held.own_names" dB)
  (j33:cJ K a9 "needs" "Part.needs" bX)
  (j34:Di K mg "Held" a9 "Held.__init__" dR ["self","part","name","first"] [])
  (j35:ft K l1)
  (j36:Jt K l1)
  (j37:cJ K l1 "own_names" "Input.own_names" eD)
  (j38:cJ K l1 "own_parts" "Input.own_parts" eE)
  (j39:cJ K l1 "is_truths" "Input.is_truths" eC)
  (j3a:Di K mg "Input" l1 "Input.__init__" dC ["self","name","kind","on"] [])
  (j3b:ft K l2)
  (j3c:Jt K l2)
  (j3d:cJ K l2 "own_names" "Row.own_names" fQ)
  (j3e:cJ K l2 "own_parts" "Row.own_parts" fR)
  (j3f:cJ K l2 "is_truths" "Row.is_truths" fP)
  (j3g:Di K mg "Row" l2 "Row.__init__" eF ["self","name","kind","part","on"] [])
  (j3h:ft K l3)
  (j3i:Jt K l3)
  (j3j:cJ K l3 "all_lines" "Sheet.all_lines" eG)
  (j3k:cJ K l3 "names" "Sheet.names" g9)
  (j3l:cJ K l3 "lines_by_name" "Sheet.lines_by_name" cZ)
  (j3m:Di K mg "Sheet" l3 "Sheet.__init__" eU ["self","name","inputs","outputs","lines"] [])
  (j3n:kitOne K (.ref l2) (.ref l2)=some true)
  (j3o:Df K mg "has_letters" hE ["text"])
  (j3p:Df K mg "has_word_form" fU ["text"])
  (j3q:Df K mg "is_word" og ["thing"])
  (j3r:Df K mg "is_name" oa ["thing"])
  (j3s:Df K mg "is_number" kT ["thing"])
  (j3t:Df K mg "is_value" mY ["thing"])
  (j3u:Df K mg "need_name" kW ["name"])
  (j3v:Df K mg "need_first" i_ ["first"])
  (j3w:Df K mg "has_shape" kQ ["told"])
  (j3x:Df K mg "many_within" hG ["told"])
  (j3y:Df K mg "plain_by" md ["told","inner"])
  (j3z:Df K mg "timed_by" mf ["told","inner"])
  (j40:Df K mg "part_of" lO ["told"])
  (j41:Df K mg "once" yH ["lists"])
  (j42:Df K mg "need_sheet" jB ["holds","words"])
  (j43:Df K mg "need_word" kZ ["word"])
  (j44:Df K mg "need_on" oh ["on"])
  (j45:Df K mg "is_plain_kind" fV ["kind"])
  (j46:Df K mg "is_stretch" uV ["kind"])
  (j47:Df K mg "need_counts" hJ ["sheet"])
  (j48:Df K mg "need_once" kX ["names","words"])
  (j49:Df K mg "names_looked_at" eM ["line"])
  (j4a:Df K mg "need_known" jA ["sheet","found"])
  (j4b:Df K mg "need_ons" mZ ["sheet","found"])
  (j4c:Df K mg "need_rows" kY ["sheet"])
  (j4d:Df K mg "needs_of" jC ["sheet"])
  (j4e:Df K mg "line_needs" fi ["line"])
  (j4f:Df K mg "_law_cell" kO ["_law_script","_law_k"])
  (j4g:Df K mg "_law_mixed" i7 ["_law_cell_here","_law_k"])
  (j4h:Df K mg "_law_names" i8 ["_law_cell_here"])
  (j4i:Df K mg "_law_inner" i5 ["_law_told"])
  (j4j:Df K mg "_law_leaf" kP ["_law_kind","_law_seed","_law_kinds_here"])
  (j4k:Df K mg "_law_first" i4 ["_law_kind","_law_seed"])
  (j4l:Df K mg "_law_timed" eK ["_law_kind","_law_seed","_law_deep","_law_kinds_here","_law_way"])
  (j4m:Df K mg "_law_tree" fF ["_law_kind","_law_seed","_law_deep","_law_kinds_here"])
  (j4n:Df K mg "_law_spoilt" et ["_law_told","_law_seed","_law_kinds_here"])
  (j4o:Df K mg "_law_kinds" i6 ["_law_names_here","_law_cell_here","_law_many"])
  (j4p:Df K mg "_law_needs" fh ["_law_told"])
  (j4q:Df K mg "_law_all_needs" eV ["_law_ons_here","_law_lines"])
  (j4r:Df K mg "_law_ranked" g_ ["_law_names_here","_law_cell_here"])
  (j4s:Df K mg "_law_ons" mX ["_law_names_here","_law_kinds_here","_law_ranked_here","_law_cell_here"])
  (j4t:Df K mg "_law_ranked_lines" dH ["_law_names_here","_law_kinds_here","_law_ranked_here","_law_ons_here","_law_script","_law_spoilt_here"])
  (j4u:Df K mg "_law_ranked_sheet" dJ ["_law_names_here","_law_kinds_here","_law_ons_here","_law_lines"])
  (j4v:Df K mg "_law_built" i3 ["_law_script","_law_most"])
  (j4w:Df K mg "_law_sheet_of" fT ["_law_built_here"])
  (j4x:Df K mg "_law_right" i9 ["_law_found","_law_due"])
  (j4y:GI mg "LONGEST_WORD" 8)
  (j4z:GI mg "MOST_WORDS" 4)
  (j50:GI mg "LOWEST" (-128))
  (j51:GI mg "HIGHEST" 127)
  (j52:GI mg "DEEPEST" 10)
  (j53:GI mg "LARGEST" 40)
  (j54:GI mg "MOST_INPUTS" 8)
  (j55:GI mg "MOST_OUTPUTS" 8)
  (j56:GI mg "MOST_LINES" 80)
  (j57:GD K mg "LETTERS" (.str uD))
  (j58:GD K mg "KEPT_WORDS" (.tup (rZ.map D.str)))
  (j59:Dz w K mg "SHAPES" sa nk)
  (j5a:Dz w K mg "SIGNS" sb ue)
  (j5b:nsIn K mainGlobals "isinstance"=some none)
  (j5c:nsIn K mainGlobals "bool"=some none)
  (j5d:nsIn K mainGlobals "int"=some none)
  (j5e:nsIn K mainGlobals "len"=some none)
  (j5f:nsIn K mainGlobals "all"=some none)
  (j5g:nsIn K mainGlobals "sum"=some none)
  (j5h:nsIn K mainGlobals "max"=some none)
  (j5i:nsIn K mainGlobals "range"=some none)
  (j5j:nsIn K mainGlobals "tuple"=some none)
  (j5k:nsIn K mainGlobals "list"=some none)
  (j5l:nsIn K mainGlobals "set"=some none)
  (j5m:nsIn K mainGlobals "enumerate"=some none)
  (j5n:nsIn K mainGlobals "dict"=some none)
  (j5o:nsIn K mainGlobals "str"=some none)
  (P:Program)(base:Heap)(f:Addr)(fd:FuncData)(F:wy K "law" "law" kU f fd):cN P w K mg base pQ 26 f fd ["_law_script"] (wX K):=by
 have c1:=je.cl
 have c2:=jp.cl
 have c3:=j10.cl
 have c4:=j1b.cl
 have c5:=j1m.cl
 have c6:=j1x.cl
 have c7:=j28.cl
 have c8:=j2j.cl
 have c9:=j2u.cl
 have y0:=mg_none_of X G j5b
 have y1:=mg_none_of X G j5c
 have y2:=mg_none_of X G j5d
 have y3:=mg_none_of X G j5e
 have y4:=mg_none_of X G j5f
 have y5:=mg_none_of X G j5g
 have y6:=mg_none_of X G j5h
 have y7:=mg_none_of X G j5i
 have y8:=mg_none_of X G j5j
 have y9:=mg_none_of X G j5k
 have ya:=mg_none_of X G j5l
 have yb:=mg_none_of X G j5m
 have yc:=mg_none_of X G j5n
 have yd:=mg_none_of X G j5o
 have hA:eX K (bO.mk a1 a2 a3 a4 a5 a6 a7 a8 a9):=⟨jc,?_,?_⟩
 rotate_left
 ·simp only [List.mem_cons,List.not_mem_nil,or_false,forall_eq_or_imp,forall_eq]
  exact⟨c1,c2,c3,c4,c5,c6,c7,c8,c9⟩
 ·intro C hC f hf
  simp only [List.mem_cons,List.not_mem_nil,or_false] at hC
  rcases hC with rfl|rfl|rfl|rfl|rfl|rfl|rfl|rfl|rfl
  ·exact jf f hf
  ·exact jq f hf
  ·exact j11 f hf
  ·exact j1c f hf
  ·exact j1n f hf
  ·exact j1y f hf
  ·exact j29 f hf
  ·exact j2k f hf
  ·exact j2v f hf
 have hL:pq K (LA.mk l1 l2 l3):=⟨jd,?_,?_⟩
 rotate_left
 ·simp only [List.mem_cons,List.not_mem_nil,or_false,forall_eq_or_imp,forall_eq]
  exact⟨j35.cl,j3b.cl,j3h.cl⟩
 ·intro C hC f hf
  simp only [List.mem_cons,List.not_mem_nil,or_false] at hC
  rcases hC with rfl|rfl|rfl
  ·exact j36 f hf
  ·exact j3c f hf
  ·exact j3i f hf
 have hR:NS K (LA.mk l1 l2 l3):=⟨j3b,j3n⟩
 have D_inner:n0 K (bO.mk a1 a2 a3 a4 a5 a6 a7 a8 a9):=⟨jh.dm c1,js.dm c2,j13.dm c3,j1e.dm c4,j1p.dm c5,j20.dm c6,j2b.dm c7,j2m.dm c8,j2x.dm c9⟩
 have D_own:Dx K (bO.mk a1 a2 a3 a4 a5 a6 a7 a8 a9):=⟨jm.dm c1,jx.dm c2,j18.dm c3,j1j.dm c4,j1u.dm c5,j25.dm c6,j2g.dm c7,j2r.dm c8,j32.dm c9⟩
 have D_lines:sY K (LA.mk l1 l2 l3):=⟨j37.dm j35.cl,j3d.dm j3b.cl,j38.dm j35.cl,j3e.dm j3b.cl,j39.dm j35.cl,j3f.dm j3b.cl⟩
 have D_size:∀ C,uu (bO.mk a1 a2 a3 a4 a5 a6 a7 a8 a9) C->Dm K C "size" "Part.size" bQ ["self"]:=fun C ⟨p,e⟩=>by
  subst e
  cases p
  ·exact ji.dm c1
  ·exact jt.dm c2
  ·exact j14.dm c3
  ·exact j1f.dm c4
  ·exact j1q.dm c5
  ·exact j21.dm c6
  ·exact j2c.dm c7
  ·exact j2n.dm c8
  ·exact j2y.dm c9
 have D_depth:∀ C,uu (bO.mk a1 a2 a3 a4 a5 a6 a7 a8 a9) C->Dm K C "depth" "Part.depth" bG ["self"]:=fun C ⟨p,e⟩=>by
  subst e
  cases p
  ·exact jj.dm c1
  ·exact ju.dm c2
  ·exact j15.dm c3
  ·exact j1g.dm c4
  ·exact j1r.dm c5
  ·exact j22.dm c6
  ·exact j2d.dm c7
  ·exact j2o.dm c8
  ·exact j2z.dm c9
 have D_need_bounds:∀ C,uu (bO.mk a1 a2 a3 a4 a5 a6 a7 a8 a9) C->Dm K C "need_bounds" "Part.need_bounds" aY ["self"]:=fun C ⟨p,e⟩=>by
  subst e
  cases p
  ·exact jk.dm c1
  ·exact jv.dm c2
  ·exact j16.dm c3
  ·exact j1h.dm c4
  ·exact j1s.dm c5
  ·exact j23.dm c6
  ·exact j2e.dm c7
  ·exact j2p.dm c8
  ·exact j30.dm c9
 have D_names:∀ C,uu (bO.mk a1 a2 a3 a4 a5 a6 a7 a8 a9) C->Dm K C "names" "Part.names" bH ["self"]:=fun C ⟨p,e⟩=>by
  subst e
  cases p
  ·exact jl.dm c1
  ·exact jw.dm c2
  ·exact j17.dm c3
  ·exact j1i.dm c4
  ·exact j1t.dm c5
  ·exact j24.dm c6
  ·exact j2f.dm c7
  ·exact j2q.dm c8
  ·exact j31.dm c9
 have D_needs:BO K (bO.mk a1 a2 a3 a4 a5 a6 a7 a8 a9):=⟨fun C ⟨p,e⟩ hne=>by
  subst e
  cases p
  ·exact jn.dm c1
  ·exact jy.dm c2
  ·exact j19.dm c3
  ·exact j1k.dm c4
  ·exact j1v.dm c5
  ·exact absurd rfl hne
  ·exact j2h.dm c7
  ·exact j2s.dm c8
  ·exact j33.dm c9
  ,j26.dm c6⟩
 have s1:=jU (P:=P) (w:=w) (base:=base) (j:=0) j3s y0 y1 y2 j50 j51
 have s2:=fu j3t y0 y1 s1
 have s3:=dj j3v s2
 have w1:=gy (P:=P) (w:=w) (base:=base) (j:=0) j3o y3 y4 j57
 have w2:=cR j3p y3 j4y w1
 have w3:=hX j3q j58 w2
 have w4:=n9 j3r y3 y4 j4z w3 (w2.up (by omega))
 have w5:=bP j3u w4
 have mSize:=DQ (P:=P) (w:=w) (base:=base) hA D_inner D_size y5 10
 have mDepth:=z9 (P:=P) (w:=w) (base:=base) hA D_inner D_depth y6 10
 have mBounds:=zz D_need_bounds mDepth mSize j52 j53
 have k1:=xN (j:=12) (A:=(bO.mk a1 a2 a3 a4 a5 a6 a7 a8 a9)) c1 (hA.fD a1 (by simp) "value" (by decide)) jo (s2.up (by omega))
 have k2:=xO (j:=12) hA jz (w5.up (by omega))
 have k3:=vd (j:=12) hA j1a mBounds
 have k4:=AI (j:=12) hA j1l j5a mBounds
 have k5:=va (j:=12) hA j1w mBounds
 have k6:=vZ (j:=12) hA j27 (s3.up (by omega)) mBounds
 have k7:=CB (j:=12) hA j2i mBounds
 have k8:=AJ (j:=12) hA j2t (w5.up (by omega)) mBounds
 have k9:=AH (j:=12) hA j34 (w5.up (by omega)) (s3.up (by omega)) mBounds
 have p1:=e8 (P:=P) (base:=base) (j:=0) j3w y3 j59
 have p0:=gz j3x j59 p1
 have p2:=mL (n:=10) (j:=14) j3y (by omega) k1 k2 k3 k5
 have p3:=mM (n:=10) (j:=14) j3z (by omega) k6 k7 k8 k9
 have p4:=wH j40 p0 p1 p2 p3 k4 4 (by omega)
 have nm1:=HW (P:=P) (w:=w) (base:=base) (j:=0) j41
 have nm2:=rj hA D_inner D_own nm1 D_names 4
 have Jp:=rl hA D_inner D_own nm1 D_needs 4
 have ll1:=Ag (P:=P) (w:=w) (mg:=mg) (base:=base) (A:=(bO.mk a1 a2 a3 a4 a5 a6 a7 a8 a9)) (j:=0) hL D_lines y9
 have ll1':∀ C,BI (LA.mk l1 l2 l3) C->bY P w K mg base 1 C "own_names" (DI (bO.mk a1 a2 a3 a4 a5 a6 a7 a8 a9) (LA.mk l1 l2 l3) (fun x=>.lst (x.own.map D.str)) C) []:=fun C hC=>(ll1 C hC).cp Ke fun ds Q ⟨x,e,c,o,q⟩=>⟨x,e,c,o,fun a=>by dsimp only;rw [gw];exact q⟩
 have ll2:=wI (P:=P) (w:=w) (mg:=mg) (base:=base) (A:=(bO.mk a1 a2 a3 a4 a5 a6 a7 a8 a9)) (j:=4) hL D_lines
 have ll3:=uk (P:=P) (w:=w) (mg:=mg) (base:=base) (A:=(bO.mk a1 a2 a3 a4 a5 a6 a7 a8 a9)) (j:=0) hL D_lines
 have sh1:=zu (P:=P) (w:=w) (mg:=mg) (base:=base) (A:=(bO.mk a1 a2 a3 a4 a5 a6 a7 a8 a9)) (j:=0) hL (j3j.dm j3h.cl)
 have sh2:=v8 (j3k.dm j3h.cl) sh1 ll1
 have sh3:=D_ (j3l.dm j3h.cl) sh1 ll1'
 have sh2':∀ C,AN (LA.mk l1 l2 l3) C->bY P w K mg base 2 C "names" (ni (bO.mk a1 a2 a3 a4 a5 a6 a7 a8 a9) (LA.mk l1 l2 l3) (fun _=>True) (fun s=>.lst (s.names.map D.str)) C) []:=fun C hC=>(sh2 C hC).cp IL fun ds Q ⟨s,e,c,o,_,q⟩=>⟨s,e,c,o,fun a=>by dsimp only;rw [gw];exact q⟩
 have u1:=ag (P:=P) (w:=w) (base:=base) (j:=0) j42
 have u2:=jV j43 w3
 have u3:=hZ j44 w5
 have u4:=cS (P:=P) (w:=w) (base:=base) (j:=0) j45
 have u5:az P w K mg base 7 "is_stretch" ["kind"] Fx:=Df.never j46 fun ds Q h=>h
 have u6:=g4 (A:=(bO.mk a1 a2 a3 a4 a5 a6 a7 a8 a9)) hL j47 y3 j54 j55 j56 u1
 have u7:=gO j48 y3 ya u1
 have u8:=Bg hL j49 ll2 nm2
 have u9:=ia (j:=6) hL j4a y9 (fun C hC=>(sh1 C hC).up (by omega)) u8 (u1.up (by omega))
 have u10:=mJ hL j4b sh1 ll3 u1
 have f1:=Er (j:=7) hL j3a (w5.up (by omega)) (u3.up (by omega)) (u1.up (by omega)) (u4.up (by omega)) u5
 have f2:=KU (j:=7) hL j3g (w5.up (by omega)) (u3.up (by omega)) (u1.up (by omega)) (u4.up (by omega))
 have f5:=Es (j:=7) hL j3m y8 (u2.up (by omega)) (u6.up (by omega)) (u7.up (by omega)) (fun C hC=>(sh2' C hC).up (by omega)) (fun C hC=>(sh3 C hC).up (by omega)) u9 (u10.up (by omega))
 have q1:=e9 (A:=(bO.mk a1 a2 a3 a4 a5 a6 a7 a8 a9)) hL hR j4c y0 (mg_of X G ja) u1
 have q2:=iZ hL j4e ll2 Jp
 have q3:=mK (j:=6) hL j4d (q1.up (by omega)) (fun C hC=>(sh1 C hC).up (by omega)) q2
 have q6:=g5 hL j4e ll2 Jp
 have q7:=jW (j:=6) hL j4d (q1.up (by omega)) (fun C hC=>(sh1 C hC).up (by omega)) q6
 have D_told:GS K (bO.mk a1 a2 a3 a4 a5 a6 a7 a8 a9):=⟨jg.dm c1,jr.dm c2,j12.dm c3,j1d.dm c4,j1o.dm c5,j1z.dm c6,j2a.dm c7,j2l.dm c8,j2w.dm c9⟩
 have mTold:=wb (P:=P) (w:=w) (mg:=mg) (base:=base) hA D_told 4
 have t1:=fun j=>EH (P:=P) (w:=w) (base:=base) (j:=j) j4g
 have t2:=HU (P:=P) (w:=w) (base:=base) (j:=0) j4f y3
 have t3:=EI (P:=P) (w:=w) (base:=base) (j:=0) j4h y7
 have t4:=fun j=>HV (j:=j+1) j4j y3 (t1 j)
 have t5:=fun j=>EB (j:=j+1) j4k (t1 j)
 have t6:=wk j4m j4l y3 t1 t4 t5 2 0
 have t7:=fun j=>Bf (P:=P) (w:=w) (base:=base) (j:=j) j4i y9
 have t8:=qo j4n y3 y8 t1 t4 t7 4
 have t9:=qb j4p t7 4
 have ta:=EE (j:=1) j4o y7 (t1 0)
 have tb:=BX (j:=1) j4r yb (t1 0)
 have tc:=Jy (j:=1) j4s yb y3 (t1 0)
 have td:=EG (j:=8) j4t yb (t1 7) (t2.up (by omega)) (t6.up (by omega)) (t8.up (by omega))
 have te:=vF (j:=5) j4q t9
 have tf:=EK (N:=4) (i:=8) (j:=19) (by omega) (by omega) j4u p4 f1 f2 f5
 have tg:=EA (j:=9) j4v y3 (t1 8) (t2.up (by omega)) (t3.up (by omega)) (ta.up (by omega)) (tb.up (by omega)) (tc.up (by omega)) td
 have th:=xB (j:=20) j4w tf
 have ti:=EJ (P:=P) (w:=w) (base:=base) (j:=0) j4x y0 yc y9 yd
 have R:=Ih (j:=25) hL F (tg.up (by omega)) (th.up (by omega)) (te.up (by omega)) (q7.up (by omega)) (q3.up (by omega)) (ti.up (by omega)) (fun C hC=>(mTold C hC).up (by omega))
 exact cN.sub R fun vs H Q E ⟨q,ns,e,hS,hl,k⟩=>⟨[.lst (ns.map D.int)],e ▸ .cons (.lst hS (vU ns)) .nil,ns,rfl,fun v H' _ dv=>by cases dv;exact k H'⟩
theorem all_mk {l:PySem.W.OpenLaw}{w:World}{K:PySem.W.Frag}{h:Heap}{mg:Str->Option Value}{fa f1:Addr}(X:K.In h)(G:h.Ns mainGlobals mg)(hfa:mg "law"=some (.ref fa))
  {od1 an1:Option Addr}{sl1:Array (Option Value)}{oc1 kV1 dc1 pm1 cd1 ct1:Value}
  (la:nsIn K mainGlobals "law"=some (some (.ref f1)))(ll:K.lookup f1=some ⟨oc1,od1,.func (fnOf "law" "law" (cz kU) (bE kU) (aB kU) .none kV1 dc1 pm1 an1 cd1 ct1),sl1⟩)(lc:codeIn K cd1 "law"=true)(lk:keepIn K (.ref f1)=true)
  (R:∀(P:Program) (base:Heap) (f:Addr) (fd:FuncData),wy K "law" "law" kU f fd->cN P w K mg base pQ 26 f fd ["_law_script"] (wX K))
  : ∃ fd:FuncData,(∀(s:Shared) (v:Value),BindsTo s fd ⟨[v],[]⟩ [("_law_script",v)])/\∀ base:Heap,K.In base->base.Ns mainGlobals mg->cN l.prog w K mg base pQ 26 fa fd ["_law_script"] (wX K):=by
 have e:=hfa.symm.trans (mg_of X G la)
 cases e
 exact⟨fnOf "law" "law" (cz kU) (bE kU) (aB kU) .none kV1 dc1 pm1 an1 cd1 ct1,fun s v=>.of_eq rfl,fun base _ _=>R _ base _ _ (oF (st:=kU) ll lc lk)⟩
theorem walk {l:PySem.W.OpenLaw}{q:Program}{loose:List Str}{XP:(Str->Option Value)->Heap->Prop}{YP:World->Heap->Prop}{d:DefRec}{K:Params->PySem.W.Frag}(hn:l.most=some 63)(hdf:d.params.defaults=[])
  (hY:∀(w:World) (h:Heap),YP w h->(K w.params).In h)
  (F:∀(w:World) (mg:Str->Option Value) (fa:Addr) (h:Heap),(K w.params).In h->h.Ns mainGlobals mg->mg d.name=some (.ref fa) ->
   ∃ fd:FuncData,(∀(s:Shared) (u:Value),BindsTo s fd ⟨[u],[]⟩ [("_law_script",u)])/\∀ base:Heap,(K w.params).In base->base.Ns mainGlobals mg->cN l.prog w (K w.params) mg base pQ 26 fa fd ["_law_script"] (wX (K w.params))) :
  PySem.W.WalkO q loose XP YP l.row.toRowW d [] (fun f vs=>PySem.call f vs) :=
 L2.GQ (n:=63) (k:=26) (x:="_law_script") (CX:=fun _=>pQ) (sp:=fun w=>wX (K w.params)) hn (by decide) hdf ⟨rfl,by decide,by decide⟩ hY F (fun _ _ a ns hl _ hS=>⟨a,ns,rfl,hS,hl,fun _=>rfl⟩) fun _ _ _ _ _ z=>z
end K41
open PySem PySem.W PyProof.Rows
set_option maxRecDepth 100000 in
set_option maxHeartbeats 0 in
theorem PySem.Challenge.cw_runrows_k41_what_is_needed_holds : PySem.Challenge.rw_runrows_k41_what_is_needed.Holds := by
 refine HK.hd ?_
 k_fill
 refine K41.walk (l:=PySem.Challenge.rw_runrows_k41_what_is_needed) rfl rfl (fun w h Y=>HK.fIn_of Y) ?F
 case F =>
  intro w mg fa h KX G hmg
  refine' K41.all_mk KX G hmg ?la ?ll ?lc ?lk (K41.HQ KX G ?j0 ?j1 ?j2 ?j3 ?j4 ?j5 ?j6 ?j7 ?j8 ?j9 ?ja ?jb ?jc ?jd ?je ?jf ?jg ?jh ?ji ?jj ?jk ?jl ?jm ?jn ?jo ?jp ?jq ?jr ?js ?jt ?ju ?jv ?jw ?jx ?jy ?jz ?j10 ?j11 ?j12 ?j13 ?j14 ?j15 ?j16 ?j17 ?j18 ?j19 ?j1a ?j1b ?j1c ?j1d ?j1e ?j1f ?j1g ?j1h ?j1i ?j1j ?j1k ?j1l ?j1m ?j1n ?j1o ?j1p ?j1q ?j1r ?j1s ?j1t ?j1u ?j1v ?j1w ?j1x ?j1y ?j1z ?j20 ?j21 ?j22 ?j23 ?j24 ?j25 ?j26 ?j27 ?j28 ?j29 ?j2a ?j2b ?j2c ?j2d ?j2e ?j2f ?j2g ?j2h ?j2i ?j2j ?j2k ?j2l ?j2m ?j2n ?j2o ?j2p ?j2q ?j2r ?j2s ?j2t ?j2u ?j2v ?j2w ?j2x ?j2y ?j2z ?j30 ?j31 ?j32 ?j33 ?j34 ?j35 ?j36 ?j37 ?j38 ?j39 ?j3a ?j3b ?j3c ?j3d ?j3e ?j3f ?j3g ?j3h ?j3i ?j3j ?j3k ?j3l ?j3m ?j3n ?j3o ?j3p ?j3q ?j3r ?j3s ?j3t ?j3u ?j3v ?j3w ?j3x ?j3y ?j3z ?j40 ?j41 ?j42 ?j43 ?j44 ?j45 ?j46 ?j47 ?j48 ?j49 ?j4a ?j4b ?j4c ?j4d ?j4e ?j4f ?j4g ?j4h ?j4i ?j4j ?j4k ?j4l ?j4m ?j4n ?j4o ?j4p ?j4q ?j4r ?j4s ?j4t ?j4u ?j4v ?j4w ?j4x ?j4y ?j4z ?j50 ?j51 ?j52 ?j53 ?j54 ?j55 ?j56 ?j57 ?j58 ?j59 ?j5a ?j5b ?j5c ?j5d ?j5e ?j5f ?j5g ?j5h ?j5i ?j5j ?j5k ?j5l ?j5m ?j5n ?j5o)
  (case la=>k_is)
  (case ll=>k_is)
  (case lc=>k_is)
  (case lk=>k_is)
  (case j0=>k_is)
  (case j1=>k_is)
  (case j2=>k_is)
  (case j3=>k_is)
  (case j4=>k_is)
  (case j5=>k_is)
  (case j6=>k_is)
  (case j7=>k_is)
  (case j8=>k_is)
  (case j9=>k_is)
  (case ja=>k_is)
  (case jb=>k_is)
  (case jc=>decide)
  (case jd=>decide)
  (case je=>exact K41.fN)
  (case jf=>exact K41.ik)
  (case jg=>exact K41.aS)
  (case jh=>exact K41.aS)
  (case ji=>exact K41.aS)
  (case jj=>exact K41.aS)
  (case jk=>exact K41.aS)
  (case jl=>exact K41.aS)
  (case jm=>exact K41.aS)
  (case jn=>exact K41.aS)
  (case jo=>exact K41.o8 KX G)
  (case jp=>exact K41.fN)
  (case jq=>exact K41.ik)
  (case jr=>exact K41.aS)
  (case js=>exact K41.aS)
  (case jt=>exact K41.aS)
  (case ju=>exact K41.aS)
  (case jv=>exact K41.aS)
  (case jw=>exact K41.aS)
  (case jx=>exact K41.aS)
  (case jy=>exact K41.aS)
  (case jz=>exact K41.o8 KX G)
  (case j10=>exact K41.fN)
  (case j11=>exact K41.ik)
  (case j12=>exact K41.aS)
  (case j13=>exact K41.aS)
  (case j14=>exact K41.aS)
  (case j15=>exact K41.aS)
  (case j16=>exact K41.aS)
  (case j17=>exact K41.aS)
  (case j18=>exact K41.aS)
  (case j19=>exact K41.aS)
  (case j1a=>exact K41.o8 KX G)
  (case j1b=>exact K41.fN)
  (case j1c=>exact K41.ik)
  (case j1d=>exact K41.aS)
  (case j1e=>exact K41.aS)
  (case j1f=>exact K41.aS)
  (case j1g=>exact K41.aS)
  (case j1h=>exact K41.aS)
  (case j1i=>exact K41.aS)
  (case j1j=>exact K41.aS)
  (case j1k=>exact K41.aS)
  (case j1l=>exact K41.o8 KX G)
  (case j1m=>exact K41.fN)
  (case j1n=>exact K41.ik)
  (case j1o=>exact K41.aS)
  (case j1p=>exact K41.aS)
  (case j1q=>exact K41.aS)
  (case j1r=>exact K41.aS)
  (case j1s=>exact K41.aS)
  (case j1t=>exact K41.aS)
  (case j1u=>exact K41.aS)
  (case j1v=>exact K41.aS)
  (case j1w=>exact K41.o8 KX G)
  (case j1x=>exact K41.fN)
  (case j1y=>exact K41.ik)
  (case j1z=>exact K41.aS)
  (case j20=>exact K41.aS)
  (case j21=>exact K41.aS)
  (case j22=>exact K41.aS)
  (case j23=>exact K41.aS)
  (case j24=>exact K41.aS)
  (case j25=>exact K41.aS)
  (case j26=>exact K41.aS)
  (case j27=>exact K41.tH KX G K41.mq)
  (case j28=>exact K41.fN)
  (case j29=>exact K41.ik)
  (case j2a=>exact K41.aS)
  (case j2b=>exact K41.aS)
  (case j2c=>exact K41.aS)
  (case j2d=>exact K41.aS)
  (case j2e=>exact K41.aS)
  (case j2f=>exact K41.aS)
  (case j2g=>exact K41.aS)
  (case j2h=>exact K41.aS)
  (case j2i=>exact K41.o8 KX G)
  (case j2j=>exact K41.fN)
  (case j2k=>exact K41.ik)
  (case j2l=>exact K41.aS)
  (case j2m=>exact K41.aS)
  (case j2n=>exact K41.aS)
  (case j2o=>exact K41.aS)
  (case j2p=>exact K41.aS)
  (case j2q=>exact K41.aS)
  (case j2r=>exact K41.aS)
  (case j2s=>exact K41.aS)
  (case j2t=>exact K41.o8 KX G)
  (case j2u=>exact K41.fN)
  (case j2v=>exact K41.ik)
  (case j2w=>exact K41.aS)
  (case j2x=>exact K41.aS)
  (case j2y=>exact K41.aS)
  (case j2z=>exact K41.aS)
  (case j30=>exact K41.aS)
  (case j31=>exact K41.aS)
  (case j32=>exact K41.aS)
  (case j33=>exact K41.aS)
  (case j34=>exact K41.tH KX G K41.pT)
  (case j35=>exact K41.fN)
  (case j36=>exact K41.xq)
  (case j37=>exact K41.aS)
  (case j38=>exact K41.aS)
  (case j39=>exact K41.aS)
  (case j3a=>exact K41.tH KX G K41.n8)
  (case j3b=>exact K41.fN)
  (case j3c=>exact K41.xq)
  (case j3d=>exact K41.aS)
  (case j3e=>exact K41.aS)
  (case j3f=>exact K41.aS)
  (case j3g=>exact K41.tH KX G K41.p7)
  (case j3h=>exact K41.fN)
  (case j3i=>exact K41.xq)
  (case j3j=>exact K41.aS)
  (case j3k=>exact K41.aS)
  (case j3l=>exact K41.aS)
  (case j3m=>exact K41.o8 KX G)
  (case j3n=>kit_is)
  (case j3o=>exact K41.bD KX G)
  (case j3p=>exact K41.bD KX G)
  (case j3q=>exact K41.bD KX G)
  (case j3r=>exact K41.bD KX G)
  (case j3s=>exact K41.bD KX G)
  (case j3t=>exact K41.bD KX G)
  (case j3u=>exact K41.bD KX G)
  (case j3v=>exact K41.bD KX G)
  (case j3w=>exact K41.bD KX G)
  (case j3x=>exact K41.bD KX G)
  (case j3y=>exact K41.bD KX G)
  (case j3z=>exact K41.bD KX G)
  (case j40=>exact K41.bD KX G)
  (case j41=>exact K41.bD KX G)
  (case j42=>exact K41.bD KX G)
  (case j43=>exact K41.bD KX G)
  (case j44=>exact K41.bD KX G)
  (case j45=>exact K41.bD KX G)
  (case j46=>exact K41.bD KX G)
  (case j47=>exact K41.bD KX G)
  (case j48=>exact K41.bD KX G)
  (case j49=>exact K41.bD KX G)
  (case j4a=>exact K41.bD KX G)
  (case j4b=>exact K41.bD KX G)
  (case j4c=>exact K41.bD KX G)
  (case j4d=>exact K41.bD KX G)
  (case j4e=>exact K41.bD KX G)
  (case j4f=>exact K41.bD KX G)
  (case j4g=>exact K41.bD KX G)
  (case j4h=>exact K41.bD KX G)
  (case j4i=>exact K41.bD KX G)
  (case j4j=>exact K41.bD KX G)
  (case j4k=>exact K41.bD KX G)
  (case j4l=>exact K41.bD KX G)
  (case j4m=>exact K41.bD KX G)
  (case j4n=>exact K41.bD KX G)
  (case j4o=>exact K41.bD KX G)
  (case j4p=>exact K41.bD KX G)
  (case j4q=>exact K41.bD KX G)
  (case j4r=>exact K41.bD KX G)
  (case j4s=>exact K41.bD KX G)
  (case j4t=>exact K41.bD KX G)
  (case j4u=>exact K41.bD KX G)
  (case j4v=>exact K41.bD KX G)
  (case j4w=>exact K41.bD KX G)
  (case j4x=>exact K41.bD KX G)
  (case j4y=>exact K41.m8 KX G (by k_is))
  (case j4z=>exact K41.m8 KX G (by k_is))
  (case j50=>exact K41.m8 KX G (by k_is))
  (case j51=>exact K41.m8 KX G (by k_is))
  (case j52=>exact K41.m8 KX G (by k_is))
  (case j53=>exact K41.m8 KX G (by k_is))
  (case j54=>exact K41.m8 KX G (by k_is))
  (case j55=>exact K41.m8 KX G (by k_is))
  (case j56=>exact K41.m8 KX G (by k_is))
  (case j57=>exact K41.KH KX G (by k_is))
  (case j58=>refine' K41.KI KX G ?e (K41.cw (K41.rZ.map L2.V.str) ?l ?z ?v (K41.AA K41.rZ));(case e=>k_is);(case l=>k_is);(case z=>exact Nat.le_of_ble_eq_true rfl);(case v=>exact(.cons ⟨_,rfl⟩ (.cons ⟨_,rfl⟩ (.cons ⟨_,rfl⟩ (.cons ⟨_,rfl⟩ (.cons ⟨_,rfl⟩ (.cons ⟨_,rfl⟩ (.cons ⟨_,rfl⟩ (.cons ⟨_,rfl⟩ (.cons ⟨_,rfl⟩ (.cons ⟨_,rfl⟩ (.cons ⟨_,rfl⟩ (.cons ⟨_,rfl⟩ (.cons ⟨_,rfl⟩ (.cons ⟨_,rfl⟩ (.cons ⟨_,rfl⟩ (.cons ⟨_,rfl⟩ (.cons ⟨_,rfl⟩ (.cons ⟨_,rfl⟩ (.cons ⟨_,rfl⟩ (.nil))))))))))))))))))))))
  (case j59=>refine' K41.Gs KX G ?e ?l ?k ?h ?s ?t;(case e=>k_is);(case l=>k_is);(case k=>k_keys);(case h=>exact(K41.bx rfl rfl (K41.bx rfl rfl (K41.bx rfl rfl (K41.bx rfl rfl (K41.bx rfl rfl (K41.bx rfl rfl (K41.bx rfl rfl (K41.bx rfl rfl (.nil))))))))));(case s=>exact rfl);(case t=>refine' (.cons ?q0 (.cons ?q1 (.cons ?q2 (.cons ?q3 (.cons ?q4 (.cons ?q5 (.cons ?q6 (.cons ?q7 (.nil)))))))));(case q0=>refine' K41.cw [(.int 2),(.int 0)] ?l ?z ?v ?d;(case l=>k_is);(case z=>exact Nat.le_of_ble_eq_true rfl);(case v=>exact .cons ⟨_,rfl⟩ (.cons ⟨_,rfl⟩ .nil));(case d=>exact fun _=>.cons (.int _) (.cons (.int _) .nil)));(case q1=>refine' K41.cw [(.int 2),(.int 0)] ?l ?z ?v ?d;(case l=>k_is);(case z=>exact Nat.le_of_ble_eq_true rfl);(case v=>exact .cons ⟨_,rfl⟩ (.cons ⟨_,rfl⟩ .nil));(case d=>exact fun _=>.cons (.int _) (.cons (.int _) .nil)));(case q2=>refine' K41.cw [(.int 2),(.int 1)] ?l ?z ?v ?d;(case l=>k_is);(case z=>exact Nat.le_of_ble_eq_true rfl);(case v=>exact .cons ⟨_,rfl⟩ (.cons ⟨_,rfl⟩ .nil));(case d=>exact fun _=>.cons (.int _) (.cons (.int _) .nil)));(case q3=>refine' K41.cw [(.int 4),(.int 3)] ?l ?z ?v ?d;(case l=>k_is);(case z=>exact Nat.le_of_ble_eq_true rfl);(case v=>exact .cons ⟨_,rfl⟩ (.cons ⟨_,rfl⟩ .nil));(case d=>exact fun _=>.cons (.int _) (.cons (.int _) .nil)));(case q4=>refine' K41.cw [(.int 3),(.int 1)] ?l ?z ?v ?d;(case l=>k_is);(case z=>exact Nat.le_of_ble_eq_true rfl);(case v=>exact .cons ⟨_,rfl⟩ (.cons ⟨_,rfl⟩ .nil));(case d=>exact fun _=>.cons (.int _) (.cons (.int _) .nil)));(case q5=>refine' K41.cw [(.int 3),(.int 2)] ?l ?z ?v ?d;(case l=>k_is);(case z=>exact Nat.le_of_ble_eq_true rfl);(case v=>exact .cons ⟨_,rfl⟩ (.cons ⟨_,rfl⟩ .nil));(case d=>exact fun _=>.cons (.int _) (.cons (.int _) .nil)));(case q6=>refine' K41.cw [(.int 3),(.int 1)] ?l ?z ?v ?d;(case l=>k_is);(case z=>exact Nat.le_of_ble_eq_true rfl);(case v=>exact .cons ⟨_,rfl⟩ (.cons ⟨_,rfl⟩ .nil));(case d=>exact fun _=>.cons (.int _) (.cons (.int _) .nil)));(case q7=>refine' K41.cw [(.int 4),(.int 1)] ?l ?z ?v ?d;(case l=>k_is);(case z=>exact Nat.le_of_ble_eq_true rfl);(case v=>exact .cons ⟨_,rfl⟩ (.cons ⟨_,rfl⟩ .nil));(case d=>exact fun _=>.cons (.int _) (.cons (.int _) .nil)))))
  (case j5a=>refine' K41.Gs KX G ?e ?l ?k ?h ?s ?t;(case e=>k_is);(case l=>k_is);(case k=>k_keys);(case h=>exact(K41.bx rfl rfl (K41.bx rfl rfl (K41.bx rfl rfl (K41.bx rfl rfl (K41.bx rfl rfl (K41.bx rfl rfl (K41.bx rfl rfl (K41.bx rfl rfl (.nil))))))))));(case s=>exact rfl);(case t=>refine' (.cons ?q0 (.cons ?q1 (.cons ?q2 (.cons ?q3 (.cons ?q4 (.cons ?q5 (.cons ?q6 (.cons ?q7 (.nil)))))))));(case q0=>refine' K41.cw [(.str "number"),(.str "number")] ?l ?z ?v ?d;(case l=>k_is);(case z=>exact Nat.le_of_ble_eq_true rfl);(case v=>exact .cons ⟨_,rfl⟩ (.cons ⟨_,rfl⟩ .nil));(case d=>exact fun _=>.cons (.str _) (.cons (.str _) .nil)));(case q1=>refine' K41.cw [(.str "number"),(.str "number")] ?l ?z ?v ?d;(case l=>k_is);(case z=>exact Nat.le_of_ble_eq_true rfl);(case v=>exact .cons ⟨_,rfl⟩ (.cons ⟨_,rfl⟩ .nil));(case d=>exact fun _=>.cons (.str _) (.cons (.str _) .nil)));(case q2=>refine' K41.cw [(.str "number"),(.str "number")] ?l ?z ?v ?d;(case l=>k_is);(case z=>exact Nat.le_of_ble_eq_true rfl);(case v=>exact .cons ⟨_,rfl⟩ (.cons ⟨_,rfl⟩ .nil));(case d=>exact fun _=>.cons (.str _) (.cons (.str _) .nil)));(case q3=>refine' K41.cw [.aj,(.str "truth")] ?l ?z ?v ?d;(case l=>k_is);(case z=>exact Nat.le_of_ble_eq_true rfl);(case v=>exact .cons rfl (.cons ⟨_,rfl⟩ .nil));(case d=>exact fun _=>.cons .aj (.cons (.str _) .nil)));(case q4=>refine' K41.cw [(.str "number"),(.str "truth")] ?l ?z ?v ?d;(case l=>k_is);(case z=>exact Nat.le_of_ble_eq_true rfl);(case v=>exact .cons ⟨_,rfl⟩ (.cons ⟨_,rfl⟩ .nil));(case d=>exact fun _=>.cons (.str _) (.cons (.str _) .nil)));(case q5=>refine' K41.cw [(.str "number"),(.str "truth")] ?l ?z ?v ?d;(case l=>k_is);(case z=>exact Nat.le_of_ble_eq_true rfl);(case v=>exact .cons ⟨_,rfl⟩ (.cons ⟨_,rfl⟩ .nil));(case d=>exact fun _=>.cons (.str _) (.cons (.str _) .nil)));(case q6=>refine' K41.cw [(.str "truth"),(.str "truth")] ?l ?z ?v ?d;(case l=>k_is);(case z=>exact Nat.le_of_ble_eq_true rfl);(case v=>exact .cons ⟨_,rfl⟩ (.cons ⟨_,rfl⟩ .nil));(case d=>exact fun _=>.cons (.str _) (.cons (.str _) .nil)));(case q7=>refine' K41.cw [(.str "truth"),(.str "truth")] ?l ?z ?v ?d;(case l=>k_is);(case z=>exact Nat.le_of_ble_eq_true rfl);(case v=>exact .cons ⟨_,rfl⟩ (.cons ⟨_,rfl⟩ .nil));(case d=>exact fun _=>.cons (.str _) (.cons (.str _) .nil)))))
  (case j5b=>k_is)
  (case j5c=>k_is)
  (case j5d=>k_is)
  (case j5e=>k_is)
  (case j5f=>k_is)
  (case j5g=>k_is)
  (case j5h=>k_is)
  (case j5i=>k_is)
  (case j5j=>k_is)
  (case j5k=>k_is)
  (case j5l=>k_is)
  (case j5m=>k_is)
  (case j5n=>k_is)
  (case j5o=>k_is)
#print axioms PySem.Challenge.cw_runrows_k41_what_is_needed_holds