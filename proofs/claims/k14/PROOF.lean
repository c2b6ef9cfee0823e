import PyProof.Rows.All
import Wide.All
import OpenK.AllK
import Wide.FinOn
import Lean
import PyProof.EqAt
import PyProof.EqKinds
import PyProof.TupleCall
import PyProof.ExcAttrAll.ValueError
import PyProof.EnumMake
import PyProof.EnumStmt
import PyProof.Rows.EnumRows
import KE.KDictOf
import KE.KEqDict
import PyProof.Draws
import KE.KDictSum
import PyProof.Rows.SortStr
import PyProof.Rows.SetFrom
import PyProof.WalksMore
import PyProof.TupleIter
import PyProof.DictIter
import PyProof.DictWalks
import KE.KDictList
import PyProof.SeqRoads2
import KE.KIntText
import PyProof.StrCalls
import PyProof.StrLawsIn
import PySem.Challenge.RW_runrows_k14_parts_read
set_option Elab.async false
set_option linter.all false
set_option maxRecDepth 100000
set_option maxHeartbeats 4000000
open PySem.W (instObj methodObj lookIn plainGet hasDictIn findIn plainGet_of isFn plainOver takerIn makesIn emptyDict keepIn fnOf codeIn kitOne kitAny mapOf_K nsIn mg_of mg_none_of)
namespace HK
open PySem PySem.W PyProof.Rows
def pb (o:Obj):Option Obj:=match o with
 |⟨_,_,.freed,_⟩=>none
 |o=>some o
theorem get_look (h:Heap)(a:Addr):h.get? a=(h.objs.toList[a]?).bind pb:=by
 unfold Heap.get?
 rw[Array.getElem?_toList]
 cases h.objs[a]? with
 |none=>rfl
 |some o =>
  obtain⟨c,d,x,s⟩:=o
  cases x<;>rfl
noncomputable def pick (os:List Obj):Nat->List Addr->List (Option Obj) :=
 List.rec (motive:=λ_=>Nat->List Addr->List (Option Obj)) (λ_ as=>as.map λ_=>none)
  (λo _ ih i as=>List.casesOn (motive:=λ_=>List (Option Obj)) as [] λa r=>cond (Nat.beq i a) (pb o::ih (Nat.succ i) r) (ih (Nat.succ i) (a::r))) os
def upB:Nat->List Addr->Bool
 |_,[]=>true
 |i,a::r=>Nat.ble i a&&upB (Nat.succ a) r
theorem upB_mono:∀{as:List Addr} {i j:Nat},i<=j->upB j as=true->upB i as=true
 |[],_,_,_,_=>rfl
 |a::r,i,j,h,u=>by
  unfold upB at u ⊢
  rw[Bool.and_eq_true] at u ⊢
  exact⟨Nat.ble_eq_true_of_le (Nat.le_trans h (Nat.le_of_ble_eq_true u.1)),u.2⟩
theorem pick_of:∀(os:List Obj) (i:Nat) (as:List Addr),upB i as=true->pick os i as=as.map λa=>(os[a - i]?).bind pb
 |[],i,as,_=>by
  show as.map (λ_=>none)=_
  apply List.map_congr_left
  intro a _
  simp
 |o::os,i,[],_=>rfl
 |o::os,i,a::r,u=>by
  have u':=u
  unfold upB at u
  rw[Bool.and_eq_true] at u
  have hle:=Nat.le_of_ble_eq_true u.1
  show cond (Nat.beq i a) (pb o::pick os (Nat.succ i) r) (pick os (Nat.succ i) (a::r))=_
  have step:∀l:List Addr,upB (Nat.succ i) l=true->(l.map λa=>(os[a - Nat.succ i]?).bind pb)=l.map λa=>((o::os)[a - i]?).bind pb:=by
   intro l hl
   apply List.map_congr_left
   intro b hb
   have hb':i+1<=b:=by
    clear u u' hle
    induction l generalizing i with
    |nil=>cases hb
    |cons c l ih =>
     unfold upB at hl
     rw[Bool.and_eq_true] at hl
     have h1:=Nat.le_of_ble_eq_true hl.1
     rcases List.mem_cons.mp hb with rfl|hb
     ·exact h1
     ·exact Nat.le_trans (by omega) (ih (i:=c) hl.2 hb)
   rw[show b - i=(b - (i+1))+1 by omega]
   rfl
  cases e:Nat.beq i a with
  |true =>
   have:i=a:=Nat.eq_of_beq_eq_true e
   subst this
   show pb o::pick os (Nat.succ i) r=_
   rw[pick_of os _ r u.2,step r u.2,List.map_cons,Nat.sub_self]
   rfl
  |false =>
   have ne:i≠a:=Nat.ne_of_beq_eq_false e
   show pick os (Nat.succ i) (a::r)=_
   have ua:upB (Nat.succ i) (a::r)=true:=by
    unfold upB
    rw[Bool.and_eq_true]
    exact⟨Nat.ble_eq_true_of_le (by omega),u.2⟩
   rw[pick_of os _ (a::r) ua,step _ ua]
noncomputable def fHook (K:Params->Frag)(as:List Addr)(e:∀P,as=(K P).map (·.1))(u:upB 0 as=true)(_:Unit):Hook :=
 ⟨List (Option Obj),λs=>pick s.heap.objs.toList 0 as,λw=>(K w.params).map λp=>some p.2,InK K,λw s x=>InK.of e w s (by
  rw[<- x,pick_of _ _ _ u]
  apply List.map_congr_left
  intro a _
  exact get_look _ _),InK.keeps⟩
theorem fIn_of {K:Params->Frag}{as:List Addr}{e:∀P,as=(K P).map (·.1)}{u:upB 0 as=true}{x:Unit}{w:World}{h:Heap}(Y:(fHook K as e u x).says w h):(K w.params).In h:=Y
end HK
namespace PySem.W.Fast
def tw1005173788690019851:=0
def tw10075512017119884784:=0
def tw10092139630330478797:=0
def tw10100578696706028736:=0
def tw10181184530454977166:=0
def tw10192584377157348291:=0
def tw10242088167143349997:=0
def tw10245487561661717882:=0
def tw10281374023347008928:=0
def tw10291845939115056649:=0
def tw10292445297396103364:=0
def tw10298095154354600137:=0
def tw10311032386755072780:=0
def tw10368913397629839234:=0
def tw10388741791110362639:=0
def tw1039533290836371738:=0
def tw10427792685634336444:=0
def tw10435599817104659172:=0
def tw10474376259268281060:=0
def tw10474517045018122152:=0
def tw10510030762014252840:=0
def tw10611172998604206030:=0
def tw10616948346863638757:=0
def tw10624072666468307813:=0
def tw10625236366922093791:=0
def tw10653191795943810827:=0
def tw10678615234179725637:=0
def tw10682748337632111883:=0
def tw10759581964760831524:=0
def tw10787194396022885137:=0
def tw107896879777198866:=0
def tw10852713069712707513:=0
def tw10904258829829308165:=0
def tw10908474083665030872:=0
def tw10921045674247746567:=0
def tw10930000441613780898:=0
def tw10940519402703667046:=0
def tw11046618816809529901:=0
def tw11048315413351080047:=0
def tw11056656866381054565:=0
def tw11070285496886431882:=0
def tw11077461799866295528:=0
def tw11102323385724044708:=0
def tw11112828903830559793:=0
def tw11182826388073579510:=0
def tw11221285977577468751:=0
def tw11256476443729987219:=0
def tw11283722053296865924:=0
def tw11294069299979276642:=0
def tw11330500089977318981:=0
def tw11424378468915682206:=0
def tw11460323453100147035:=0
def tw11491940086867272029:=0
def tw11492731222663818773:=0
def tw11544810287933586530:=0
def tw11551794987914307720:=0
def tw11576344776789482591:=0
def tw11632404337107548985:=0
def tw1167181623441987721:=0
def tw1167361815565741651:=0
def tw11676012618201200202:=0
def tw11789443419461944193:=0
def tw1184555188819317502:=0
def tw11893901405565743977:=0
def tw11902680586356876255:=0
def tw11918786760197385780:=0
def tw11929166622182918730:=0
def tw11977603003151013416:=0
def tw11977911175569513859:=0
def tw12035866448343500953:=0
def tw121568456662757972:=0
def tw12209202657693280363:=0
def tw12215068243241074472:=0
def tw1225300042466534489:=0
def tw12283961389160766057:=0
def tw12287466634020186153:=0
def tw12300808890995743603:=0
def tw12328810340882786258:=0
def tw12341249837777555844:=0
def tw12401375444234156301:=0
def tw12405082470285203963:=0
def tw12413941089709456392:=0
def tw12421113681676412898:=0
def tw12502831236423183983:=0
def tw12522769556069013624:=0
def tw12528932386249549156:=0
def tw12558441382903586833:=0
def tw1258534884374294247:=0
def tw126232943163939076:=0
def tw12643675599444042480:=0
def tw12682578044044121361:=0
def tw1272773118940708123:=0
def tw12730331369084183733:=0
def tw12731001929807655018:=0
def tw12759872584497753575:=0
def tw1277523441891055370:=0
def tw12784981992789054605:=0
def tw12857133037363959664:=0
def tw12863986327329689843:=0
def tw12928780965996549151:=0
def tw12934241733563462715:=0
def tw12964982885776427379:=0
def tw12985273720063139805:=0
def tw13010454052503321413:=0
def tw13042678235623567949:=0
def tw13048932026704321829:=0
def tw13111847459797515834:=0
def tw13162096007112732107:=0
def tw1316234804246808844:=0
def tw13188910959342598542:=0
def tw13188977180949968622:=0
def tw13259249986931905860:=0
def tw13260830031094245370:=0
def tw13264982570701994889:=0
def tw13321948845095630228:=0
def tw13328910800792583410:=0
def tw13376629272956970363:=0
def tw13397961234829119556:=0
def tw13451004212615895225:=0
def tw13451963468259461441:=0
def tw13519552497319241828:=0
def tw13529211082474448371:=0
def tw13553887817261553117:=0
def tw13555224114318934102:=0
def tw13563967911606524145:=0
def tw13585674287561602700:=0
def tw13646558158558178390:=0
def tw13658476275413535999:=0
def tw13711310423590081513:=0
def tw13788162783322889769:=0
def tw13794770848970378025:=0
def tw13799694491377536183:=0
def tw13823889890234461938:=0
def tw13851093199149568584:=0
def tw13926934077748688274:=0
def tw13932940975103079420:=0
def tw13937182313154708263:=0
def tw13948681858365943603:=0
def tw14010190788256253737:=0
def tw14011391104351694558:=0
def tw14043791622332137100:=0
def tw14047663304401579100:=0
def tw14069220484530824724:=0
def tw14076542283864887512:=0
def tw14096368155912550807:=0
def tw14097754965433183298:=0
def tw14128754409473785343:=0
def tw14170554324911410712:=0
def tw14209795815759749273:=0
def tw1425483712668013544:=0
def tw14303667651840351171:=0
def tw14311038153441435093:=0
def tw14311599912315850834:=0
def tw14344228144536144537:=0
def tw14359684523330107097:=0
def tw14378087743415201186:=0
def tw14401545173453770018:=0
def tw14434647543997107067:=0
def tw14435136008105925932:=0
def tw14450930676218928248:=0
def tw14502892300672711294:=0
def tw14504088928248699976:=0
def tw14517677512315839579:=0
def tw145477395300907292:=0
def tw14565655323682952118:=0
def tw14600462471713845711:=0
def tw14630698234972871363:=0
def tw14652165292252510987:=0
def tw14666292136045397323:=0
def tw14675514110255472197:=0
def tw14746194887769498636:=0
def tw14766692222951595340:=0
def tw14797918348054449791:=0
def tw14800673590053299537:=0
def tw14808749530901424809:=0
def tw14872590856777359287:=0
def tw14909866768453294079:=0
def tw14910313734244294197:=0
def tw14928368827852311939:=0
def tw14954586082252449696:=0
def tw14970061695685500992:=0
def tw14985507949426761772:=0
def tw15008648821967249423:=0
def tw15050317225906069884:=0
def tw15060447859626721829:=0
def tw15074400847455132594:=0
def tw15078527494596098602:=0
def tw15090243147261816038:=0
def tw15170193532199990152:=0
def tw15171987475126949351:=0
def tw15182022364067939594:=0
def tw15226245449146016274:=0
def tw15255022277728350116:=0
def tw1531156213469727484:=0
def tw15392267528864563152:=0
def tw15422862944880141245:=0
def tw15431013121300125153:=0
def tw15437617066798145067:=0
def tw15450779710404555460:=0
def tw15454951609121490990:=0
def tw15462958184535579612:=0
def tw15505144319340540686:=0
def tw15541279242606405146:=0
def tw15553932596626725303:=0
def tw15561712813124593487:=0
def tw1556211135660638446:=0
def tw15591779143531454156:=0
def tw15644436206628978265:=0
def tw15646051529941247779:=0
def tw15658581678701154901:=0
def tw15660316531407416708:=0
def tw15781351171571136165:=0
def tw15786009852112444330:=0
def tw15800335315318338926:=0
def tw15878283035196776733:=0
def tw15912326554098490758:=0
def tw15953924372992769263:=0
def tw15971813935699934640:=0
def tw15972462953816318748:=0
def tw15975887937484510491:=0
def tw15989597172031655202:=0
def tw1600701943223028627:=0
def tw16013231413871042747:=0
def tw16021918735717817067:=0
def tw16025739800998920092:=0
def tw16031925697494997891:=0
def tw16094858912731944949:=0
def tw16115247186079278480:=0
def tw1613666834425060735:=0
def tw16187863561334881237:=0
def tw16191636447272343862:=0
def tw16208087129749618426:=0
def tw16241778693032076801:=0
def tw16278145839972367481:=0
def tw16283885853781933767:=0
def tw16292150527335008256:=0
def tw16298375171766133284:=0
def tw16314797458161742342:=0
def tw16322808281755406214:=0
def tw16326110618884136131:=0
def tw16358035129947871790:=0
def tw16386137105239327228:=0
def tw16387235056692953875:=0
def tw16414159575156695452:=0
def tw1657326038529687373:=0
def tw16586460907146979344:=0
def tw16590357572559156286:=0
def tw16635332595115288985:=0
def tw16643955301330777707:=0
def tw16668068356802922604:=0
def tw16694857631246066523:=0
def tw16699774830576251435:=0
def tw16741220973244544167:=0
def tw16782153864380478883:=0
def tw16791796274612117204:=0
def tw16798686861991120245:=0
def tw16849404224038428008:=0
def tw16868922270203894136:=0
def tw16870196176004695614:=0
def tw16921218083932178303:=0
def tw16943692418956708175:=0
def tw16960321057878543524:=0
def tw16974125337107445409:=0
def tw17000338531488496944:=0
def tw17001043336389773014:=0
def tw1711958752854999365:=0
def tw17130692111895985110:=0
def tw17135137040282987603:=0
def tw17184238213449918407:=0
def tw17248183200051593167:=0
def tw17250624654306270596:=0
def tw1728514289991056392:=0
def tw17306339383085125433:=0
def tw17334711066929613311:=0
def tw17352166430871893412:=0
def tw1737536294347557067:=0
def tw17388321123063836026:=0
def tw17432048325688491015:=0
def tw1744508974697608472:=0
def tw17464646733308685712:=0
def tw17509803538394827737:=0
def tw17564561433166725519:=0
def tw17627526073137835669:=0
def tw17651923661032425557:=0
def tw17721507996333804179:=0
def tw17726524949316529310:=0
def tw17764064855291652723:=0
def tw17773328646096562398:=0
def tw17806613732480169978:=0
def tw17807145488153083344:=0
def tw17810699239486165656:=0
def tw178164123489718630:=0
def tw17842134130359728971:=0
def tw17892490908670841471:=0
def tw17922307502991502474:=0
def tw17962306329865677428:=0
def tw18008899011572397588:=0
def tw18010869423682059279:=0
def tw18013768588897268797:=0
def tw18023851853693091276:=0
def tw180657637175875984:=0
def tw18093535901862177236:=0
def tw18122108514652354027:=0
def tw18154521846912969803:=0
def tw18154834630273817314:=0
def tw18161932697099322638:=0
def tw18190164903560398958:=0
def tw18229483162725759442:=0
def tw18254066186158434040:=0
def tw18256928246545037547:=0
def tw1826068165655266282:=0
def tw18276490048181366217:=0
def tw18284511809350680749:=0
def tw18310306412034765643:=0
def tw18310431957910392707:=0
def tw18338298219336300161:=0
def tw1834078919310443610:=0
def tw183612064841833848:=0
def tw18395982156435874220:=0
def tw18441902954483046878:=0
def tw1846231640665078585:=0
def tw1859061202487730456:=0
def tw1862531491432299508:=0
def tw1865556833436459227:=0
def tw1888074396922163448:=0
def tw1888743511125203435:=0
def tw1909611169594358516:=0
def tw1935104109867989805:=0
def tw1952330023656022165:=0
def tw1973435161889218783:=0
def tw2009041060375394155:=0
def tw2021703755593677561:=0
def tw2067545859860988265:=0
def tw2148439350123035035:=0
def tw2260219600633477477:=0
def tw2299387420324197310:=0
def tw2304955275169496080:=0
def tw2362466172688746941:=0
def tw2435859872056247588:=0
def tw2454270941656798235:=0
def tw2484654628663752662:=0
def tw2492919937405720494:=0
def tw2551658035941608285:=0
def tw2616286574033330746:=0
def tw2678225605933443642:=0
def tw2729561393644096938:=0
def tw2779293709231909220:=0
def tw2785707311187832728:=0
def tw2810178996028426276:=0
def tw2825775973767589421:=0
def tw2830356037636192443:=0
def tw2840821366242259012:=0
def tw2844108582328324223:=0
def tw2876906230234586606:=0
def tw2936282477181495790:=0
def tw2957596122995008899:=0
def tw2980603950801281390:=0
def tw2995770979666991873:=0
def tw3118095345827608277:=0
def tw3190163965820868757:=0
def tw3249818585639847412:=0
def tw3269194022948515079:=0
def tw3296068668806359458:=0
def tw3354458516815402996:=0
def tw340402139420156446:=0
def tw341594212617440111:=0
def tw3475710799410562805:=0
def tw3495606932933987544:=0
def tw350273338006580358:=0
def tw3524723459497967131:=0
def tw3541998558419698547:=0
def tw3544398786600661130:=0
def tw3641181025447210901:=0
def tw3659773732088228584:=0
def tw3678387209980907807:=0
def tw3687444588770262864:=0
def tw3706436903023406531:=0
def tw3716456984593091814:=0
def tw3718562613629038402:=0
def tw3778381776600212745:=0
def tw3848762587218322773:=0
def tw3861884436567526657:=0
def tw3864760151501857197:=0
def tw3869122231505369766:=0
def tw3907482003745393179:=0
def tw4048380311786356257:=0
def tw4099521104164733808:=0
def tw4155651729833088104:=0
def tw4185415212316434210:=0
def tw4300757603050897235:=0
def tw4301350358394458544:=0
def tw4322595753251489079:=0
def tw4331665357604876066:=0
def tw4355166779762148140:=0
def tw4362692036940794356:=0
def tw4387201212273232175:=0
def tw4393744970688375421:=0
def tw4413734058922026215:=0
def tw445079398552215991:=0
def tw4459825449391204594:=0
def tw4487990670090637970:=0
def tw4531291905453788479:=0
def tw4531467254757925407:=0
def tw4551685443511588830:=0
def tw4562377914893043810:=0
def tw4588377862106849196:=0
def tw4622570774129650801:=0
def tw4656400717470340300:=0
def tw4668089068704552227:=0
def tw4726604301593653703:=0
def tw4730383010276854603:=0
def tw4736541655991583395:=0
def tw4798468729179297665:=0
def tw4812021468596702234:=0
def tw4981602338701753703:=0
def tw5047342075922678597:=0
def tw5054448003750484727:=0
def tw5079333364137987224:=0
def tw5101750145232322437:=0
def tw5147769519429402923:=0
def tw5156964202883364326:=0
def tw5158830243026360208:=0
def tw517836013190429345:=0
def tw5182054084845671353:=0
def tw5211546437243588178:=0
def tw5225757762670876789:=0
def tw5228236941708095416:=0
def tw528158829490762234:=0
def tw528640861281434937:=0
def tw5314590389643383594:=0
def tw532564586494476993:=0
def tw5347554997025117095:=0
def tw5369850563834308860:=0
def tw5370829249225431565:=0
def tw5412438287516776390:=0
def tw541968562953556143:=0
def tw5467338220794862857:=0
def tw5478871977173364590:=0
def tw5591821715646829676:=0
def tw5747933081750224034:=0
def tw5762455538256830500:=0
def tw5766127517548406559:=0
def tw5767825136762172029:=0
def tw5776973389575060866:=0
def tw5845282691760227405:=0
def tw5918343033989033925:=0
def tw5940060466998572445:=0
def tw5950302231404010809:=0
def tw5962949918828508403:=0
def tw6006149982232093572:=0
def tw6033363456493963215:=0
def tw6037705613974950179:=0
def tw6061625047310794646:=0
def tw6099435051864373062:=0
def tw6107197623998295805:=0
def tw6128172389138625627:=0
def tw6130884491024837750:=0
def tw616866781149776907:=0
def tw6189924080538307919:=0
def tw6194765547295560038:=0
def tw6211123886770717603:=0
def tw624783669350786061:=0
def tw6252293814543271011:=0
def tw6295546266092609322:=0
def tw6321816423787604094:=0
def tw6372803829195224114:=0
def tw6373988491272631831:=0
def tw6391195493524725351:=0
def tw6481888747563355910:=0
def tw6487500687460588470:=0
def tw6501435973068256161:=0
def tw6551200836301343720:=0
def tw6628367416823154516:=0
def tw6631660239296073812:=0
def tw6634903900661633298:=0
def tw6646213412091364307:=0
def tw6665888043678560999:=0
def tw6677814814581094350:=0
def tw6778136668945933855:=0
def tw6783101603747161880:=0
def tw6800017433306432342:=0
def tw6812364631582444891:=0
def tw6813583995878680687:=0
def tw6814470460581796080:=0
def tw6840921676735953097:=0
def tw6920880667896271790:=0
def tw6928831310693713394:=0
def tw693657343487213227:=0
def tw693703086058821228:=0
def tw6939700587120419674:=0
def tw7002061030828522751:=0
def tw7009142572223859092:=0
def tw7011376637281512049:=0
def tw7016444173637866932:=0
def tw7039860270937523558:=0
def tw7042753791380353621:=0
def tw7050967643867335967:=0
def tw7062243838374122128:=0
def tw7088693715972972025:=0
def tw7097726485913934640:=0
def tw7099165987136855377:=0
def tw710512409216003770:=0
def tw7154652115520346437:=0
def tw7240957350488482721:=0
def tw724424902096593376:=0
def tw7284652154208832986:=0
def tw7286640209926109843:=0
def tw7294505163643250816:=0
def tw7379918295578905801:=0
def tw7393383422084879113:=0
def tw7404262626487865053:=0
def tw743192153786554138:=0
def tw7451027745878458152:=0
def tw7492661032564015619:=0
def tw7688806570005088709:=0
def tw7724431046009099580:=0
def tw7760746792318288314:=0
def tw7849006938312175453:=0
def tw7859998534211565639:=0
def tw7894263979608688145:=0
def tw789650111741087477:=0
def tw7918906635686713647:=0
def tw7982508372571923357:=0
def tw7996393043280530956:=0
def tw8047548660062318905:=0
def tw8048490847063357357:=0
def tw8138885337510300608:=0
def tw8171463811706366748:=0
def tw8188992223712956548:=0
def tw819665288995774923:=0
def tw8227308574867369943:=0
def tw8240159863640817785:=0
def tw827617655250301209:=0
def tw8277121477717666678:=0
def tw8310321691142376522:=0
def tw8368161247767245322:=0
def tw8390669859007141674:=0
def tw84143301266720351:=0
def tw8434610837845745358:=0
def tw8442134793820664248:=0
def tw8448197058889593862:=0
def tw8459923825490575664:=0
def tw846309270603563469:=0
def tw8468808397929521641:=0
def tw8484351519143102972:=0
def tw8538230466443137126:=0
def tw8543952178962916249:=0
def tw8559763349793151538:=0
def tw8566244285055041274:=0
def tw8607630254030796057:=0
def tw8714700036925522406:=0
def tw8757637190290783800:=0
def tw8781603035631130900:=0
def tw8902805768886232554:=0
def tw8924231069880615658:=0
def tw8933373702464177502:=0
def tw8942729247927701892:=0
def tw8959535497316357123:=0
def tw8977402361024797762:=0
def tw902893260383212922:=0
def tw9037664137436165995:=0
def tw9057278928651577926:=0
def tw9102598075570248193:=0
def tw9110297040277387891:=0
def tw9122889990103652677:=0
def tw9167285691252281020:=0
def tw9202414491655537684:=0
def tw922196279392603236:=0
def tw9259618683578625996:=0
def tw9268251409997859076:=0
def tw9273957916288672550:=0
def tw931408103755575739:=0
def tw9319776275135469650:=0
def tw9324808939811915254:=0
def tw9349177441267158009:=0
def tw9354041368904304291:=0
def tw9361010358102370232:=0
def tw9381775811910456141:=0
def tw939544929871569562:=0
def tw9436131070022638867:=0
def tw9460899548955850738:=0
def tw954333092402385493:=0
def tw9569062052208390515:=0
def tw9623692033140370097:=0
def tw9628824684408203654:=0
def tw9639199781652949341:=0
def tw9673111248656485420:=0
def tw9682563135988009735:=0
def tw9693481169885902685:=0
def tw9699247842637155060:=0
def tw9702214756882556083:=0
def tw9728955027042283718:=0
def tw9747899739320665928:=0
def tw9804706850969215373:=0
def tw9822598017996461749:=0
def tw9829854846248542539:=0
def tw9830437090789707394:=0
def tw9851997074573481069:=0
def tw9928403583262560509:=0
def tw994888328438906363:=0
end PySem.W.Fast
namespace HK
open PySem PySem.W PyProof.Rows
local macro_rules
 | `(tactic| o_head ($_:ident $k $a $e)) => `(tactic| o_head (HK.fHook $k $a $e (by decide +kernel) ()))
 | `(tactic| o_head ($_:ident $k $a $e $_)) => `(tactic| o_head (HK.fHook $k $a $e (by decide +kernel) ()))
set_option maxHeartbeats 0 in
open_top hd for PySem.Challenge.rw_runrows_k14_parts_read
end HK
namespace L2
open PySem PySem.Spec PyProof.Rows
abbrev Key:=Sum Int Str
def rG:Key->Value->Bool
 |.inl k,v=>Value.isInt k v
 |.inr x,v=>Value.isStrOf x v
def LD (w:World):Key->Int
 |.inl k=>hashInt k
 |.inr x=>hashStr w x
theorem bw:∀{k:Key} {v:Value},rG k v=true->(∃i t,k=Sum.inl i/\v=Value.int i t)\/(∃x t,k=Sum.inr x/\v=Value.str x t)
 |.inl i,v,h=>by
  obtain⟨t,e⟩:=Value.isInt_shape (k:=i) (v:=v) h
  exact .inl ⟨i,t,rfl,e⟩
 |.inr x,v,h=>by
  obtain⟨t,e⟩:=Value.isStrOf_shape (x:=x) (v:=v) h
  exact .inr ⟨x,t,rfl,e⟩
theorem zI (i:Int)(t:Tok):rG (.inl i) (.int i t)=true:=by simp[rG,Value.isInt]
theorem zJ (x:Str)(t:Tok):rG (.inr x) (.str x t)=true:=by simp[rG,Value.isStrOf]
theorem Gi (a b:Int):decide ((Sum.inl a:Key)=Sum.inl b)=(a == b):=by
 by_cases e:a=b
 ·subst e;simp
 ·have h:¬ (Sum.inl a:Key)=Sum.inl b:=λq=>e (Sum.inl.inj q)
  rw[decide_eq_false h]
  exact(beq_eq_false_iff_ne.mpr e).symm
theorem Gm (a b:Str):decide ((Sum.inr a:Key)=Sum.inr b)=decide (a=b):=by
 by_cases e:a=b
 ·subst e;simp
 ·have h:¬ (Sum.inr a:Key)=Sum.inr b:=λq=>e (Sum.inr.inj q)
  rw[decide_eq_false h,decide_eq_false e]
theorem Gj (a:Int)(b:Str):decide ((Sum.inl a:Key)=Sum.inr b)=false:=decide_eq_false (λq=>nomatch q)
theorem Gk (a:Str)(b:Int):decide ((Sum.inr a:Key)=Sum.inl b)=false:=decide_eq_false (λq=>nomatch q)
def b8 (prog:Program)(w:World):PySem.KeyKind prog w Key where
 is:=rG
 hash:=LD w
 inj:=λv a b ha hb=>by
  rcases bw ha with⟨i,t,rfl,rfl⟩|⟨x,t,rfl,rfl⟩
  ·rcases bw hb with⟨j,u,rfl,e⟩|⟨y,u,rfl,e⟩
   ·injection e with e1 _;rw[e1]
   ·exact nomatch e
  ·rcases bw hb with⟨j,u,rfl,e⟩|⟨y,u,rfl,e⟩
   ·exact nomatch e
   ·injection e with e1 _;rw[e1]
 byValue:=λk v h=>by
  rcases bw h with⟨i,t,rfl,rfl⟩|⟨x,t,rfl,rfl⟩<;>rfl
 pyHash:=λhv h=>by
  rcases bw hv with⟨i,t,rfl,rfl⟩|⟨x,t,rfl,rfl⟩
  ·exact wpAny_pyHash_int h
  ·exact wpAny_pyHash_str h
 eqBool:=λhu hv h=>by
  rcases bw hu with⟨i,t,rfl,rfl⟩|⟨x,t,rfl,rfl⟩
  ·rcases bw hv with⟨j,u,rfl,rfl⟩|⟨y,u,rfl,rfl⟩
   ·rw[Gi] at h;exact wpAny_eqBool_int h
   ·rw[Gj] at h;exact SeqAt.EqAt.int_str i t y u _ _ _ _ h
  ·rcases bw hv with⟨j,u,rfl,rfl⟩|⟨y,u,rfl,rfl⟩
   ·rw[Gk] at h;exact SeqAt.EqAt.str_int x t j u _ _ _ _ h
   ·rw[Gm] at h;exact wpAny_eqBool_str h
 «strs»:=λk x t v h=>by
  rcases bw h with⟨i,u,rfl,e⟩|⟨y,u,rfl,e⟩
  ·exact nomatch e
  ·injection e with e1 _
   subst e1
   cases v<;>rfl
theorem u_ (prog:Program)(w:World)(i:Int)(t:Tok):(b8 prog w).is (.inl i) (.int i t)=true:=zI i t
theorem vA (prog:Program)(w:World)(x:Str)(t:Tok):(b8 prog w).is (.inr x) (.str x t)=true:=zJ x t
inductive V where
 |ag|bl (b:Bool)|int (i:Int)|str (x:Str)|vq (b:Array UInt8)|Kg (b:UInt64)|ref (a:Addr)|ty (n:String)
 deriving DecidableEq
def RelV:V->Value->Prop
 |.ag,u=>u=Value.none
 |.bl b,u=>u=Value.bool b
 |.int i,u=>∃t,u=Value.int i t
 |.str x,u=>∃t,u=Value.str x t
 |.vq b,u=>∃t,u=Value.bytes b t
 |.Kg b,u=>∃t,u=Value.float b t
 |.ref a,u=>u=Value.ref a
 |.ty n,u=>u=Value.type n
abbrev Vals:List V->List Value->Prop:=Paired RelV
theorem Vals.length {xs:List V}{us:List Value}(r:Vals xs us):xs.length=us.length:=Paired.length r
theorem Vals.get:∀{xs:List V} {us:List Value} {i:Nat} {x:V},Vals xs us->xs[i]?=some x->∃u,us[i]?=some u/\RelV x u
 |_,_,_,_,.nil,e=>by simp at e
 |_,_,0,_,.cons r _,e=>by simp at e;subst e;exact⟨_,rfl,r⟩
 |_,_,i+1,x,.cons _ t,e=>by
  obtain⟨u,h1,h2⟩:=Vals.get (i:=i) (x:=x) t (by simpa using e)
  exact⟨u,by simpa using h1,h2⟩
theorem Vals.append:∀{xs ys:List V} {us ws:List Value},Vals xs us->Vals ys ws->Vals (xs++ys) (us++ws)
 |_,_,_,_,.nil,s=>s
 |_,_,_,_,.cons r t,s=>.cons r (Vals.append t s)
theorem Vals.take:∀{xs:List V} {us:List Value} (n:Nat),Vals xs us->Vals (xs.take n) (us.take n)
 |_,_,0,_=>.nil
 |_,_,_+1,.nil=>.nil
 |_,_,n+1,.cons r t=>.cons r (Vals.take n t)
theorem Vals.drop:∀{xs:List V} {us:List Value} (n:Nat),Vals xs us->Vals (xs.drop n) (us.drop n)
 |_,_,0,r=>r
 |_,_,_+1,.nil=>.nil
 |_,_,n+1,.cons _ t=>Vals.drop n t
def ir:Option V->Option Value->Prop
 |some v,some u=>RelV v u
 |none,none=>True
 |_,_=>False
def KV {κ:Type}:List (κ × V)->List (κ × Value)->Prop:=Paired fun(p:κ × V) (q:κ × Value)=>p.1=q.1/\RelV p.2 q.2
def kV:Key->V
 |.inl i=>.int i
 |.inr x=>.str x
inductive HO where
 /-- a list -/
 |lst (xs:List V)
 /-- a tuple (never changes) -/
 |tup (xs:List V)
 /-- a dict whose keys are ints and texts;one whose keys are tuples of ints and texts (the empty one is both) -/
 |dK (kvs:List (Key × V))|dT (kvs:List (List Key × V))
 /-- a set of ints: its members,its size -/
 |set (S:Int->Bool) (n:Nat)
 /-- an instance of the class at C,its dict at dx,its attributes -/
 |ins (C dx:Addr) (fs:List (Str × V))
 /-- the dict of the instance at x -/
 |own (x:Addr)
 /-- the dict of an exception -/
 |xd (fs:List (Str × V))
 /-- a bound method,f of x -/
 |met (f x:Addr)
 /-- a range object lo,lo+1,.. below hi -/
 |LV (lo hi:Int)
 /-- a thing that is known to the object (the script;a dict while a loop walks it): read,never written while it is so -/
 |A6 (o:Obj) (u:HO)
 /-- a code object's table -/
 |Fp (ps:Array Value)
 /-- any other thing,by what is true of its one object (a def of one's own: MI a S n:=HO.ext λh=>..) -/
 |ext (φ:Heap->Prop)
abbrev Hp:=Addr->Option HO
def upd (H:Hp)(a:Addr)(o:HO):Hp:=λb=>if b=a then some o else H b
theorem aM {H:Hp}{a:Addr}{o:HO}:upd H a o a=some o:=by unfold upd;rw[if_pos rfl]
theorem aN {H:Hp}{a b:Addr}{o:HO}(h:b≠a):upd H a o b=H b:=by unfold upd;rw[if_neg h]
theorem m6 {H:Hp}{a:Addr}{o u:HO}:upd (upd H a o) a u=upd H a u:=by
 funext b;unfold upd;split<;>rfl
theorem Jd {H:Hp}{a b:Addr}{o u:HO}(h:H a=some o)(h':H b=some u)(d:o≠u):a≠b:=by
 intro e;subst e;rw[h] at h';exact d (Option.some.inj h')
theorem ah {H:Hp}{a b:Addr}{o:HO}(h:H a=some o)(h':H b=none):a≠b:=by
 intro e;subst e;rw[h] at h';cases h'
section
variable (P:Program)(w:World)
def bR (H:Hp)(h:Heap)(a:Addr):HO->Prop
 |.lst xs=>xs.length<=sizeLine/\∃(its:List Value) (n:Nat),Vals xs its/\h.get? a=some { cls:=.type "list",data:=.seq its.toArray n }
 |.tup xs=>xs.length<=sizeLine/\∃its:List Value,Vals xs its/\IsTup h a its.toArray
 |.dK kvs=>kvs.length<=sizeLine/\(a == sysModules)=false/\∃vs,KV kvs vs/\h.DictOf (b8 P w) a vs
 |.dT kvs=>kvs.length<=sizeLine/\(a == sysModules)=false/\∃xs:List (List Key × Addr × Value),
   Paired (fun(p:List Key × V) (q:List Key × Addr × Value)=>p.1=q.1/\H q.2.1=some (.tup (p.1.map kV))/\RelV p.2 q.2.2) kvs xs /\
   ∃o es ep,h.get? a=some o/\o.ExactDict/\o.data=.dict es ep/\es.toList=xs.map (entryOfKey (tupleKind (b8 P w)))/\(xs.map (·.1)).Nodup
 |.set S n=>h.SetOf (intKind P w) a S n
 |.ins C dx fs=>H dx=some (.own a)/\fs.length<=1000/\dx≠a/\h.get? a=some (instObj C dx) /\
   ∃mA,h.Ns1 dx mA/\(∀f,ir (fs.lookup f) (mA f))/\PySem.Within mA (fs.map (·.1))
 |.own _=>∃o,h.get? a=some o
 |.xd fs=>∃mA,h.Ns1 a mA/\∀f,ir (fs.lookup f) (mA f)
 |.LV lo hi=>∃t u v,h.get? a=some { cls:=.type "range",data:=.fields #[.int lo t,.int hi u,.int 1 v] }
 |.A6 o u=>h.get? a=some o/\bR H h a u
 |.Fp ps=>h.get? a=some { cls:=.none,data:=.fields ps }
 |.met f x=>h.get? a=some (methodObj (.ref f) (.ref x))
 |.ext φ=>φ h/\(∃o,h.get? a=some o)/\∀h1 h2:Heap,φ h1->(∀o,h1.get? a=some o->h2.get? a=some o)->φ h2
def lU (H:Hp)(h:Heap):Prop:=∀a o,H a=some o->bR P w H h a o
end
section
variable {P:Program}{w:World}{H H':Hp}{h h':Heap}{a:Addr}{o:HO}
theorem bR.lt (x:bR P w H h a o):a<h.objs.size:=by
 cases o with
 |lst xs=>obtain⟨_,_,_,_,e⟩:=x;exact Heap.lt_size e
 |tup xs=>obtain⟨_,_,_,p⟩:=x;exact p.lt
 |dK kvs=>obtain⟨_,_,_,_,o,_,_,e,_⟩:=x;exact Heap.lt_size e
 |dT kvs=>obtain⟨_,_,_,_,o,_,_,e,_⟩:=x;exact Heap.lt_size e
 |set S n=>obtain⟨o,_,_,_,e,_⟩:=x;exact Heap.lt_size e
 |ins C dx fs=>obtain⟨_,_,_,e,_⟩:=x;exact Heap.lt_size e
 |own y=>obtain⟨_,e⟩:=x;exact Heap.lt_size e
 |xd fs=>obtain⟨_,⟨_,_,_,e,_⟩,_⟩:=x;exact Heap.lt_size e
 |LV lo hi=>obtain⟨_,_,_,e⟩:=x;exact Heap.lt_size e
 |A6 ob u=>obtain⟨e,_⟩:=x;exact Heap.lt_size e
 |Fp ps=>exact Heap.lt_size (show h.get? a=some _ from x)
 |met f y=>exact Heap.lt_size (show h.get? a=some _ from x)
 |ext φ=>obtain⟨_,⟨_,e⟩,_⟩:=x;exact Heap.lt_size e
theorem Paired.G4 {α β:Type}{F G:α->β->Prop}:∀{l₁:List α} {l₂:List β},Paired F l₁ l₂->(∀a b,F a b->G a b)->Paired G l₁ l₂
 |_,_,.nil,_=>.nil
 |_,_,.cons r t,f=>.cons (f _ _ r) (Paired.G4 t f)
theorem bR.tu (x:bR P w H h a o)(k:∀b u,(b=a\/H b=some (.own a))->h.get? b=some u->h'.get? b=some u)
  (ho:∀b,H b=some (.own a)->H' b=some (.own a))(ht:∀b xs,H b=some (.tup xs)->H' b=some (.tup xs)):bR P w H' h' a o:=by
 induction o with
 |lst xs=>obtain⟨z,its,n,r,e⟩:=x;exact⟨z,its,n,r,k _ _ (.inl rfl) e⟩
 |tup xs=>obtain⟨z,its,r,ob,e,c⟩:=x;exact⟨z,its,r,ob,k _ _ (.inl rfl) e,c⟩
 |dK kvs=>obtain⟨z,y,vs,r,ob,es,ep,e,c⟩:=x;exact⟨z,y,vs,r,ob,es,ep,k _ _ (.inl rfl) e,c⟩
 |dT kvs =>
  obtain⟨z,y,xs,r,ob,es,ep,e,c⟩:=x
  exact⟨z,y,xs,Paired.G4 r λp q z=>⟨z.1,ht _ _ z.2.1,z.2.2⟩,ob,es,ep,k _ _ (.inl rfl) e,c⟩
 |set S n=>obtain⟨ob,es,ep,t,e,c⟩:=x;exact⟨ob,es,ep,t,k _ _ (.inl rfl) e,c⟩
 |ins C dx fs =>
  obtain⟨d,z,ne,e,mA,⟨od,es,ep,e2,c⟩,r⟩:=x
  exact⟨ho _ d,z,ne,k _ _ (.inl rfl) e,mA,⟨od,es,ep,k _ _ (.inr d) e2,c⟩,r⟩
 |own y=>obtain⟨ob,e⟩:=x;exact⟨ob,k _ _ (.inl rfl) e⟩
 |xd fs=>obtain⟨mA,⟨od,es,ep,e,c⟩,r⟩:=x;exact⟨mA,⟨od,es,ep,k _ _ (.inl rfl) e,c⟩,r⟩
 |LV lo hi=>obtain⟨t,u,v,e⟩:=x;exact⟨t,u,v,k _ _ (.inl rfl) e⟩
 |A6 ob u ih=>obtain⟨e,q⟩:=x;exact⟨k _ _ (.inl rfl) e,ih q⟩
 |Fp ps =>
  have e:h.get? a=some { cls:=.none,data:=.fields ps }:=x
  show h'.get? a=some { cls:=.none,data:=.fields ps }
  exact k a _ (.inl rfl) e
 |met f y =>
  have e:h.get? a=some (methodObj (.ref f) (.ref y)):=x
  show h'.get? a=some (methodObj (.ref f) (.ref y))
  exact k a _ (.inl rfl) e
 |ext φ=>obtain⟨p,⟨o,e⟩,st⟩:=x;exact⟨st _ _ p λo q=>k _ _ (.inl rfl) q,⟨o,k _ _ (.inl rfl) e⟩,st⟩
theorem lU.lt (x:lU P w H h)(e:H a=some o):a<h.objs.size:=(x a o e).lt
theorem lU.fresh (x:lU P w H h)(e:h.objs.size<=a):H a=none:=by
 cases q:H a with
 |none=>rfl
 |some u=>exact absurd (Nat.lt_of_lt_of_le (x.lt q) e) (Nat.lt_irrefl _)
theorem lU.kept (x:lU P w H h)(k:∀b u,h.get? b=some u->h'.get? b=some u):lU P w H h':=λa o e =>
 (x a o e).tu (λb u _ q=>k b u q) (λ_ q=>q) λ_ _ q=>q
theorem lU.laid (x:lU P w H h)(k:∀b u,h.get? b=some u->h'.get? b=some u)(hp:h.objs.size<=a)(new:bR P w (upd H a o) h' a o):lU P w (upd H a o) h':=λb u e=>by
 have hn:=x.fresh hp
 by_cases hb:b=a
 ·subst hb;rw[aM] at e;cases e;exact new
 ·rw[aN hb] at e
  exact(x b u e).tu (λc v _ q=>k c v q) (λc q=>by rw[aN (ah q hn)];exact q) λc xs q=>by rw[aN (ah q hn)];exact q
end
def Rd (H:Hp)(a:Addr)(u:HO):Prop:=H a=some u\/∃o,H a=some (.A6 o u)
theorem Rd.of {H:Hp}{a:Addr}{u:HO}(h:H a=some u):Rd H a u:=.inl h
theorem Rd.ok {P:Program}{w:World}{H:Hp}{h:Heap}{a:Addr}{u:HO}(r:Rd H a u)(x:lU P w H h):bR P w H h a u:=by
 rcases r with r|⟨o,r⟩
 ·exact x a u r
 ·obtain⟨_,q⟩:=x a _ r
  exact q
def Ib:Option HO->Prop
 |some (.lst _)=>True
 |some (.dK _)=>True
 |some (.dT _)=>True
 |some (.set _ _)=>True
 |some (.ins _ _ _)=>True
 |some (.ext _)=>True
 |_=>False
section
variable {P:Program}{w:World}{H:Hp}{h h':Heap}{x e:Addr}{o':HO}
theorem lU.write (ok:lU P w H h)(mu:Ib (H x))(he:e=x\/H e=some (.own x))(k:∀b u,b≠e->h.get? b=some u->h'.get? b=some u)(heo:∃u,h'.get? e=some u)
  (new:bR P w (upd H x o') h' x o'):lU P w (upd H x o') h':=λb u q=>by
 have nown:∀c y,H c=some (.own y)->c≠x:=λc y r z=>by subst z;rw[r] at mu;exact mu
 have ntup:∀c xs,H c=some (.tup xs)->c≠x:=λc xs r z=>by subst z;rw[r] at mu;exact mu
 by_cases hb:b=x
 ·subst hb;rw[aM] at q;cases q;exact new
 ·rw[aN hb] at q
  by_cases hbe:b=e
  ·have q':H b=some (.own x):=by
    rcases he with z|z
    ·exact absurd (hbe.trans z) hb
    ·rw[hbe];exact z
   rw[q] at q';cases q'
   obtain⟨v,hv⟩:=heo
   exact⟨v,by rw[hbe];exact hv⟩
  ·refine(ok b u q).tu (λc v hc r=>k c v ?_ r) (λc r=>by rw[aN (nown c b r)];exact r) λc xs r=>by rw[aN (ntup c xs r)];exact r
   rcases hc with rfl|hc
   ·exact hbe
   ·rintro rfl
    rcases he with z|z
    ·exact nown c b hc z
    ·rw[hc] at z;cases z;exact hb rfl
end
structure Un (fs ex:List Addr) (H H':Hp) (h h':Heap):Prop where
 keep:∀b o,h.get? b=some o->H b=none->b∉fs->b∉ex->h'.get? b=some o
 slot:∀b o,h.get? b=some o->H b=none->b∈fs->b∉ex->∃sl,h'.get? b=some { o with slots:=sl }
 free:∀b o,h.get? b=some o->H b=none->b∉ex->H' b=none
 there:∀b o,h.get? b=some o->b∉ex->∃o',h'.get? b=some o'
 qv:∀b xs,H b=some (.tup xs)->H' b=some (.tup xs)
 pP:∀b o u,H b=some (.A6 o u)->H' b=some (.A6 o u)
 qu:∀b ps,H b=some (.Fp ps)->∃more,H' b=some (.Fp (ps++more))
section
variable {fs fs' ex ex':List Addr}{H H1 H2:Hp}{h h1 h2 h':Heap}{a x e:Addr}{o:HO}
theorem Un.any (u:Un fs ex H H1 h h1){b:Addr}{ob:Obj}(q:h.get? b=some ob)(n:H b=none)(hx:b∉ex):∃sl,h1.get? b=some { ob with slots:=sl }:=by
 by_cases hb:b∈fs
 ·exact u.slot b ob q n hb hx
 ·exact⟨ob.slots,u.keep b ob q n hb hx⟩
theorem Un.kept (k:∀b u,h.get? b=some u->h'.get? b=some u):Un fs ex H H h h' :=
 ⟨λb ob q _ _ _=>k b ob q,λb ob q _ _ _=>⟨ob.slots,k b ob q⟩,λ_ _ _ n _=>n,λb ob q _=>⟨ob,k b ob q⟩,λ_ _ q=>q,λ_ _ _ q=>q,λ_ ps q=>⟨#[],by rw[q];simp⟩⟩
theorem Un.refl:Un fs ex H H h h:=Un.kept λ_ _ q=>q
theorem Un.laid (k:∀b u,h.get? b=some u->h'.get? b=some u)(hp:h.objs.size<=a)(hn:H a=none):Un fs ex H (upd H a o) h h' where
 keep:=λb u q _ _ _=>k b u q
 slot:=λb u q _ _ _=>⟨u.slots,k b u q⟩
 free:=λb u q n _=>by rw[aN (Nat.ne_of_lt (Nat.lt_of_lt_of_le (Heap.lt_size q) hp))];exact n
 there:=λb u q _=>⟨u,k b u q⟩
 qv:=λb xs q=>by rw[aN (ah q hn)];exact q
 pP:=λb u xs q=>by rw[aN (ah q hn)];exact q
 qu:=λb ps q=>⟨#[],by rw[aN (ah q hn),q];simp⟩
theorem Un.write (mu:Ib (H x))(he:e=x\/H e=some (.own x))(k:∀b u,b≠e->h.get? b=some u->h'.get? b=some u)(heo:∃u,h'.get? e=some u):Un fs ex H (upd H x o) h h':=by
 have hx:∀b,H b=none->b≠x:=λb n z=>by subst z;rw[n] at mu;exact mu
 have hb:∀b,H b=none->b≠e:=λb n z=>by
  subst z
  rcases he with r|r
  ·exact hx b n r
  ·rw[n] at r;cases r
 have hm:∀b u,H b=some u->¬ Ib (some u)->b≠x:=λb u q nm z=>by subst z;rw[q] at mu;exact nm mu
 refine⟨λb u q n _ _=>k b u (hb b n) q,λb u q n _ _=>⟨u.slots,k b u (hb b n) q⟩,λb u q n _=>by rw[aN (hx b n)];exact n,λb u q _=>?_,
  λb xs q=>by rw[aN (hm b _ q λz=>z)];exact q,λb u xs q=>by rw[aN (hm b _ q λz=>z)];exact q,λb ps q=>⟨#[],by rw[aN (hm b _ q λz=>z),q];simp⟩⟩
 by_cases hbe:b=e
 ·subst hbe;exact heo
 ·exact⟨u,k b u hbe q⟩
end
def Kn (h:Heap)(H:Hp):List Addr:=(List.range h.objs.size).filter λa=>(H a).isSome
def sV (h:Heap)(H:Hp):Heap:=PySem.W.hideAll h (Kn h H)
theorem yz (h:Heap)(H:Hp):(sV h H).objs.size=h.objs.size:=PySem.W.hideAll_size _ _
theorem BA {h:Heap}{H:Hp}{b:Addr}{o:Obj}(e:h.get? b=some o)(n:H b=none):(sV h H).get? b=some o :=
 PySem.W.hideAll_get _ e λhm=>by
  have q:(H b).isSome=true:=(List.mem_filter.mp hm).2
  rw[n] at q;simp at q
theorem Dw {h:Heap}{H:Hp}{b:Addr}{o:Obj}(e:(sV h H).get? b=some o):h.get? b=some o/\H b=none:=by
 have e':h.get? b=some o:=PySem.W.of_hideAll (Kn h H) e
 refine⟨e',?_⟩
 cases q:H b with
 |none=>rfl
 |some x =>
  have hm:b∈Kn h H:=List.mem_filter.mpr ⟨List.mem_range.mpr (Heap.lt_size e'),by simp[q]⟩
  have z:(sV h H).get? b=none:=PySem.W.hideAll_none (Kn h H) hm
  rw[z] at e;cases e
structure Mod (K:PySem.W.Frag) (mg:Str->Option Value) (base:Heap):Prop where
 Ki:K.In base
 glob:base.Ns mainGlobals mg
 blt:∃mb,base.Ns builtinsNs mb/\∀x:Str,x≠"__name__"->mb x=bootBuiltins x
 nolimit:base.NoLimit
structure Cx where
 prog:Program
 w:World
 K:PySem.W.Frag
 mg:Str->Option Value
 base:Heap
 A:Around
 N:List Str
 s₀:Shared
 H₀:Hp
 env:Env
 outer:List Env
 stack:List Env
 ex:List Addr
 fn:Str->Bool
 calm:Bool
 pn:List (Addr × Obj)
 xe:Value->Shared->Prop
def A5 (l:List Env):List Addr:=l.filterMap (·.frame)
abbrev Cx.fs (X:Cx):List Addr:=A5 X.outer
def Cz (sc:Scope)(x:Str):Prop:=sc.names.lookup x=some .local\/sc.names.lookup x=some .cell\/sc.names.lookup x=some .free
def Loc (sc:Scope)(x:Str):Prop:=sc.names.lookup x=some .local\/sc.names.lookup x=some .cell
def Look (env:Env)(h:Heap)(m:Str->Option Value)(x:Str)(u:Value):Prop :=
 (env.kindOf x=some .local/\m x=some u)\/((env.kindOf x=some .cell\/env.kindOf x=some .free)/\∃c,env.cells.lookup x=some c/\h.IsCell c (some u))
structure Cx.Ok (X:Cx):Prop where
 mod:Mod X.K X.mg X.base
 kind:X.env.scope.kind=.function
 glob:X.env.globals=mainGlobals
 blt:X.env.builtins=builtinsNs
 above:X.s₀.heap.objs.size<=X.env.locals
 inj:∀x y c,X.env.cells.lookup x=some c->X.env.cells.lookup y=some c->x=y
 has:∀x,(X.env.kindOf x=some .cell\/X.env.kindOf x=some .free)->∃c,X.env.cells.lookup x=some c
 F9:∀x c,X.fn x=true->X.env.cells.lookup x=some c->X.s₀.heap.objs.size<=c
 hd:X.calm=true->X.A.handled=none
 frames:X.A.frames=some X.stack
 IW:X.stack=X.outer\/(X.stack=X.env::X.outer/\X.env.frame=some X.env.locals)
 Kc:∀b∈X.ex,b≠X.env.locals/\∀x c,X.env.cells.lookup x=some c->c≠b
 bs:∀b o,X.base.get? b=some o->X.s₀.heap.get? b=some o/\X.H₀ b=none
 Cn:X.base.objs.size<=X.s₀.heap.objs.size
 wm:∀b o,X.base.get? b=some o->b∉X.ex
 wG:∀b∈X.ex,b∉X.fs
 lh:X.s₀.heap.FunFrames X.base X.outer
 Co:∀b∈X.fs,X.H₀ b=none
structure Inv (X:Cx) (pins:List (Addr × Obj)) (σ:List (Option V)) (H:Hp) (s:Shared):Prop where
 ok:X.Ok
 os:s.os=X.s₀.os
 bare:AllBare s.gens
 base:Un X.fs X.ex X.H₀ H X.s₀.heap s.heap
 loc:∃m,s.heap.Ns X.env.locals m/\∀(i:Nat) (x:Str) (v:V),X.N[i]?=some x->σ[i]?=some (some v)->Cz X.env.scope x->∃u,RelV v u/\Look X.env s.heap m x u
 cell:∀x c,X.env.cells.lookup x=some c->∃v,s.heap.IsCell c v
 free:H X.env.locals=none
 eW:∀x c,X.env.cells.lookup x=some c->H c=none
 pin:∀p∈X.pn++pins,s.heap.get? p.1=some p.2/\H p.1=none/\p.1≠X.env.locals/\p.1∉X.fs/\∀v,p.2.data≠.cell v
 bg:lU X.prog X.w H s.heap
 len:σ.length=X.N.length
section
variable {X:Cx}{pins:List (Addr × Obj)}{σ:List (Option V)}{H H':Hp}{s:Shared}{h':Heap}
theorem Cx.Ok.LO (ok:X.Ok){b:Addr}{o:Obj}(e:X.base.get? b=some o):b∉X.fs:=λhb=>by
 have:=(ok.lh.mem hb).1
 rw[e] at this;cases this
theorem Inv.bs (I:Inv X pins σ H s):∀b o,X.base.get? b=some o->s.heap.get? b=some o/\H b=none:=λb o e =>
 ⟨I.base.keep b o (I.ok.bs b o e).1 (I.ok.bs b o e).2 (I.ok.LO e) (I.ok.wm b o e),I.base.free b o (I.ok.bs b o e).1 (I.ok.bs b o e).2 (I.ok.wm b o e)⟩
theorem Inv.bk (I:Inv X pins σ H s):∀b o,X.base.get? b=some o->s.heap.get? b=some o:=λb o e=>(I.bs b o e).1
theorem Inv.mod (I:Inv X pins σ H s):Mod X.K X.mg X.base:=I.ok.mod
theorem Inv.uE (I:Inv X pins σ H s):X.K.In s.heap:=I.ok.mod.Ki.keeps I.bk
theorem Inv.lt (I:Inv X pins σ H s):X.env.locals<s.heap.objs.size:=let ⟨_,hn,_⟩:=I.loc;hn.lt
theorem Inv.sz (I:Inv X pins σ H s):X.s₀.heap.objs.size<=s.heap.objs.size:=Nat.le_trans I.ok.above (Nat.le_of_lt I.lt)
theorem Inv.LP (I:Inv X pins σ H s){a:Addr}(h:s.heap.objs.size<=a):a∉X.fs:=λhb=>by
 obtain⟨_,o,ho,_⟩:=I.ok.lh.mem hb
 exact absurd (Nat.lt_of_lt_of_le (Heap.lt_size ho) (Nat.le_trans I.sz h)) (Nat.lt_irrefl _)
theorem Inv.GA (I:Inv X pins σ H s):∀x c,X.env.cells.lookup x=some c->c≠X.env.locals:=λx c e z=>by
 obtain⟨v,o,ho,hd⟩:=I.cell x c e
 obtain⟨m,⟨o',es,ep,ho',hd',_⟩,_⟩:=I.loc
 rw[z,ho'] at ho;cases ho;rw[hd'] at hd;cases hd
theorem Inv.lh (I:Inv X pins σ H s):s.heap.FunFrames X.base X.outer:=by
 have all:∀(l:List Env),(∀b∈A5 l,b∈X.fs)->X.s₀.heap.FunFrames X.base l->s.heap.FunFrames X.base l:=by
  intro l
  induction l with
  |nil=>intro _ _;trivial
  |cons env r ih =>
   intro hs hl
   obtain⟨hk,⟨L,o,hf,hn,ho,hd⟩,hr⟩:=hl
   have hL:L∈X.fs:=hs L (by unfold A5;rw[List.filterMap_cons,hf];exact List.mem_cons_self)
   obtain⟨sl,e⟩:=I.base.slot L o ho (I.ok.Co L hL) hL λz=>I.ok.wG L z hL
   exact⟨hk,⟨L,_,hf,hn,e,hd⟩,ih (λb hb=>hs b (by unfold A5;rw[List.filterMap_cons,hf];exact List.mem_cons_of_mem _ hb)) hr⟩
 exact all X.outer (λ_ hb=>hb) I.ok.lh
theorem Inv.stack (I:Inv X pins σ H s):s.heap.FunFrames X.base X.stack:=by
 rcases I.ok.IW with e|⟨e,hf⟩
 ·rw[e];exact I.lh
 ·rw[e]
  obtain⟨m,hn,_⟩:=I.loc
  refine .cons (by rw[I.ok.kind];decide) hf hn ?_ I.lh
  exact Heap.get?_none_of_le (Nat.le_trans I.ok.Cn I.ok.above)
theorem Inv.tw (I:Inv X pins σ H s):∀b∈A5 X.stack,b∈X.env.locals::X.fs:=λb hb=>by
 rcases I.ok.IW with e|⟨e,hf⟩
 ·rw[e] at hb;exact List.mem_cons_of_mem _ hb
 ·rw[e] at hb
  unfold A5 at hb
  rw[List.filterMap_cons,hf] at hb
  exact hb
theorem Inv.yM (I:Inv X pins σ H s):∀b∈A5 X.stack,H b=none:=λb hb=>by
 rcases List.mem_cons.mp (I.tw b hb) with e|hb
 ·rw[e];exact I.free
 ·obtain⟨_,o,ho,_⟩:=I.ok.lh.mem hb
  exact I.base.free b o ho (I.ok.Co b hb) λz=>I.ok.wG b z hb
theorem Inv.step {g':Array GenState}{t':Nat}{d':Drawn}{ch:List Addr}(I:Inv X pins σ H s)
  (hch:∀b∈ch,(b∈X.ex\/X.s₀.heap.objs.size<=b)/\b≠X.env.locals/\(∀x c,X.env.cells.lookup x=some c->c≠b)/\∀p∈X.pn++pins,p.1≠b)
  (keep:∀b o,b≠X.env.locals->b∉X.fs->b∉ch->s.heap.get? b=some o->H b=none->h'.get? b=some o)
  (slot:∀b o,b≠X.env.locals->b∈X.fs->b∉ch->s.heap.get? b=some o->H b=none->∃sl,h'.get? b=some { o with slots:=sl })(free:∀b o,b∉ch->s.heap.get? b=some o->H b=none->H' b=none)
  (there:∀b o,b∉ch->s.heap.get? b=some o->∃o',h'.get? b=some o')
  (qv:∀b xs,H b=some (.tup xs)->H' b=some (.tup xs))(pP:∀b o u,H b=some (.A6 o u)->H' b=some (.A6 o u))(qu:∀b ps,H b=some (.Fp ps)->∃more,H' b=some (.Fp (ps++more)))
  (ns:∀m,s.heap.Ns X.env.locals m->h'.Ns X.env.locals m)(bg:lU X.prog X.w H' h')(hg:AllBare g') :
  Inv X pins σ H' { s with heap:=h',gens:=g',drawn:=d',toks:=t' }:=by
 have neL:∀b o,X.s₀.heap.get? b=some o->b≠X.env.locals:=λb o e=>Nat.ne_of_lt (Nat.lt_of_lt_of_le (Heap.lt_size e) I.ok.above)
 have neC:∀b o,X.s₀.heap.get? b=some o->b∉X.ex->b∉ch:=λb o e hx hb=>by
  rcases(hch b hb).1 with z|z
  ·exact hx z
  ·exact absurd (Nat.lt_of_lt_of_le (Heap.lt_size e) z) (Nat.lt_irrefl _)
 have cellK:∀x c,X.env.cells.lookup x=some c->∀v,s.heap.IsCell c v->h'.IsCell c v:=λx c e v ⟨o,ho,hd⟩=>by
  have nch:c∉ch:=λz=>(hch c z).2.2.1 x c e rfl
  by_cases hc:c∈X.fs
  ·obtain⟨sl,q⟩:=slot c o (I.GA x c e) hc nch ho (I.eW x c e)
   exact⟨_,q,hd⟩
  ·exact⟨o,keep c o (I.GA x c e) hc nch ho (I.eW x c e),hd⟩
 refine⟨I.ok,I.os,hg,⟨λb o e n hb hx=>?_,λb o e n hb hx=>?_,λb o e n hx=>?_,λb o e hx=>?_,λb xs e=>qv b xs (I.base.qv b xs e),λb o xs e=>pP b o xs (I.base.pP b o xs e),λb ps e=>?_⟩,?_,λx c e=>?_,?_,λx c e=>?_,λp hp=>?_,bg,I.len⟩
 ·exact keep b o (neL b o e) hb (neC b o e hx) (I.base.keep b o e n hb hx) (I.base.free b o e n hx)
 ·obtain⟨sl,e1⟩:=I.base.slot b o e n hb hx
  obtain⟨sl',e2⟩:=slot b _ (neL b o e) hb (neC b o e hx) e1 (I.base.free b o e n hx)
  exact⟨sl',e2⟩
 ·obtain⟨o',e1⟩:=I.base.there b o e hx
  exact free b o' (neC b o e hx) e1 (I.base.free b o e n hx)
 ·obtain⟨o',e1⟩:=I.base.there b o e hx
  exact there b o' (neC b o e hx) e1
 ·obtain⟨m1,e1⟩:=I.base.qu b ps e
  obtain⟨m2,e2⟩:=qu b _ e1
  exact⟨m1++m2,by rw[e2,Array.append_assoc]⟩
 ·obtain⟨m,hn,hl⟩:=I.loc
  refine⟨m,ns m hn,λi x v e1 e2 e3=>?_⟩
  obtain⟨u,r,l⟩:=hl i x v e1 e2 e3
  refine⟨u,r,?_⟩
  rcases l with l|⟨k,c,e,z⟩
  ·exact .inl l
  ·exact .inr ⟨k,c,e,cellK x c e _ z⟩
 ·obtain⟨v,z⟩:=I.cell x c e
  exact⟨v,cellK x c e v z⟩
 ·obtain⟨m,⟨o,_,_,ho,_⟩,_⟩:=I.loc
  exact free _ o (λz=>(hch _ z).2.1 rfl) ho I.free
 ·obtain⟨v,o,ho,hd⟩:=I.cell x c e
  exact free c o (λz=>(hch c z).2.2.1 x c e rfl) ho (I.eW x c e)
 ·obtain⟨e,n,ne,nf,d⟩:=I.pin p hp
  have nch:p.1∉ch:=λz=>(hch p.1 z).2.2.2 p hp rfl
  exact⟨keep p.1 p.2 ne nf nch e n,free p.1 p.2 nch e n,ne,nf,d⟩
theorem Inv.un {t':Nat}(I:Inv X pins σ H s)(u:Un X.fs [] H H' s.heap h')(bg:lU X.prog X.w H' h'):Inv X pins σ H' { s with heap:=h',toks:=t' }:=by
 obtain⟨m,⟨o,es,ep,ho,r⟩,_⟩:=id I.loc
 obtain⟨sl,hL⟩:=u.any ho I.free (by simp)
 exact I.step (g':=s.gens) (d':=s.drawn) (ch:=[]) (λ_ z=>nomatch z) (λb o _ hb _ e n=>u.keep b o e n hb (by simp)) (λb o _ hb _ e n=>u.slot b o e n hb (by simp)) (λb o _ e n=>u.free b o e n (by simp)) (λb o _ e=>u.there b o e (by simp)) u.qv u.pP u.qu (λm' hm=>by
  obtain⟨o',es',ep',ho',r'⟩:=hm
  rw[ho] at ho';cases ho'
  exact⟨_,es',ep',hL,r'⟩) bg I.bare
theorem Inv.call {g':Array GenState}{t':Nat}{d':Drawn}{ch:List Addr}(I:Inv X pins σ H s)(u:Un (A5 X.stack) ch H H' s.heap h')(bg:lU X.prog X.w H' h')(hg:AllBare g')
  (hch:∀b∈ch,(b∈X.ex\/X.s₀.heap.objs.size<=b)/\b≠X.env.locals/\(∀x c,X.env.cells.lookup x=some c->c≠b)/\∀p∈X.pn++pins,p.1≠b) :
  Inv X pins σ H' { s with heap:=h',gens:=g',drawn:=d',toks:=t' }:=by
 obtain⟨m,⟨o,es,ep,ho,r⟩,_⟩:=id I.loc
 obtain⟨sl,hL⟩:=u.any ho I.free λz=>(hch _ z).2.1 rfl
 exact I.step (ch:=ch) hch (λb o hL hb hc e n=>u.keep b o e n (λz=>(List.mem_cons.mp (I.tw b z)).elim hL hb) hc) (λb o _ _ hc e n=>u.any e n hc) (λb o hc e n=>u.free b o e n hc) (λb o hc e=>u.there b o e hc) u.qv u.pP u.qu (λm' hm=>by
  obtain⟨o',es',ep',ho',r'⟩:=hm
  rw[ho] at ho';cases ho'
  exact⟨_,es',ep',hL,r'⟩) bg hg
theorem Inv.turned {t':Nat}{it:Addr}(I:Inv X pins σ H s)(k:∀b o,b≠it->s.heap.get? b=some o->h'.get? b=some o)(hn:H it=none)(hL:it≠X.env.locals)
  (h1:it∈X.ex\/X.s₀.heap.objs.size<=it)(h2:∀x c,X.env.cells.lookup x=some c->c≠it)(h3:∀p∈X.pn++pins,p.1≠it):Inv X pins σ H { s with heap:=h',toks:=t' }:=by
 have nit:∀b u,H b=some u->b≠it:=λb u e z=>by rw[z,hn] at e;cases e
 refine I.step (g':=s.gens) (d':=s.drawn) (ch:=[it]) (λb hb=>?_) (λb o _ _ hc e _=>k b o (λz=>hc (by simp[z])) e) (λb o _ _ hc e _=>⟨o.slots,k b o (λz=>hc (by simp[z])) e⟩) (λ_ _ _ _ n=>n)
  (λb o hc e=>⟨o,k b o (λz=>hc (by simp[z])) e⟩) (λ_ _ e=>e) (λ_ _ _ e=>e) (λb ps e=>⟨#[],by rw[e];simp⟩) (λm hm=>?_) (λb u e=>?_) I.bare
 ·have e:b=it:=by simpa using hb
  subst e
  exact⟨h1,hL,h2,h3⟩
 ·obtain⟨o,es,ep,ho,r⟩:=hm
  exact⟨o,es,ep,k _ o (Ne.symm hL) ho,r⟩
 ·refine(I.bg b u e).tu (λc v hc q=>k c v ?_ q) (λ_ q=>q) λ_ _ q=>q
  rcases hc with z|z
  ·rw[z];exact nit b u e
  ·exact nit c _ z
theorem Inv.tok (I:Inv X pins σ H s)(t:Nat):Inv X pins σ H { s with toks:=t }:=I.un (h':=s.heap) (t':=t) Un.refl I.bg
theorem Inv.kept {t':Nat}(I:Inv X pins σ H s)(k:∀b u,s.heap.get? b=some u->h'.get? b=some u):Inv X pins σ H { s with heap:=h',toks:=t' }:=I.un (Un.kept k) (I.bg.kept k)
theorem Inv.laid {a:Addr}{o:HO}{t':Nat}(I:Inv X pins σ H s)(k:∀b u,s.heap.get? b=some u->h'.get? b=some u)(hp:s.heap.objs.size<=a)(new:bR X.prog X.w (upd H a o) h' a o) :
  Inv X pins σ (upd H a o) { s with heap:=h',toks:=t' }:=I.un (Un.laid k hp (I.bg.fresh hp)) (I.bg.laid k hp new)
theorem Inv.write {x e:Addr}{o:HO}{t':Nat}(I:Inv X pins σ H s)(mu:Ib (H x))(he:e=x\/H e=some (.own x))(k:∀b u,b≠e->s.heap.get? b=some u->h'.get? b=some u)(heo:∃u,h'.get? e=some u)
  (new:bR X.prog X.w (upd H x o) h' x o):Inv X pins σ (upd H x o) { s with heap:=h',toks:=t' }:=I.un (Un.write mu he k heo) (I.bg.write mu he k heo new)
theorem Inv.weak {σ':List (Option V)}(I:Inv X pins σ H s)(hl:σ'.length=σ.length)(w:∀(i:Nat) v,σ'[i]?=some (some v)->σ[i]?=some (some v)):Inv X pins σ' H s :=
 ⟨I.ok,I.os,I.bare,I.base,let ⟨m,hn,hl'⟩:=I.loc;⟨m,hn,λi x v e1 e2 e3=>hl' i x v e1 (w i v e2) e3⟩,I.cell,I.free,I.eW,I.pin,I.bg,hl.trans I.len⟩
theorem Inv.tQ {pins':List (Addr × Obj)}(I:Inv X pins σ H s)(h:∀p∈pins',s.heap.get? p.1=some p.2/\H p.1=none/\p.1≠X.env.locals/\p.1∉X.fs/\∀v,p.2.data≠.cell v):Inv X pins' σ H s :=
 ⟨I.ok,I.os,I.bare,I.base,I.loc,I.cell,I.free,I.eW,λp hp=>(List.mem_append.mp hp).elim (λz=>I.pin p (List.mem_append_left _ z)) (h p),I.bg,I.len⟩
theorem vF {N:List Str}(hN:N.Nodup){i j:Nat}{x:Str}(a:N[i]?=some x)(b:N[j]?=some x):i=j:=by
 obtain⟨h1,e1⟩:=List.getElem?_eq_some_iff.mp a
 obtain⟨h2,e2⟩:=List.getElem?_eq_some_iff.mp b
 exact(List.getElem_inj hN).mp (e1.trans e2.symm)
theorem zl {M:Model}{A:Around}{E:Value->Shared->Prop}{i:Nat}{x:Str}{v:V}{u:Value}{Q:Unit->Shared->Prop}(I:Inv X pins σ H s)(hN:X.N.Nodup)(hi:X.N[i]?=some x)(hx:Loc X.env.scope x)(r:RelV v u)
  (h:∀s',Inv X pins (σ.set i (some v)) H s'->(∃a,Heap.SameBut a s.heap s'.heap/\(a=X.env.locals\/X.env.cells.lookup x=some a))->Q () s')(hf:X.fn x=true\/X.env.scope.names.lookup x=some .local:=by first|exact .inl rfl|exact .inr rfl|assumption):wpAny M A (storeName X.env x u) Q E s:=by
 obtain⟨m,hn,hl⟩:=id I.loc
 have hcls:(X.env.scope.kind == .class||(X.env.scope.kind == .module&&X.env.locals != X.env.globals))=false:=by rw[I.ok.kind];rfl
 have hiσ:i<σ.length:=by rw[I.len];exact(List.getElem?_eq_some_iff.mp hi).1
 have GA:=I.GA
 have tracked:∀{a:Addr} {h':Heap},(∃o,s.heap.get? a=some o/\H a=none)->Heap.SameBut a s.heap h'->lU X.prog X.w H h':=fun{a h'} ha hs b ob e=>by
  obtain⟨_,_,hfree⟩:=ha
  refine(I.bg b ob e).tu (λc w' hc q=>(hs.2 c ?_).trans q) (λ_ q=>q) λ_ _ q=>q
  rintro rfl
  rcases hc with rfl|hc
  ·rw[hfree] at e;cases e
  ·rw[hfree] at hc;cases hc
 rcases hx with hk|hk
 ·refine wpAny_storeName_local hk hn (λh' hn' hs=>?_) hcls
  obtain⟨oL,_,_,hoL,_⟩:=id hn
  refine h _ ⟨I.ok,I.os,I.bare,⟨λb o e n hb hx=>?_,λb o e n hb hx=>?_,I.base.free,λb o e hx=>?_,I.base.qv,I.base.pP,I.base.qu⟩,⟨_,hn',λj y v' e1 e2 e3=>?_⟩,λy c e=>?_,I.free,I.eW,λp hp=>?_,tracked ⟨oL,hoL,I.free⟩ hs,by simpa using I.len⟩ ⟨_,hs,.inl rfl⟩
  ·exact(hs.2 b (Nat.ne_of_lt (Nat.lt_of_lt_of_le (Heap.lt_size e) I.ok.above))).trans (I.base.keep b o e n hb hx)
  ·obtain⟨sl,e1⟩:=I.base.slot b o e n hb hx
   exact⟨sl,(hs.2 b (Nat.ne_of_lt (Nat.lt_of_lt_of_le (Heap.lt_size e) I.ok.above))).trans e1⟩
  ·obtain⟨o',e1⟩:=I.base.there b o e hx
   exact⟨o',(hs.2 b (Nat.ne_of_lt (Nat.lt_of_lt_of_le (Heap.lt_size e) I.ok.above))).trans e1⟩
  ·by_cases hj:j=i
   ·subst hj
    rw[hi] at e1;cases e1
    rw[List.getElem?_set_self hiσ] at e2
    cases e2
    exact⟨u,r,.inl ⟨hk,by simp⟩⟩
   ·rw[List.getElem?_set_ne (Ne.symm hj)] at e2
    obtain⟨u',r',q⟩:=hl j y v' e1 e2 e3
    refine⟨u',r',?_⟩
    rcases q with⟨k,e⟩|⟨k,c,e,z⟩
    ·refine .inl ⟨k,?_⟩
     have:y≠x:=λe=>hj (vF hN e1 (e ▸ hi))
     simp[this,e]
    ·exact .inr ⟨k,c,e,z.sameBut hs (GA y c e)⟩
  ·obtain⟨w',z⟩:=I.cell y c e
   exact⟨w',z.sameBut hs (GA y c e)⟩
  ·obtain⟨e,n,ne,nf,d⟩:=I.pin p hp
   exact⟨(hs.2 p.1 ne).trans e,n,ne,nf,d⟩
 ·have hfn:X.fn x=true:=by
   rcases hf with z|z
   ·exact z
   ·rw[z] at hk;cases hk
  obtain⟨c,hc⟩:=I.ok.has x (.inl hk)
  obtain⟨w',z⟩:=I.cell x c hc
  refine wpAny_storeName_cell I.ok.kind hk hc z (λh' hc' hs=>?_)
  obtain⟨oc,hoc,hocd⟩:=id z
  refine h { s with heap:=h' } ⟨I.ok,I.os,I.bare,⟨λb o e n hb hx=>?_,λb o e n hb hx=>?_,I.base.free,λb o e hx=>?_,I.base.qv,I.base.pP,I.base.qu⟩,⟨m,hn.sameBut hs (Ne.symm (GA x c hc)),λj y v' e1 e2 e3=>?_⟩,λy c' e=>?_,I.free,I.eW,λp hp=>?_,tracked ⟨oc,hoc,I.eW x c hc⟩ hs,by simpa using I.len⟩ ⟨c,hs,.inr hc⟩
  ·exact(hs.2 b (Nat.ne_of_lt (Nat.lt_of_lt_of_le (Heap.lt_size e) (I.ok.F9 x c hfn hc)))).trans (I.base.keep b o e n hb hx)
  ·obtain⟨sl,e1⟩:=I.base.slot b o e n hb hx
   exact⟨sl,(hs.2 b (Nat.ne_of_lt (Nat.lt_of_lt_of_le (Heap.lt_size e) (I.ok.F9 x c hfn hc)))).trans e1⟩
  ·obtain⟨o',e1⟩:=I.base.there b o e hx
   exact⟨o',(hs.2 b (Nat.ne_of_lt (Nat.lt_of_lt_of_le (Heap.lt_size e) (I.ok.F9 x c hfn hc)))).trans e1⟩
  ·by_cases hj:j=i
   ·subst hj
    rw[hi] at e1;cases e1
    rw[List.getElem?_set_self hiσ] at e2
    cases e2
    exact⟨u,r,.inr ⟨.inl hk,c,hc,hc'⟩⟩
   ·rw[List.getElem?_set_ne (Ne.symm hj)] at e2
    obtain⟨u',r',q⟩:=hl j y v' e1 e2 e3
    refine⟨u',r',?_⟩
    rcases q with q|⟨k,c',e,z'⟩
    ·exact .inl q
    ·refine .inr ⟨k,c',e,z'.sameBut hs ?_⟩
     rintro rfl
     exact hj (vF hN e1 (I.ok.inj _ _ _ e hc ▸ hi))
  ·by_cases hcc:c'=c
   ·subst hcc;exact⟨_,hc'⟩
   ·obtain⟨w2,z2⟩:=I.cell y c' e
    exact⟨w2,z2.sameBut hs hcc⟩
  ·obtain⟨e,n,ne,nf,d⟩:=I.pin p hp
   refine⟨(hs.2 p.1 ?_).trans e,n,ne,nf,d⟩
   intro q
   rw[q,hoc] at e
   have q':oc=p.2:=Option.some.inj e
   exact d w' (by rw[<- q'];exact hocd)
theorem vZ {M:Model}{A:Around}{E:Value->Shared->Prop}{i:Nat}{x:Str}{v:V}{u:Value}{Q:Unit->Shared->Prop}(I:Inv X pins σ H s)(hN:X.N.Nodup)(hi:X.N[i]?=some x)(hx:Loc X.env.scope x)(r:RelV v u)
  (h:∀s',Inv X pins (σ.set i (some v)) H s'->Q () s')(hf:X.fn x=true\/X.env.scope.names.lookup x=some .local:=by first|exact .inl rfl|exact .inr rfl|assumption):wpAny M A (storeName X.env x u) Q E s :=
 zl I hN hi hx r (λs' I' _=>h s' I') hf
theorem Inv.AO {s':Shared}{ch:List Addr}(I:Inv X pins σ H s)(ho:s'.os=s.os)(u:Un (A5 X.stack) ch H H' s.heap s'.heap)(bg:lU X.prog X.w H' s'.heap)(hg:AllBare s'.gens)
  (hch:∀b∈ch,(b∈X.ex\/X.s₀.heap.objs.size<=b)/\b≠X.env.locals/\(∀x c,X.env.cells.lookup x=some c->c≠b)/\∀p∈X.pn++pins,p.1≠b):Inv X pins σ H' s':=by
 obtain⟨h',g',d',t',o'⟩:=s'
 have e:o'=s.os:=ho
 subst e
 exact I.call (g':=g') (t':=t') (d':=d') u bg hg hch
end
abbrev XK:=Value->Option Addr->Hp->Prop
abbrev St:=List (Option V)
abbrev VK:=V->Hp->Prop
abbrev TE:=St->Hp->VK->Prop
abbrev TT:=St->Hp->(Bool->Hp->Prop)->Prop
abbrev TA:=St->Hp->(List V->Hp->Prop)->Prop
structure Ends where
 nx:St->Hp->Prop
 rt:VK
 bk:St->Hp->Prop:=λ_ _=>False
 ct:St->Hp->Prop:=λ_ _=>False
abbrev TS:=Ends->St->Hp->Prop
def EP (X:Cx)(pins:List (Addr × Obj))(σ:St)(Q:VK)(u:Value)(s':Shared):Prop:=∃v H',Inv X pins σ H' s'/\RelV v u/\Q v H'
def TP (X:Cx)(pins:List (Addr × Obj))(σ:St)(Q:Bool->Hp->Prop)(b:Bool)(s':Shared):Prop:=∃H',Inv X pins σ H' s'/\Q b H'
def AP (X:Cx)(pins:List (Addr × Obj))(σ:St)(Q:List V->Hp->Prop)(us:List Value)(s':Shared):Prop:=∃vs H',Inv X pins σ H' s'/\Vals vs us/\Q vs H'
def SP (X:Cx)(pins:List (Addr × Obj))(D:Ends)(f:Flow)(s':Shared):Prop :=
 match f with
 |.next=>∃ σ' H',Inv X pins σ' H' s'/\D.nx σ' H'
 |.brk=>∃ σ' H',Inv X pins σ' H' s'/\D.bk σ' H'
 |.cont=>∃ σ' H',Inv X pins σ' H' s'/\D.ct σ' H'
 |.ret u=>∃v σ' H',Inv X pins σ' H' s'/\RelV v u/\D.rt v H'
def PE (X:Cx)(e:Expr)(t:TE):Prop :=
 ∀(pins:List (Addr × Obj)) (s:Shared) (σ:St) (H:Hp) (Q:VK),Inv X pins σ H s->t σ H Q->wpAny (model X.prog X.w) X.A (eval e X.env) (EP X pins σ Q) X.xe s
def PT (X:Cx)(e:Expr)(t:TT):Prop :=
 ∀(pins:List (Addr × Obj)) (s:Shared) (σ:St) (H:Hp) (Q:Bool->Hp->Prop),Inv X pins σ H s->t σ H Q->wpAny (model X.prog X.w) X.A (isTrue e X.env (eval e X.env)) (TP X pins σ Q) X.xe s
def PW (X:Cx)(e:Expr)(t:TT):Prop :=
 ∀(whole:Sem Value) (pins:List (Addr × Obj)) (s:Shared) (σ:St) (H:Hp) (Q:Bool->Hp->Prop),Inv X pins σ H s->t σ H Q->wpAny (model X.prog X.w) X.A (isTrue e X.env whole) (TP X pins σ Q) X.xe s
theorem PW.pt {X:Cx}{e:Expr}{t:TT}(h:PW X e t):PT X e t:=h _
def PA (X:Cx)(es:List Expr)(t:TA):Prop :=
 ∀(pos:Pos) (pins:List (Addr × Obj)) (s:Shared) (σ:St) (H:Hp) (Q:List V->Hp->Prop),Inv X pins σ H s->t σ H Q->wpAny (model X.prog X.w) X.A (spliced (backTo pos (starEach es X.env))) (AP X pins σ Q) X.xe s
def PS (X:Cx)(st:Stmt)(t:TS):Prop :=
 ∀(pins:List (Addr × Obj)) (s:Shared) (σ:St) (H:Hp) (D:Ends),Inv X pins σ H s->t D σ H->wpAny (model X.prog X.w) X.A (exec st X.env) (SP X pins D) X.xe s
def m8 (X:Cx)(st:List Stmt)(t:TS):Prop :=
 ∀(pins:List (Addr × Obj)) (s:Shared) (σ:St) (H:Hp) (D:Ends),Inv X pins σ H s->t D σ H->wpAny (model X.prog X.w) X.A (execs st X.env) (SP X pins D) X.xe s
theorem br {α:Type}{t:Sem α}{Q Q':α->Shared->Prop}{M:Model}{A:Around}{E:Value->Shared->Prop}{s:Shared}(h:wpAny M A t Q E s)(hQ:∀a s,Q a s->Q' a s):wpAny M A t Q' E s:=wpAny_mono h hQ λ_ _ x=>x
section
variable {X:Cx}
def Hz (i:Nat):TE:=λσ H Q=>∃v,σ[i]?=some (some v)/\Q v H
def tC (v:V):TE:=λ_ H Q=>Q v H
theorem qK {i:Nat}{x:Str}{pos:Pos}(hN:X.N[i]?=some x)(hv:Cz X.env.scope x)(hd:(x == ("__debug__":Str))=false:=by decide)(hcd:(x == ("__classdict__":Str))=false:=by decide):PE X (.Name x pos) (Hz i):=by
 intro pins s σ H Q I h
 obtain⟨v,e,h⟩:=h
 obtain⟨m,hn,hl⟩:=I.loc
 obtain⟨u,r,l⟩:=hl i x v hN e hv
 have fin:EP X pins σ Q u s:=⟨v,H,I,r,h⟩
 rcases l with⟨hk,hm⟩|⟨hk,c,hc,hcell⟩
 ·exact wpAny_Name (wpAny_loadName_local I.ok.kind hk hn hm fin) hd
 ·rcases hk with hk|hk
  ·exact wpAny_Name (wpAny_loadName_cell I.ok.kind hk hc hcell fin) hd
  ·exact wpAny_Name (wpAny_loadName_free I.ok.kind hk hc hcell fin hcd) hd
theorem HS {i j pos}:PE X (.Constant (.int i) j pos) (tC (.int i)):=λ_ _ _ H _ I h=>wpAny_Constant_int ⟨.int i,H,I.tok _,⟨_,rfl⟩,h⟩
theorem Jh {b j pos}:PE X (.Constant (.bool b) j pos) (tC (.bl b)):=λ_ _ _ H _ I h=>Constant_bool ⟨.bl b,H,I,rfl,h⟩
theorem HU {j pos}:PE X (.Constant .none j pos) (tC .ag):=λ_ _ _ H _ I h=>Constant_none ⟨.ag,H,I,rfl,h⟩
theorem Bn {x j pos}:PE X (.Constant (.str x) j pos) (tC (.str x)):=λ_ _ _ H _ I h=>Calls.Constant_str ⟨.str x,H,I.tok _,⟨_,rfl⟩,h⟩
def Gl (X:Cx)(x:Str):Prop:=X.env.kindOf x=some .globalImplicit
theorem su {E:Value->Shared->Prop}{pins:List (Addr × Obj)}{s:Shared}{σ:St}{H:Hp}{x:Str}{u:Value}{pos:Pos}{Q:Value->Shared->Prop}(I:Inv X pins σ H s)(hg:Gl X x)(hm:X.mg x=some u)(h:Q u s)
  (hd:(x == ("__debug__":Str))=false:=by decide):wpAny (model X.prog X.w) X.A (eval (.Name x pos) X.env) Q E s :=
 Calls.Name_function_global I.ok.kind hg (Calls.loadGlobal_global (by rw[I.ok.glob];exact I.mod.glob.keeps I.bk) hm h) hd
theorem nV {E:Value->Shared->Prop}{pins:List (Addr × Obj)}{s:Shared}{σ:St}{H:Hp}{x:Str}{u:Value}{pos:Pos}{Q:Value->Shared->Prop}(I:Inv X pins σ H s)(hg:Gl X x)(hm:X.mg x=none)(hv:bootBuiltins x=some u)(h:Q u s)
  (hn:x≠"__name__":=by decide)(hd:(x == ("__debug__":Str))=false:=by decide):wpAny (model X.prog X.w) X.A (eval (.Name x pos) X.env) Q E s:=by
 obtain⟨mb,h1,h2⟩:=I.mod.blt
 exact Calls.Name_function_global I.ok.kind hg (Calls.loadGlobal_builtin (by rw[I.ok.glob];exact I.mod.glob.keeps I.bk) hm (by rw[I.ok.blt];exact h1.keeps I.bk) ((h2 x hn).trans hv) h) hd
theorem D7 {x:Str}{v:V}{u:Value}{pos:Pos}(hg:Gl X x)(hm:X.mg x=some u)(r:RelV v u)(hd:(x == ("__debug__":Str))=false:=by decide):PE X (.Name x pos) (tC v) :=
 λ_ _ _ H _ I h=>su I hg hm ⟨v,H,I,r,h⟩ hd
theorem tN {x:Str}{v:V}{u:Value}{pos:Pos}(hg:Gl X x)(hm:X.mg x=none)(hv:bootBuiltins x=some u)(r:RelV v u)(hn:x≠"__name__":=by decide)(hd:(x == ("__debug__":Str))=false:=by decide):PE X (.Name x pos) (tC v) :=
 λ_ _ _ H _ I h=>nV I hg hm hv ⟨v,H,I,r,h⟩ hn hd
variable {a b:Expr}{ta tb:TE}{pos:Pos}
variable {tA tB':TT}{rest:List Expr}
def LZ (t u:TT):TT:=λσ H Q=>t σ H λc H1=>if c=true then u σ H1 Q else Q false H1
def Ma (t u:TT):TT:=λσ H Q=>t σ H λc H1=>if c=true then Q true H1 else u σ H1 Q
def Lg (t:TT):TT:=λσ H Q=>t σ H λc H1=>Q (!c) H1
theorem EN (ha:PT X a tA):PW X (.BoolOp .And [a] pos) tA:=by
 intro wh pins s σ H Q I h
 refine isTrue_and (br (ha pins s σ H Q I h) λc s1 e=>?_)
 cases c with
 |true=>exact isTrue_and_nil e
 |false=>exact e
theorem Hl (ha:PT X a tA):PW X (.BoolOp .Or [a] pos) tA:=by
 intro wh pins s σ H Q I h
 refine isTrue_or (br (ha pins s σ H Q I h) λc s1 e=>?_)
 cases c with
 |false=>exact isTrue_or_nil e
 |true=>exact e
theorem Hk (ha:PT X a tA)(hb:PW X (.BoolOp .And (b::rest) pos) tB'):PW X (.BoolOp .And (a::b::rest) pos) (LZ tA tB'):=by
 intro wh pins s σ H Q I h
 refine isTrue_and (br (ha pins s σ H _ I h) λc s1 ⟨H1,I1,q1⟩=>?_)
 cases c with
 |true=>exact hb wh pins s1 σ H1 Q I1 q1
 |false=>exact⟨H1,I1,q1⟩
theorem Jl (ha:PT X a tA)(hb:PW X (.BoolOp .Or (b::rest) pos) tB'):PW X (.BoolOp .Or (a::b::rest) pos) (Ma tA tB'):=by
 intro wh pins s σ H Q I h
 refine isTrue_or (br (ha pins s σ H _ I h) λc s1 ⟨H1,I1,q1⟩=>?_)
 cases c with
 |true=>exact⟨H1,I1,q1⟩
 |false=>exact hb wh pins s1 σ H1 Q I1 q1
theorem Hj (ha:PT X a tA):PT X (.UnaryOp .Not a pos) (Lg tA):=by
 intro pins s σ H Q I h
 exact isTrue_not (ha pins s σ H (λc H1=>Q (!c) H1) I h)
def J4 (ta tb:TE):TE:=λσ H Q=>ta σ H λx H1=>∃c,x=.bl c/\if c=true then tb σ H1 Q else Q (.bl false) H1
def Lh (ta tb:TE):TE:=λσ H Q=>ta σ H λx H1=>∃c,x=.bl c/\if c=true then Q (.bl true) H1 else tb σ H1 Q
def KA (ta:TE):TE:=λσ H Q=>ta σ H λx H1=>∃c,x=.bl c/\Q (.bl (!c)) H1
theorem HW {op}{t:TE}(h:PE X a t):PE X (.BoolOp op [a] pos) t:=λpins s σ H Q I hw=>BoolOp_one (h pins s σ H Q I hw)
theorem HQ (ha:PE X a ta)(hb:PE X (.BoolOp .And (b::rest) pos) tb):PE X (.BoolOp .And (a::b::rest) pos) (J4 ta tb):=by
 intro pins s σ H Q I h
 refine BoolOp_and (br (ha pins s σ H _ I h) λv s1 ⟨x,H1,I1,r1,q1⟩=>?_)
 obtain⟨c,rfl,q1⟩:=q1
 cases r1
 refine wpAny_truthy_bool ?_
 cases c with
 |true=>exact hb pins s1 σ H1 Q I1 q1
 |false=>exact⟨.bl false,H1,I1,rfl,q1⟩
theorem Jj (ha:PE X a ta)(hb:PE X (.BoolOp .Or (b::rest) pos) tb):PE X (.BoolOp .Or (a::b::rest) pos) (Lh ta tb):=by
 intro pins s σ H Q I h
 refine BoolOp_or (br (ha pins s σ H _ I h) λv s1 ⟨x,H1,I1,r1,q1⟩=>?_)
 obtain⟨c,rfl,q1⟩:=q1
 cases r1
 refine wpAny_truthy_bool ?_
 cases c with
 |false=>exact hb pins s1 σ H1 Q I1 q1
 |true=>exact⟨.bl true,H1,I1,rfl,q1⟩
theorem HV (ha:PE X a ta):PE X (.UnaryOp .Not a pos) (KA ta):=by
 intro pins s σ H Q I h
 refine UnaryOp_ (br (ha pins s σ H _ I h) λv s1 ⟨x,H1,I1,r1,q1⟩=>?_)
 obtain⟨c,rfl,q1⟩:=q1
 cases r1
 exact not_of (wpAny_truthy_bool ⟨.bl (!c),H1,I1,rfl,q1⟩)
def MZ (t:TT)(ta tb:TE):TE:=λσ H Q=>t σ H λc H1=>if c=true then ta σ H1 Q else tb σ H1 Q
theorem Bl {c:Expr}(hc:PT X c tA)(ha:PE X a ta)(hb:PE X b tb):PE X (.IfExp c a b pos) (MZ tA ta tb):=by
 intro pins s σ H Q I h
 refine wpAny_IfExp (br (hc pins s σ H _ I h) λd s1 ⟨H1,I1,q1⟩=>?_)
 cases d with
 |true=>exact ha pins s1 σ H1 Q I1 q1
 |false=>exact hb pins s1 σ H1 Q I1 q1
end
def fG (K:PySem.W.Frag)(H:Hp)(a:Addr)(xs:List V):Prop :=
 Rd H a (.lst xs) \/
  ∃(o:Obj) (its:Array Value) (n:Nat),K.lookup a=some o/\o.cls=.type "list"/\o.dict=none/\o.data=.seq its n/\its.size<=sizeLine/\Vals xs its.toList
def iz (K:PySem.W.Frag)(H:Hp)(a:Addr)(xs:List V):Prop :=
 Rd H a (.tup xs) \/
  ∃(o:Obj) (its:Array Value) (n:Nat),K.lookup a=some o/\o.cls=.type "tuple"/\o.data=.seq its n/\its.size<=sizeLine/\Vals xs its.toList
def K0:Value->Option V
 |.none=>some .ag
 |.bool b=>some (.bl b)
 |.int i _=>some (.int i)
 |.str x _=>some (.str x)
 |.bytes b _=>some (.vq b)
 |.float b _=>some (.Kg b)
 |.ref a=>some (.ref a)
 |.type n=>some (.ty n)
 |_=>none
theorem RelV.abs {x:V}{u:Value}(r:RelV x u):K0 u=some x:=by
 cases x with
 |ag=>cases r;rfl
 |bl _=>cases r;rfl
 |int _=>obtain⟨t,rfl⟩:=r;rfl
 |str _=>obtain⟨t,rfl⟩:=r;rfl
 |vq _=>obtain⟨t,rfl⟩:=r;rfl
 |Kg _=>obtain⟨t,rfl⟩:=r;rfl
 |ref _=>cases r;rfl
 |ty _=>cases r;rfl
theorem RelV.inj {x y:V}{u:Value}(r:RelV x u)(q:RelV y u):x=y:=Option.some.inj (r.abs.symm.trans q.abs)
theorem Vals.inj:∀{xs ys:List V} {us:List Value},Vals xs us->Vals ys us->xs=ys
 |_,_,_,.nil,.nil=>rfl
 |_,_,_,.cons r t,.cons r' t'=>by rw[r.inj r',Vals.inj t t']
section
variable {X:Cx}{pins:List (Addr × Obj)}{σ:St}{H:Hp}{s:Shared}{a:Addr}{xs ys:List V}
theorem fG.of {K:PySem.W.Frag}(h:H a=some (.lst xs)):fG K H a xs:=.inl (.inl h)
theorem iz.of {K:PySem.W.Frag}(h:H a=some (.tup xs)):iz K H a xs:=.inl (.inl h)
theorem Inv.list (I:Inv X pins σ H s)(h:fG X.K H a xs):∃its:List Value,Vals xs its/\PlainL s.heap a its.toArray/\xs.length<=sizeLine:=by
 rcases h with h|⟨o,its,n,hk,hc,hd,hs,hz,r⟩
 ·obtain⟨z,its,n,r,e⟩:=h.ok I.bg
  exact⟨its,r,⟨_,n,e,rfl,rfl,rfl⟩,z⟩
 ·refine⟨its.toList,r,⟨o,n,I.uE a o hk,hc,hd,by simpa using hs⟩,?_⟩
  have e:=r.length
  simp only[Array.length_toList] at e
  omega
theorem Inv.tuple (I:Inv X pins σ H s)(h:iz X.K H a xs):∃its:List Value,Vals xs its/\IsTup s.heap a its.toArray/\xs.length<=sizeLine:=by
 rcases h with h|⟨o,its,n,hk,hc,hs,hz,r⟩
 ·obtain⟨z,its,r,p⟩:=h.ok I.bg
  exact⟨its,r,p,z⟩
 ·refine⟨its.toList,r,⟨o,I.uE a o hk,hc,n,by simpa using hs⟩,?_⟩
  have e:=r.length
  simp only[Array.length_toList] at e
  omega
theorem Inv.u6 (I:Inv X pins σ H s)(h:fG X.K H a xs)(h':fG X.K H a ys):xs=ys:=by
 obtain⟨its,r,⟨o,n,e,_,_,d⟩,_⟩:=I.list h
 obtain⟨its',r',⟨o',n',e',_,_,d'⟩,_⟩:=I.list h'
 rw[e] at e';cases e'
 rw[d] at d'
 injection d' with d1 _
 have:its=its':=by simpa using congrArg Array.toList d1
 subst this
 exact r.inj r'
theorem Inv.rX (I:Inv X pins σ H s)(h:iz X.K H a xs)(h':iz X.K H a ys):xs=ys:=by
 obtain⟨its,r,⟨o,e,_,n,d⟩,_⟩:=I.tuple h
 obtain⟨its',r',⟨o',e',_,n',d'⟩,_⟩:=I.tuple h'
 rw[e] at e';cases e'
 rw[d] at d'
 injection d' with d1 _
 have:its=its':=by simpa using congrArg Array.toList d1
 subst this
 exact r.inj r'
end
abbrev Cx.qz (X:Cx)(E:Value->Shared->Prop):Cx:={ X with xe:=E }
abbrev Cx.HB (X:Cx):Cx:=X.qz λ_ _=>False
theorem Cx.Ok.qz {X:Cx}(ok:X.Ok)(E:Value->Shared->Prop):(X.qz E).Ok :=
 ⟨ok.mod,ok.kind,ok.glob,ok.blt,ok.above,ok.inj,ok.has,ok.F9,ok.hd,ok.frames,ok.IW,ok.Kc,ok.bs,ok.Cn,ok.wm,ok.wG,ok.lh,ok.Co⟩
theorem Cx.Ok.j_ {X:Cx}{E:Value->Shared->Prop}(ok:(X.qz E).Ok):X.Ok :=
 ⟨ok.mod,ok.kind,ok.glob,ok.blt,ok.above,ok.inj,ok.has,ok.F9,ok.hd,ok.frames,ok.IW,ok.Kc,ok.bs,ok.Cn,ok.wm,ok.wG,ok.lh,ok.Co⟩
section
variable {X:Cx}{pins:List (Addr × Obj)}{σ:St}{H:Hp}{s:Shared}{E:Value->Shared->Prop}
theorem Inv.qz (I:Inv X pins σ H s)(E:Value->Shared->Prop):Inv (X.qz E) pins σ H s:=⟨I.ok.qz E,I.os,I.bare,I.base,I.loc,I.cell,I.free,I.eW,I.pin,I.bg,I.len⟩
theorem Inv.j_ (I:Inv (X.qz E) pins σ H s):Inv X pins σ H s:=⟨I.ok.j_,I.os,I.bare,I.base,I.loc,I.cell,I.free,I.eW,I.pin,I.bg,I.len⟩
theorem SP.j_ {D:Ends}{f:Flow}{s':Shared}(h:SP (X.qz E) pins D f s'):SP X pins D f s':=by
 cases f with
 |next=>obtain⟨σ',H',I,q⟩:=h;exact⟨σ',H',I.j_,q⟩
 |brk=>obtain⟨σ',H',I,q⟩:=h;exact⟨σ',H',I.j_,q⟩
 |cont=>obtain⟨σ',H',I,q⟩:=h;exact⟨σ',H',I.j_,q⟩
 |ret u=>obtain⟨v,σ',H',I,r,q⟩:=h;exact⟨v,σ',H',I.j_,r,q⟩
theorem m8.HB {st:List Stmt}{t:TS}(h:m8 X.HB st t):m8 X st t:=λpins s σ H D I hw =>
 wpAny_mono (h pins s σ H D (I.qz _) hw) (λ_ _ q=>q.j_) λ_ _ z=>False.elim z
end
section
variable {X:Cx}{st:Stmt}{rest:List Stmt}{t u:TS}{e:Expr}{te:TE}{pos:Pos}
def J_:TS:=λD σ H=>D.nx σ H
def Lj (t u:TS):TS:=λD σ H=>t { D with nx:=u D } σ H
theorem tU:m8 X [] J_:=λ_ _ σ H _ I h=>wpAny_execs_nil ⟨σ,H,I,h⟩
theorem qL (h1:PS X st t)(h2:m8 X rest u):m8 X (st::rest) (Lj t u):=by
 intro pins s σ H D I h
 refine wpAny_execs_cons (br (h1 pins s σ H { D with nx:=u D } I h) λf s1 q=>?_)
 cases f with
 |next =>
  obtain⟨σ',H',I',q⟩:=q
  exact h2 pins s1 σ' H' D I' q
 |ret v=>exact q
 |brk=>exact q
 |cont=>exact q
theorem yD (h1:PS X st t):m8 X [st] t:=by
 intro pins s σ H D I h
 refine wpAny_execs_cons (br (h1 pins s σ H D I h) λf s1 q=>?_)
 cases f with
 |next=>exact wpAny_execs_nil q
 |ret v=>exact q
 |brk=>exact q
 |cont=>exact q
theorem Inv.quiet {pins:List (Addr × Obj)}{σ:St}{H:Hp}{s:Shared}(I:Inv X pins σ H s):interactive X.env=false:=by simp[interactive,I.ok.kind]
def J7 (te:TE):TS:=λD σ H=>te σ H λ_ H1=>D.nx σ H1
theorem kQ (he:PE X e te)(hs:swapsWith e none pos.line X.env=pure false:=by rfl):PS X (.Expr e pos) (J7 te):=by
 intro pins s σ H D I h
 exact wpAny_Expr_any (br (he pins s σ H _ I h) λv s1 ⟨x,H1,I1,r1,q1⟩=>⟨σ,H1,I1,q1⟩) I.quiet hs
def Li (te:TE):TS:=λD σ H=>te σ H D.rt
theorem w6 (he:PE X e te):PS X (.Return (some e) pos) (Li te):=by
 intro pins s σ H D I h
 exact wpAny_Return_some (br (he pins s σ H _ I h) λv s1 ⟨x,H1,I1,r1,q1⟩=>⟨x,σ,H1,I1,r1,q1⟩)
def Ld (c:TT)(t u:TS):TS:=λD σ H=>c σ H λb H1=>if b=true then t D σ H1 else u D σ H1
theorem Fe {c:Expr}{a b:List Stmt}{tc:TT}(hc:PT X c tc)(ha:m8 X a t)(hb:m8 X b u):PS X (.If c a b pos) (Ld tc t u):=by
 intro pins s σ H D I h
 refine wpAny_If (br (hc pins s σ H _ I h) λd s1 ⟨H1,I1,q1⟩=>?_)
 cases d with
 |true=>exact ha pins s1 σ H1 D I1 q1
 |false=>exact hb pins s1 σ H1 D I1 q1
def CN:TS:=λ_ _ _=>False
theorem Bs:PS X st CN:=λ_ _ _ _ _ _ h=>h.elim
theorem ze {sts:List Stmt}:m8 X sts CN:=λ_ _ _ _ _ _ h=>h.elim
end
abbrev TG:=V->St->Hp->(St->Hp->Prop)->Prop
abbrev Fz:=List V->St->Hp->(St->Hp->Prop)->Prop
def PG (X:Cx)(target:Expr)(t:TG):Prop :=
 ∀(pins:List (Addr × Obj)) (s:Shared) (σ:St) (H:Hp) (v:V) (u:Value) (Q:St->Hp->Prop),Inv X pins σ H s->RelV v u->t v σ H Q ->
  wpAny (model X.prog X.w) X.A (assign target X.env u) (λ_ s'=>∃ σ' H',Inv X pins σ' H' s'/\Q σ' H') X.xe s
def KW (X:Cx)(ts:List Expr)(t:Fz):Prop :=
 ∀(pins:List (Addr × Obj)) (s:Shared) (σ:St) (H:Hp) (vs:List V) (us:List Value) (Q:St->Hp->Prop),Inv X pins σ H s->Vals vs us->t vs σ H Q ->
  wpAny (model X.prog X.w) X.A (assignInOrder ((assignEach ts X.env).map (·.2)) us) (λ_ s'=>∃ σ' H',Inv X pins σ' H' s'/\Q σ' H') X.xe s
section
variable {X:Cx}{pos:Pos}
def fK (i:Nat):TG:=λv σ H Q=>Q (σ.set i (some v)) H
theorem bY {i:Nat}{x:Str}(hN:X.N.Nodup)(hi:X.N[i]?=some x)(hx:Loc X.env.scope x)(hf:X.fn x=true\/X.env.scope.names.lookup x=some .local:=by first|exact .inl rfl|exact .inr rfl|assumption):PG X (.Name x pos) (fK i):=by
 intro pins s σ H v u Q I r h
 exact wpAny_assign_Name (vZ I hN hi hx r (λs' I'=>⟨_,H,I',h⟩) hf)
def GW:Fz:=λvs σ H Q=>vs=[]/\Q σ H
def uh (t:TG)(u:Fz):Fz:=λvs σ H Q=>∃v r,vs=v::r/\t v σ H λσ' H'=>u r σ' H' Q
theorem D_:KW X [] GW:=by
 intro pins s σ H vs us Q I r h
 obtain⟨e,h⟩:=h
 subst e
 cases r
 exact assignInOrder_nil ⟨σ,H,I,h⟩
theorem vJ {e:Expr}{es:List Expr}{t:TG}{u:Fz}(h1:PG X e t)(h2:KW X es u)
  (hs:(assignEach (e::es) X.env).map (·.2)=assign e X.env::(assignEach es X.env).map (·.2):=by rfl):KW X (e::es) (uh t u):=by
 intro pins s σ H vs us Q I r h
 obtain⟨v,vr,e1,h⟩:=h
 subst e1
 cases r with
 |cons r rr =>
  rw[hs]
  refine assignInOrder_cons (br (h1 pins s σ H _ _ _ I r h) λ_ s1 ⟨σ1,H1,I1,q1⟩=>?_)
  exact h2 pins s1 σ1 H1 _ _ Q I1 rr q1
def GX (K:PySem.W.Frag)(n:Nat)(t:Fz):TG:=λv σ H Q=>∃a xs,v=.ref a/\iz K H a xs/\xs.length=n/\t xs σ H Q
theorem HZ {es:List Expr}{k:Nat}{t:Fz}{n:Nat}(hc:X.calm=true)(h:KW X es t)
  (hn:(assignEach es X.env).length=n:=by rfl)(hst:(assignEach es X.env).findIdx? (·.1)=none:=by rfl):PG X (.Tuple es k pos) (GX X.K n t):=by
 intro pins s σ H v u Q I r hw
 obtain⟨a,xs,e1,hq,hl,hw⟩:=hw
 subst e1
 cases r
 obtain⟨its,rv,ht,hz⟩:=I.tuple hq
 refine assign_Tuple_tuple (I.ok.hd hc) ht (by simp[hn,<- hl,rv.length]) hst λh' hx=>?_
 have I1:Inv X pins σ H { s with heap:=h' }:=I.kept (t':=s.toks) λb o e=>hx b o (Nat.ne_of_lt (Heap.lt_size e)) e
 exact h pins _ σ H xs _ Q I1 (by simpa using rv) hw
def La (te:TE)(g:TG):TS:=λD σ H=>te σ H λx H1=>g x σ H1 D.nx
theorem tT {i:Nat}{x:Str}{e:Expr}{te:TE}{pos':Pos}(hN:X.N.Nodup)(hi:X.N[i]?=some x)(hx:Loc X.env.scope x)(he:PE X e te)(hs:swapsWith e (some (.Name x pos')) pos.line X.env=pure false:=by rfl)(hf:X.fn x=true\/X.env.scope.names.lookup x=some .local:=by first|exact .inl rfl|exact .inr rfl|assumption) :
  PS X (.Assign [.Name x pos'] e pos) (La te (fK i)):=by
 intro pins s σ H D I h
 refine wpAny_Assign_Name (br (he pins s σ H _ I h) λv s1 ⟨y,H1,I1,r1,q1⟩=>?_) hs
 exact vZ I1 hN hi hx r1 (λs2 I2=>⟨_,H1,I2,q1⟩) hf
end
section
variable {X:Cx}{pos:Pos}
end
structure It where
 go:Nat->Hp->Prop
 AH:Nat->Hp->V->Hp->Prop
 stop:Nat->Hp->Prop
def kZ (X:Cx)(pins:List (Addr × Obj))(H:Hp)(b:Addr):Prop :=
 H b=none/\b≠X.env.locals/\b∉X.fs/\(b∈X.ex\/X.s₀.heap.objs.size<=b)/\(∀x c,X.env.cells.lookup x=some c->c≠b)/\∀p∈X.pn++pins,p.1≠b
theorem Inv.DG {X:Cx}{pins:List (Addr × Obj)}{σ:St}{H H':Hp}{s:Shared}{b:Addr}(I:Inv X pins σ H s)(hb:s.heap.objs.size<=b)(hn:H' b=none):kZ X pins H' b:=by
 refine⟨hn,Nat.ne_of_gt (Nat.lt_of_lt_of_le I.lt hb),I.LP hb,.inr (Nat.le_trans I.sz hb),λx c e z=>?_,λp hp z=>?_⟩
 ·obtain⟨v,q⟩:=I.cell x c e
  exact absurd (Nat.lt_of_lt_of_le q.lt (by rw[z];exact hb)) (Nat.lt_irrefl _)
 ·exact absurd (Nat.lt_of_lt_of_le (Heap.lt_size (I.pin p hp).1) (by rw[z];exact hb)) (Nat.lt_irrefl _)
structure Turn (P:Program) (w:World) (K:PySem.W.Frag) (tg:Expr) (J:It) (fp:List Addr) (it:Addr) (tn:Nat->Heap->Prop):Prop where
 mem:it∈fp
 obj:∀i h,tn i h->∀b∈fp,∃o,h.get? b=some o/\∀v,o.data≠.cell v
 keep:∀i h h',tn i h->(∀b∈fp,∀o,h.get? b=some o->h'.get? b=some o)->tn i h'
 item:∀(X:Cx),X.prog=P->X.w=w->X.K=K->X.calm=true->∀(i:Nat) (pins:List (Addr × Obj)) (s:Shared) (σ:St) (H:Hp) (E:Value->Shared->Prop),Inv X pins σ H s->(∀b∈fp,kZ X pins H b)->tn i s.heap->J.go i H ->
  wpAny (model P w) X.A (pyNext (.ref it)) (λr s1=>∃u,r=some u /\
   wpAny (model P w) X.A (letOwnedTupleGo tg (.ref it) u) (λ_ s2=>∃x H',Inv X pins σ H' s2/\RelV x u/\J.AH i H x H'/\tn (i+1) s2.heap/\∀b∈fp,H' b=none) E s1) E s
 done:∀(X:Cx),X.prog=P->X.w=w->X.K=K->X.calm=true->∀(i:Nat) (pins:List (Addr × Obj)) (s:Shared) (σ:St) (H:Hp) (E:Value->Shared->Prop),Inv X pins σ H s->(∀b∈fp,kZ X pins H b)->tn i s.heap->J.stop i H ->
  wpAny (model P w) X.A (pyNext (.ref it)) (λr s1=>r=none/\Inv X pins σ H s1) E s
 self:∀(A:Around) (i:Nat) (s:Shared) (Q:Value->Shared->Prop) (E:Value->Shared->Prop),tn i s.heap->Q (.ref it) s->wpAny (model P w) A (pyIter (.ref it)) Q E s
abbrev TI:=St->Hp->(It->Hp->Prop)->Prop
def Lz (X:Cx)(pins:List (Addr × Obj))(σ:St)(tg:Expr)(R:It->Hp->Prop)(itv:Value)(s2:Shared):Prop :=
 ∃(it:Addr) (fp:List Addr) (tn:Nat->Heap->Prop) (J:It) (H':Hp),itv=.ref it/\Inv X pins σ H' s2/\Turn X.prog X.w X.K tg J fp it tn/\tn 0 s2.heap/\(∀b∈fp,kZ X pins H' b)/\R J H'
def PI (X:Cx)(tg iter:Expr)(wi:TI):Prop :=
 ∀(pins:List (Addr × Obj)) (s:Shared) (σ:St) (H:Hp) (R:It->Hp->Prop),Inv X pins σ H s->wi σ H R ->
  wpAny (model X.prog X.w) X.A (eval iter X.env) (λv s1=>wpAny (model X.prog X.w) X.A (pyIter v) (Lz X pins σ tg R) X.xe s1) X.xe s
theorem um {M:Model}{A:Around}{E:Value->Shared->Prop}{s:Shared}{tg:Expr}{it:Addr}{u:Value}{o:Obj}{n:String}{vs:Array Value}{Q:Unit->Shared->Prop}(ho:s.heap.get? it=some o)(hc:o.cls=.type n)(hd:o.data=.fields vs)
    (hn:["enumerate","zip","dict_itemiterator","dict_reverseitemiterator","odict_iterator","itertools.zip_longest","itertools.pairwise"].contains n=false)(hQ:Q () s):wpAny M A (letOwnedTupleGo tg (.ref it) u) Q E s:=by
  unfold letOwnedTupleGo
  cases tg<;>first
    |exact wpAny_pure hQ
    | (cases u<;>first
        |exact wpAny_pure hQ
        | (refine wpAny_bind (wpAny_load ho ?_)
           rw[hc,hd]
           show wpAny M A (if(["enumerate","zip","dict_itemiterator","dict_reverseitemiterator","odict_iterator","itertools.zip_longest","itertools.pairwise"].contains n&&vs[0]? == some (rawInt _))=true then _ else _) Q E s
           rw[if_neg (by intro h;rw[hn,Bool.false_and] at h;cases h)]
           exact wpAny_pure hQ))
def Lw (K:PySem.W.Frag)(a:Addr):It :=
 ⟨λi H=>∃xs x,fG K H a xs/\xs[i]?=some x,λi H x H'=>H'=H/\∀xs,fG K H a xs->xs[i]?=some x,λi H=>∃xs,fG K H a xs/\xs.length<=i⟩
def Lx (K:PySem.W.Frag)(a:Addr):It :=
 ⟨λi H=>∃xs x,iz K H a xs/\xs[i]?=some x,λi H x H'=>H'=H/\∀xs,iz K H a xs->xs[i]?=some x,λi H=>∃xs,iz K H a xs/\xs.length<=i⟩
def KU (lo:Int)(n:Nat):It:=⟨λi _=>i<n,λi H x H'=>H'=H/\x=.int (lo+i),λi _=>n<=i⟩
theorem zv {P:Program}{w:World}{K:PySem.W.Frag}{tg:Expr}(a it:Addr):Turn P w K tg (Lw K a) [it] it (λi h=>h.IsListIter it a i) where
 mem:=by simp
 obj:=λi h st b hb=>by
  have e:b=it:=by simpa using hb
  subst e
  obtain⟨o,e,c,d⟩:=st
  exact⟨o,e,λv z=>by rw[d] at z;cases z⟩
 keep:=λi h h' st k=>st.at λo e=>k it (by simp) o e
 item:=by
  intro X hP hw hK hc i pins s σ H E I hf st hg
  subst hP hw hK
  obtain⟨xs,x,hq,hx⟩:=hg
  obtain⟨its,rv,p,hz⟩:=I.list hq
  obtain⟨u,hu,ru⟩:=rv.get hx
  obtain⟨f0,f1,f2,f3,f4,f5⟩:=hf it (by simp)
  refine wpAny_pyNext_list_item st p.isList (x:=u) (by simpa using hu) λh' st' sb=>?_
  have I1:Inv X pins σ H { s with heap:=h' }:=I.turned (t':=s.toks) (λb o hb e=>(sb.2 b hb).trans e) f0 f1 f3 f4 f5
  obtain⟨o,e,c,d⟩:=id st'
  exact⟨u,rfl,um (s:={ s with heap:=h' }) e c d (by decide) ⟨x,H,I1,ru,⟨rfl,λys hy=>by rw[I.u6 hy hq];exact hx⟩,st',λb hb=>(hf b hb).1⟩⟩
 done:=by
  intro X hP hw hK hc i pins s σ H E I hf st hg
  subst hP hw hK
  obtain⟨xs,hq,hx⟩:=hg
  obtain⟨its,rv,p,hz⟩:=I.list hq
  obtain⟨f0,f1,f2,f3,f4,f5⟩:=hf it (by simp)
  have hl:=rv.length
  exact wpAny_pyNext_list_end (I.ok.hd hc) st p.isList (by simp;omega) λh' eb=>⟨rfl,I.turned (t':=s.toks) (λb o hb e=>eb b o hb e) f0 f1 f3 f4 f5⟩
 self:=λ_ _ _ _ _ st h=>wpAny_pyIter_listiter st h
theorem xQ {P:Program}{w:World}{K:PySem.W.Frag}{tg:Expr}(a it:Addr):Turn P w K tg (Lx K a) [it] it (λi h=>h.IsTupleIter it a i) where
 mem:=by simp
 obj:=λi h st b hb=>by
  have e:b=it:=by simpa using hb
  subst e
  obtain⟨o,e,c,d⟩:=st
  exact⟨o,e,λv z=>by rw[d] at z;cases z⟩
 keep:=λi h h' st k=>st.at λo e=>k it (by simp) o e
 item:=by
  intro X hP hw hK hc i pins s σ H E I hf st hg
  subst hP hw hK
  obtain⟨xs,x,hq,hx⟩:=hg
  obtain⟨its,rv,p,hz⟩:=I.tuple hq
  obtain⟨u,hu,ru⟩:=rv.get hx
  obtain⟨f0,f1,f2,f3,f4,f5⟩:=hf it (by simp)
  refine wpAny_pyNext_tuple_item st (show s.heap.IsTuple a its.toArray from p) (x:=u) (by simpa using hu) λh' st' sb=>?_
  have I1:Inv X pins σ H { s with heap:=h' }:=I.turned (t':=s.toks) (λb o hb e=>(sb.2 b hb).trans e) f0 f1 f3 f4 f5
  obtain⟨o,e,c,d⟩:=id st'
  exact⟨u,rfl,um (s:={ s with heap:=h' }) e c d (by decide) ⟨x,H,I1,ru,⟨rfl,λys hy=>by rw[I.rX hy hq];exact hx⟩,st',λb hb=>(hf b hb).1⟩⟩
 done:=by
  intro X hP hw hK hc i pins s σ H E I hf st hg
  subst hP hw hK
  obtain⟨xs,hq,hx⟩:=hg
  obtain⟨its,rv,p,hz⟩:=I.tuple hq
  obtain⟨f0,f1,f2,f3,f4,f5⟩:=hf it (by simp)
  have hl:=rv.length
  exact wpAny_pyNext_tuple_end (I.ok.hd hc) st (show s.heap.IsTuple a its.toArray from p) (by simp;omega) λh' eb=>⟨rfl,I.turned (t':=s.toks) (λb o hb e=>eb b o hb e) f0 f1 f3 f4 f5⟩
 self:=λ_ _ _ _ _ st h=>wpAny_pyIter_tupleiter st h
theorem xP {P:Program}{w:World}{K:PySem.W.Frag}{tg:Expr}(it:Addr)(lo:Int)(n:Nat):Turn P w K tg (KU lo n) [it] it (λi h=>IsRangeIter h it (lo+(i:Nat)*1) ((n:Int) - (i:Nat)) 1) where
 mem:=by simp
 obj:=λi h st b hb=>by
  have e:b=it:=by simpa using hb
  subst e
  exact⟨_,st,λv z=>by
   have z':Data.fields _=Data.cell v:=z
   cases z'⟩
 keep:=λi h h' st k=>k it (by simp) _ st
 item:=by
  intro X hP hw hK hc i pins s σ H E I hf st hg
  subst hP hw hK
  obtain⟨f0,f1,f2,f3,f4,f5⟩:=hf it (by simp)
  have W:=Walks.range (prog:=X.prog) (w:=X.w) (I.ok.hd hc) it lo 1 n
  refine W.item i s _ _ hg st λv h' tk hv st' kk=>?_
  obtain⟨t,rfl⟩:=hv
  have I1:Inv X pins σ H { s with heap:=h',toks:=tk }:=I.turned (λb o hb e=>kk b o (by simpa using hb) e) f0 f1 f3 f4 f5
  refine⟨_,rfl,um (s:={ s with heap:=h',toks:=tk }) (n:="range_iterator") st' rfl rfl (by decide) ⟨.int (lo+i),H,I1,⟨t,?_⟩,⟨rfl,rfl⟩,st',λb hb=>(hf b hb).1⟩⟩
  rw[Int.mul_one]
 done:=by
  intro X hP hw hK hc i pins s σ H E I hf st hg
  subst hP hw hK
  obtain⟨f0,f1,f2,f3,f4,f5⟩:=hf it (by simp)
  exact wpAny_pyNext_range_end (I.ok.hd hc) st (by have:n<=i:=hg;omega) λh' eb=>⟨rfl,I.turned (t':=s.toks) (λb o hb e=>eb b o hb e) f0 f1 f3 f4 f5⟩
 self:=λ_ _ _ _ _ st h=>wpAny_pyIter_rangeiter st h
section
variable {X:Cx}{tg:Expr}
theorem B0 {pins:List (Addr × Obj)}{σ:St}{H:Hp}{s:Shared}{R:It->Hp->Prop}{E:Value->Shared->Prop}{lo hi:Int}{t u v:Tok}{tk:Nat}(I:Inv X pins σ H s)(h1:-(2 ^ 62)<=lo)(h2:lo<2 ^ 62)(h3:-(2 ^ 62)<=hi)(h4:hi<2 ^ 62)
  (q:R (KU lo (hi - lo).toNat) H):wpAny (model X.prog X.w) X.A (pyIter (.ref s.heap.objs.size)) (Lz X pins σ tg R) E { s with heap:=s.heap.push { cls:=.type "range",data:=.fields #[.int lo t,.int hi u,.int 1 v] },toks:=tk }:=by
 refine wpAny_pyIter_range (IsRange.new ..) (small_one h1 h2 h3 h4) ?_
 have I1:Inv X pins σ H { s with heap:=s.heap.push { cls:=.type "range",data:=.fields #[.int lo t,.int hi u,.int 1 v] },toks:=tk }:=I.kept λb o e=>Heap.get?_push_of_some _ e
 refine⟨(s.heap.push { cls:=.type "range",data:=.fields #[.int lo t,.int hi u,.int 1 v] }).objs.size,[(s.heap.push { cls:=.type "range",data:=.fields #[.int lo t,.int hi u,.int 1 v] }).objs.size],_,_,H,rfl,
  I1.kept (t':=tk) λb o e=>Heap.get?_push_of_some _ e,xP _ lo (hi - lo).toNat,?_,λb hb=>?_,q⟩
 ·have e1:lo+((0:Nat):Int)*1=lo:=by simp
  have e2:(((hi - lo).toNat:Nat):Int) - ((0:Nat):Int)=Builtin.Range.rangeSize lo hi 1:=by rw[rangeSize_one];split<;>omega
  show IsRangeIter _ _ (lo+((0:Nat):Int)*1) ((((hi - lo).toNat:Nat):Int) - ((0:Nat):Int)) 1
  rw[e1,e2]
  exact Heap.get?_push_size _ rfl
 ·have e:b=(s.heap.push { cls:=.type "range",data:=.fields #[.int lo t,.int hi u,.int 1 v] }).objs.size:=by simpa using hb
  subst e
  exact I1.DG (Nat.le_refl _) (I1.bg.fresh (Nat.le_refl _))
def JG (ta:TA):TI:=λσ H R=>ta σ H λvs H1=>∃j:Int,vs=[.int j]/\-(2 ^ 62)<=j/\j<2 ^ 62/\R (KU 0 j.toNat) H1
theorem za {a:Expr}{ta:TA}{p pos:Pos}(hg:Gl X "range")(hm:X.mg "range"=none)(ha:PA X [a] ta)(hs:starEach [a] X.env=[(false,eval a X.env)]:=by rfl):PI X tg (.Call (.Name "range" p) [a] [] pos) (JG ta):=by
 intro pins s σ H R I h
 refine Call_ (nV I hg hm boot_range (PyProof.Rows.callWith_type1 (br (ha pos pins s σ H _ I h) λus s1 ⟨vs,H1,I1,r1,q1⟩=>?_) hs rfl))
 obtain⟨j,e,q1,q2,q⟩:=q1
 subst e
 cases r1 with
 |cons r rr =>
  cases rr
  obtain⟨t,rfl⟩:=r
  exact call_range_1 (B0 I1 (by omega) (by omega) q1 q2 (by simpa using q))
def Lc (wi:TI)(g:TG)(tb:TS):TS:=λD σ H=>wi σ H λJ H1=>∃W:Nat->Nat->St->Hp->Prop,(∃m,W 0 m σ H1)/\∀i m σ H,W i m σ H ->
 (J.stop i H/\D.nx σ H)\/(J.go i H/\∃N:St->Hp->Prop,(∀ σ' H',N σ' H'->∃m',m'<m/\W (i+1) m' σ' H')/\∀x H',J.AH i H x H'->g x σ H' λσ2 H2=>tb { D with nx:=N,ct:=N,bk:=D.nx } σ2 H2)
def ly (fp:List Addr)(h:Heap):List (Addr × Obj):=fp.filterMap λb=>(h.get? b).map λo=>(b,o)
theorem fv {fp:List Addr}{h:Heap}{b:Addr}{o:Obj}(hb:b∈fp)(e:h.get? b=some o):(b,o)∈ly fp h:=List.mem_filterMap.mpr ⟨b,hb,by rw[e];rfl⟩
theorem nh {fp:List Addr}{h:Heap}{p:Addr × Obj}(hp:p∈ly fp h):p.1∈fp/\h.get? p.1=some p.2:=by
 obtain⟨b,hb,e⟩:=List.mem_filterMap.mp hp
 cases q:h.get? b with
 |none=>rw[q] at e;cases e
 |some o =>
  rw[q] at e
  have e':(b,o)=p:=Option.some.inj e
  subst e'
  exact⟨hb,q⟩
theorem Inv.pinned {pins:List (Addr × Obj)}{σ:St}{H:Hp}{s:Shared}{fp:List Addr}(I:Inv X pins σ H s)(hf:∀b∈fp,kZ X pins H b)(ho:∀b∈fp,∃o,s.heap.get? b=some o/\∀v,o.data≠.cell v):Inv X (pins++ly fp s.heap) σ H s :=
 I.tQ λp hp=>(List.mem_append.mp hp).elim (λz=>I.pin p (List.mem_append_right _ z)) λz=>by
  obtain⟨hb,e⟩:=nh z
  obtain⟨f0,f1,f2,_⟩:=hf p.1 hb
  obtain⟨o,e',d⟩:=ho p.1 hb
  rw[e] at e';cases e'
  exact⟨e,f0,f1,f2,d⟩
theorem Inv.hZ {pins pl:List (Addr × Obj)}{σ:St}{H:Hp}{s:Shared}(I:Inv X (pins++pl) σ H s):Inv X pins σ H s:=I.tQ λp hp=>I.pin p (List.mem_append_right _ (List.mem_append_left _ hp))
theorem Br {iter:Expr}{body:List Stmt}{wi:TI}{g:TG}{tb:TS}{pos:Pos}(hp:PassesOwn (model X.prog X.w) X.A X.env X.xe)(hc:X.calm=true)(hi:PI X tg iter wi)(hg:PG X tg g)(hb:m8 X body tb)
  (hs:∀x,foldedSetIterable iter X.env x=pure x:=by intro _;rfl):PS X (.For tg iter body [] pos) (Lc wi g tb):=by
 intro pins s σ H D I h
 refine wpAny_For (br (hi pins s σ H _ I h) λv s1 h1=>br h1 λitv s2 h2=>?_) hs
 obtain⟨it,fp,tn,J,H2,e,I2,T,st2,f2,W,⟨m0,w0⟩,turn⟩:=h2
 subst e
 -- what stays true of the iterator's objects through the loop
 have stat:∀{H':Hp},(∀b∈fp,H' b=none)->∀b∈fp,kZ X pins H' b:=λhn b hb=>⟨hn b hb,(f2 b hb).2⟩
 refine codeAny_forLoop_any (λn s'=>∃i σ' H',Inv X pins σ' H' s'/\tn i s'.heap/\(∀b∈fp,H' b=none)/\W i n σ' H') ?_ m0 ⟨0,σ,H2,I2,st2,λb hb=>(f2 b hb).1,w0⟩
 rintro n s3 ⟨i,σ3,H3,I3,st3,fr3,w3⟩
 rcases turn i n σ3 H3 w3 with⟨stop,qn⟩|⟨go,N,hN,step⟩
 ·refine wpAny_passesOwn hp (br (T.done X rfl rfl rfl hc i pins s3 σ3 H3 X.xe I3 (stat fr3) st3 stop) λr s4 ⟨hr,I4⟩=>?_)
  subst hr
  exact wpAny_execs_nil ⟨σ3,H3,I4,qn⟩
 ·refine wpAny_passesOwn hp (br (T.item X rfl rfl rfl hc i pins s3 σ3 H3 X.xe I3 (stat fr3) st3 go) λr s4 ⟨u,hr,h4⟩=>?_)
  subst hr
  refine wpAny_passesOwn hp (br h4 λ_ s5 ⟨x,H5,I5,r5,y5,st5,fr5⟩=>?_)
  have I5':=I5.pinned (stat fr5) (T.obj _ _ st5)
  refine wpAny_passesOwn hp (br (hg _ s5 σ3 H5 x u _ I5' r5 (step x H5 y5)) λ_ s6 ⟨σ6,H6,I6,q6⟩=>?_)
  refine wpAny_passesOwn hp (br (hb _ s6 σ6 H6 _ I6 q6) λf s7 q7=>?_)
  have again:∀{σ7:St} {H7:Hp},Inv X (pins++ly fp s5.heap) σ7 H7 s7->N σ7 H7->∃m,m<n/\∃i σ' H',Inv X pins σ' H' s7/\tn i s7.heap/\(∀b∈fp,H' b=none)/\W i m σ' H':=fun{σ7 H7} I7 n7=>by
   obtain⟨m',hm,w7⟩:=hN σ7 H7 n7
   refine⟨m',hm,i+1,σ7,H7,I7.hZ,T.keep _ _ _ st5 λb hb o e=>(I7.pin (b,o) (List.mem_append_right _ (List.mem_append_right _ (fv hb e)))).1,λb hb=>?_,w7⟩
   obtain⟨o,e,d⟩:=T.obj _ _ st5 b hb
   exact(I7.pin (b,o) (List.mem_append_right _ (List.mem_append_right _ (fv hb e)))).2.1
  cases f with
  |next=>obtain⟨σ7,H7,I7,n7⟩:=q7;exact again I7 n7
  |cont=>obtain⟨σ7,H7,I7,n7⟩:=q7;exact again I7 n7
  |brk=>obtain⟨σ7,H7,I7,q7⟩:=q7;exact⟨σ7,H7,I7.hZ,q7⟩
  |ret v=>obtain⟨x7,σ7,H7,I7,r7,q7⟩:=q7;exact⟨x7,σ7,H7,I7.hZ,r7,q7⟩
end
abbrev R2:=V->V->Hp->VK->Prop
def gU (X:Cx)(f:Value->Value->Sem Value)(r:R2):Prop :=
 ∀(pins:List (Addr × Obj)) (s:Shared) (σ:St) (H:Hp) (x y:V) (v u:Value) (Q:VK),Inv X pins σ H s->RelV x v->RelV y u->r x y H Q ->
  wpAny (model X.prog X.w) X.A (f v u) (EP X pins σ Q) X.xe s
def Kx (X:Cx)(f:Value->Sem Value)(r:V->Hp->VK->Prop):Prop :=
 ∀(pins:List (Addr × Obj)) (s:Shared) (σ:St) (H:Hp) (x:V) (v:Value) (Q:VK),Inv X pins σ H s->RelV x v->r x H Q ->
  wpAny (model X.prog X.w) X.A (f v) (EP X pins σ Q) X.xe s
def ki (X:Cx)(f:Value)(r:List V->Hp->VK->Prop):Prop :=
 ∀(pins:List (Addr × Obj)) (s:Shared) (σ:St) (H:Hp) (xs:List V) (us:List Value) (Q:VK),Inv X pins σ H s->Vals xs us->r xs H Q ->
  wpAny (model X.prog X.w) X.A (call f us) (EP X pins σ Q) X.xe s
def Kw (X:Cx)(r:V->Hp->(Bool->Hp->Prop)->Prop):Prop :=
 ∀(pins:List (Addr × Obj)) (s:Shared) (σ:St) (H:Hp) (x:V) (v:Value) (Q:Bool->Hp->Prop),Inv X pins σ H s->RelV x v->r x H Q ->
  wpAny (model X.prog X.w) X.A (truthy v) (TP X pins σ Q) X.xe s
def Hy (r:R2)(ta tb:TE):TE:=λσ H Q=>ta σ H λx H1=>tb σ H1 λy H2=>r x y H2 Q
def Mc (r:V->Hp->VK->Prop)(ta:TE):TE:=λσ H Q=>ta σ H λx H1=>r x H1 Q
def rI (C:Int->Int->Prop)(g:Int->Int->V):R2:=λx y H Q=>∃i j,x=.int i/\y=.int j/\C i j/\Q (g i j) H
def Cs (g:Int->Int->V):R2:=λx y H Q=>∃i j,x=.int i/\y=.int j/\Q (g i j) H
def rU (g:Int->V):V->Hp->VK->Prop:=λx H Q=>∃i,x=.int i/\Q (g i) H
section
variable {X:Cx}{a b c:Expr}{ta tb tc:TE}{pos:Pos}
theorem F3 (ha:PE X a ta)(hb:PE X b tb){pins:List (Addr × Obj)}{s:Shared}{σ:St}{H:Hp}{R:V->V->Hp->Prop}(I:Inv X pins σ H s)
  (h:ta σ H λx H1=>tb σ H1 λy H2=>R x y H2){Q:Value->Shared->Prop}{f:Value->Value->Sem Value}
  (hf:∀v u s2 x y H2,Inv X pins σ H2 s2->RelV x v->RelV y u->R x y H2->wpAny (model X.prog X.w) X.A (f v u) Q X.xe s2) :
  wpAny (model X.prog X.w) X.A (eval a X.env) (λv s₁=>wpAny (model X.prog X.w) X.A (eval b X.env) (λu s₂=>wpAny (model X.prog X.w) X.A (f v u) Q X.xe s₂) X.xe s₁) X.xe s:=by
 refine br (ha pins s σ H _ I h) λv s1 ⟨x,H1,I1,r1,q1⟩=>?_
 refine br (hb pins s1 σ H1 _ I1 q1) λu s2 ⟨y,H2,I2,r2,q2⟩=>?_
 exact hf v u s2 x y H2 I2 r1 r2 q2
theorem Fd {op:Operator}{r:R2}(ho:gU X (binaryOp op) r)(ha:PE X a ta)(hb:PE X b tb):PE X (.BinOp a op b pos) (Hy r ta tb):=by
 intro pins s σ H Q I h
 exact wpAny_BinOp (F3 ha hb I h λv u s2 x y H2 I2 rx ry q=>ho pins s2 σ H2 x y v u Q I2 rx ry q)
theorem Jk {op:UnaryOp}{r:V->Hp->VK->Prop}(ho:Kx X (unaryOp op) r)(ha:PE X a ta):PE X (.UnaryOp op a pos) (Mc r ta):=by
 intro pins s σ H Q I h
 exact UnaryOp_ (br (ha pins s σ H _ I h) λv s1 ⟨x,H1,I1,r1,q1⟩=>ho pins s1 σ H1 x v Q I1 r1 q1)
theorem LQ {f:Value->Value->Sem Value}{C:Int->Int->Prop}{g:Int->Int->Int}
  (rule:∀(i j:Int) (t u:Tok) (s:Shared) (Q:Value->Shared->Prop) (E:Value->Shared->Prop),C i j->Q (.int (g i j) s.toks) { s with toks:=s.toks+1 }->wpAny (model X.prog X.w) X.A (f (.int i t) (.int j u)) Q E s) :
  gU X f (rI C λi j=>.int (g i j)):=by
 intro pins s σ H x y v u Q I rx ry h
 obtain⟨i,j,rfl,rfl,hc,q⟩:=h
 obtain⟨t,rfl⟩:=rx
 obtain⟨t',rfl⟩:=ry
 exact rule i j t t' s _ _ hc ⟨.int (g i j),H,I.tok _,⟨_,rfl⟩,q⟩
theorem Jf {f:Value->Value->Sem Value}{g:Int->Int->Int}
  (rule:∀(i j:Int) (t u:Tok) (s:Shared) (Q:Value->Shared->Prop) (E:Value->Shared->Prop),Q (.int (g i j) s.toks) { s with toks:=s.toks+1 }->wpAny (model X.prog X.w) X.A (f (.int i t) (.int j u)) Q E s) :
  gU X f (Cs λi j=>.int (g i j)):=by
 intro pins s σ H x y v u Q I rx ry h
 obtain⟨i,j,rfl,rfl,q⟩:=h
 obtain⟨t,rfl⟩:=rx
 obtain⟨t',rfl⟩:=ry
 exact rule i j t t' s _ _ ⟨.int (g i j),H,I.tok _,⟨_,rfl⟩,q⟩
theorem HG {f:Value->Value->Sem Value}{g:Int->Int->Bool}
  (rule:∀(i j:Int) (t u:Tok) (s:Shared) (Q:Value->Shared->Prop) (E:Value->Shared->Prop),Q (.bool (g i j)) s->wpAny (model X.prog X.w) X.A (f (.int i t) (.int j u)) Q E s) :
  gU X f (Cs λi j=>.bl (g i j)):=by
 intro pins s σ H x y v u Q I rx ry h
 obtain⟨i,j,rfl,rfl,q⟩:=h
 obtain⟨t,rfl⟩:=rx
 obtain⟨t',rfl⟩:=ry
 exact rule i j t t' s _ _ ⟨.bl (g i j),H,I,rfl,q⟩
def Ft (i j:Int):Prop:=0<j/\j<1073741824
def rh (i j:Int):Prop:=(-(2 ^ 64)<i/\i<2 ^ 64)\/(-(2 ^ 64)<j/\j<2 ^ 64)
theorem rh.ok {i j:Int}(h:rh i j):IntMulOk i j:=by
 rcases h with⟨h1,h2⟩|⟨h1,h2⟩
 ·exact .of_left (intBits_le_64 h1 h2)
 ·exact .of_right (intBits_le_64 h1 h2)
theorem HH:gU X (binaryOp .Add) (Cs λi j=>.int (i+j)):=Jf λ_ _ _ _ _ _ _ q=>add_int q
theorem HN:gU X (binaryOp .Sub) (Cs λi j=>.int (i - j)):=Jf λ_ _ _ _ _ _ _ q=>sub_int q
theorem D0:gU X (binaryOp .FloorDiv) (rI Ft λi j=>.int (i / j)):=LQ λi j _ _ _ _ _ hc q=>by
 have h1:(0:Int)<j:=hc.1
 have h2:j<1073741824:=hc.2
 exact floordiv_int (by omega) (by rw[Int.fdiv_eq_ediv_of_nonneg i (by omega)];exact q) (.inl (PyProof.noPylong_small (by omega)))
theorem HM:gU X (binaryOp .Mod) (rI (λ_ j=>0<j) λi j=>.int (i%j)):=LQ λi j _ _ _ _ _ hc q=>by
 have h1:(0:Int)<j:=hc
 exact mod_int' (by omega) (by rw[Int.fmod_eq_emod_of_nonneg i (by omega)];exact q)
theorem Me {f:Value->Sem Value}{g:Int->Int}
  (rule:∀(i:Int) (t:Tok) (s:Shared) (Q:Value->Shared->Prop) (E:Value->Shared->Prop),Q (.int (g i) s.toks) { s with toks:=s.toks+1 }->wpAny (model X.prog X.w) X.A (f (.int i t)) Q E s) :
  Kx X f (rU λi=>.int (g i)):=by
 intro pins s σ H x v Q I rx h
 obtain⟨i,rfl,q⟩:=h
 obtain⟨t,rfl⟩:=rx
 exact rule i t s _ _ ⟨.int (g i),H,I.tok _,⟨_,rfl⟩,q⟩
theorem IG:Kx X (unaryOp .USub) (rU λi=>.int (-i)):=Me λ_ _ _ _ _ q=>neg_int q
end
def Jw:V->V->Bool
 |.ag,.ag=>true|.ag,.int _=>true|.int _,.ag=>true|.ag,.bl _=>true|.bl _,.ag=>true|.ag,.str _=>true|.str _,.ag=>true
 |.int _,.int _=>true|.bl _,.bl _=>true|.str _,.str _=>true|.vq _,.vq _=>true
 |.int _,.str _=>true|.str _,.int _=>true|.bl _,.str _=>true|.str _,.bl _=>true
 |_,_=>false
def MA:R2:=λx y H Q=>Jw x y=true/\Q (.bl (decide (x=y))) H
def MC:R2:=λx y H Q=>Jw x y=true/\Q (.bl (!decide (x=y))) H
theorem xa {i j:Int}:decide (V.int i=V.int j)=(i == j):=by
 rw[Bool.eq_iff_iff]
 simp
theorem Ah {i j:Bool}:decide (V.bl i=V.bl j)=(i == j):=by
 rw[Bool.eq_iff_iff]
 simp
theorem xc {i j:Str}:decide (V.str i=V.str j)=(i == j):=by
 rw[Bool.eq_iff_iff]
 simp
theorem xZ {i j:Array UInt8}:decide (V.vq i=V.vq j)=(i.toList == j.toList):=by
 rw[Bool.eq_iff_iff]
 cases i
 cases j
 simp
section
variable {X:Cx}{a b c:Expr}{ta tb tc:TE}{pos:Pos}
theorem ax {pins:List (Addr × Obj)}{σ:St}{H:Hp}{s:Shared}{Q:VK}{k k':Bool}(I:Inv X pins σ H s)(q:Q (.bl k) H)(e:k=k'):EP X pins σ Q (.bool k') s:=by
 subst e
 exact⟨.bl k,H,I,rfl,q⟩
theorem FY:gU X (compareOp .Eq) MA:=by
 intro pins s σ H x y v u Q I rx ry h
 obtain⟨hs,q⟩:=h
 cases x with
 |ag =>
  cases rx
  cases y with
  |ag=>cases ry;exact PySem.EqNone.eq_none_none (ax I q (by simp))
  |bl j=>cases ry;exact PySem.EqNone.eq_none_bool (ax I q (by simp))
  |int j=>obtain⟨t',rfl⟩:=ry;exact PySem.EqNone.eq_none_int (ax I q (by simp))
  |str j=>obtain⟨t',rfl⟩:=ry;exact PySem.EqNone.eq_none_str (ax I q (by simp))
  |_=>exact absurd (show false=true from hs) Bool.false_ne_true
 |bl i =>
  cases rx
  cases y with
  |ag=>cases ry;exact PySem.EqNone.eq_bool_none (ax I q (by simp))
  |bl j=>cases ry;exact eq_bool (ax I q Ah)
  |str j=>obtain⟨t',rfl⟩:=ry;exact PySem.EqMixed.eq_bool_str (ax I q (by simp))
  |_=>exact absurd (show false=true from hs) Bool.false_ne_true
 |int i =>
  obtain⟨t,rfl⟩:=rx
  cases y with
  |ag=>cases ry;exact PySem.EqNone.eq_int_none (ax I q (by simp))
  |int j=>obtain⟨t',rfl⟩:=ry;exact eq_int (ax I q xa)
  |str j=>obtain⟨t',rfl⟩:=ry;exact PySem.EqMixed.eq_int_str (ax I q (by simp))
  |_=>exact absurd (show false=true from hs) Bool.false_ne_true
 |str i =>
  obtain⟨t,rfl⟩:=rx
  cases y with
  |ag=>cases ry;exact PySem.EqNone.eq_str_none (ax I q (by simp))
  |bl j=>cases ry;exact PySem.EqMixed.eq_str_bool (ax I q (by simp))
  |int j=>obtain⟨t',rfl⟩:=ry;exact PySem.EqMixed.eq_str_int (ax I q (by simp))
  |str j=>obtain⟨t',rfl⟩:=ry;exact eq_str (ax I q xc)
  |_=>exact absurd (show false=true from hs) Bool.false_ne_true
 |vq i =>
  obtain⟨t,rfl⟩:=rx
  cases y with
  |vq j=>obtain⟨t',rfl⟩:=ry;exact PySem.W.eq_bytes (ax I q xZ)
  |_=>exact absurd (show false=true from hs) Bool.false_ne_true
 |_=>cases y<;>exact absurd (show false=true from hs) Bool.false_ne_true
theorem Fb:gU X (compareOp .NotEq) MC:=by
 intro pins s σ H x y v u Q I rx ry h
 obtain⟨hs,q⟩:=h
 cases x with
 |ag =>
  cases rx
  cases y with
  |ag=>cases ry;exact PySem.EqNone.ne_none_none (ax I q (by simp))
  |bl j=>cases ry;exact PySem.EqNone.ne_none_bool (ax I q (by simp))
  |int j=>obtain⟨t',rfl⟩:=ry;exact PySem.EqNone.ne_none_int (ax I q (by simp))
  |str j=>obtain⟨t',rfl⟩:=ry;exact PySem.EqNone.ne_none_str (ax I q (by simp))
  |_=>exact absurd (show false=true from hs) Bool.false_ne_true
 |bl i =>
  cases rx
  cases y with
  |ag=>cases ry;exact PySem.EqNone.ne_bool_none (ax I q (by simp))
  |bl j=>cases ry;exact ne_bool (ax I q (congrArg not Ah))
  |str j=>obtain⟨t',rfl⟩:=ry;exact PySem.EqMixed.ne_bool_str (ax I q (by simp))
  |_=>exact absurd (show false=true from hs) Bool.false_ne_true
 |int i =>
  obtain⟨t,rfl⟩:=rx
  cases y with
  |ag=>cases ry;exact PySem.EqNone.ne_int_none (ax I q (by simp))
  |int j=>obtain⟨t',rfl⟩:=ry;exact ne_int (ax I q (congrArg not xa))
  |str j=>obtain⟨t',rfl⟩:=ry;exact PySem.EqMixed.ne_int_str (ax I q (by simp))
  |_=>exact absurd (show false=true from hs) Bool.false_ne_true
 |str i =>
  obtain⟨t,rfl⟩:=rx
  cases y with
  |ag=>cases ry;exact PySem.EqNone.ne_str_none (ax I q (by simp))
  |bl j=>cases ry;exact PySem.EqMixed.ne_str_bool (ax I q (by simp))
  |int j=>obtain⟨t',rfl⟩:=ry;exact PySem.EqMixed.ne_str_int (ax I q (by simp))
  |str j=>obtain⟨t',rfl⟩:=ry;exact ne_str (ax I q (congrArg not xc))
  |_=>exact absurd (show false=true from hs) Bool.false_ne_true
 |vq i =>
  obtain⟨t,rfl⟩:=rx
  cases y with
  |vq j=>obtain⟨t',rfl⟩:=ry;exact PySem.W.ne_bytes (ax I q (congrArg not xZ))
  |_=>exact absurd (show false=true from hs) Bool.false_ne_true
 |_=>cases y<;>exact absurd (show false=true from hs) Bool.false_ne_true
theorem Jg:gU X (compareOp .Lt) (Cs λi j=>.bl (decide (i<j))):=HG λ_ _ _ _ _ _ _ q=>lt_int q
theorem Be:gU X (compareOp .LtE) (Cs λi j=>.bl (decide (i<=j))):=HG λ_ _ _ _ _ _ _ q=>le_int q
theorem FZ:gU X (compareOp .Gt) (Cs λi j=>.bl (decide (j<i))):=HG λ_ _ _ _ _ _ _ q=>gt_int q
theorem nk:gU X (compareOp .In) (λx y H Q=>∃i j,x=.str i/\y=.str j/\Q (.bl (!(Builtin.Str.occurrences j i 0 j.length 1).isEmpty)) H):=by
 intro pins s σ H x y v u Q I rx ry h
 obtain⟨i,j,rfl,rfl,q⟩:=h
 obtain⟨t,rfl⟩:=rx
 obtain⟨t',rfl⟩:=ry
 exact in_str (ax I q rfl)
theorem HL:gU X (compareOp .Is) (λx y H Q=>y=.ag/\Q (.bl (decide (x=.ag))) H):=by
 intro pins s σ H x y v u Q I rx ry h
 obtain⟨rfl,q⟩:=h
 cases ry
 refine is_none_gen (ax I q ?_)
 cases x<;>first
  | (cases rx;rfl)
  | (obtain⟨t,rfl⟩:=rx;rfl)
theorem D2:gU X (compareOp .IsNot) (λx y H Q=>y=.ag/\Q (.bl (!decide (x=.ag))) H):=by
 intro pins s σ H x y v u Q I rx ry h
 obtain⟨rfl,q⟩:=h
 cases ry
 refine isnot_none_gen (ax I q ?_)
 cases x<;>first
  | (cases rx;rfl)
  | (obtain⟨t,rfl⟩:=rx;rfl)
theorem tM:gU X (compareOp .NotIn) (λx y H Q=>∃i j,x=.str i/\y=.str j/\Q (.bl (!(!(Builtin.Str.occurrences j i 0 j.length 1).isEmpty))) H):=by
 intro pins s σ H x y v u Q I rx ry h
 obtain⟨i,j,rfl,rfl,q⟩:=h
 obtain⟨t,rfl⟩:=rx
 obtain⟨t',rfl⟩:=ry
 exact notIn_str (ax I q rfl)
theorem gU.or {f:Value->Value->Sem Value}{r r':R2}(h:gU X f r)(h':gU X f r'):gU X f (λx y H Q=>r x y H Q\/r' x y H Q):=by
 intro pins s σ H x y v u Q I rx ry q
 rcases q with q|q
 ·exact h pins s σ H x y v u Q I rx ry q
 ·exact h' pins s σ H x y v u Q I rx ry q
theorem gc (b:Expr){op:CmpOp}(h:op≠.In:=by decide)(h2:op≠.NotIn:=by decide):behindInMarks op b=false:=by
 have e1:(op == CmpOp.In)=false:=by cases op<;>first|rfl|exact absurd rfl h
 have e2:(op == CmpOp.NotIn)=false:=by cases op<;>first|rfl|exact absurd rfl h2
 cases b<;>simp[behindInMarks,e1,e2]
theorem D3 {op:CmpOp}{r:R2}(ho:gU X (compareOp op) r)(ha:PE X a ta)(hb:PE X b tb)(hm:behindInMarks op b=false):PE X (.Compare a [op] [b] pos) (Hy r ta tb):=by
 intro pins s σ H Q I h
 exact wpAny_Compare1 (F3 ha hb I h λv u s2 x y H2 I2 rx ry q=>ho pins s2 σ H2 x y v u Q I2 rx ry q) hm
def Fm (t:TE):TT:=λσ H Q=>t σ H λx H'=>∃k,x=.bl k/\Q k H'
theorem EI {op:CmpOp}{r:R2}(ho:gU X (compareOp op) r)(ha:PE X a ta)(hb:PE X b tb)(hm:behindInMarks op b=false):PT X (.Compare a [op] [b] pos) (Fm (Hy r ta tb)):=by
 intro pins s σ H Q I h
 refine wpAny_isTrue_Compare1 (br (ha pins s σ H _ I h) λv s1 ⟨x,H1,I1,r1,q1⟩=>br (hb pins s1 σ H1 _ I1 q1) λu s2 ⟨y,H2,I2,r2,q2⟩ =>
  br (ho pins s2 σ H2 x y v u _ I2 r1 r2 q2) λc s3 ⟨z,H3,I3,r3,k,e,q3⟩=>?_) hm
 subst e
 cases r3
 exact wpAny_truthy_bool ⟨H3,I3,q3⟩
def CL (r r':R2)(ta tb tc:TE):TE:=λσ H Q=>ta σ H λx H1=>tb σ H1 λy H2=>r x y H2 λz H3=>∃k,z=.bl k /\
 (if k=true then tc σ H3 λw' H4=>r' y w' H4 Q else Q (.bl false) H3)
theorem Bj {op op':CmpOp}{r r':R2}(ho:gU X (compareOp op) r)(ho':gU X (compareOp op') r')(ha:PE X a ta)(hb:PE X b tb)(hc:PE X c tc)
  (hm:lastMarks [op,op'] [b,c]=false:=by with_unfolding_all rfl):PE X (.Compare a [op,op'] [b,c] pos) (CL r r' ta tb tc):=by
 intro pins s σ H Q I h
 refine Compare_chain (br (ha pins s σ H _ I h) λv s1 ⟨x,H1,I1,r1,q1⟩=>chain_link (br (hb pins s1 σ H1 _ I1 q1) λu s2 ⟨y,H2,I2,r2,q2⟩ =>
  br (ho pins s2 σ H2 x y v u _ I2 r1 r2 q2) λd s3 ⟨z,H3,I3,r3,k,e,q3⟩=>?_)) hm
 subst e
 cases r3
 refine wpAny_truthy_bool ?_
 cases k with
 |false=>exact ite_ff ⟨.bl false,H3,I3,rfl,q3⟩
 |true=>exact ite_tt (chain_last (br (hc pins s3 σ H3 _ I3 q3) λw' s4 ⟨z',H4,I4,r4,q4⟩=>ho' pins s4 σ H4 y z' u w' Q I4 r2 r4 q4))
def F0 (K:PySem.W.Frag)(x:V)(H:Hp)(k:Bool):Prop :=
 match x with
 |.ag=>k=false
 |.bl b=>k=b
 |.int i=>k=(i != 0)
 |.str y=>y.length<=sizeLine/\k=((y.length:Int) != 0)
 |.vq y=>y.size<=sizeLine/\k=((y.size:Int) != 0)
 |.ref p=>(∃xs,fG K H p xs/\k=!xs.isEmpty)\/(∃xs,iz K H p xs/\k=!xs.isEmpty)\/∃kvs,H p=some (.dK kvs)/\k=!kvs.isEmpty
 |_=>False
theorem wM {κ:Type}{kvs:List (κ × V)}{vs:List (κ × Value)}(r:KV kvs vs):(!vs.isEmpty)=!kvs.isEmpty:=by
 cases r<;>rfl
theorem pT {xs:List V}{its:List Value}(r:Vals xs its):(!its.toArray.isEmpty)=!xs.isEmpty:=by
 cases r<;>simp
theorem pZ:(sizeLine:Nat)<2 ^ 63:=by rw[sizeLine_eq];decide
theorem ID:Kw X (λx H Q=>∃k,F0 X.K x H k/\Q k H):=by
 intro pins s σ H x v Q I rx h
 obtain⟨k,e,q⟩:=h
 have hl:=pZ
 have hs:sizeLine=16777216:=sizeLine_eq
 cases x with
 |ag =>
  cases rx
  have e':k=false:=e
  subst e'
  exact truthy_none ⟨H,I,q⟩
 |bl b =>
  cases rx
  have e':k=b:=e
  subst e'
  exact wpAny_truthy_bool ⟨H,I,q⟩
 |int i =>
  obtain⟨t,rfl⟩:=rx
  have e':k=(i != 0):=e
  subst e'
  exact PySem.P.truthy_int ⟨H,I,q⟩
 |str y =>
  obtain⟨t,rfl⟩:=rx
  obtain⟨hy,e'⟩:y.length<=sizeLine/\k=((y.length:Int) != 0):=e
  subst e'
  exact PySem.P.truthy_str (by omega) ⟨H,I.tok _,q⟩
 |vq y =>
  obtain⟨t,rfl⟩:=rx
  obtain⟨hy,e'⟩:y.size<=sizeLine/\k=((y.size:Int) != 0):=e
  subst e'
  exact PySem.W.truthy_bytes (by omega) ⟨H,I.tok _,q⟩
 |ref p =>
  cases rx
  have e':(∃xs,fG X.K H p xs/\k=!xs.isEmpty)\/(∃xs,iz X.K H p xs/\k=!xs.isEmpty)\/∃kvs,H p=some (.dK kvs)/\k=!kvs.isEmpty:=e
  rcases e' with⟨xs,hx,e'⟩|⟨xs,hx,e'⟩|⟨kvs,hx,e'⟩
  ·subst e'
   obtain⟨its,r,pl,hz⟩:=I.list hx
   have hlen:=r.length
   exact wpAny_truthy_list pl.isList (by simp only[List.size_toArray];omega) ⟨H,I.tok _,by rw[pT r];exact q⟩
  ·subst e'
   obtain⟨its,r,pl,hz⟩:=I.tuple hx
   have hlen:=r.length
   exact truthy_tuple pl (by simp only[List.size_toArray];omega) ⟨H,I.tok _,by rw[pT r];exact q⟩
  ·subst e'
   obtain⟨hz,hS,vs,r,m⟩:kvs.length<=sizeLine/\(p == sysModules)=false/\∃vs,KV kvs vs/\s.heap.DictOf (b8 X.prog X.w) p vs:=I.bg p _ hx
   have hlen:kvs.length=vs.length:=Paired.length r
   exact wpAny_truthy_dict hS m (by omega) ⟨H,I.tok _,by rw[wM r];exact q⟩
 |_=>exact(show False from e).elim
theorem Bt (ha:PE X a ta)(he:∀whole,isTrue a X.env whole=(do let v <- whole;standAt a.pos;holding [v] (truthy v))) :
  PT X a (λσ H Q=>ta σ H λx H'=>∃k,F0 X.K x H' k/\Q k H'):=by
 intro pins s σ H Q I h
 exact isTrue_plain (br (ha pins s σ H _ I h) λv s1 ⟨x,H1,I1,r1,q1⟩=>ID pins s1 σ H1 x v Q I1 r1 q1) (he _)
theorem wo:gU X (binaryOp .Add) (λx y H Q=>∃i j,x=.str i/\y=.str j/\i.length+j.length<=sizeLine/\Q (.str (i++j)) H):=by
 intro pins s σ H x y v u Q I rx ry h
 obtain⟨i,j,rfl,rfl,hz,q⟩:=h
 obtain⟨t,rfl⟩:=rx
 obtain⟨t',rfl⟩:=ry
 exact add_str (λt' tk=>⟨.str (i++j),H,I.tok _,⟨_,rfl⟩,q⟩) hz
theorem vals1 {x:V}{us:List Value}(r:Vals [x] us):∃u,us=[u]/\RelV x u:=by
 cases r with
 |cons r1 r2=>cases r2;exact⟨_,rfl,r1⟩
theorem vals2 {x y:V}{us:List Value}(r:Vals [x,y] us):∃u w',us=[u,w']/\RelV x u/\RelV y w':=by
 cases r with
 |cons r1 r2 =>
  cases r2 with
  |cons r3 r4=>cases r4;exact⟨_,_,rfl,r1,r3⟩
theorem yf:ki X (.type "int") (λxs H Q=>(∃i,xs=[.int i]/\Q (.int i) H)\/∃k,xs=[.bl k]/\Q (.int (if k then 1 else 0)) H):=by
 intro pins s σ H xs us Q I r h
 rcases h with⟨i,rfl,q⟩|⟨k,rfl,q⟩
 ·obtain⟨u,rfl,t,rfl⟩:=vals1 r
  exact call_int_int ⟨.int i,H,I,⟨_,rfl⟩,q⟩
 ·obtain⟨u,rfl,r1⟩:=vals1 r
  cases r1
  exact call_int_bool ⟨.int (if k then 1 else 0),H,I.tok _,⟨_,rfl⟩,q⟩
theorem rq:ki X (.type "str") (λxs H Q=>∃i,xs=[.int i]/\i.natAbs.log2<1920/\Q (.str (toString i)) H):=by
 intro pins s σ H xs us Q I r h
 obtain⟨i,rfl,hz,q⟩:=h
 obtain⟨u,rfl,t,rfl⟩:=vals1 r
 exact PySem.P.str_of_int hz ⟨.str _,H,I.tok _,⟨_,rfl⟩,q⟩
def Ia (K:PySem.W.Frag)(x:V)(H:Hp)(n:Nat):Prop :=
 match x with
 |.str y=>y.length<=sizeLine/\n=y.length
 |.vq y=>y.size<=sizeLine/\n=y.size
 |.ref p=>(∃xs,fG K H p xs/\n=xs.length)\/∃xs,iz K H p xs/\n=xs.length
 |_=>False
theorem AR:ki X (.builtin "len") (λxs H Q=>∃x n,xs=[x]/\Ia X.K x H n/\Q (.int n) H):=by
 intro pins s σ H xs us Q I r h
 obtain⟨x,n,rfl,e,q⟩:=h
 obtain⟨u,rfl,rx⟩:=vals1 r
 have hl:=pZ
 have hs:sizeLine=16777216:=sizeLine_eq
 cases x with
 |str y =>
  obtain⟨t,rfl⟩:=rx
  obtain⟨hy,e'⟩:y.length<=sizeLine/\n=y.length:=e
  subst e'
  exact len_str (by omega) ⟨.int _,H,I.tok _,⟨_,rfl⟩,q⟩
 |vq y =>
  obtain⟨t,rfl⟩:=rx
  obtain⟨hy,e'⟩:y.size<=sizeLine/\n=y.size:=e
  subst e'
  exact PySem.W.len_bytes (by omega) ⟨.int _,H,I.tok _,⟨_,rfl⟩,q⟩
 |ref p =>
  cases rx
  have e':(∃xs,fG X.K H p xs/\n=xs.length)\/∃xs,iz X.K H p xs/\n=xs.length:=e
  rcases e' with⟨xs,hx,e'⟩|⟨xs,hx,e'⟩
  ·subst e'
   obtain⟨its,r',pl,hz⟩:=I.list hx
   have hlen:=r'.length
   exact Calls.call_len_list pl.isList (by simp only[List.size_toArray];omega) ⟨.int xs.length,H,I.tok _,⟨_,by simp only[List.size_toArray];rw[hlen]⟩,q⟩
  ·subst e'
   obtain⟨its,r',pl,hz⟩:=I.tuple hx
   have hlen:=r'.length
   exact len_tuple pl (by simp only[List.size_toArray];omega) ⟨.int xs.length,H,I.tok _,⟨_,by simp only[List.size_toArray];rw[hlen]⟩,q⟩
 |_=>exact(show False from e).elim
end
structure uG (h:Heap) (x dx C:Addr) (mA:Str->Option Value):Prop where
 obj:h.get? x=some (instObj C dx)
 ns:h.Ns1 dx mA
 ne:dx≠x
theorem zK {h:Heap}{dx:Addr}{mA:Str->Option Value}(n:h.Ns1 dx mA):∃od,h.get? dx=some od/\∀name,lookIn name od=some (mA name):=by
 obtain⟨o,es,ep,ho,hd,hk,_,hm⟩:=n
 refine⟨o,ho,λname=>?_⟩
 have e:=hm name
 unfold nsFind findBy at e
 rw[<- Array.find?_toList] at e
 unfold lookIn
 rw[hd]
 dsimp only
 split
 ·rename_i y q
  rw[q] at e
  exact congrArg some e
 ·rename_i q
  rw[q] at e
  have a:es.toList.any (·.refKey)=false:=by
   rw[List.any_eq_false]
   intro y hy
   obtain⟨z,t,hkey⟩:=hk y (Array.mem_toList_iff.mp hy)
   simp[DictEntry.refKey,hkey]
  have a':¬ es.toList.any (·.refKey)=true:=by rw[a];exact Bool.false_ne_true
  rw[if_neg a']
  exact congrArg some e
theorem uG.look {h:Heap}{x dx C:Addr}{mA:Str->Option Value}(I:uG h x dx C mA):∃od,PySem.W.InstAt h x (instObj C dx) C (some od)/\∀name,lookIn name od=some (mA name) :=
 let ⟨od,ho,hl⟩:=zK I.ns
 ⟨od,⟨I.obj,rfl,rfl,ho⟩,hl⟩
section
variable {prog:Program}{w:World}{A:Around}{E:Value->Shared->Prop}{s:Shared}{K:PySem.W.Frag}{x dx C f:Addr}{mA:Str->Option Value}{name:Str}{v:Value}
theorem get_map {expr:Bool}{Q:Value->Shared->Prop}(X:K.In s.heap)(I:uG s.heap x dx C mA)(hg:plainGet K C name=true)(hh:hasDictIn K C=true)
  (ha:findIn K (.ref C) name=some none)(hv:mA name=some v)(hv':PySem.W.handedIn v=true)(h:Q v { s with toks:=s.toks+1 }) :
  wpAny (model prog w) A (getAttr (.ref x) name expr) Q E s:=by
 obtain⟨od,J,hl⟩:=I.look
 exact PySem.W.get_value X J (plainGet_of hg).1 (PySem.W.findObj_own hh ha rfl (by rw[hl,hv])) hv' h
theorem A8 {pl:Sem Bool}{Q:Value × List Value->Shared->Prop}(X:K.In s.heap)(I:uG s.heap x dx C mA)(hg:plainGet K C name=true)
  (hf:findIn K (.ref C) name=some (some (.ref f)))(ht:isFn K (.ref f)=true)(hv:mA name=none)(h:Q (.ref f,[.ref x]) s) :
  wpAny (model prog w) A (getMethod (.ref x) name pl) Q E s:=by
 obtain⟨od,J,hl⟩:=I.look
 exact PySem.W.method_fn X J (plainGet_of hg).1 (plainGet_of hg).2 hf (beq_iff_eq.mp ht) (by show(lookIn name od).map (·.isSome)=some false;rw[hl,hv];rfl) h
theorem Ea {ns:List Str}{Q:Unit->Shared->Prop}(X:K.In s.heap)(I:uG s.heap x dx C mA)
  (hs:findIn K (.ref C) "__setattr__"=some (some (.builtin "object.__setattr__")))(hp:plainOver K C=true)(ht:takerIn K C name=some none)(hh:hasDictIn K C=true)
  (hw:PySem.Within mA ns)(hsz:ns.length<=sizeLine)
  (h:∀h',uG h' x dx C (λy=>if y=name then some v else mA y)->Heap.SameBut dx s.heap h'->Q () { s with heap:=h',toks:=s.toks+2 }) :
  wpAny (model prog w) A (setAttr (.ref x) name v) Q E s:=by
 obtain⟨od,J,hl⟩:=I.look
 refine PySem.W.set_plain X J hs (PySem.W.osa_open (s:={ s with toks:=s.toks+1 }) (r:=none) X J hp ht λb=>?_)
 obtain⟨cd,hc,hd'⟩:=PySem.W.any_some hh
 have hx:s.heap.get? x=some ⟨.ref C,some dx,.plain,#[]⟩:=I.obj
 refine wpAny_bind (wpAny_pure (wpAny_bind (wpAny_bind (wpAny_loadPart hx (wpAny_bind (PySem.W.Looks.here (s:={ s with toks:=s.toks+1 }) (PySem.W.looks_clsIn X hc) ?_))))))
 rw[hd']
 refine wpAny_pure (a:=some dx) (wpAny_bind (wpAny_pure (wpAny_bind ?_)))
 refine wpAny_nsSet1 (s:={ s with toks:=s.toks+1 }) I.ns λh' hn2 hs2=>?_
 obtain⟨oD,esD,epD,hoD,hdD,hcD⟩:=hn2.count (PySem.Within.cons name v hw)
 refine wpAny_bind (wpAny_lookBehind hoD (by rw[hdD];exact pastItsLine_dict (Nat.le_trans hcD (by rw[List.length_cons];omega))) ?_)
 exact wpAny_pure (h _ ⟨(hs2.2 _ (Ne.symm I.ne)).trans I.obj,hn2,I.ne⟩ hs2)
theorem BR {R:Result->Shared->Prop}{vs:List Value}{kw:List (Str × Value)}(X:K.In s.heap)(hm:makesIn K C=true)
  (hi:findIn K (.ref C) "__init__"=some (some (.ref f)))(hf:PySem.W.typeIn K (.ref f)=some (.type "function"))
  (h:codeAny (model prog w) (A.under (.builtin "type.__call__" ⟨.ref C::vs,kw⟩)) (.call (.ref f) ⟨.ref (s.heap.objs.size+1)::vs,kw⟩) (PySem.W.InitBack (s.heap.objs.size+1) R)
   { s with heap:=(s.heap.push emptyDict).push (instObj C s.heap.objs.size)}) :
  codeAny (model prog w) A (.call (.ref C) ⟨vs,kw⟩) R s:=by
 obtain⟨hh,g,d,t,os⟩:=s
 exact PySem.W.make_core (PySem.W.makes_of X hm) (PySem.W.looks_findIn X hi) (λself=>PySem.W.bind_fn X self hf) (.inl rfl) h
end
def iO (f:Str)(v:V):List (Str × V)->List (Str × V)
 |[]=>[(f,v)]
 | (g,x)::r=>if g=f then(g,v)::r else(g,x)::iO f v r
theorem oU (f g:Str)(v:V):∀fs:List (Str × V),(iO f v fs).lookup g=if g=f then some v else fs.lookup g
 |[]=>by
  show List.lookup g [(f,v)]=_
  by_cases h:g=f
  ·have hb:(g == f)=true:=beq_iff_eq.mpr h
   simp only[List.lookup,hb,if_pos h]
  ·have hb:(g == f)=false:=beq_eq_false_iff_ne.mpr h
   simp only[List.lookup,hb,if_neg h]
 | (k,x)::r=>by
  have ih:=oU f g v r
  rw[show iO f v ((k,x)::r)=(if k=f then(k,v)::r else(k,x)::iO f v r) from rfl]
  by_cases hk:k=f
  ·rw[if_pos hk]
   by_cases h:g=k
   ·have hb:(g == k)=true:=beq_iff_eq.mpr h
    simp only[List.lookup,hb,if_pos (h.trans hk)]
   ·have hb:(g == k)=false:=beq_eq_false_iff_ne.mpr h
    simp only[List.lookup,hb,if_neg (λe:g=f=>h (e.trans hk.symm))]
  ·rw[if_neg hk]
   by_cases h:g=k
   ·have hb:(g == k)=true:=beq_iff_eq.mpr h
    simp only[List.lookup,hb,if_neg (λe:g=f=>hk (h.symm.trans e))]
   ·have hb:(g == k)=false:=beq_eq_false_iff_ne.mpr h
    simp only[List.lookup,hb]
    exact ih
theorem nU (f:Str)(v:V):∀fs:List (Str × V),f∈(iO f v fs).map (·.1)/\∀g,g∈fs.map (·.1)->g∈(iO f v fs).map (·.1)
 |[]=>⟨by simp[iO],λg h=>by simp at h⟩
 | (k,x)::r=>by
  obtain⟨i1,i2⟩:=nU f v r
  rw[show iO f v ((k,x)::r)=(if k=f then(k,v)::r else(k,x)::iO f v r) from rfl]
  by_cases hk:k=f
  ·rw[if_pos hk]
   subst hk
   exact⟨by simp,λg h=>by simpa using h⟩
  ·rw[if_neg hk]
   refine⟨?_,λg h=>?_⟩
   ·rw[List.map_cons]
    exact List.mem_cons_of_mem _ i1
   ·rw[List.map_cons] at h ⊢
    rcases List.mem_cons.mp h with e|e
    ·exact List.mem_cons.mpr (.inl e)
    ·exact List.mem_cons_of_mem _ (i2 g e)
theorem oR (f:Str)(v:V):∀fs:List (Str × V),(iO f v fs).length<=fs.length+1
 |[]=>by simp[iO]
 | (k,x)::r=>by
  have ih:=oR f v r
  rw[show iO f v ((k,x)::r)=(if k=f then(k,v)::r else(k,x)::iO f v r) from rfl]
  by_cases hk:k=f
  ·rw[if_pos hk,List.length_cons,List.length_cons];omega
  ·rw[if_neg hk,List.length_cons,List.length_cons];omega
theorem ir.some_of {v:V}{o:Option Value}(r:ir (some v) o):∃u,o=some u/\RelV v u:=by
 cases o with
 |none=>exact(show False from r).elim
 |some u=>exact⟨u,rfl,r⟩
theorem ir.none_of {o:Option Value}(r:ir none o):o=none:=by
 cases o with
 |none=>rfl
 |some u=>exact(show False from r).elim
theorem yx {v:V}{u:Value}(r:RelV v u):PySem.W.handedIn u=true:=by
 cases v with
 |ag=>cases(show u=Value.none from r);rfl
 |bl b=>cases(show u=Value.bool b from r);rfl
 |int i=>obtain⟨t,e⟩:=(show ∃t,u=Value.int i t from r);cases e;rfl
 |str x=>obtain⟨t,e⟩:=(show ∃t,u=Value.str x t from r);cases e;rfl
 |vq b=>obtain⟨t,e⟩:=(show ∃t,u=Value.bytes b t from r);cases e;rfl
 |Kg b=>obtain⟨t,e⟩:=(show ∃t,u=Value.float b t from r);cases e;rfl
 |ref a=>cases(show u=Value.ref a from r);rfl
 |ty n=>cases(show u=Value.type n from r);rfl
section
variable {P:Program}{w:World}{H H':Hp}{h h':Heap}{a C dx:Addr}{fs fs':List (Str × V)}
theorem DJ (bg:lU P w H h)(e:H a=some (.ins C dx fs)):∃mA,uG h a dx C mA/\(∀f,ir (fs.lookup f) (mA f))/\PySem.Within mA (fs.map (·.1))/\fs.length<=1000/\H dx=some (.own a):=by
 obtain⟨d,z,ne,ob,mA,n,r,q⟩:=(show bR P w H h a (.ins C dx fs) from bg a _ e)
 exact⟨mA,⟨ob,n,ne⟩,r,q,z,d⟩
end
structure uF (K:PySem.W.Frag) (C:Addr):Prop where
 pg:plainGet K C Str.empty=true
 hd:hasDictIn K C=true
 po:plainOver K C=true
 sa:findIn K (.ref C) "__setattr__"=some (some (.builtin "object.__setattr__"))
theorem uF.get {K:PySem.W.Frag}{C:Addr}(c:uF K C)(f:Str):plainGet K C f=true:=c.pg
def eh (K:PySem.W.Frag)(C:Addr)(f:Str):Prop:=findIn K (.ref C) f=some none
theorem eh.KH {K:PySem.W.Frag}{C:Addr}{f:Str}(n:eh K C f):takerIn K C f=some none:=by
 unfold takerIn
 rw[show findIn K (.ref C) f=some none from n]
 rfl
structure Meth (K:PySem.W.Frag) (C:Addr) (m:Str) (f:Addr):Prop where
 at_:findIn K (.ref C) m=some (some (.ref f))
 fn:isFn K (.ref f)=true
 kp:keepIn K (.ref f)=true
section
variable {X:Cx}{pins:List (Addr × Obj)}{σ:St}{H:Hp}{s:Shared}{a C dx:Addr}{fs:List (Str × V)}{f:Str}{v:V}{A:Around}{E:Value->Shared->Prop}
theorem xD {y:V}{u:Value}{Q:Unit->Shared->Prop}(I:Inv X pins σ H s)(e:H a=some (.ins C dx fs))(c:uF X.K C)(n:eh X.K C f)(hl:fs.length<1000)(ry:RelV y u)
  (h:∀s',Inv X pins σ (upd H a (.ins C dx (iO f y fs))) s'->Q () s'):wpAny (model X.prog X.w) A (setAttr (.ref a) f u) Q E s:=by
 obtain⟨mA,O,r,wi,_,ho⟩:=DJ I.bg e
 have hz:(fs.map (·.1)).length<=sizeLine:=by rw[List.length_map,sizeLine_eq];omega
 refine Ea I.uE O c.sa c.po n.KH c.hd wi hz λh' O' sb=>h _ ?_
 have hd:∃o,h'.get? dx=some o:=let ⟨o,_,_,e',_⟩:=O'.ns;⟨o,e'⟩
 refine I.write (x:=a) (e:=dx) (by rw[e];exact True.intro) (.inr ho) (λb q hb z=>(sb.2 b hb).trans z) hd ?_
 refine⟨by rw[aN O.ne];exact ho,?_,O.ne,O'.obj,_,O'.ns,λg=>?_,λg hg=>?_⟩
 ·have:=oR f y fs;omega
 ·show ir ((iO f y fs).lookup g) (if g=f then some u else mA g)
  rw[oU]
  by_cases q:g=f
  ·rw[if_pos q,if_pos q];exact ry
  ·rw[if_neg q,if_neg q];exact r g
 ·by_cases q:g=f
  ·rw[q];exact(nU f y fs).1
  ·refine(nU f y fs).2 g (wi g λz=>hg ?_)
   show(if g=f then some u else mA g)=none
   rw[if_neg q];exact z
theorem Inv.made (I:Inv X pins σ H s):Inv X pins σ (upd (upd H s.heap.objs.size (.own (s.heap.objs.size+1))) (s.heap.objs.size+1) (.ins C s.heap.objs.size []))
  { s with heap:=(s.heap.push emptyDict).push (instObj C s.heap.objs.size)}:=by
 have e1:(s.heap.push emptyDict).get? s.heap.objs.size=some emptyDict:=Heap.get?_push_size s.heap rfl
 have e2:((s.heap.push emptyDict).push (instObj C s.heap.objs.size)).get? (s.heap.objs.size+1)=some (instObj C s.heap.objs.size):=by
  have:=Heap.get?_push_size (s.heap.push emptyDict) (o:=instObj C s.heap.objs.size) rfl
  rwa [Heap.size_push] at this
 have e3:(s.heap.push emptyDict).Ns s.heap.objs.size (λ_=>none):=⟨emptyDict,#[],_,e1,rfl,(λe he=>absurd he (by simp)),λ_=>rfl⟩
 have I1:=I.laid (a:=s.heap.objs.size) (o:=.own (s.heap.objs.size+1)) (h':=s.heap.push emptyDict) (t':=s.toks) (λb u q=>Heap.get?_push_of_some _ q) (Nat.le_refl _) ⟨_,e1⟩
 refine I1.laid (a:=s.heap.objs.size+1) (o:=.ins C s.heap.objs.size []) (t':=s.toks) (λb u q=>Heap.get?_push_of_some _ q) (Nat.le_of_eq (Heap.size_push _ _)) ?_
 have ne:s.heap.objs.size≠s.heap.objs.size+1:=Nat.ne_of_lt (Nat.lt_succ_self _)
 refine⟨by rw[aN ne,aM],Nat.zero_le _,ne,e2,λ_=>none,(Heap.Ns1.of_empty e3).at λo q=>Heap.get?_push_of_some _ q,λ_=>True.intro,λy hy=>absurd rfl hy⟩
theorem C0 {prog:Program}{w:World}{env:Env}{e:Expr}{f:Str}{pos:Pos}{s:Shared}{Q:Value->Shared->Prop}(hb:attributeBase e f env (eval e env)=eval e env)
  (h:wpAny (model prog w) A (eval e env) (λo s₁=>wpAny (model prog w) A (getAttr o f true) Q E s₁) E s):wpAny (model prog w) A (eval (.Attribute e f pos) env) Q E s :=
 Attribute_any_ h (by rw[arm_eval_Attribute,hb])
end
def LW (K:PySem.W.Frag)(ta tv:TE)(f:Str):TS:=λD σ H=>tv σ H λy H1=>ta σ H1 λx H2=>∃a C dx fs,x=.ref a/\H2 a=some (.ins C dx fs)/\uF K C/\eh K C f/\fs.length<1000 /\
 D.nx σ (upd H2 a (.ins C dx (iO f y fs)))
section
variable {X:Cx}{o e value:Expr}{f:Str}{pos pos' tpos:Pos}{ta tv:TE}
theorem Hi (ha:PE X o ta)(hv:PE X value tv)(hs:swapsWith value (some (.Attribute o f pos')) pos.line X.env=pure false):PS X (.Assign [.Attribute o f pos'] value pos) (LW X.K ta tv f):=by
 intro pins s σ H D I h
 refine plainObj_wpAny_Assign_Attribute (br (hv pins s σ H _ I h) λu s1 ⟨y,H1,I1,ry,q⟩=>br (ha pins s1 σ H1 _ I1 q) λov s2 ⟨x,H2,I2,rx,a,C,dx,fs,ex,ea,c,n,l,q2⟩=>?_) hs
 subst ex
 obtain rfl:ov=Value.ref a:=rx
 exact xD I2 ea c n l ry λs3 I3=>⟨σ,_,I3,q2⟩
end
section
variable {X:Cx}{pins:List (Addr × Obj)}{σ:St}{H:Hp}{s:Shared}{A:Around}{E:Value->Shared->Prop}{Q:Value->Shared->Prop}{c:Value}{b:Bool}
end
structure cA (k:Nat) (A:Around):Prop where
 hd:A.handled=none
 dp:A.depth+3*k+5<recursionLimit
 un:A.units+16*k+200<cLine
theorem cA.mono {j k:Nat}{A:Around}(r:cA k A)(h:j<=k):cA j A:=⟨r.hd,by have:=r.dp;omega,by have:=r.un;omega⟩
theorem cA.deeper {k:Nat}{A:Around}(r:cA (k+1) A)(env:Env):cA k (A.deeper env) :=
 ⟨r.hd,by have:=r.dp;show A.depth+1+3*k+5<_;omega,by have:=r.un;show A.units+3+16*k+200<_;omega⟩
theorem wb {A:Around}{C:Addr}{us:List Value}{kw:List (Str × Value)}:(A.under (.builtin "type.__call__" ⟨.ref C::us,kw⟩)).depth=A.depth+1:=by
 first|rfl|simp[Around.under,Code.weight,Code.isCreation,Code.isGuard,Code.isCaller,Code.frames,Code.isFrame,guardIds]
theorem wc {A:Around}{C:Addr}{us:List Value}{kw:List (Str × Value)}:(A.under (.builtin "type.__call__" ⟨.ref C::us,kw⟩)).units=A.units+1:=by
 first|rfl|simp[Around.under,Code.cUnits,Code.frames,Code.isFrame]
theorem cA.make {k:Nat}{A:Around}(r:cA (k+1) A)(C:Addr)(us:List Value)(kw:List (Str × Value)):cA k (A.under (.builtin "type.__call__" ⟨.ref C::us,kw⟩)) :=
 ⟨r.hd,by have:=r.dp;rw[wb];omega,by have:=r.un;rw[wc];omega⟩
theorem cA.depth {k:Nat}{A:Around}(r:cA k A):A.depth<recursionLimit:=by have:=r.dp;omega
theorem cA.units {k:Nat}{A:Around}(r:cA k A):A.units+64<cLine:=by have:=r.un;omega
def Em:TA:=λ_ H Q=>Q [] H
def yO (ta:TE)(tr:TA):TA:=λσ H Q=>ta σ H λx H1=>tr σ H1 λxs H2=>Q (x::xs) H2
section
variable {X:Cx}{e:Expr}{es:List Expr}{te:TE}{t:TA}{pos:Pos}
theorem iN:PA X [] Em:=λ_ _ _ _ H Q I h=>Calls.spliced_nil ⟨[],H,I,.nil,h⟩
theorem dO (ha:PE X e te)(hr:PA X es t)(hs:starEach (e::es) X.env=(false,eval e X.env)::starEach es X.env:=by rfl):PA X (e::es) (yO te t):=by
 intro pos pins s σ H Q I h
 rw[hs]
 show wpAny _ _ (spliced ((false,eval e X.env)::backTo pos (starEach es X.env))) _ _ s
 refine Calls.spliced_cons (br (ha pins s σ H _ I h) λu s1 ⟨x,H1,I1,r1,q1⟩=>?_)
 exact br (hr pos pins s1 σ H1 _ I1 q1) λus s2 ⟨xs,H2,I2,r2,q2⟩=>⟨x::xs,H2,I2,.cons r1 r2,q2⟩
def Lk (t:TA):TE:=λσ H Q=>t σ H λxs H1=>xs.length<=sizeLine/\∀p,H1 p=none->Q (.ref p) (upd H1 p (.tup xs))
def Lf (t:TA):TE:=λσ H Q=>t σ H λxs H1=>xs.length<=sizeLine/\∀p,H1 p=none->Q (.ref p) (upd H1 p (.lst xs))
theorem Bo {x1}(h:PA X es t):PE X (.Tuple es x1 pos) (Lk t):=by
 intro pins s σ H Q I hq
 refine wpAny_Tuple_spliced (br (h pos pins s σ H _ I hq) λus s1 ⟨xs,H1,I1,r,z,q⟩=>⟨by rw[<- r.length];exact z,?_⟩)
 have hf:H1 s1.heap.objs.size=none:=I1.bg.fresh (Nat.le_refl _)
 refine⟨.ref s1.heap.objs.size,upd H1 s1.heap.objs.size (.tup xs),I1.laid (t':=s1.toks) (λb u e=>Heap.get?_push_of_some _ e) (Nat.le_refl _) ?_,rfl,q _ hf⟩
 exact⟨z,us,r,⟨_,Heap.get?_push_size _ rfl,rfl,_,rfl⟩⟩
theorem wt (h:PA X es t):PE X (.List es pos) (Lf t):=by
 intro pins s σ H Q I hq
 refine wpAny_List_spliced (br (h pos pins s σ H _ I hq) λus s1 ⟨xs,H1,I1,r,z,q⟩=>⟨by rw[<- r.length];exact z,?_⟩)
 have hf:H1 s1.heap.objs.size=none:=I1.bg.fresh (Nat.le_refl _)
 refine⟨.ref s1.heap.objs.size,upd H1 s1.heap.objs.size (.lst xs),I1.laid (t':=s1.toks) (λb u e=>Heap.get?_push_of_some _ e) (Nat.le_refl _) ?_,rfl,q _ hf⟩
 exact⟨z,us,0,r,Heap.get?_push_size _ rfl⟩
end
abbrev Sp:=List V->Hp->VK->XK->Prop
abbrev yU:=List Env->Hp->Shared->XK->Value->Shared->Prop
structure vv (P:Program) (w:World) (K:PySem.W.Frag) (mg:Str->Option Value) (base:Heap) (A:Around) (outer:List Env) (s:Shared) (H:Hp):Prop where
 frames:A.frames=some outer
 mod:Mod K mg base
 bs:∀b o,base.get? b=some o->s.heap.get? b=some o/\H b=none
 Cn:base.objs.size<=s.heap.objs.size
 lh:s.heap.FunFrames base outer
 Co:∀b∈A5 outer,H b=none
 bg:lU P w H s.heap
 bare:AllBare s.gens
def CE (outer:List Env)(P:Program)(w:World)(H:Hp)(s:Shared)(Q:VK)(u:Value)(s':Shared):Prop :=
 ∃v H',s'.os=s.os/\AllBare s'.gens/\Un (A5 outer) [] H H' s.heap s'.heap/\lU P w H' s'.heap/\RelV v u/\Q v H'
def CR (CX:yU)(outer:List Env)(P:Program)(w:World)(H:Hp)(s:Shared)(Q:VK)(E:XK)(r:Result)(s':Shared):Prop :=
 match r with
 |.ok (.ret u)=>CE outer P w H s Q u s'
 |.ok _=>False
 |.error e=>CX outer H s E e s'
structure dB (P:Program) (w:World) (K:PySem.W.Frag) (mg:Str->Option Value) (base:Heap) (CX:yU) (k:Nat) (f:Addr) (fd:FuncData) (ps:List Str) (sp:Sp):Prop where
 len:∀vs H Q E,sp vs H Q E->vs.length=ps.length
 run:∀(A:Around) (outer:List Env) (s:Shared) (H:Hp) (args:Args) (us:List Value) (vs:List V) (Q:VK) (E:XK),cA k A->vv P w K mg base A outer s H->BindsTo s fd args (ps.zip us)->Vals vs us->sp vs H Q E ->
  codeAny (model P w) A (.call (.ref f) args) (CR CX outer P w H s Q E) s
theorem dB.mono {P:Program}{w:World}{K:PySem.W.Frag}{mg:Str->Option Value}{base:Heap}{CX:yU}{j k:Nat}{f:Addr}{fd:FuncData}{ps:List Str}{sp:Sp}(F:dB P w K mg base CX j f fd ps sp)(h:j<=k) :
  dB P w K mg base CX k f fd ps sp:=⟨F.len,λA outer s H args us vs Q E hr=>F.run A outer s H args us vs Q E (hr.mono h)⟩
theorem vv.make {P:Program}{w:World}{K:PySem.W.Frag}{mg:Str->Option Value}{base:Heap}{A:Around}{outer:List Env}{s:Shared}{H:Hp}(e:vv P w K mg base A outer s H)(C:Addr)(us:List Value)(kw:List (Str × Value)) :
  vv P w K mg base (A.under (.builtin "type.__call__" ⟨.ref C::us,kw⟩)) outer s H:=⟨by first|exact e.frames|(simpa [Around.under,Code.envs,Code.isFrame,pushEnvs] using e.frames),e.mod,e.bs,e.Cn,e.lh,e.Co,e.bg,e.bare⟩
section
variable {X:Cx}{pins:List (Addr × Obj)}{σ:St}{H:Hp}{s s':Shared}
theorem Inv.Iu (I:Inv X pins σ H s):vv X.prog X.w X.K X.mg X.base X.A X.stack s H :=
 ⟨I.ok.frames,I.ok.mod,I.bs,Nat.le_trans I.ok.Cn I.sz,I.stack,I.yM,I.bg,I.bare⟩
theorem Inv.after {Q:VK}{u:Value}(I:Inv X pins σ H s)(h:CE X.stack X.prog X.w H s Q u s'):EP X pins σ Q u s':=by
 obtain⟨v,H',os,bare,un,bg,r,q⟩:=h
 obtain⟨hh,g,d,t,os'⟩:=s'
 obtain rfl:os'=s.os:=os
 exact⟨v,H',I.call (h':=hh) (g':=g) (d':=d) (t':=t) (ch:=[]) un bg bare (λb z=>absurd z (by simp)),r,q⟩
end
def Fl (sp:Sp)(dvs:List V)(E:XK)(t:TA):TE:=λσ H Q=>t σ H λvs H1=>sp (vs++dvs) H1 Q E
def J9 (C:Addr)(sp:Sp)(dvs:List V)(E:XK)(t:TA):TE:=λσ H Q=>t σ H λvs H1=>∀x dx,H1 x=none->H1 dx=none->dx≠x ->
 sp (.ref x::(vs++dvs)) (upd (upd H1 dx (.own x)) x (.ins C dx [])) (λv H2=>v=.ag/\Q (.ref x) H2) E
def Binds (K:PySem.W.Frag)(fd:FuncData)(ps:List Str)(ds:List Value):Prop :=
 ∀(s:Shared) (us:List Value),K.In s.heap->(us++ds).length=ps.length->BindsTo s fd ⟨us,[]⟩ (ps.zip (us++ds))
theorem Binds.all {K:PySem.W.Frag}{fd:FuncData}{ps:List Str}(h:∀us:List Value,us.length=ps.length->bindArgs fd ⟨us,[]⟩=pure (ps.zip us)):Binds K fd ps []:=λs us _ hl=>by
 rw[List.append_nil] at hl ⊢
 exact .of_eq (h us hl)
def Passes (CX:yU)(X:Cx)(E:XK):Prop:=∀(pins:List (Addr × Obj)) (σ:St) (H:Hp) (s:Shared) (e:Value) (s':Shared),Inv X pins σ H s->CX X.stack H s E e s'->X.xe e s'
section
variable {X:Cx}{CX:yU}{k:Nat}{f C:Addr}{fd:FuncData}{ps:List Str}{sp:Sp}{dvs:List V}{ds:List Value}{E:XK}{x m:Str}{p pos apos:Pos}{e o:Expr}{es:List Expr}{ta:TE}{t:TA}
theorem B1 {pins:List (Addr × Obj)}{σ:St}{H:Hp}{s:Shared}{Q:VK}{us:List Value}{vs:List V}(F:dB X.prog X.w X.K X.mg X.base CX k f fd ps sp)(hr:cA k X.A)(hb:Binds X.K fd ps ds)(hd:Vals dvs ds)(hx:Passes CX X E)
  (I:Inv X pins σ H s)(r:Vals vs us)(h:sp (vs++dvs) H Q E):wpAny (model X.prog X.w) X.A (call (.ref f) us) (EP X pins σ Q) X.xe s:=by
 have r2:Vals (vs++dvs) (us++ds):=r.append hd
 have hl:(us++ds).length=ps.length:=by rw[<- r2.length];exact F.len _ _ _ _ h
 refine wpAny_call (codeAny_mono (F.run X.A X.stack s H ⟨us,[]⟩ (us++ds) (vs++dvs) Q E hr I.Iu (hb s us I.uE hl) r2 h) λr s' hq=>?_)
 cases r with
 |error e=>exact hx pins σ H s e s' I hq
 |ok fl =>
  cases fl with
  |ret u=>exact I.after hq
  |next=>exact False.elim hq
  |brk=>exact False.elim hq
  |cont=>exact False.elim hq
theorem tO (F:dB X.prog X.w X.K X.mg X.base CX k f fd ps sp)(hr:cA k X.A)(hg:Gl X x)(hm:X.mg x=some (.ref f))(hk:keepIn X.K (.ref f)=true)(hb:Binds X.K fd ps ds)(hd:Vals dvs ds)(hx:Passes CX X E)
  (ha:PA X (e::es) t)(hdb:(x == ("__debug__":Str))=false:=by decide)(he:starEach (e::es) X.env=(false,eval e X.env)::starEach es X.env:=by rfl)(hpl:(backTo pos (starEach es X.env)).any (·.1)=false:=by rfl) :
  PE X (.Call (.Name x p) (e::es) [] pos) (Fl sp dvs E t):=by
 intro pins s σ H Q I h
 refine wpAny_Call_Name_kw (su I hg hm ?_ hdb)
 refine PySem.W.callWith_K (h₀:=X.base) I.ok.mod.Ki hk (br (ha pos pins s σ H _ I h) λus s1 ⟨vs,H1,I1,r,q⟩=>⟨I1.uE,?_⟩) he hpl
 exact B1 F hr hb hd hx I1 r q
structure Mk (K:PySem.W.Frag) (C f:Addr):Prop where
 makes:makesIn K C=true
 init:findIn K (.ref C) "__init__"=some (some (.ref f))
 fn:isFn K (.ref f)=true
 kp:keepIn K (.ref C)=true
theorem B2 {pins:List (Addr × Obj)}{σ:St}{H:Hp}{s:Shared}{Q:VK}{us:List Value}{vs:List V}(M:Mk X.K C f)(F:dB X.prog X.w X.K X.mg X.base CX k f fd ps sp)(hr:cA (k+1) X.A)(hb:Binds X.K fd ps ds)(hd:Vals dvs ds)
  (hx:Passes CX X E)(I:Inv X pins σ H s)(r:Vals vs us)
  (h:∀x dx,H x=none->H dx=none->dx≠x->sp (.ref x::(vs++dvs)) (upd (upd H dx (.own x)) x (.ins C dx [])) (λv H2=>v=.ag/\Q (.ref x) H2) E) :
  wpAny (model X.prog X.w) X.A (call (.ref C) us) (EP X pins σ Q) X.xe s:=by
 have hq:=h (s.heap.objs.size+1) s.heap.objs.size (I.bg.fresh (Nat.le_succ _)) (I.bg.fresh (Nat.le_refl _)) (Nat.ne_of_lt (Nat.lt_succ_self _))
 have I2:=Inv.made (C:=C) I
 have r2:Vals (V.ref (s.heap.objs.size+1)::(vs++dvs)) (Value.ref (s.heap.objs.size+1)::(us++ds)):=.cons rfl (r.append hd)
 have hl:(Value.ref (s.heap.objs.size+1)::us++ds).length=ps.length:=by
  have e:=r2.length
  rw[F.len _ _ _ _ hq] at e
  exact e.symm
 refine wpAny_call (BR (f:=f) I.uE M.makes M.init (beq_iff_eq.mp M.fn) (codeAny_mono (F.run _ X.stack _ _ ⟨Value.ref (s.heap.objs.size+1)::us,[]⟩ (Value.ref (s.heap.objs.size+1)::(us++ds)) _ _ E (hr.make C us [])
  (I2.Iu.make C us []) (hb _ (Value.ref (s.heap.objs.size+1)::us) I2.uE hl) r2 hq) λr s' hq'=>?_))
 cases r with
 |error e=>exact hx pins σ _ _ e s' I2 hq'
 |ok fl =>
  cases fl with
  |ret u =>
   obtain⟨v,H',I3,rv,ev,q3⟩:=I2.after hq'
   subst ev
   exact⟨rv,⟨V.ref (s.heap.objs.size+1),H',I3,rfl,q3⟩⟩
  |next=>exact False.elim hq'
  |brk=>exact False.elim hq'
  |cont=>exact False.elim hq'
theorem D8 (M:Mk X.K C f)(F:dB X.prog X.w X.K X.mg X.base CX k f fd ps sp)(hr:cA (k+1) X.A)(hg:Gl X x)(hm:X.mg x=some (.ref C))(hb:Binds X.K fd ps ds)(hd:Vals dvs ds)(hx:Passes CX X E)
  (ha:PA X (e::es) t)(hdb:(x == ("__debug__":Str))=false:=by decide)(he:starEach (e::es) X.env=(false,eval e X.env)::starEach es X.env:=by rfl)(hpl:(backTo pos (starEach es X.env)).any (·.1)=false:=by rfl) :
  PE X (.Call (.Name x p) (e::es) [] pos) (J9 C sp dvs E t):=by
 intro pins s σ H Q I h
 refine wpAny_Call_Name_kw (su I hg hm ?_ hdb)
 refine PySem.W.callWith_K (h₀:=X.base) I.ok.mod.Ki M.kp (br (ha pos pins s σ H _ I h) λus s1 ⟨vs,H1,I1,r,q⟩=>⟨I1.uE,?_⟩) he hpl
 exact B2 M F hr hb hd hx I1 r q
end
def PK (X:Cx)(kws:List Keyword)(t:TA):Prop :=
 ∀(pos:Pos) (pins:List (Addr × Obj)) (s:Shared) (σ:St) (H:Hp) (Q:List V->Hp->Prop),Inv X pins σ H s->t σ H Q->wpAny (model X.prog X.w) X.A (evalAll ((backToKw pos (keywordEach kws X.env)).map (·.2))) (AP X pins σ Q) X.xe s
section
variable {X:Cx}{CX:yU}{k:Nat}{f C:Addr}{fd:FuncData}{ps ks:List Str}{sp:Sp}{E:XK}{x m:Str}{p pos apos kpos:Pos}{e o:Expr}{es:List Expr}{kws:List Keyword}{te ta:TE}{t tk:TA}{nm:Option Str}
theorem He:PK X [] Em:=λ_ _ _ _ H Q I h=>wpAny_evalAll_nil ⟨[],H,I,.nil,h⟩
theorem EB (ha:PE X e te)(hr:PK X kws t):PK X (⟨nm,e,kpos⟩::kws) (yO te t):=by
 intro pos pins s σ H Q I h
 show wpAny _ _ (evalAll ((do let v <- eval e X.env;standAt pos;pure v)::(backToKw pos (keywordEach kws X.env)).map (·.2))) _ _ s
 refine wpAny_evalAll_cons (wpAny_bind (br (ha pins s σ H _ I h) λu s1 ⟨x,H1,I1,r1,q1⟩=>wpAny_bind (wpAny_standAt (wpAny_pure ?_))))
 exact br (hr pos pins s1 σ H1 _ I1 q1) λus s2 ⟨xs,H2,I2,r2,q2⟩=>⟨x::xs,H2,I2,.cons r1 r2,q2⟩
variable {g:List Value->List Value->List Value}{gV:List V->List V->List V}
end
structure aG (N P:List Str) (sc:Scope):Prop where
 kind:sc.kind=.function
 co:sc.isCoroutine=false
 gen:sc.isGenerator=false
 nd:N.Nodup
 pre:N.take P.length=P
 par:∀x∈P,sc.names.lookup x=some .local\/sc.names.lookup x=some .cell
 HA:∀y∈sc.names,y.2≠.free
theorem rC {kindOf:Str->Option NameKind}{x:Str}:∀{binds:List (Str × Value)} {m:Str->Option Value},(∀v,(x,v)∉binds)->bindL kindOf binds m x=m x
 |[],_,_=>rfl
 | (n,v)::r,m,h=>by
  unfold bindL
  rw[rC λw hw=>h w (List.mem_cons_of_mem _ hw)]
  split
  ·have:x≠n:=by rintro rfl;exact h v List.mem_cons_self
   simp[this]
  ·rfl
theorem rA {kindOf:Str->Option NameKind}{x:Str}:∀{binds:List (Str × Value)} {m:Str->Option Value},(∀v,(x,v)∉binds)->bindC kindOf binds m x=m x
 |[],_,_=>rfl
 | (n,v)::r,m,h=>by
  unfold bindC
  rw[rA λw hw=>h w (List.mem_cons_of_mem _ hw)]
  split
  ·rfl
  ·have:x≠n:=by rintro rfl;exact h v List.mem_cons_self
   simp[this]
theorem rB {kindOf:Str->Option NameKind}{x:Str}{v:Value}:∀{P:List Str} {vs:List Value} {i:Nat} {m:Str->Option Value},P.Nodup->P[i]?=some x->vs[i]?=some v->kindOf x=some .local ->
  bindL kindOf (P.zip vs) m x=some v
 |[],_,_,_,_,h,_,_=>by simp at h
 |_::_,[],_,_,_,_,h,_=>by simp at h
 |p::P,w::vs,0,m,nd,h1,h2,hk=>by
  simp at h1 h2;subst h1;subst h2
  show bindL kindOf ((p,w)::P.zip vs) m p=_
  unfold bindL
  rw[rC λv hv=>(List.nodup_cons.mp nd).1 (List.of_mem_zip hv).1,if_pos hk]
  simp
 |p::P,w::vs,i+1,m,nd,h1,h2,hk=>by
  show bindL kindOf ((p,w)::P.zip vs) m x=_
  unfold bindL
  exact rB (i:=i) (List.nodup_cons.mp nd).2 (by simpa using h1) (by simpa using h2) hk
theorem q_ {kindOf:Str->Option NameKind}{x:Str}{v:Value}:∀{P:List Str} {vs:List Value} {i:Nat} {m:Str->Option Value},P.Nodup->P[i]?=some x->vs[i]?=some v->kindOf x≠some .local ->
  bindC kindOf (P.zip vs) m x=some v
 |[],_,_,_,_,h,_,_=>by simp at h
 |_::_,[],_,_,_,_,h,_=>by simp at h
 |p::P,w::vs,0,m,nd,h1,h2,hk=>by
  simp at h1 h2;subst h1;subst h2
  show bindC kindOf ((p,w)::P.zip vs) m p=_
  unfold bindC
  rw[rA λv hv=>(List.nodup_cons.mp nd).1 (List.of_mem_zip hv).1,if_neg hk]
  simp
 |p::P,w::vs,i+1,m,nd,h1,h2,hk=>by
  show bindC kindOf ((p,w)::P.zip vs) m x=_
  unfold bindC
  exact q_ (i:=i) (List.nodup_cons.mp nd).2 (by simpa using h1) (by simpa using h2) hk
def start (N:List Str)(vs:List V):St:=vs.map some++List.replicate (N.length - vs.length) none
def uO (CX:yU)(P:Program)(w:World)(K:PySem.W.Frag)(mg:Str->Option Value)(base:Heap)(N:List Str)(qual:Str)(scope:Scope)(f:Addr)(cd:Value)(A:Around)(outer:List Env)(s:Shared)(H:Hp)(E:XK):Cx where
 prog:=P
 w:=w
 K:=K
 mg:=mg
 base:=base
 A:=A.deeper (envOfC qual scope s.heap.objs.size f cd)
 N:=N
 s₀:=s
 H₀:=H
 env:=envOfC qual scope s.heap.objs.size f cd
 outer:=outer
 stack:=envOfC qual scope s.heap.objs.size f cd::outer
 ex:=[]
 calm:=true
 fn:=λ_=>true
 pn:=[]
 xe:=λe s'=>wpAny (model P w) (A.deeper (envOfC qual scope s.heap.objs.size f cd)) (leaving (envOfC qual scope s.heap.objs.size f cd) e) (λ_ s''=>CX outer H s E e s'') (λe' s''=>CX outer H s E e' s'') s'
theorem uI {sc:Scope}{n:Nat}{x:Str}(h:sc.names.lookup x=some .cell):∃c,(cellsFrom n sc.names []).lookup x=some c:=by
 have q:=PySem.W.cellsFrom_some sc.names n [] (.inl h)
 exact Option.isSome_iff_exists.mp q
theorem zE {CX:yU}{P:Program}{w:World}{K:PySem.W.Frag}{mg:Str->Option Value}{base:Heap}{N ps:List Str}{qual:Str}{scope:Scope}{f:Addr}{cd:Value}{A:Around}{outer:List Env}{s s1:Shared}{H:Hp}{E:XK}{us:List Value}{vs:List V}
  (S:aG N ps scope)(hd:A.handled=none)(e0:vv P w K mg base A outer s H)(hl:vs.length=ps.length)(r:Vals vs us)
  (x:InCallC s s.heap.objs.size (bindL (envOfC qual scope s.heap.objs.size f cd).kindOf (ps.zip us) λ_=>none) (cellsFrom (s.heap.objs.size+1) scope.names []) (bindC (envOfC qual scope s.heap.objs.size f cd).kindOf (ps.zip us) λ_=>none) s1) :
  Inv (uO CX P w K mg base N qual scope f cd A outer s H E) [] (start N vs) H s1:=by
 have hpl:ps.length<=N.length:=by have:=congrArg List.length S.pre;rw[List.length_take] at this;omega
 obtain⟨h1,tk,rfl,hk⟩:=x.done
 have noA:∀b:Addr,b∉(uO CX P w K mg base N qual scope f cd A outer s H E).ex:=λb z=>absurd (show b∈([]:List Addr) from z) (by simp)
 refine⟨⟨e0.mod,S.kind,rfl,rfl,Nat.le_refl _,λy z c h1 h2=>?_,λy hy=>?_,λy c _ h=>?_,λ_=>hd,Around.frames_deeper e0.frames,.inr ⟨rfl,rfl⟩,λb z=>absurd z (noA b),e0.bs,e0.Cn,λb _ _=>noA b,λb z=>absurd z (noA b),e0.lh,e0.Co⟩,
  rfl,e0.bare,Un.kept hk,⟨_,x.toInCall.ns,λi y v h1 h2 h3=>?_⟩,λy c h=>⟨_,x.cell y c h⟩,e0.bg.fresh (Nat.le_refl _),λy c h=>?_,λp hp=>absurd (show p∈([]:List (Addr × Obj)) from hp) (by simp),e0.bg.kept hk,?_⟩
 ·exact name_of_addr x.apart (PySem.mem_of_lookup h1) (PySem.mem_of_lookup h2)
 ·have hy:scope.names.lookup y=some .cell\/scope.names.lookup y=some .free:=hy
  rcases hy with hy|hy
  ·exact uI hy
  ·exact absurd rfl (S.HA _ (PySem.mem_of_lookup hy))
 ·exact Nat.le_of_lt (x.above y c (PySem.mem_of_lookup h))
 ·have hi:i<vs.length:=by
   unfold start at h2
   by_cases hi:i<vs.length
   ·exact hi
   ·rw[List.getElem?_append_right (by simpa using hi)] at h2
    rw[List.getElem?_replicate] at h2
    split at h2<;>cases h2
  have ha:vs[i]?=some v:=by
   unfold start at h2
   rw[List.getElem?_append_left (by simpa using hi),List.getElem?_map] at h2
   cases e:vs[i]? with
   |none=>rw[e] at h2;cases h2
   |some a=>rw[e] at h2;cases h2;rfl
  obtain⟨u,hu,rv⟩:=r.get ha
  have hp:ps[i]?=some y:=by
   rw[<- S.pre,List.getElem?_take_of_lt (by omega)];exact h1
  have ndP:ps.Nodup:=by rw[<- S.pre];exact S.nd.sublist (List.take_sublist _ _)
  refine⟨u,rv,?_⟩
  rcases S.par y (List.mem_of_getElem? hp) with k|k
  ·exact .inl ⟨k,rB ndP hp hu k⟩
  ·obtain⟨c,e⟩:=uI (n:=s.heap.objs.size+1) k
   refine .inr ⟨.inl k,c,e,?_⟩
   have q:=x.cell y c e
   rw[q_ ndP hp hu (by show scope.names.lookup y≠_;rw[k];decide)] at q
   exact q
 ·exact e0.bg.fresh (Nat.le_of_lt (x.above y c (PySem.mem_of_lookup h)))
 ·unfold start
  show _=N.length
  rw[List.length_append,List.length_map,List.length_replicate]
  omega
theorem FJ {CX:yU}{P:Program}{w:World}{K:PySem.W.Frag}{mg:Str->Option Value}{base:Heap}{k:Nat}{f:Addr}{name qual:Str}{params:Arguments}{body:List Stmt}{scope:Scope}{dV kV doc pm cdv ct oc:Value}{an od:Option Addr}
  {osl:Array (Option Value)}{N ps:List Str}{sp:Sp}(lk:K.lookup f=some ⟨oc,od,.func (fnOf name qual params body scope dV kV doc pm an cdv ct),osl⟩)(hcd:codeIn K cdv qual=true)(S:aG N ps scope)
  (len:∀vs H Q E,sp vs H Q E->vs.length=ps.length)
  (hbody:∀(A:Around) (outer:List Env) (s:Shared) (H:Hp) (vs:List V) (Q:VK) (E:XK),cA k (A.deeper (envOfC qual scope s.heap.objs.size f cdv))->sp vs H Q E ->
   ∃t,m8 (uO CX P w K mg base N qual scope f cdv A outer s H E) body t/\t { nx:=λ_ H'=>Q .ag H',rt:=Q } (start N vs) H) :
  dB P w K mg base CX (k+1) f (fnOf name qual params body scope dV kV doc pm an cdv ct) ps sp:=by
 refine⟨len,λA outer s H args us vs Q E hr e0 hb r hsp=>?_⟩
 have hl:=len _ _ _ _ hsp
 have KX:K.In s.heap:=e0.mod.Ki.keeps λb o e=>(e0.bs b o e).1
 have lim:s.heap.NoLimit:=e0.mod.nolimit.keeps λb o e=>(e0.bs b o e).1
 have hkind:∀y∈ps.zip us,scope.names.lookup y.1=some .local\/(scope.names.lookup y.1=some .cell/\((cellsFrom (s.heap.objs.size+1) scope.names []).lookup y.1).isSome=true):=fun⟨n,v⟩ hy=>by
  rcases S.par n (List.of_mem_zip hy).1 with q|q
  ·exact .inl q
  ·exact .inr ⟨q,PySem.W.cellsFrom_some _ _ _ (.inl q)⟩
 refine codeAny_call_function hr.depth (KX _ _ lk) rfl S.co S.gen rfl (PySem.W.codeRec_of KX hcd) (hb _ _ _ _ ?_)
 refine wpAny_newFunctionEnv_cells S.kind hkind λenv he s1 x=>?_
 subst he
 refine⟨lim.keeps x.toInCall.keep,codeAny_func ?_⟩
 obtain⟨t,ht,hq⟩:=hbody A outer s H vs Q E (hr.deeper _) hsp
 have I:Inv (uO CX P w K mg base N qual scope f cdv A outer s H E) [] (start N vs) H s1:=zE S hr.hd e0 hl r x
 refine wpAny_mono (ht [] s1 (start N vs) H _ I hq) (λfl s' hs=>?_) λe s' hs=>hs
 have fin:∀{σ':St} {H':Hp} {v:V} {u:Value},Inv (uO CX P w K mg base N qual scope f cdv A outer s H E) [] σ' H' s'->RelV v u->Q v H'->CE outer P w H s Q u s' :=
  fun{σ' H' v u} J rv q=>⟨v,H',J.os,J.bare,J.base,J.bg,rv,q⟩
 cases fl with
 |ret u =>
  obtain⟨v,σ',H',J,rv,q⟩:=hs
  exact fin J rv q
 |next =>
  obtain⟨σ',H',J,q⟩:=hs
  exact fin (v:=V.ag) (u:=Value.none) J rfl q
 |brk =>
  obtain⟨_,_,_,q⟩:=hs
  exact False.elim q
 |cont =>
  obtain⟨_,_,_,q⟩:=hs
  exact False.elim q
section
variable {X:Cx}{x:Str}{p pos:Pos}{e:Expr}{es:List Expr}{t:TA}{id T:String}{r:List V->Hp->VK->Prop}
def Km (r:List V->Hp->VK->Prop)(t:TA):TE:=λσ H Q=>t σ H λvs H1=>r vs H1 Q
theorem jE (hc:ki X (.builtin id) r)(hg:Gl X x)(hm:X.mg x=none)(hv:bootBuiltins x=some (.builtin id))(ha:PA X (e::es) t)(hn:x≠"__name__":=by decide)(hdb:(x == ("__debug__":Str))=false:=by decide)
  (he:starEach (e::es) X.env=(false,eval e X.env)::starEach es X.env:=by rfl)(hpl:(backTo pos (starEach es X.env)).any (·.1)=false:=by rfl):PE X (.Call (.Name x p) (e::es) [] pos) (Km r t):=by
 intro pins s σ H Q I h
 refine wpAny_Call_Name_kw (nV I hg hm hv ?_ hn hdb)
 exact PyProof.Rows.callWith_builtin1 (br (ha pos pins s σ H _ I h) λus s1 ⟨vs,H1,I1,r1,q1⟩=>hc pins s1 σ H1 vs us Q I1 r1 q1) he hpl
theorem nr (hc:ki X (.type T) r)(hg:Gl X x)(hm:X.mg x=none)(hv:bootBuiltins x=some (.type T))(ha:PA X (e::es) t)(hn:x≠"__name__":=by decide)(hdb:(x == ("__debug__":Str))=false:=by decide)
  (he:starEach (e::es) X.env=(false,eval e X.env)::starEach es X.env:=by rfl)(hpl:(backTo pos (starEach es X.env)).any (·.1)=false:=by rfl):PE X (.Call (.Name x p) (e::es) [] pos) (Km r t):=by
 intro pins s σ H Q I h
 refine wpAny_Call_Name_kw (nV I hg hm hv ?_ hn hdb)
 exact PyProof.Rows.callWith_type1 (br (ha pos pins s σ H _ I h) λus s1 ⟨vs,H1,I1,r1,q1⟩=>hc pins s1 σ H1 vs us Q I1 r1 q1) he hpl
end
end L2
namespace HT
open PySem PyProof.Rows
section
open PySem.SeqAt
open PySem.AutoSeq1 (wpAny_loadPart')
open PySem.MeetsSeq PySem.MeetsSeq2 PySem.MeetsSeq3
end
section
variable {prog:Program}{w:World}{A:Around}{E:Value->Shared->Prop}{s:Shared}
theorem C7 {t b:Addr}{vs ws:List Value}{Q:Value->Shared->Prop}(ht:IsTup s.heap t vs.toArray)(hb:IsTup s.heap b ws.toArray)(hv:vs≠[])
  (h1:ws=[]->Q (.ref t) s)(h2:ws≠[]->Q (.ref s.heap.objs.size) { s with heap:=s.heap.push { cls:=.type "tuple",data:=.seq (vs++ws).toArray }})
  (hsz:vs.length+ws.length<=sizeLine):wpAny (model prog w) A (binaryOp .Add (.ref t) (.ref b)) Q E s:=by
 obtain⟨⟨cls,dd,data,sl⟩,ho,hc,n,hd⟩:=id ht
 obtain⟨⟨cls2,dd2,data2,sl2⟩,ho2,hc2,n2,hd2⟩:=id hb
 simp only at hc hd hc2 hd2
 subst hc hd hc2 hd2
 have e:vs.toArray++ws.toArray=(vs++ws).toArray:=by simp
 by_cases hw:ws=[]
 ·exact concat_meets ⟨_,ho,rfl⟩ ⟨_,ho2,rfl⟩ noFill_tuple_add seq_tuple_add PySem.F.slot_tuple_add PySem.F.entry_tuple_add (PySem.F.args_tuple_add_2 _ _)
   (tuple_addW1 t b vs.toArray ws.toArray n n2 dd dd2 sl sl2 (by simpa using hv) (by simp[hw])) ⟨ho,ho2,h1 hw⟩
 ·refine concat_meets ⟨_,ho,rfl⟩ ⟨_,ho2,rfl⟩ noFill_tuple_add seq_tuple_add PySem.F.slot_tuple_add PySem.F.entry_tuple_add (PySem.F.args_tuple_add_2 _ _)
   (tuple_addW2 t b vs.toArray ws.toArray n n2 dd dd2 sl sl2 (by simpa using hv) (by simpa using hw) (by rw[List.size_toArray,List.size_toArray];exact hsz)) ⟨ho,ho2,?_⟩
  rw[e]
  exact h2 hw
def cq (n d:Nat):Option Int->Nat
 |none=>d
 |some v=>if v<0 then(v+(n:Int)).toNat else min v.toNat n
theorem B3 (n d:Nat):cq n d none=d:=rfl
theorem yG (n d k:Nat):cq n d (some (k:Int))=min k n:=by
 show(if(k:Int)<0 then((k:Int)+(n:Int)).toNat else min (k:Int).toNat n)=min k n
 rw[if_neg (by omega),Int.toNat_natCast]
theorem Ho (n d:Nat)(hd:d<=n)(o:Option Int):cq n d o<=n:=by
 cases o with
 |none=>exact hd
 |some v =>
  show(if v<0 then(v+(n:Int)).toNat else min v.toNat n)<=n
  by_cases hv:v<0
  ·rw[if_pos hv];omega
  ·rw[if_neg hv];exact Nat.min_le_right _ _
theorem xX (v:Int)(n d:Nat):(if v<0 then max (v+(n:Int)) 0 else min v (n:Int))=((cq n d (some v):Nat):Int):=by
 show(if v<0 then max (v+(n:Int)) 0 else min v (n:Int))=(((if v<0 then(v+(n:Int)).toNat else min v.toNat n):Nat):Int)
 by_cases hv:v<0
 ·simp only[if_pos hv];omega
 ·simp only[if_neg hv];omega
theorem v5 (lo hi:Option Int)(n:Nat):Builtin.Slice.sliceAdjust lo hi 1 (n:Int)=(((cq n 0 lo:Nat):Int),((cq n n hi:Nat):Int)):=by
 have h1:¬ ((1:Int)<0):=by omega
 unfold Builtin.Slice.sliceAdjust
 simp only[h1,if_false]
 refine Prod.ext ?_ ?_
 ·cases lo with
  |none=>rfl
  |some v=>exact xX v n 0
 ·cases hi with
  |none=>rfl
  |some v=>exact xX v n n
theorem wu (i j:Nat):Builtin.Slice.slicePlaces (i:Int) (j:Int) 1=j - i:=by
 unfold Builtin.Slice.slicePlaces
 have h1:(1:Int) > 0:=by omega
 simp only[h1,if_true,Int.ediv_one]
 split<;>omega
theorem qZ {v:Value}{o:Option Int}{Q:Option Int->Shared->Prop}(p:IsPart v o)(h:Q o s):wpAny (model prog w) A (Builtin.Slice.slicePartIndex v) Q E s:=by
 cases p with
 |none=>exact slicePart_none h
 |int i t=>exact slicePart_int h
theorem n_ {sl:Addr}{vl vu:Value}{lo hi:Option Int}{n:Nat}{Q:Int × Int × Nat->Shared->Prop}(hs:s.heap.IsSliceOf sl vl vu .none)(pl:IsPart vl lo)(pu:IsPart vu hi)
  (h:Q (((cq n 0 lo:Nat):Int),1,cq n n hi - cq n 0 lo) s):wpAny (model prog w) A (Builtin.Slice.sliceApplied (.ref sl) (pure (n:Int))) Q E s:=by
 obtain⟨os,hos,hcs,hds⟩:=id hs
 unfold Builtin.Slice.sliceApplied Builtin.Slice.sliceFields
 refine wpAny_bind (wpAny_bind (wpAny_field hos hds (x:=vl) rfl (wpAny_bind (wpAny_field hos hds (x:=vu) rfl (wpAny_bind (wpAny_field hos hds (x:=.none) rfl (wpAny_pure ?_)))))))
 refine wpAny_bind (slicePart_none ?_)
 show wpAny _ _ (if((1:Int) == 0)=true then _ else _) _ _ s
 rw[if_neg (by decide)]
 refine wpAny_bind (qZ pl (wpAny_bind (qZ pu (wpAny_bind (wpAny_pure ?_)))))
 show wpAny _ _ (match Builtin.Slice.sliceAdjust lo hi 1 (n:Int) with|(lo,hi)=>pure (lo,(1:Int),Builtin.Slice.slicePlaces lo hi 1)) _ _ s
 rw[v5 lo hi n]
 show wpAny _ _ (pure (((cq n 0 lo:Nat):Int),(1:Int),Builtin.Slice.slicePlaces ((cq n 0 lo:Nat):Int) ((cq n n hi:Nat):Int) 1)) _ _ s
 rw[wu]
 exact wpAny_pure h
theorem Bp (xs:Array Value)(i k:Nat):((List.range k).filterMap fun(m:Nat)=>xs[((i:Int)+(m:Int)*1).toNat]?).toArray=((xs.toList.drop i).take k).toArray:=by
 have e:(fun(m:Nat)=>xs[((i:Int)+(m:Int)*1).toNat]?)=λm=>xs[i+m]?:=by
  funext m
  have:((i:Int)+(m:Int)*1).toNat=i+m:=by omega
  rw[this]
 rw[e]
 have:=pick_run xs i k
 rw[List.filterMap_map] at this
 have e2:((λx=>xs[x]?)∘λx=>i+x)=λm=>xs[i+m]?:=rfl
 rw[e2] at this
 rw[this]
theorem mN {t sl:Addr}{items:Array Value}{vl vu:Value}{lo hi:Option Int}{Q:Value->Shared->Prop}(ht:IsTup s.heap t items)(hs:s.heap.IsSliceOf sl vl vu .none)(pl:IsPart vl lo)(pu:IsPart vu hi)
  (hw:¬ (cq items.size 0 lo=0/\cq items.size items.size hi=items.size))
  (h:Q (.ref s.heap.objs.size) { s with heap:=s.heap.push { cls:=.type "tuple",data:=.seq ((items.toList.drop (cq items.size 0 lo)).take (cq items.size items.size hi - cq items.size 0 lo)).toArray }})
  (hsz:items.size<=sizeLine):wpAny (model prog w) A (getItem (.ref t) (.ref sl)) Q E s:=by
 have htake:sizeOk (.seq ((items.toList.drop (cq items.size 0 lo)).take (cq items.size items.size hi - cq items.size 0 lo)).toArray):=by
  show((items.toList.drop (cq items.size 0 lo)).take (cq items.size items.size hi - cq items.size 0 lo)).toArray.size<=sizeLine
  rw[List.size_toArray,List.length_take,List.length_drop,Array.length_toList]
  omega
 have hj:cq items.size items.size hi<=items.size:=Ho _ _ (Nat.le_refl _) hi
 obtain⟨os,hos,hcs,hds⟩:=id hs
 have hTs:s.TypeIs (.ref sl) "slice":=⟨os,hos,hcs⟩
 unfold getItem
 try with_reducible refine wpAny_holding ?_
 first|refine wpAny_bind (wpAny_pure ?_)|skip
 refine wpAny_bind (wpAny_sequenceKey ht.typeIs (by decide) ?_)
 refine wpAny_bind (wpAny_callSpecial?_slot (name:=Str.ofString "__getitem__") ht.typeIs PyProof.Rows.slot_tuple_getitem
  (wpAny_call_entry PyProof.Rows.slot_tuple_getitem ht.typeIs entry_tuple_getitem ?_ (args_tuple_getitem _ _)))
 show wpAny _ _ (Builtin.Tuple.tupleItemsOf (.ref t) >>= _) _ _ s
 refine wpAny_bind (tupleItemsOf_ ht ?_)
 refine wpAny_bind (wpAny_typeOf hTs ?_)
 rw[if_pos (by decide)]
 refine wpAny_bind (n_ hs pl pu ?_)
 have hno:¬ ((((cq items.size 0 lo:Nat):Int) == 0&&(1:Int) == 1&&(cq items.size items.size hi - cq items.size 0 lo) == items.size)=true):=by
  intro q
  rw[Bool.and_eq_true,Bool.and_eq_true] at q
  have q1:((cq items.size 0 lo:Nat):Int)=0:=eq_of_beq q.1.1
  have q2:cq items.size items.size hi - cq items.size 0 lo=items.size:=eq_of_beq q.2
  exact hw ⟨by omega,by omega⟩
 show wpAny _ _ (if(((cq items.size 0 lo:Nat):Int) == 0&&(1:Int) == 1&&(cq items.size items.size hi - cq items.size 0 lo) == items.size)=true then _ else _) _ _ s
 rw[if_neg hno,Bp]
 first
  |exact wpAny_bind (m:=Builtin.Tuple.tupleExact _) (wpAny_newObj_type (wpAny_pure ⟨_,rfl,wpAny_pure h⟩) htake)
  |exact wpAny_bind (m:=Builtin.Tuple.tupleExact _) (wpAny_newObj_type (wpAny_bind (wpAny_pure (wpAny_pure ⟨_,rfl,wpAny_pure h⟩))) htake)
  |exact wpAny_bind (wpAny_bind (m:=Builtin.Tuple.tupleExact _) (wpAny_newObj_type (wpAny_pure (wpAny_pure ⟨_,rfl,wpAny_pure h⟩)) htake))
  |exact wpAny_bind (wpAny_bind (m:=Builtin.Tuple.tupleExact _) (wpAny_newObj_type (wpAny_pure ⟨_,rfl,wpAny_pure h⟩) htake))
end
end HT
namespace L2
open PySem PySem.Spec PyProof.Rows
abbrev TO:=St->Hp->(Option Int->Hp->Prop)->Prop
def PO (X:Cx)(e:Option Expr)(t:TO):Prop :=
 ∀(pins:List (Addr × Obj)) (s:Shared) (σ:St) (H:Hp) (Q:Option Int->Hp->Prop),Inv X pins σ H s->t σ H Q ->
  wpAny (model X.prog X.w) X.A (evalPart e X.env) (λu s'=>∃o H',Inv X pins σ H' s'/\IsPart u o/\Q o H') X.xe s
def En:TO:=λ_ H Q=>Q none H
def KC (t:TE):TO:=λσ H Q=>t σ H λx H1=>∃i,x=.int i/\Q (some i) H1
section
variable {X:Cx}{e:Expr}{te:TE}{lo hi:Option Expr}{tl th:TO}{pos p2:Pos}
theorem EC:PO X none En:=by
 intro pins s σ H Q I h
 rw[evalPart_none]
 exact wpAny_pure ⟨none,H,I,.none,h⟩
theorem EE (h:PE X e te):PO X (some e) (KC te):=by
 intro pins s σ H Q I hw
 rw[evalPart_some]
 refine br (h pins s σ H _ I hw) λu s1 ⟨x,H1,I1,r1,q1⟩=>?_
 obtain⟨i,rfl,q⟩:=q1
 obtain⟨t,rfl⟩:=r1
 exact⟨some i,H1,I1,.int i t,q⟩
def Cw (X:Cx)(r:V->Option Int->Option Int->Hp->VK->Prop):Prop :=
 ∀(pins:List (Addr × Obj)) (s:Shared) (σ:St) (H:Hp) (x:V) (v vl vu:Value) (lo hi:Option Int) (sl:Addr) (Q:VK),Inv X pins σ H s->RelV x v->s.heap.IsSliceOf sl vl vu .none->IsPart vl lo->IsPart vu hi->r x lo hi H Q ->
  ∃T id,typeLookup (.type T) "__getitem__"=pure (some (.builtin id))/\s.TypeIs v T/\wpAny (model X.prog X.w) X.A (getItem v (.ref sl)) (EP X pins σ Q) X.xe s
theorem Cw.or {r r':V->Option Int->Option Int->Hp->VK->Prop}(h:Cw X r)(h':Cw X r'):Cw X (λx lo hi H Q=>r x lo hi H Q\/r' x lo hi H Q):=by
 intro pins s σ H x v vl vu lo hi sl Q I rx hs pl pu q
 rcases q with q|q
 ·exact h pins s σ H x v vl vu lo hi sl Q I rx hs pl pu q
 ·exact h' pins s σ H x v vl vu lo hi sl Q I rx hs pl pu q
def Mb (r:V->Option Int->Option Int->Hp->VK->Prop)(te:TE)(tl th:TO):TE:=λσ H Q=>te σ H λx H1=>tl σ H1 λl H2=>th σ H2 λu H3=>r x l u H3 Q
theorem Bm {r:V->Option Int->Option Int->Hp->VK->Prop}(hr:Cw X r)(he:PE X e te)(hl:PO X lo tl)(hu:PO X hi th):PE X (.Subscript e (.Slice lo hi none p2) pos) (Mb r te tl th):=by
 intro pins s σ H Q I h
 refine Subscript_ (br (he pins s σ H _ I h) λv s1 ⟨x,H1,I1,r1,q1⟩=>?_)
 refine wpAny_Slice (br (hl pins s1 σ H1 _ I1 q1) λvl s2 ⟨l,H2,I2,pl,q2⟩=>br (hu pins s2 σ H2 _ I2 q2) λvu s3 ⟨u,H3,I3,pu,q3⟩=>?_)
 rw[evalPart_none]
 refine wpAny_pure ?_
 have I4:Inv X pins σ H3 { s3 with heap:=s3.heap.push { cls:=.type "slice",data:=.fields #[vl,vu,.none] }}:=I3.kept (t':=s3.toks) λb ob q=>Heap.get?_push_of_some _ q
 obtain⟨T,id,hT,ht,hg⟩:=hr pins { s3 with heap:=s3.heap.push { cls:=.type "slice",data:=.fields #[vl,vu,.none] }} σ H3 x v vl vu l u s3.heap.objs.size Q I4 r1 (Heap.IsSliceOf.new ..) pl pu q3
 show wpAny (model X.prog X.w) X.A (subscriptTail e (.Slice lo hi none p2) v (.ref s3.heap.objs.size)) (EP X pins σ Q) X.xe { s3 with heap:=s3.heap.push { cls:=.type "slice",data:=.fields #[vl,vu,.none] }}
 exact tail_any (ops:=[.ref s3.heap.objs.size,v]) ht hT hg (by with_unfolding_all rfl)
def uN (xs:List V)(lo hi:Option Int):List V:=(xs.drop (HT.cq xs.length 0 lo)).take (HT.cq xs.length xs.length hi - HT.cq xs.length 0 lo)
theorem oK (xs:List V)(lo hi:Option Int):(uN xs lo hi).length<=xs.length:=by
 unfold uN
 rw[List.length_take,List.length_drop]
 omega
def Js (K:PySem.W.Frag):V->Option Int->Option Int->Hp->VK->Prop:=λx lo hi H Q=>∃a xs,x=.ref a/\iz K H a xs /\
 ¬ (HT.cq xs.length 0 lo=0/\HT.cq xs.length xs.length hi=xs.length)/\∀p,H p=none->Q (.ref p) (upd H p (.tup (uN xs lo hi)))
theorem Ht:Cw X (Js X.K):=by
 intro pins s σ H x v vl vu lo hi sl Q I rx hs pl pu h
 obtain⟨a,xs,rfl,hx,hw,q⟩:=h
 cases rx
 obtain⟨its,r,ht,hz⟩:=I.tuple hx
 have hlen:its.toArray.size=xs.length:=by rw[List.size_toArray];exact r.length.symm
 refine⟨"tuple",_,PyProof.Rows.slot_tuple_getitem.lookup,ht.typeIs,?_⟩
 refine HT.mN ht hs pl pu (by rw[hlen];exact hw) ?_ (by rw[hlen];exact hz)
 rw[hlen]
 refine⟨.ref s.heap.objs.size,_,I.laid (t':=s.toks) (o:=.tup (uN xs lo hi)) (λb ob q=>Heap.get?_push_of_some _ q) (Nat.le_refl _) ?_,rfl,q _ (I.bg.fresh (Nat.le_refl _))⟩
 exact⟨Nat.le_trans (oK xs lo hi) hz,_,(r.drop (HT.cq xs.length 0 lo)).take (HT.cq xs.length xs.length hi - HT.cq xs.length 0 lo),IsTup.new _ _⟩
def Fg (K:PySem.W.Frag):R2:=λx y H Q=>∃a b xs ys,x=.ref a/\y=.ref b/\iz K H a xs/\iz K H b ys/\xs≠[]/\xs.length+ys.length<=sizeLine /\
 (ys=[]->Q (.ref a) H)/\(ys≠[]->∀p,H p=none->Q (.ref p) (upd H p (.tup (xs++ys))))
theorem Vals.tJ {xs:List V}{us:List Value}(r:Vals xs us):us=[] ↔ xs=[]:=by
 cases r with
 |nil=>simp
 |cons _ _=>simp
theorem Dz:gU X (binaryOp .Add) (Fg X.K):=by
 intro pins s σ H x y v u Q I rx ry h
 obtain⟨a,b,xs,ys,rfl,rfl,ha,hb,hx,hz,q1,q2⟩:=h
 cases rx
 cases ry
 obtain⟨its,r1,p1,_⟩:=I.tuple ha
 obtain⟨its2,r2,p2,_⟩:=I.tuple hb
 refine HT.C7 p1 p2 (λz=>hx (r1.tJ.mp z)) (λz=>⟨.ref a,H,I,rfl,q1 (r2.tJ.mp z)⟩) (λz=>?_) (by rw[<- r1.length,<- r2.length];exact hz)
 refine⟨.ref s.heap.objs.size,_,I.laid (t':=s.toks) (o:=.tup (xs++ys)) (λb ob q=>Heap.get?_push_of_some _ q) (Nat.le_refl _) ?_,rfl,q2 (λw=>z (r2.tJ.mpr w)) _ (I.bg.fresh (Nat.le_refl _))⟩
 exact⟨by rw[List.length_append];exact hz,_,r1.append r2,IsTup.new _ _⟩
end
def DM (n:Nat)(i:Int):Option Nat:=if 0<=i then(if i<n then some i.toNat else none) else if -(n:Int)<=i then some (i+n).toNat else none
def m_ {α:Type}(xs:List α)(i:Int):Option α:=(DM xs.length i).bind λj=>xs[j]?
theorem DN {n:Nat}{i:Int}{j:Nat}(h:DM n i=some j):seqIndex? i n=some j/\j<n/\-(n:Int)<=i/\i<n:=by
 unfold DM at h
 by_cases h0:0<=i
 ·rw[if_pos h0] at h
  by_cases h1:i<n
  ·rw[if_pos h1] at h
   have e:i.toNat=j:=Option.some.inj h
   exact⟨by rw[seqIndex_of h0 h1,e],by omega,by omega,h1⟩
  ·rw[if_neg h1] at h;cases h
 ·rw[if_neg h0] at h
  by_cases h1:-(n:Int)<=i
  ·rw[if_pos h1] at h
   have e:(i+n).toNat=j:=Option.some.inj h
   exact⟨by rw[seqIndex_neg (by omega) h1,e],by omega,h1,by omega⟩
  ·rw[if_neg h1] at h;cases h
theorem ro {α:Type}{xs:List α}{i:Int}{v:α}(h:m_ xs i=some v):∃j,seqIndex? i xs.length=some j/\xs[j]?=some v/\j<xs.length/\-(xs.length:Int)<=i/\i<xs.length:=by
 unfold m_ at h
 cases e:DM xs.length i with
 |none=>rw[e] at h;cases h
 |some j =>
  rw[e] at h
  obtain⟨h1,h2,h3,h4⟩:=DN e
  exact⟨j,h1,h,h2,h3,h4⟩
def rm (b:Expr):Prop:=∀o i,subscripted b false o i=operate [o,i] (getItem o i)
def Ck (X:Cx)(r:R2):Prop :=
 ∀(value slice:Expr) (pins:List (Addr × Obj)) (s:Shared) (σ:St) (H:Hp) (x y:V) (v u:Value) (Q:VK),Inv X pins σ H s->RelV x v->RelV y u->r x y H Q ->
  subscripted slice false v u=operate [v,u] (getItem v u)->wpAny (model X.prog X.w) X.A (subscriptTail value slice v u) (EP X pins σ Q) X.xe s
def Ly (X:Cx)(id:String)(r:V->List V->Hp->VK->Prop):Prop :=
 ∀(pins:List (Addr × Obj)) (s:Shared) (σ:St) (H:Hp) (x:V) (xs:List V) (v:Value) (us:List Value) (Q:VK),Inv X pins σ H s->RelV x v->Vals xs us->r x xs H Q ->
  wpAny (model X.prog X.w) X.A (call (.builtin id) (v::us)) (EP X pins σ Q) X.xe s
section
variable {X:Cx}{a b:Expr}{ta tb:TE}{pos:Pos}
theorem Ck.or {r r':R2}(h:Ck X r)(h':Ck X r'):Ck X (λx y H Q=>r x y H Q\/r' x y H Q):=by
 intro value slice pins s σ H x y v u Q I rx ry q hs
 rcases q with q|q
 ·exact h value slice pins s σ H x y v u Q I rx ry q hs
 ·exact h' value slice pins s σ H x y v u Q I rx ry q hs
theorem Fc {r:R2}(hr:Ck X r)(ha:PE X a ta)(hb:PE X b tb)(hs:rm b):PE X (.Subscript a b pos) (Hy r ta tb):=by
 intro pins s σ H Q I h
 exact Subscript_ (F3 ha hb I h λv u s2 x y H2 I2 rx ry q=>hr a b pins s2 σ H2 x y v u Q I2 rx ry q (hs _ _))
def Jo (K:PySem.W.Frag):R2:=λx y H Q=>∃p xs i v,x=.ref p/\y=.int i/\fG K H p xs/\m_ xs i=some v/\Q v H
def Jq (K:PySem.W.Frag):R2:=λx y H Q=>∃p xs i v,x=.ref p/\y=.int i/\iz K H p xs/\m_ xs i=some v/\Q v H
def Jp:R2:=λx y H Q=>∃z i c,x=.str z/\y=.int i/\z.length<=sizeLine/\m_ z.cps.toList i=some c/\Q (.str ⟨#[c]⟩) H
theorem DP:Ck X (Jo X.K):=by
 intro value slice pins s σ H x y v u Q I rx ry h hs
 obtain⟨p,xs,i,z,rfl,rfl,hq,he,q⟩:=h
 cases rx
 obtain⟨t,rfl⟩:=ry
 obtain⟨its,r,pl,hz⟩:=I.list hq
 obtain⟨j,h1,h2,h3,h4,h5⟩:=ro he
 obtain⟨w,ew,rw'⟩:=r.get h2
 have hl:=r.length
 have hn:=pZ
 have fin:EP X pins σ Q w s:=⟨z,H,I,rw',q⟩
 by_cases h0:0<=i
 ·have hj:i.toNat=j:=by
   rw[seqIndex_of h0 h5] at h1
   exact Option.some.inj h1
  exact item_listR pl.isList h0 (by omega) (by rw[hj];simpa using ew) fin hs
 ·have hj:(i+(its.toArray.size:Int)).toNat=j:=by
   rw[seqIndex_neg (by omega) h4] at h1
   rw[List.size_toArray,<- hl]
   exact Option.some.inj h1
  exact subscriptTail_builtinR (x:=w) pl.isList.typeIs slot_list_getitem.lookup
   (wpAny_getItem_list_neg (Q:=λr s'=>r=w/\EP X pins σ Q r s') pl.isList (by omega) (by rw[List.size_toArray]<;>omega) (by omega) (by rw[hj];simpa using ew) ⟨rfl,fin⟩) hs
theorem Gg:Ck X (Jq X.K):=by
 intro value slice pins s σ H x y v u Q I rx ry h hs
 obtain⟨p,xs,i,z,rfl,rfl,hq,he,q⟩:=h
 cases rx
 obtain⟨t,rfl⟩:=ry
 obtain⟨its,r,pl,hz⟩:=I.tuple hq
 obtain⟨j,h1,h2,h3,h4,h5⟩:=ro he
 obtain⟨w,ew,rw'⟩:=r.get h2
 have hl:=r.length
 have hn:=pZ
 have fin:EP X pins σ Q w s:=⟨z,H,I,rw',q⟩
 exact subscriptTail_builtinR (x:=w) pl.typeIs slot_tuple_getitem.lookup
  (getItem_tuple (j:=j) (Q:=λr s'=>r=w/\EP X pins σ Q r s') pl (by omega) (by omega) (by rw[List.size_toArray,<- hl];exact h1) (by simpa using ew) ⟨rfl,fin⟩) hs
theorem Gf:Ck X Jp:=by
 intro value slice pins s σ H x y v u Q I rx ry h hs
 obtain⟨z,i,c,rfl,rfl,hz,he,q⟩:=h
 obtain⟨t,rfl⟩:=rx
 obtain⟨t',rfl⟩:=ry
 obtain⟨j,h1,h2,h3,h4,h5⟩:=ro he
 have hl:z.cps.toList.length=z.length:=by simp[Str.length]
 rw[hl] at h1 h4 h5
 have hn:=pZ
 exact tail_any (typeIs_str s z t) slot_str_getitem.lookup (getItem_str (c:=c) (by
  have e1:decide (i < -(2 ^ 63:Int))=false:=decide_eq_false (by omega)
  have e2:decide (i ≥ 2 ^ 63)=false:=decide_eq_false (by omega)
  rw[e1,e2,Bool.or_false]) (by rw[h1];simpa using h2) ⟨.str ⟨#[c]⟩,H,I.tok _,⟨_,rfl⟩,q⟩) hs
def MB (K:PySem.W.Frag):R2:=λx y H Q=>Jo K x y H Q\/Jq K x y H Q\/Jp x y H Q
theorem Ge:Ck X (MB X.K):=DP.or (Gg.or Gf)
theorem tj (lo hi:Option Int)(n:Nat):(sliceBounds lo hi none n).1=((HT.cq n 0 lo:Nat):Int)/\(sliceBounds lo hi none n).2.1=((HT.cq n n hi:Nat):Int)/\(sliceBounds lo hi none n).2.2=1:=by
 refine⟨?_,?_,rfl⟩
 ·cases lo with
  |none=>simp[sliceBounds,HT.cq]
  |some i =>
   simp only[sliceBounds,HT.cq,Option.getD_none,show(1:Int) > 0 by decide,if_true]
   by_cases h:i<0
   ·simp only[h,if_true]<;>omega
   ·simp only[h,if_false]<;>omega
 ·cases hi with
  |none=>simp[sliceBounds,HT.cq]
  |some i =>
   simp only[sliceBounds,HT.cq,Option.getD_none,show(1:Int) > 0 by decide,if_true]
   by_cases h:i<0
   ·simp only[h,if_true]<;>omega
   ·simp only[h,if_false]<;>omega
theorem qr (its:List Value)(lo hi:Option Int):slicePick its.toArray lo hi none=((its.drop (HT.cq its.length 0 lo)).take (HT.cq its.length its.length hi - HT.cq its.length 0 lo)).toArray:=by
 obtain⟨h1,h2,h3⟩:=tj lo hi its.toArray.size
 unfold slicePick
 rw[h1,h2,h3]
 simp only[sliceRange_one,pick_run,List.size_toArray]<;>rfl
def Jr (K:PySem.W.Frag):V->Option Int->Option Int->Hp->VK->Prop:=λx lo hi H Q=>∃a xs,x=.ref a/\fG K H a xs/\∀p,H p=none->Q (.ref p) (upd H p (.lst (uN xs lo hi)))
theorem Ed:Cw X (Jr X.K):=by
 intro pins s σ H x v vl vu lo hi sl Q I rx hs pl pu h
 obtain⟨a,xs,rfl,hx,q⟩:=h
 cases rx
 obtain⟨its,r,ht,hz⟩:=I.list hx
 have hlen:=r.length
 refine⟨"list",_,slot_list_getitem.lookup,ht.isList.typeIs,?_⟩
 refine wpAny_getItem_list_slice ht.isList hs pl pu .none (by simp) ?_ (by rw[List.size_toArray]<;>omega)
 rw[qr,<- hlen]
 refine⟨.ref s.heap.objs.size,_,I.laid (t':=s.toks) (o:=.lst (uN xs lo hi)) (λb ob q=>Heap.get?_push_of_some _ q) (Nat.le_refl _) ?_,rfl,q _ (I.bg.fresh (Nat.le_refl _))⟩
 exact⟨Nat.le_trans (oK xs lo hi) hz,_,0,(r.drop (HT.cq xs.length 0 lo)).take (HT.cq xs.length xs.length hi - HT.cq xs.length 0 lo),Heap.get?_push_size _ rfl⟩
def kq:V->Bool
 |.ag=>true
 |.bl _=>true
 |.int _=>true
 |.str _=>true
 |_=>false
def DD:V->V->Bool
 |.ag,.ag=>true
 |.bl a,.bl b=>a == b
 |.bl a,.int b=>(if a then 1 else 0) == b
 |.int a,.bl b=>a == (if b then 1 else 0)
 |.int a,.int b=>a == b
 |.str a,.str b=>a == b
 |_,_=>false
theorem GP {A:Around}{s:Shared}{y x:V}{u v:Value}(ry:RelV y u)(rx:RelV x v)(fy:kq y=true)(fx:kq x=true):SeqAt.EqAt A s u v (DD y x):=by
 cases y with
 |ag =>
  cases ry
  cases x with
  |ag=>cases rx;exact SeqAt.EqAt.same _
  |bl b=>cases rx;exact SeqAt.EqAt.none_bool b
  |int b=>obtain⟨t,rfl⟩:=rx;exact SeqAt.EqAt.none_int b t
  |str b=>obtain⟨t,rfl⟩:=rx;exact SeqAt.EqAt.none_str b t
  |_=>exact absurd (show false=true from fx) Bool.false_ne_true
 |bl a =>
  cases ry
  cases x with
  |ag=>cases rx;exact SeqAt.EqAt.bool_none a
  |bl b=>cases rx;exact SeqAt.EqAt.bool_bool a b
  |int b=>obtain⟨t,rfl⟩:=rx;exact SeqAt.EqAt.bool_int a b t
  |str b=>obtain⟨t,rfl⟩:=rx;exact SeqAt.EqAt.bool_str a b t
  |_=>exact absurd (show false=true from fx) Bool.false_ne_true
 |int a =>
  obtain⟨t',rfl⟩:=ry
  cases x with
  |ag=>cases rx;exact SeqAt.EqAt.int_none a t'
  |bl b=>cases rx;exact SeqAt.EqAt.int_bool a t' b
  |int b=>obtain⟨t,rfl⟩:=rx;exact SeqAt.EqAt.int_int a t' b t
  |str b=>obtain⟨t,rfl⟩:=rx;exact SeqAt.EqAt.int_str a t' b t
  |_=>exact absurd (show false=true from fx) Bool.false_ne_true
 |str a =>
  obtain⟨t',rfl⟩:=ry
  cases x with
  |ag=>cases rx;exact SeqAt.EqAt.str_none a t'
  |bl b=>cases rx;exact SeqAt.EqAt.str_bool a t' b
  |int b=>obtain⟨t,rfl⟩:=rx;exact SeqAt.EqAt.str_int a t' b t
  |str b=>obtain⟨t,rfl⟩:=rx;exact SeqAt.EqAt.str_str a t' b t
  |_=>exact absurd (show false=true from fx) Bool.false_ne_true
 |_=>exact absurd (show false=true from fy) Bool.false_ne_true
def wD (x:V)(u:Value):Bool:=match u with
 |.none=>DD .ag x
 |.bool b=>DD (.bl b) x
 |.int i _=>DD (.int i) x
 |.str z _=>DD (.str z) x
 |_=>false
theorem Ay {x y:V}{u:Value}(r:RelV y u)(f:kq y=true):wD x u=DD y x:=by
 cases y with
 |ag=>cases r;rfl
 |bl b=>cases r;rfl
 |int i=>obtain⟨t,rfl⟩:=r;rfl
 |str z=>obtain⟨t,rfl⟩:=r;rfl
 |_=>exact absurd (show false=true from f) Bool.false_ne_true
theorem mH {x:V}:∀{xs:List V} {us:List Value},Vals xs us->xs.all kq=true->us.any (wD x)=xs.any λy=>DD y x
 |_,_,.nil,_=>rfl
 |y::xs,u::us,.cons r t,f=>by
  rw[List.all_cons,Bool.and_eq_true] at f
  rw[List.any_cons,List.any_cons,Ay r f.1,mH t f.2]
theorem jB {A:Around}{s:Shared}{x:V}{v:Value}(rx:RelV x v)(fx:kq x=true):∀{xs:List V} {us:List Value},Vals xs us->xs.all kq=true->∀u∈us,SeqAt.EqAt A s u v (wD x u)
 |_,_,.nil,_=>λu hu=>by cases hu
 |y::xs,u::us,.cons r t,f=>λu' hu=>by
  rw[List.all_cons,Bool.and_eq_true] at f
  rcases List.mem_cons.mp hu with rfl|hu
  ·rw[Ay r f.1];exact GP r rx f.1 fx
  ·exact jB rx fx t f.2 u' hu
def Cp (x:V)(xs:List V):Bool:=xs.any λy=>DD y x
def Jm (K:PySem.W.Frag)(neg:Bool):R2:=λx y H Q=>∃p xs,y=.ref p/\(fG K H p xs\/iz K H p xs)/\kq x=true/\xs.all kq=true/\Q (.bl (if neg then !Cp x xs else Cp x xs)) H
theorem nj:gU X (compareOp .In) (Jm X.K false):=by
 intro pins s σ H x y v u Q I rx ry h
 obtain⟨p,xs,rfl,hq,fx,fs,q⟩:=h
 cases ry
 rcases hq with hq|hq
 ·obtain⟨its,r,pl,hz⟩:=I.list hq
  refine SeqAt.in_listAt (wD x) pl.isList (λw hw=>jB rx fx r fs w (by simpa using hw)) ⟨.bl _,H,I,rfl,?_⟩
  rw[show its.toArray.any (wD x)=its.any (wD x) by simp,mH r fs]
  exact q
 ·obtain⟨its,r,pl,hz⟩:=I.tuple hq
  refine SeqAt.in_tupleAt (wD x) pl (λw hw=>jB rx fx r fs w (by simpa using hw)) ⟨.bl _,H,I,rfl,?_⟩
  rw[show its.toArray.any (wD x)=its.any (wD x) by simp,mH r fs]
  exact q
theorem tL:gU X (compareOp .NotIn) (Jm X.K true):=by
 intro pins s σ H x y v u Q I rx ry h
 obtain⟨p,xs,rfl,hq,fx,fs,q⟩:=h
 cases ry
 rcases hq with hq|hq
 ·obtain⟨its,r,pl,hz⟩:=I.list hq
  refine SeqAt.notIn_listAt (wD x) pl.isList (λw hw=>jB rx fx r fs w (by simpa using hw)) ⟨.bl _,H,I,rfl,?_⟩
  rw[show its.toArray.any (wD x)=its.any (wD x) by simp,mH r fs]
  exact q
 ·obtain⟨its,r,pl,hz⟩:=I.tuple hq
  refine SeqAt.notIn_tupleAt (wD x) pl (λw hw=>jB rx fx r fs w (by simpa using hw)) ⟨.bl _,H,I,rfl,?_⟩
  rw[show its.toArray.any (wD x)=its.any (wD x) by simp,mH r fs]
  exact q
def Lo (K:PySem.W.Frag)(T:String)(x:V)(H:Hp):Prop:=match x with
 |.str _=>T="str"
 |.int _=>T="int"
 |.ref p=>(T="list"/\∃xs,fG K H p xs)\/(T="tuple"/\∃o,K.lookup p=some o/\o.cls=.type "tuple"/\o.dict=none) \/
   (T="dict"/\((∃kvs,H p=some (.dK kvs))\/∃kvs,H p=some (.dT kvs)))\/(T="set"/\∃S n,H p=some (.set S n))
 |_=>False
theorem Cc {pins:List (Addr × Obj)}{σ:St}{H:Hp}{s:Shared}{T:String}{x:V}{v:Value}(I:Inv X pins σ H s)(r:RelV x v)(ty:Lo X.K T x H) :
  s.TypeIs v T/\∀a,v=.ref a->∃ob,s.heap.get? a=some ob/\ob.dict=none:=by
 cases x with
 |str z =>
  obtain⟨t,rfl⟩:=r
  cases(show T="str" from ty)
  exact⟨typeIs_str s z t,λ_ e=>nomatch e⟩
 |int i =>
  obtain⟨t,rfl⟩:=r
  cases(show T="int" from ty)
  exact⟨typeIs_int s i t,λ_ e=>nomatch e⟩
 |ref p =>
  cases r
  rcases ty with⟨rfl,xs,hq⟩|⟨rfl,o,hk,hc,hd⟩|⟨rfl,hk⟩|⟨rfl,S,n,hk⟩
  ·obtain⟨its,_,pl,_⟩:=I.list hq
   refine⟨pl.isList.typeIs,λa e=>?_⟩
   cases e
   obtain⟨o,n,e,c,hd,_⟩:=pl
   exact⟨o,e,hd⟩
  ·refine⟨⟨o,I.uE p o hk,hc⟩,λa e=>?_⟩
   cases e
   exact⟨o,I.uE _ o hk,hd⟩
  ·have z:∃o,s.heap.get? p=some o/\o.ExactDict:=by
    rcases hk with⟨kvs,hk⟩|⟨kvs,hk⟩
    ·obtain⟨_,_,_,_,o,_,_,e,ex,_⟩:=I.bg p _ hk
     exact⟨o,e,ex⟩
    ·obtain⟨_,_,_,_,o,_,_,e,ex,_⟩:=I.bg p _ hk
     exact⟨o,e,ex⟩
   obtain⟨o,e,ex⟩:=z
   refine⟨⟨o,e,ex.1⟩,λa e2=>?_⟩
   cases e2
   exact⟨o,e,ex.2.1⟩
  ·obtain⟨o,_,_,_,e,ex,_⟩:=I.bg p _ hk
   refine⟨⟨o,e,ex.1⟩,λa e2=>?_⟩
   cases e2
   exact⟨o,e,ex.2.1⟩
 |_=>exact False.elim ty
def Lb (K:PySem.W.Frag)(T:String)(r:V->List V->Hp->VK->Prop)(to:TE):TE:=λσ H Q=>to σ H λx H1=>Lo K T x H1/\r x [] H1 Q
def MX (K:PySem.W.Frag)(T:String)(r:V->List V->Hp->VK->Prop)(to:TE)(t:TA):TE:=λσ H Q=>to σ H λx H1=>Lo K T x H1/\t σ H1 λxs H2=>r x xs H2 Q
variable {o e:Expr}{es:List Expr}{to:TE}{t:TA}{name:Str}{apos cpos:Pos}{T id:String}{r:V->List V->Hp->VK->Prop}
theorem HR (pa:PlainAttrs T)(slot:Slot T name id)(hty:typeOf (.builtin id)=pure (.type "method_descriptor"))(hm:Ly X id r)(ho:PE X o to)
  (hbase:attributeBase o name X.env (eval o X.env)=eval o X.env:=by rfl)(hline:(apos.endLine == cpos.line)=true:=by rfl):PE X (.Call (.Attribute o name apos) [] [] cpos) (Lb X.K T r to):=by
 intro pins s σ H Q I h
 refine wpAny_Call_method0_late hbase hline (br (ho pins s σ H _ I h) λv s1 ⟨x,H1,I1,r1,ty,q1⟩=>?_)
 obtain⟨h1,h2⟩:=Cc I1 r1 ty
 exact⟨T,id,pa,slot,hty,h1,h2,Calls.callWith_builtin rfl (PySem.evalArgs_none (hm pins s1 σ H1 x [] v [] Q I1 r1 .nil q1))⟩
theorem oV (pa:PlainAttrs T)(slot:Slot T name id)(hty:typeOf (.builtin id)=pure (.type "method_descriptor"))(hm:Ly X id r)(ho:PE X o to)(ha:PA X (e::es) t)
  (hbase:attributeBase o name X.env (eval o X.env)=eval o X.env:=by rfl)
  (hfew:((backTo cpos (starEach (e::es) X.env)).all (λx=>!x.1)&&(backToKw cpos (keywordEach [] X.env)).all (λx=>x.1.isSome)
   && decide ((e::es).length+([]:List Keyword).length+(if([]:List Keyword).isEmpty then 0 else 1)<30))=true:=by rfl)
  (hline:(apos.endLine == cpos.line)=true:=by rfl)(hs:starEach (e::es) X.env=(false,eval e X.env)::starEach es X.env:=by rfl)(hplain:(backTo cpos (starEach es X.env)).any (·.1)=false:=by rfl) :
  PE X (.Call (.Attribute o name apos) (e::es) [] cpos) (MX X.K T r to t):=by
 intro pins s σ H Q I h
 refine wpAny_Call_method_late hbase hfew hline rfl (br (ho pins s σ H _ I h) λv s1 ⟨x,H1,I1,r1,ty,q1⟩=>?_)
 obtain⟨h1,h2⟩:=Cc I1 r1 ty
 refine⟨T,id,pa,slot,hty,h1,h2,?_⟩
 have hA:=ha cpos pins s1 σ H1 _ I1 q1
 rw[hs] at hA ⊢
 refine Calls.callWith_builtin (by show(false||(backTo cpos (starEach es X.env)).any (·.1))=false;rw[hplain]<;>rfl) (Calls.evalArgs_plain ?_)
 exact br hA λus s2 ⟨vs,H2,I2,r2,q2⟩=>hm pins s2 σ H2 x vs v us Q I2 r1 r2 q2
end
def E5 (X:Cx)(id:String)(r:V->List V->Hp->VK->Prop):Prop :=
 ∀(pins:List (Addr × Obj)) (s:Shared) (σ:St) (H:Hp) (x:V) (xs:List V) (v:Value) (us:List Value) (Q:VK),Inv X pins σ H s->RelV x v->Vals xs us->r x xs H Q ->
  wpAny (model X.prog X.w) X.A (call (.builtin id) (v::us)) (EP X pins σ Q) X.xe s
theorem Vals.one:∀{x:V} {us:List Value},Vals [x] us->∃u,us=[u]/\RelV x u
 |_,_,.cons r .nil=>⟨_,rfl,r⟩
theorem Vals.zero:∀{us:List Value},Vals [] us->us=[]
 |_,.nil=>rfl
theorem Vals.dropLast {xs:List V}{us:List Value}(h:Vals xs us):Vals xs.dropLast us.dropLast:=by
 induction h with
 |nil=>exact .nil
 |cons r t ih =>
  cases t with
  |nil=>exact .nil
  |cons q t'=>exact .cons r ih
theorem wF {α:Type}(l:List α):l.eraseIdx (l.length - 1)=l.dropLast:=by
 induction l with
 |nil=>rfl
 |cons a r ih =>
  cases r with
  |nil=>rfl
  |cons b r =>
   have e:(a::b::r).length - 1=((b::r).length - 1)+1:=by
    have h1:(a::b::r).length=r.length+2:=rfl
    have h2:(b::r).length=r.length+1:=rfl
    omega
   rw[e,List.eraseIdx_cons_succ,ih]
   all_goals rfl
section
variable {X:Cx}{pins:List (Addr × Obj)}{σ:St}{H:Hp}{s:Shared}{l b:Addr}{xs ys zs:List V}
theorem Inv.Gq {its its':List Value}{n:Nat}{f:Array Value->Array Value}{t':Nat}(I:Inv X pins σ H s)(hH:H l=some (.lst xs))
  (e:s.heap.get? l=some { cls:=.type "list",data:=.seq its.toArray n })(hf:f its.toArray=its'.toArray)(hv:Vals ys its')(hz:ys.length<=sizeLine) :
  Inv X pins σ (upd H l (.lst ys)) { s with heap:=s.heap.update l (Obj.mapSeq f),toks:=t' }:=by
 have q:=PySem.IsL.update e f
 rw[hf] at q
 refine I.write (x:=l) (e:=l) (by rw[hH];exact trivial) (.inl rfl) (λb' u hb hu=>(Heap.get?_update_other s.heap (Obj.mapSeq f) (Ne.symm hb)).trans hu) ⟨_,q⟩ ?_
 exact⟨hz,its',_,hv,q⟩
theorem Inv.LH {its:List Value}{t':Nat}(I:Inv X pins σ H s)(hv:Vals ys its)(hz:ys.length<=sizeLine) :
  Inv X pins σ (upd H s.heap.objs.size (.lst ys)) { s with heap:=s.heap.push { cls:=.type "list",data:=.seq its.toArray },toks:=t' } :=
 I.laid (λ_ _ q=>Heap.get?_push_of_some _ q) (Nat.le_refl _) ⟨hz,its,0,hv,Heap.get?_push_size _ rfl⟩
theorem Inv.fresh (I:Inv X pins σ H s):H s.heap.objs.size=none:=I.bg.fresh (Nat.le_refl _)
theorem Inv.DZ (I:Inv X pins σ H s)(hH:H l=some (.lst xs)):xs.length<=sizeLine/\∃(its:List Value) (n:Nat),Vals xs its/\xs.length=its.length/\s.heap.get? l=some { cls:=.type "list",data:=.seq its.toArray n }:=by
 obtain⟨z,its,n,r,e⟩:=I.bg l _ hH
 exact⟨z,its,n,r,r.length,e⟩
theorem Ba {n:Nat}(h:n<=sizeLine):Builtin.List.listTooLong n=false:=by
 unfold Builtin.List.listTooLong
 exact decide_eq_false (by omega)
end
section
variable {X:Cx}
def EO:V->List V->Hp->VK->Prop:=λx vs H Q=>∃l xs y,x=.ref l/\vs=[y]/\H l=some (.lst xs)/\xs.length<sizeLine/\Q .ag (upd H l (.lst (xs++[y])))
theorem ng:E5 X "list.append" EO:=by
 intro pins s σ H x vs v us Q I rx rv h
 obtain⟨l,xs,y,rfl,rfl,hH,hz,q⟩:=h
 cases rx
 obtain⟨u,rfl,ru⟩:=rv.one
 obtain⟨z,its,n,r,hl,e⟩:=I.DZ hH
 refine call_meets F.slot_list_append ⟨_,e,rfl⟩ F.entry_list_append (F.args_list_append_2 _ _) (PySem.list_append l its.toArray n u (by rw[List.size_toArray];omega)) ⟨e,?_⟩
 refine⟨.ag,_,I.Gq (its':=its++[u]) hH e (by simp) (r.append (.cons ru .nil)) ?_,rfl,q⟩
 rw[List.length_append,List.length_singleton]
 omega
def ES:V->List V->Hp->VK->Prop:=λx vs H Q=>∃l b xs zs,x=.ref l/\vs=[.ref b]/\H l=some (.lst xs)/\H b=some (.lst zs)/\xs.length+zs.length<=sizeLine/\Q .ag (upd H l (.lst (xs++zs)))
theorem zN:E5 X "list.extend" ES:=by
 intro pins s σ H x vs v us Q I rx rv h
 obtain⟨l,b,xs,zs,rfl,rfl,hH,hB,hz,q⟩:=h
 cases rx
 obtain⟨u,rfl,ru⟩:=rv.one
 cases ru
 obtain⟨z,its,n,r,hl,e⟩:=I.DZ hH
 obtain⟨z2,its2,n2,r2,hl2,e2⟩:=I.DZ hB
 have hsz:its.toArray.size+its2.toArray.size<=sizeLine:=by rw[List.size_toArray,List.size_toArray];omega
 have hlong:¬ (!its.toArray.isEmpty&&Builtin.List.listTooLong (its.toArray.size+its2.toArray.size))=true:=by
  rw[Ba hsz,Bool.and_false]
  exact Bool.false_ne_true
 refine call_meets F.slot_list_extend ⟨_,e,rfl⟩ F.entry_list_extend (F.args_list_extend_2 _ _)
  (AutoSeq1.list_extend_list_list_0 l its.toArray n b its2.toArray n2 hlong (by rw[List.size_toArray];omega) (by omega)) ⟨e,e2,?_⟩
 refine⟨.ag,_,I.Gq (its':=its++its2) hH e (by simp) (r.append r2) ?_,rfl,q⟩
 rw[List.length_append]
 omega
def LU:V->List V->Hp->VK->Prop:=λx vs H Q=>∃l xs y,x=.ref l/\vs=[]/\H l=some (.lst xs)/\xs[xs.length - 1]?=some y/\Q y (upd H l (.lst xs.dropLast))
theorem G_:E5 X "list.pop" LU:=by
 intro pins s σ H x vs v us Q I rx rv h
 obtain⟨l,xs,y,rfl,rfl,hH,hy,q⟩:=h
 cases rx
 have hus:=rv.zero
 subst hus
 obtain⟨z,its,n,r,hl,e⟩:=I.DZ hH
 obtain⟨u,hu,ru⟩:=r.get hy
 have hy':its.toArray[its.toArray.size - 1]?=some u:=by
  show its.toArray[its.length - 1]?=some u
  rw[<- Array.getElem?_toList,<- hl]
  exact hu
 refine call_meets F.slot_list_pop ⟨_,e,rfl⟩ F.entry_list_pop (F.args_list_pop_1 _) (MeetsSeq.list_pop_last l its.toArray n u hy' (by rw[List.size_toArray];omega)) ⟨e,?_⟩
 refine⟨y,_,I.Gq (its':=its.dropLast) hH e ?_ r.dropLast ?_,ru,q⟩
 ·show its.toArray.eraseIdxIfInBounds (its.toArray.size - 1)=its.dropLast.toArray
  rw[List.size_toArray,List.eraseIdxIfInBounds_toArray,wF]
 ·rw[List.length_dropLast]
  omega
end
section
variable {prog:Program}{w:World}{A:Around}{E:Value->Shared->Prop}{s:Shared}
end
section
variable {X:Cx}
end
end L2
namespace Lu
open PySem PySem.W PySem.Calls PyProof.Rows
theorem ou {P:Params}{h:Heap}:∀(ns:List Int) (vs:List Value),WellAll P h vs (ns.map WData.int)->IntsAre vs ns:=by
 intro ns
 induction ns with
 |nil =>
  intro vs w
  rw[List.map_nil] at w
  cases w
  exact .nil
 |cons n ns ih =>
  intro vs w
  rw[List.map_cons] at w
  cases w with
  |cons a b =>
   cases a
   exact .cons _ _ (ih _ b)
theorem zf {l:OpenLaw}{n:Nat}(hn:l.most=some n){P:Params}{h:Heap}{args:List WData}{vals:List Value}
  (hpre:l.row.toRowW.claim.pre args=true)(hwl:WellAll P h vals args) :
  ∃a vs ns,vals=[Value.ref a]/\args=[WData.list (ns.map WData.int)]/\h.get? a=some { cls:=.type "list",data:=.seq vs.toArray }/\IntsAre vs ns/\ns.length<=n:=by
 have hsh:WShape.hasAll [] args [.list .int]=true:=(pre_splitW hpre).1
 have hc:l.pre.holds [] { args:=args }=true:=(pre_splitW hpre).2
 obtain⟨d,r,rfl,h1,h2⟩:=hasAllW_cons hsh
 obtain rfl:=hasAllW_nil h2
 obtain⟨xs,rfl,h3⟩:=hasW_list h1
 obtain⟨ns,rfl⟩:=items_int h3
 have hlen:ns.length<=n:=by
  unfold OpenLaw.pre at hc
  have h4:(WTm.not (.lt (.lit (.int (n:Int))) (.len (.arg 0)))).holds [] { args:=[.list (ns.map .int)] }=true:=by
   have h4:=(holds_andW hc).1
   rw[hn] at h4
   exact h4
  have h5:=condW_of h4 (w_not (w_lt w_lit (w_len_list (w_arg rfl))))
  rw[List.length_map] at h5
  refine Nat.le_of_not_lt λq=>?_
  have q':(n:Int)<((ns.length:Nat):Int):=by omega
  first
   | (rw[decide_eq_true q'] at h5;exact absurd h5 (by decide))
   | (simp at h5;omega)
 cases hwl with
 |cons w1 w2 =>
  cases w2
  cases w1 with
  |list ho hall=>exact⟨_,_,ns,rfl,rfl,ho,ou ns _ hall,hlen⟩
theorem zd (l:OpenLaw)(args:List WData):l.row.toRowW.claim.post args (.bool true) args=true :=
 postW_of (r:=l.row.toRowW) (X:=(true == true))
  (show WShape.has [] (.bool true) .bool=true by first|rfl|decide|simp[WShape.has,WShape.arms,WShape.armsAll])
  (show(WTm.eq .res (.lit (.bool true))).value [] { args:=args,res:=some (.bool true),after:=args }=some (.bool (true == true)) from w_eq_bool (w_res rfl) w_lit) rfl
theorem uH {l:OpenLaw}{n:Nat}{q:Program}{loose:List Str}{XP:(Str->Option Value)->Heap->Prop}{YP:World->Heap->Prop}{d:DefRec}
  (hn:l.most=some n)(hdf:d.params.defaults=[])
  (call:∀(w:World) (s₀ s₁:Shared) (mg mb:Str->Option Value) (fa:Addr) (o:Obj) (pm cd doc:Value) (a:Addr) (vs:List Value) (ns:List Int),
   Ground q loose [] XP w s₀ mg mb s₁.heap->YP w s₁.heap ->
   s₁.heap.get? fa=some o->o.data=.func (docDef d.name d.params d.body d.scope pm cd doc)->s₁.heap.CodeRec cd d.name->mg d.name=some (.ref fa) ->
   s₁.heap.get? a=some { cls:=.type "list",data:=.seq vs.toArray }->IntsAre vs ns->ns.length<=n->s₁.gens=#[] ->
   codeAny (model l.prog w) callerA (.call (.ref fa) ⟨[.ref a],[]⟩) (λr s'=>r=.ok (.ret (.bool true))/\OldK s₁.heap s'.heap/\s'.os=s₁.os/\AllBare s'.gens) s₁) :
  WalkO q loose XP YP l.row.toRowW d [] (λf vs=>PySem.call f vs):=by
 intro w s₀ s₁ mg mb G Y fa o pm cd doc dV kV ho hd hcd hD hmg hg args vals as hpre hlay hrd hwl hlo
 obtain rfl:dV=.none:=Dflts.none hD hdf
 obtain rfl:kV=.none:=Dflts.noKw hD
 obtain⟨a,vs,ns,rfl,rfl,hobj,hints,hlen⟩:=zf hn hpre hwl
 refine enter_call (codeAny_mono (call w s₀ s₁ mg mb fa o pm cd doc a vs ns G Y ho (fd_plain hd) hcd hmg hobj hints hlen hg) λr s' hq=>?_)
 obtain⟨rfl,h2,h3,h4⟩:=hq
 exact⟨.inl ⟨.bool true,.bool true,[],rfl,λ_=>rfl,.bool true,zd l _,λ_=>⟨List.Pairwise.nil,λ_ hm=>(nomatch hm)⟩⟩,h2,h3,h4⟩
section
variable {prog:Program}{w:World}{A:Around}{E:Value->Shared->Prop}{s:Shared}{K:Frag}
end
end Lu
namespace L2
open PySem PySem.Spec PyProof.Rows
theorem rf:∀{vs:List Value} {ns:List Int},IntsAre vs ns->Vals (ns.map V.int) vs
 |_,_,.nil=>.nil
 |_,_,.cons n t h=>.cons ⟨t,rfl⟩ (rf h)
def Fy (H:Hp):Prop:=∀b,H b=none\/∃o xs,H b=some (.A6 o (.lst xs))
theorem BK {P:Program}{w:World}{K:PySem.W.Frag}{mg mb:Str->Option Value}{CX:yU}{k:Nat}{fa a:Addr}{fd:FuncData}{x:Str}{sp:Sp}{s₁:Shared}{vs:List Value}{ns:List Int}
  (KX:K.In s₁.heap)(hns:s₁.heap.Ns mainGlobals mg)(hb:s₁.heap.Ns builtinsNs mb)(hbb:∀x:Str,x≠"__name__"->mb x=bootBuiltins x)(hlim:s₁.heap.NoLimit)(hg:s₁.gens=#[])
  (ha:s₁.heap.get? a=some { cls:=.type "list",data:=.seq vs.toArray })(hi:IntsAre vs ns)(hl:ns.length<=sizeLine)(hr:cA k callerA)
  (F:∀base:Heap,K.In base->base.Ns mainGlobals mg->dB P w K mg base CX k fa fd [x] sp)(hbind:∀(s:Shared) (u:Value),BindsTo s fd ⟨[u],[]⟩ [(x,u)])
  (hsp:∀H:Hp,Fy H->fG K H a (ns.map V.int)->sp [.ref a] H (λv _=>v=.bl true) λ_ _ _=>False)
  (hCX:∀H e s',CX [] H s₁ (λ_ _ _=>False) e s'->False) :
  codeAny (model P w) callerA (.call (.ref fa) ⟨[.ref a],[]⟩) (λr s'=>r=.ok (.ret (.bool true))/\OldK s₁.heap s'.heap/\s'.os=s₁.os/\AllBare s'.gens) s₁:=by
 have rv:=rf hi
 have lenV:=hi.length
 -- from an abstract heap in which nothing but the script may be tracked
 have core:∀H:Hp,Fy H->fG K H a (ns.map V.int)->lU P w H s₁.heap->(∀b,H b≠none->b=a)->(H a≠none->K.lookup a=none) ->
   codeAny (model P w) callerA (.call (.ref fa) ⟨[.ref a],[]⟩) (λr s'=>r=.ok (.ret (.bool true))/\OldK s₁.heap s'.heap/\s'.os=s₁.os/\AllBare s'.gens) s₁:=by
  intro H hO hS bg hA hK
  have base_of:∀{b:Addr} {o:Obj},s₁.heap.get? b=some o->H b=none->(sV s₁.heap H).get? b=some o:=λe n=>BA e n
  have noA:∀{b:Addr} {o:Obj} {es:Array DictEntry} {ep:Nat},s₁.heap.get? b=some o->o.data=.dict es ep->H b=none:=fun{b o es ep} e d=>by
   cases q:H b with
   |none=>rfl
   |some u =>
    have e':b=a:=hA b (by rw[q];simp)
    subst e'
    rw[ha] at e;cases e
    have d':Data.seq vs.toArray _=Data.dict es ep:=d
    cases d'
  have nsK:∀{b:Addr} {m:Str->Option Value},s₁.heap.Ns b m->(sV s₁.heap H).Ns b m:=fun{b m} ⟨o,es,ep,e,d,r⟩=>⟨o,es,ep,base_of e (noA e d),d,r⟩
  have hKb:K.In (sV s₁.heap H):=λb o e=>base_of (KX b o e) (by
   cases q:H b with
   |none=>rfl
   |some u =>
    have e':b=a:=hA b (by rw[q];simp)
    subst e'
    rw[hK (by rw[q];simp)] at e;cases e)
  have hM:Mod K mg (sV s₁.heap H):=⟨hKb,nsK hns,⟨mb,nsK hb,hbb⟩,let ⟨mc,h1,h2⟩:=hlim;⟨mc,nsK h1,h2⟩⟩
  have e0:vv P w K mg (sV s₁.heap H) callerA [] s₁ H:=⟨rfl,hM,λb o e=>Dw e,Nat.le_of_eq (yz _ _),trivial,λb hb=>absurd (show b∈([]:List Addr) from hb) (by simp),bg,.of_eq hg⟩
  refine codeAny_mono ((F _ hKb (nsK hns)).run callerA [] s₁ H ⟨[.ref a],[]⟩ [.ref a] [.ref a] _ _ hr e0 (hbind s₁ (.ref a)) (.cons rfl .nil) (hsp H hO hS)) λr s' h=>?_
  cases r with
  |error e=>exact(hCX H e s' h).elim
  |ok fl =>
   cases fl with
   |next=>exact False.elim h
   |brk=>exact False.elim h
   |cont=>exact False.elim h
   |ret u =>
    obtain⟨v,H',os,bare,un,hok',r',q⟩:=h
    have q':v=.bl true:=q
    subst q'
    obtain rfl:u=Value.bool true:=r'
    refine⟨rfl,OldK.of_keep λb o e=>?_,os,bare⟩
    cases q:H b with
    |none=>exact un.keep b o e q (by intro z;exact absurd (show b∈([]:List Addr) from z) (by simp)) (by simp)
    |some u =>
     rcases hO b with z|⟨ob,xs,z⟩
     ·rw[q] at z;cases z
     ·have z2:=un.pP b ob _ z
      obtain⟨e1,_⟩:=bg b _ z
      obtain⟨e2,_⟩:=hok' b _ z2
      rw[e] at e1;cases e1
      exact e2
 cases hk:K.lookup a with
 |some o =>
  -- the script is one of the module's own objects
  have e:=KX a o hk
  rw[ha] at e
  cases e
  refine core (λ_=>none) (λ_=>.inl rfl) (.inr ⟨_,vs.toArray,_,hk,rfl,rfl,rfl,by rw[List.size_toArray,lenV];exact hl,by simpa using rv⟩) (λb u z=>by have z':(none:Option HO)=some u:=z;cases z') (λb z=>absurd rfl z) λz=>absurd rfl z
 |none =>
  refine core (λb=>if b=a then some (.A6 { cls:=.type "list",data:=.seq vs.toArray } (.lst (ns.map V.int))) else none) (λb=>?_) (.inl (.inr ⟨{ cls:=.type "list",data:=.seq vs.toArray },if_pos rfl⟩)) (λb u z=>?_) (λb z=>?_) λ_=>hk
  ·by_cases hb:b=a
   ·exact .inr ⟨_,_,if_pos hb⟩
   ·exact .inl (if_neg hb)
  ·by_cases hb:b=a
   ·have z':=(if_pos hb).symm.trans z
    cases z'
    subst hb
    exact⟨ha,by rw[List.length_map];exact hl,vs,_,rv,ha⟩
   ·have z':=(if_neg hb).symm.trans z
    cases z'
  ·by_cases hb:b=a
   ·exact hb
   ·exact absurd (if_neg hb) z
theorem Ex {l:PySem.W.OpenLaw}{n k:Nat}{q:Program}{loose:List Str}{XP:(Str->Option Value)->Heap->Prop}{YP:World->Heap->Prop}{d:DefRec}{K:Params->PySem.W.Frag}{CX:World->yU}{sp:World->Sp}{x:Str}
  (hn:l.most=some n)(hn2:n<=sizeLine)(hdf:d.params.defaults=[])(hr:cA k callerA)
  (hY:∀(w:World) (h:Heap),YP w h->(K w.params).In h)
  (F:∀(w:World) (mg:Str->Option Value) (fa:Addr) (h:Heap),(K w.params).In h->h.Ns mainGlobals mg->mg d.name=some (.ref fa) ->
   ∃fd:FuncData,(∀(s:Shared) (u:Value),BindsTo s fd ⟨[u],[]⟩ [(x,u)]) /\
    ∀base:Heap,(K w.params).In base->base.Ns mainGlobals mg->dB l.prog w (K w.params) mg base (CX w) k fa fd [x] (sp w))
  (hsp:∀(w:World) (H:Hp) (a:Addr) (ns:List Int),ns.length<=n->Fy H->fG (K w.params) H a (ns.map V.int)->sp w [.ref a] H (λv _=>v=.bl true) λ_ _ _=>False)
  (hCX:∀(w:World) (H:Hp) (s:Shared) (e:Value) (s':Shared),CX w [] H s (λ_ _ _=>False) e s'->False) :
  PySem.W.WalkO q loose XP YP l.row.toRowW d [] (λf vs=>PySem.call f vs):=by
 refine Lu.uH hn hdf λw s₀ s₁ mg mb fa o pm cd doc a vs ns G Y ho hd hcd hmg hobj hints hlen hg=>?_
 have KX:=hY w _ Y
 obtain⟨fd,hb,hF⟩:=F w mg fa _ KX G.T.g hmg
 exact BK KX G.T.g G.T.b G.T.builtins G.T.nolimit hg hobj hints (Nat.le_trans hlen hn2) hr hF hb (λH hO hS=>hsp w H a ns hlen hO hS) λH e s'=>hCX w H s₁ e s'
def cj (s:Stmt):Arguments:=match s with
 |.FunctionDef _ a _ _ _ _ _ _ _ _=>a
 |_=>{ posonlyargs:=[],args:=[],vararg:=none,kwonlyargs:=[],kw_defaults:=[],kwarg:=none,defaults:=[] }
def bF (s:Stmt):List Stmt:=match s with
 |.FunctionDef _ _ b _ _ _ _ _ _ _=>b
 |_=>[]
def aB (s:Stmt):Scope:=match s with
 |.FunctionDef _ _ _ _ _ _ sc _ _ _=>sc
 |_=>{ kind:=.function,names:=[],isGenerator:=false,isCoroutine:=false }
abbrev oy:yU:=λ_ _ _ _ _ _=>False
abbrev E0:XK:=λ_ _ _=>False
theorem vI {X:Cx}:Passes oy X E0:=λ_ _ _ _ _ _ _ h=>h.elim
structure vx (K:PySem.W.Frag) (x qual:Str) (st:Stmt) (f:Addr) (fd:FuncData):Prop where
 ex:∃(oc:Value) (od:Option Addr) (kV doc pm:Value) (an:Option Addr) (cdv ct:Value) (osl:Array (Option Value)),
  fd=fnOf x qual (cj st) (bF st) (aB st) .none kV doc pm an cdv ct/\K.lookup f=some ⟨oc,od,.func fd,osl⟩/\codeIn K cdv qual=true
 kp:keepIn K (.ref f)=true
section
variable {P:Program}{w:World}{K:PySem.W.Frag}{mg:Str->Option Value}{base:Heap}
theorem vx.ok {x qual:Str}{st:Stmt}{f:Addr}{fd:FuncData}{N ps:List Str}{k:Nat}{sp:Sp}(F:vx K x qual st f fd)(S:aG N ps (aB st))(len:∀vs H Q E,sp vs H Q E->vs.length=ps.length)
  (hbody:∀(cdv:Value) (A:Around) (outer:List Env) (s:Shared) (H:Hp) (vs:List V) (Q:VK) (E:XK),cA k (A.deeper (envOfC qual (aB st) s.heap.objs.size f cdv))->sp vs H Q E ->
   ∃t,m8 (uO oy P w K mg base N qual (aB st) f cdv A outer s H E).HB (bF st) t/\t { nx:=λ_ H'=>Q .ag H',rt:=Q } (start N vs) H):dB P w K mg base oy (k+1) f fd ps sp:=by
 obtain⟨oc,od,kV,doc,pm,an,cdv,ct,osl,rfl,lk,hcd⟩:=F.ex
 refine FJ lk hcd S len λA outer s H vs Q E hr hsp=>?_
 obtain⟨t,h,q⟩:=hbody cdv A outer s H vs Q E hr hsp
 exact⟨t,h.HB,q⟩
theorem vx.binds {x qual:Str}{st:Stmt}{f:Addr}{fd:FuncData}{ps:List Str}(F:vx K x qual st f fd)
  (h:∀(kV doc pm:Value) (an:Option Addr) (cdv ct:Value) (us:List Value),us.length=ps.length->bindArgs (fnOf x qual (cj st) (bF st) (aB st) .none kV doc pm an cdv ct) ⟨us,[]⟩=pure (ps.zip us)):Binds K fd ps []:=by
 obtain⟨oc,od,kV,doc,pm,an,cdv,ct,osl,rfl,lk,hcd⟩:=F.ex
 exact .all (h kV doc pm an cdv ct)
theorem nM {x qual:Str}{st:Stmt}{f:Addr}{oc:Value}{od an:Option Addr}{osl:Array (Option Value)}{kV doc pm cdv ct:Value}(l:K.lookup f=some ⟨oc,od,.func (fnOf x qual (cj st) (bF st) (aB st) .none kV doc pm an cdv ct),osl⟩)
  (c:codeIn K cdv qual=true)(k:keepIn K (.ref f)=true):vx K x qual st f (fnOf x qual (cj st) (bF st) (aB st) .none kV doc pm an cdv ct):=⟨⟨oc,od,kV,doc,pm,an,cdv,ct,osl,rfl,l,c⟩,k⟩
end
theorem zj {n:Nat}(h:n<=1000):n<sizeLine:=Nat.lt_of_le_of_lt h (by decide)
section
variable {X:Cx}
theorem pv (i:Nat){x:Str}{pos:Pos}(hN:X.N[i]?=some x:=by rfl)(hv:Cz X.env.scope x:=by first|exact Or.inl rfl|exact Or.inr (Or.inl rfl)|exact Or.inr (Or.inr rfl))(hd:(x == ("__debug__":Str))=false:=by decide)
  (hcd:(x == ("__classdict__":Str))=false:=by decide):PE X (.Name x pos) (Hz i):=qK hN hv hd hcd
end
theorem aO {A B:Prop}(h:B):if false=true then A else B:=by
 rw[if_neg Bool.false_ne_true]
 exact h
theorem aR {A B:Prop}(h:A):if true=true then A else B:=by
 rw[if_pos rfl]
 exact h
def aJ (H H':Hp):Prop:=∀b o,H b=some o->H' b=some o
theorem aJ.refl (H:Hp):aJ H H:=λ_ _ h=>h
theorem aJ.trans {H H1 H2:Hp}(a:aJ H H1)(b:aJ H1 H2):aJ H H2:=λc o h=>b c o (a c o h)
theorem aJ.free {H H':Hp}(e:aJ H H'){l:Addr}(h:H' l=Option.none):H l=Option.none:=by
 cases q:H l with
 |none=>rfl
 |some o =>
  rw[e l o q] at h
  cases h
theorem aJ.seq {K:PySem.W.Frag}{H H':Hp}{a:Addr}{xs:List V}(e:aJ H H')(h:fG K H a xs):fG K H' a xs:=by
 rcases h with(h|⟨o,h⟩)|h
 ·exact .inl (.inl (e _ _ h))
 ·exact .inl (.inr ⟨o,e _ _ h⟩)
 ·exact .inr h
section
variable {κ:Type} [DecidableEq κ]
def ow (kvs:List (κ × V))(k:κ):Option V:=(kvs.find? λkv=>decide (kv.1=k)).map (·.2)
def putK (kvs:List (κ × V))(k:κ)(v:V):List (κ × V) :=
 if(kvs.any λkv=>decide (kv.1=k))=true then kvs.map (λkv=>if kv.1=k then(kv.1,v) else kv) else kvs++[(k,v)]
theorem qg {p:κ × V}{r:List (κ × V)}{k:κ}(e:p.1=k):ow (p::r) k=some p.2:=by simp[ow,List.find?_cons,e]
theorem qf {p:κ × V}{r:List (κ × V)}{k:κ}(e:¬ p.1=k):ow (p::r) k=ow r k:=by simp[ow,List.find?_cons,e]
theorem vm (k:κ):∀kvs:List (κ × V),(kvs.any λkv=>decide (kv.1=k))=(ow kvs k).isSome
 |[]=>rfl
 |p::r=>by
  rw[List.any_cons]
  by_cases e:p.1=k
  ·simp only[qg e,decide_eq_true e,Bool.true_or,Option.isSome_some]
  ·rw[qf e,decide_eq_false e,Bool.false_or];exact vm k r
theorem i_ (kvs:List (κ × V))(k:κ)(v:V):(putK kvs k v).length<=kvs.length+1:=by
 unfold putK
 split
 ·rw[List.length_map];omega
 ·rw[List.length_append,List.length_cons,List.length_nil];omega
theorem ir.zG {o:Option V}{u:Option Value}(r:ir o u):o.isSome=u.isSome:=by
 cases o with
 |none=>cases u with
  |none=>rfl
  |some _=>exact(show False from r).elim
 |some _=>cases u with
  |none=>exact(show False from r).elim
  |some _=>rfl
theorem KV.val {kvs:List (κ × V)}{vs:List (κ × Value)}(r:KV kvs vs)(k:κ):ir (ow kvs k) (valueAt vs k):=by
 unfold KV at r
 induction r with
 |nil=>exact True.intro
 | @cons p q ps qs h t ih =>
  obtain⟨h1,h2⟩:=h
  by_cases e:p.1=k
  ·have e':q.1=k:=h1.symm.trans e
   have b:valueAt (q::qs) k=some q.2:=by simp[valueAt,List.find?_cons,e']
   rw[qg e,b];exact h2
  ·have e':¬ q.1=k:=λz=>e (h1.trans z)
   have b:valueAt (q::qs) k=valueAt qs k:=by simp[valueAt,List.find?_cons,e']
   rw[qf e,b];exact ih
theorem KV.any {kvs:List (κ × V)}{vs:List (κ × Value)}(r:KV kvs vs)(k:κ):(kvs.any λkv=>decide (kv.1=k))=vs.any λkv=>decide (kv.1=k):=by
 unfold KV at r
 induction r with
 |nil=>rfl
 |cons h t ih=>rw[List.any_cons,List.any_cons,ih,h.1]
theorem KV.Hn {kvs:List (κ × V)}{vs:List (κ × Value)}(r:KV kvs vs)(k:κ){y:V}{u:Value}(ry:RelV y u) :
  KV (kvs.map λkv=>if kv.1=k then(kv.1,y) else kv) (vs.map λkv=>if kv.1=k then(kv.1,u) else kv):=by
 unfold KV at r ⊢
 induction r with
 |nil=>exact .nil
 | @cons p q ps qs h t ih =>
  rw[List.map_cons,List.map_cons]
  refine .cons ?_ ih
  obtain⟨h1,h2⟩:=h
  by_cases e:p.1=k
  ·rw[if_pos e,if_pos (h1.symm.trans e)];exact⟨h1,ry⟩
  ·rw[if_neg e,if_neg (λz=>e (h1.trans z))];exact⟨h1,h2⟩
theorem KV.put {kvs:List (κ × V)}{vs:List (κ × Value)}(r:KV kvs vs)(k:κ){y:V}{u:Value}(ry:RelV y u):KV (putK kvs k y) (stored vs k u):=by
 unfold putK stored
 rw[r.any k]
 by_cases e:(vs.any λkv=>decide (kv.1=k))=true
 ·rw[if_pos e,if_pos e];exact r.Hn k ry
 ·rw[if_neg e,if_neg e];exact Paired.snoc r ⟨rfl,ry⟩
theorem KV.length {kvs:List (κ × V)}{vs:List (κ × Value)}(r:KV kvs vs):kvs.length=vs.length:=Paired.length r
end
theorem xw {P:Program}{w:World}{k:Key}{u:Value}(r:RelV (kV k) u):(b8 P w).is k u=true:=by
 cases k with
 |inl i=>obtain⟨t,e⟩:=(show ∃t,u=Value.int i t from r);subst e;exact u_ P w i t
 |inr x=>obtain⟨t,e⟩:=(show ∃t,u=Value.str x t from r);subst e;exact vA P w x t
theorem rF {P:Program}{w:World}:∀{ks:List Key} {us:List Value},Vals (ks.map kV) us->ItemsAre (b8 P w) ks us
 |[],_,r=>by rw[List.map_nil] at r;cases r;exact .nil
 |k::ks,_,r=>by
  rw[List.map_cons] at r
  cases r with
  |cons h t=>exact .cons (xw h) (rF t)
abbrev KT (H:Hp):List (List Key × V)->List (List Key × Addr × Value)->Prop:=Paired λp q=>p.1=q.1/\H q.2.1=some (.tup (p.1.map kV))/\RelV p.2 q.2.2
theorem KT.val {H:Hp}{kvs:List (List Key × V)}{xs:List (List Key × Addr × Value)}(r:KT H kvs xs)(k:List Key):ir (ow kvs k) ((atKey xs k).map (·.2)):=by
 induction r with
 |nil=>exact True.intro
 | @cons p q ps qs h t ih =>
  obtain⟨h1,_,h2⟩:=h
  by_cases e:p.1=k
  ·have e':q.1=k:=h1.symm.trans e
   have b:atKey (q::qs) k=some q.2:=by simp[atKey,List.find?_cons,e']
   rw[qg e,b];exact h2
  ·have e':¬ q.1=k:=λz=>e (h1.trans z)
   have b:atKey (q::qs) k=atKey qs k:=by simp[atKey,List.find?_cons,e']
   rw[qf e,b];exact ih
theorem KT.Hn {H:Hp}{kvs:List (List Key × V)}{xs:List (List Key × Addr × Value)}(r:KT H kvs xs)(k:List Key){y:V}{u:Value}(ry:RelV y u) :
  KT H (kvs.map λkv=>if kv.1=k then(kv.1,y) else kv) (xs.map (putAt k u)):=by
 induction r with
 |nil=>exact .nil
 | @cons p q ps qs h t ih =>
  rw[List.map_cons,List.map_cons]
  refine .cons ?_ ih
  obtain⟨h1,h2,h3⟩:=h
  unfold putAt
  by_cases e:p.1=k
  ·rw[if_pos e,if_pos (h1.symm.trans e)];exact⟨h1,h2,ry⟩
  ·rw[if_neg e,if_neg (λz=>e (h1.trans z))];exact⟨h1,h2,h3⟩
theorem KT.put {H:Hp}{kvs:List (List Key × V)}{xs:List (List Key × Addr × Value)}(r:KT H kvs xs)(k:List Key){b:Addr}{y:V}{u:Value}(hb:H b=some (.tup (k.map kV)))(ry:RelV y u) :
  KT H (putK kvs k y) (storedH xs k b u):=by
 have e:(kvs.any λkv=>decide (kv.1=k))=(atKey xs k).isSome:=by
  rw[vm,(r.val k).zG,Option.isSome_map]
 unfold putK storedH
 rw[e]
 by_cases q:(atKey xs k).isSome=true
 ·rw[if_pos q,if_pos q];exact r.Hn k ry
 ·rw[if_neg q,if_neg q];exact Paired.snoc r ⟨rfl,hb,ry⟩
theorem KT.keeps {H H':Hp}{kvs:List (List Key × V)}{xs:List (List Key × Addr × Value)}(r:KT H kvs xs)(ht:∀b ys,H b=some (.tup ys)->H' b=some (.tup ys)):KT H' kvs xs :=
 Paired.G4 r λ_ _ z=>⟨z.1,ht _ _ z.2.1,z.2.2⟩
section
variable {P:Program}{w:World}{H:Hp}{h:Heap}{a:Addr}
theorem Fh {u:HO}(ok:lU P w H h)(e:Rd H a u):bR P w H h a u:=e.ok ok
theorem Am {kvs:List (Key × V)}(ok:lU P w H h)(e:Rd H a (.dK kvs)):kvs.length<=sizeLine/\(a == sysModules)=false/\∃vs,KV kvs vs/\h.DictOf (b8 P w) a vs :=
 show bR P w H h a (.dK kvs) from Fh ok e
theorem FA {kvs:List (Key × V)}(ok:lU P w H h)(e:H a=some (.dK kvs)):kvs.length<=sizeLine/\(a == sysModules)=false/\∃vs,KV kvs vs/\h.DictOf (b8 P w) a vs:=Am ok (.inl e)
theorem wV {ks:List Key}(ok:lU P w H h)(e:H a=some (.tup (ks.map kV))):(tupleKind (b8 P w)).is h ks a:=by
 obtain⟨_,its,r,o,h1,h2,n,h3⟩:=(show bR P w H h a (.tup (ks.map kV)) from ok a _ e)
 exact⟨o,its.toArray,n,h1,h2,h3,by simpa using rF r⟩
theorem Aw {kvs:List (List Key × V)}(ok:lU P w H h)(e:Rd H a (.dT kvs)):kvs.length<=sizeLine/\(a == sysModules)=false /\
  ∃xs,KT H kvs xs/\h.DictOfH (tupleKind (b8 P w)) a xs:=by
 obtain⟨z,y,xs,r,o,es,ep,h1,h2,h3,h4,h5⟩:=(show bR P w H h a (.dT kvs) from Fh ok e)
 refine⟨z,y,xs,r,o,es,ep,h1,h2,h3,h4,λx hx=>?_,h5⟩
 have all:∀{l:List (List Key × V)} {m:List (List Key × Addr × Value)},KT H l m->∀x∈m,(tupleKind (b8 P w)).is h x.1 x.2.1:=by
  intro l m q
  induction q with
  |nil=>intro x hx;exact nomatch hx
  | @cons p q ps qs hq t ih =>
   intro x hx
   rcases List.mem_cons.mp hx with e|hx
   ·subst e
    exact wV ok (by rw[<- hq.1];exact hq.2.1)
   ·exact ih x hx
 exact all r x hx
theorem Ir {kvs:List (List Key × V)}(ok:lU P w H h)(e:H a=some (.dT kvs)):kvs.length<=sizeLine/\(a == sysModules)=false /\
  ∃xs,KT H kvs xs/\h.DictOfH (tupleKind (b8 P w)) a xs:=Aw ok (.inl e)
end
def Fu (H:Hp)(a:Addr)(y:V)(r:Option V):Prop :=
 (∃kvs k,Rd H a (.dK kvs)/\y=kV k/\r=ow kvs k)\/∃kvs k b,Rd H a (.dT kvs)/\y=.ref b/\H b=some (.tup (k.map kV))/\r=ow kvs k
def AK (H:Hp)(a:Addr)(y v:V)(H':Hp):Prop :=
 (∃kvs k,H a=some (.dK kvs)/\y=kV k/\kvs.length<sizeLine/\H'=upd H a (.dK (putK kvs k v))) \/
 ∃kvs k b,H a=some (.dT kvs)/\y=.ref b/\H b=some (.tup (k.map kV))/\kvs.length<sizeLine/\H'=upd H a (.dT (putK kvs k v))
theorem AK.k {H:Hp}{a:Addr}{kvs:List (Key × V)}{k:Key}{v:V}(e:H a=some (.dK kvs))(hl:kvs.length<sizeLine):AK H a (kV k) v (upd H a (.dK (putK kvs k v))):=.inl ⟨kvs,k,e,rfl,hl,rfl⟩
section
variable {X:Cx}{pins:List (Addr × Obj)}{σ:St}{H:Hp}{s:Shared}{a:Addr}{y v:V}{u r:Value}{o:Option V}{A:Around}{E:Value->Shared->Prop}
theorem Inv.big (I:Inv X pins σ H s):sysModules<s.heap.objs.size:=by
 have h:mainGlobals<s.heap.objs.size:=(I.mod.glob.keeps I.bk).lt
 exact Nat.lt_trans (by decide) h
theorem ym {Q:Value->Shared->Prop}(hu:A.units+1<cLine)(I:Inv X pins σ H s)(g:Fu H a y (some v))(ry:RelV y u)(h:∀w' s',Inv X pins σ H s'->RelV v w'->Q w' s') :
  wpAny (model X.prog X.w) A (getItem (.ref a) u) Q E s:=by
 rcases g with⟨kvs,k,e,ey,l⟩|⟨kvs,k,b,e,ey,eb,l⟩
 ·subst ey
  obtain⟨z,hd,vs,rel,dd⟩:=Am I.bg e
  obtain⟨w',hw,rw'⟩:=ir.some_of (v:=v) (o:=valueAt vs k) (by rw[l];exact rel.val k)
  exact wpAny_getItem_of (xw ry) dd.mapOf hw (h w' _ (I.tok _) rw')
 ·subst ey
  cases(show u=Value.ref b from ry)
  obtain⟨z,hd,xs,rel,dd⟩:=Aw I.bg e
  obtain⟨w',hw,rw'⟩:=ir.some_of (v:=v) (o:=(atKey xs k).map (·.2)) (by rw[l];exact rel.val k)
  obtain⟨p,hp,hp2⟩:=Option.map_eq_some_iff.mp hw
  refine wpAny_getItem_heap (tupleKind_room_in1 hu) (wV I.bg eb) dd hp ?_
  rw[hp2]
  exact h w' _ (I.tok _) rw'
theorem sG {h':Heap}{t':Nat}{ob:HO}(I:Inv X pins σ H s)(mu:Ib (H a))(hs:Heap.SameBut a s.heap h')(he:∃q,h'.get? a=some q)(new:bR X.prog X.w (upd H a ob) h' a ob) :
  Inv X pins σ (upd H a ob) { s with heap:=h',toks:=t' } :=
 I.write (x:=a) (e:=a) mu (.inl rfl) (λb q hb z=>(hs.2 b hb).trans z) he new
theorem Ak {P:Program}{w:World}{H':Hp}{h':Heap}{kvs:List (Key × V)}{vs:List (Key × Value)}(z:kvs.length<=sizeLine)(hd:(a == sysModules)=false)(rel:KV kvs vs)(dd:h'.DictOf (b8 P w) a vs) :
  bR P w H' h' a (.dK kvs):=⟨z,hd,vs,rel,dd⟩
theorem yo {H':Hp}{Q:Unit->Shared->Prop}(hu:A.units+1<cLine)(I:Inv X pins σ H s)(g:AK H a y v H')(ry:RelV y u)(rv:RelV v r)(h:∀s',Inv X pins σ H' s'->Q () s') :
  wpAny (model X.prog X.w) A (setItem (.ref a) u r) Q E s:=by
 rcases g with⟨kvs,k,e,ey,l,eH⟩|⟨kvs,k,b,e,ey,eb,l,eH⟩
 ·subst ey eH
  obtain⟨z,hd,vs,rel,dd⟩:=FA I.bg e
  have hz:vs.length<=sizeLine:=by rw[<- rel.length];exact z
  have hl:(putK kvs k v).length<=sizeLine:=by have:=i_ kvs k v;omega
  refine wpAny_setItem_pairs (hsz:=hz) (xw ry) dd λh' dd' hs=>h _ ?_
  have he:∃q,h'.get? a=some q:=let ⟨q,_,_,hq,_⟩:=dd';⟨q,hq⟩
  exact sG I (by rw[e];exact True.intro) hs he (Ak hl hd (rel.put k rv) dd')
 ·subst ey eH
  cases(show u=Value.ref b from ry)
  obtain⟨z,hd,xs,rel,dd⟩:=Ir I.bg e
  have hz:xs.length<=sizeLine:=by rw[<- Paired.length rel];exact z
  have hl:(putK kvs k v).length<=sizeLine:=by have:=i_ kvs k v;omega
  refine wpAny_setItem_heap (hsz:=hz) (tupleKind_room_in1 hu) (wV I.bg eb) dd λh' dd' hs=>h _ ?_
  obtain⟨q,es,ep,hq,h2,h3,h4,_,h5⟩:=dd'
  refine sG I (by rw[e];exact True.intro) hs ⟨q,hq⟩ ⟨hl,hd,_,(rel.put k eb rv).keeps λc ys ec=>?_,q,es,ep,hq,h2,h3,h4,h5⟩
  rw[aN (Jd ec e (λz=>nomatch z))]
  exact ec
end
section
variable {X:Cx}{pins:List (Addr × Obj)}{σ:St}{H:Hp}{s:Shared}{a:Addr}{kvs:List (Key × V)}{k:Key}{u:Value}{A:Around}{E:Value->Shared->Prop}
end
def Fx (i:Expr):Prop:=∀ov iv,subscripted i false ov iv=operate [ov,iv] (getItem ov iv)
theorem Ei {prog:Program}{w:World}{A:Around}{E:Value->Shared->Prop}{s:Shared}{env:Env}{value slice:Expr}{pos:Pos}{T id:String}{Q:Value->Shared->Prop}
  (hl:typeLookup (.type T) "__getitem__"=pure (some (.builtin id)))(hs:Fx slice)
  (h:wpAny (model prog w) A (eval value env) (λo s₁=>wpAny (model prog w) A (eval slice env) (λi s₂=>s₂.TypeIs o T/\wpAny (model prog w) A (getItem o i) Q E s₂) E s₁) E s) :
  wpAny (model prog w) A (eval (.Subscript value slice pos) env) Q E s:=by
 refine Subscript_ (wpAny_mono h (λo s₁ h₁=>wpAny_mono h₁ (λi s₂ h₂=>?_) λ_ _ x=>x) λ_ _ x=>x)
 obtain⟨hT,h₂⟩:=h₂
 unfold subscriptTail
 refine wpAny_bind ?_
 rw[getitemInPython_of_ne hT.not_modules]
 refine wpAny_bind (wpAny_specialOf hT hl ?_)
 have fin:wpAny (model prog w) A (subscripted slice false o i) (λr s₃=>wpAny (model prog w) A (letTemporaryGo value o r >>= λ_=>pure r) Q E s₃) E s₂:=by
  rw[hs o i]
  exact wpAny_operating (wpAny_mono h₂ (λr s₃ h₃=>wpAny_bind (wpAny_letTemporaryGo (wpAny_pure h₃))) λ_ _ x=>x)
 first
  |exact wpAny_pure (wpAny_bind fin)
  |exact wpAny_bind (wpAny_pure (wpAny_bind fin))
  |exact wpAny_bind fin
theorem uZ {X:Cx}{pins:List (Addr × Obj)}{σ:St}{H:Hp}{s:Shared}{a:Addr}{y:V}{o:Option V}(I:Inv X pins σ H s)(g:Fu H a y o):s.TypeIs (.ref a) "dict":=by
 rcases g with⟨kvs,k,e,_,_⟩|⟨kvs,k,b,e,_,_,_⟩
 ·obtain⟨_,_,vs,_,dd⟩:=Am I.bg e
  exact dd.typeIs
 ·obtain⟨_,_,xs,_,dd⟩:=Aw I.bg e
  exact dd.typeIs
def J5 (td ty:TE):TE:=λσ H Q=>td σ H λx H1=>ty σ H1 λy H2=>∃a v,x=.ref a/\Fu H2 a y (some v)/\Q v H2
def Ju (td ty tv:TE):TS:=λD σ H=>tv σ H λv H1=>td σ H1 λx H2=>ty σ H2 λy H3=>∃a H4,x=.ref a/\AK H3 a y v H4/\D.nx σ H4
section
variable {X:Cx}{o i e value:Expr}{pos pos' tpos:Pos}{td ty tv:TE}
theorem D4 (hu:X.A.units+1<cLine)(ho:PE X o td)(hi:PE X i ty)(hs:Fx i):PE X (.Subscript o i pos) (J5 td ty):=by
 intro pins s σ H Q I h
 refine Ei PySem.F.slot_dict_getitem.lookup hs (br (ho pins s σ H _ I h) λu s1 ⟨x,H1,I1,rx,q1⟩=>br (hi pins s1 σ H1 _ I1 q1) λiv s2 ⟨y,H2,I2,ry,a,v,ex,g,q2⟩=>?_)
 subst ex
 obtain rfl:u=Value.ref a:=rx
 exact⟨uZ I2 g,ym hu I2 g ry λw' s3 I3 rw'=>⟨v,H2,I3,rw',q2⟩⟩
theorem EH (hu:X.A.units+1<cLine)(ho:PE X o td)(hi:PE X i ty)(hv:PE X value tv)(hs:swapsWith value (some (.Subscript o i pos')) pos.line X.env=pure false) :
  PS X (.Assign [.Subscript o i pos'] value pos) (Ju td ty tv):=by
 intro pins s σ H D I h
 refine wpAny_Assign_Subscript (br (hv pins s σ H _ I h) λr s1 ⟨v,H1,I1,rv,q1⟩=>br (ho pins s1 σ H1 _ I1 q1) λu s2 ⟨x,H2,I2,rx,q2⟩=>br (hi pins s2 σ H2 _ I2 q2) λiv s3 ⟨y,H3,I3,ry,a,H4,ex,g,q3⟩=>?_) hs
 subst ex
 obtain rfl:u=Value.ref a:=rx
 exact yo hu I3 g ry rv λs4 I4=>⟨σ,H4,I4,q3⟩
end
theorem ud {P:Program}{w:World}{H:Hp}(h:Heap)(hb:sysModules<h.objs.size):bR P w H (h.push { cls:=.type "dict",data:=.dict #[] }) h.objs.size (.dK []) :=
 ⟨Nat.zero_le _,beq_eq_false_iff_ne.mpr (Ne.symm (Nat.ne_of_lt hb)),[],.nil,Heap.DictOf.new h⟩
def Hw:TE:=λ_ H Q=>∀p,H p=none->Q (.ref p) (upd H p (.dK []))
section
variable {X:Cx}{pos:Pos}
theorem Bk:PE X (.Dict [] [] pos) Hw:=λpins s σ H Q I h =>
 wpAny_Dict_empty ⟨.ref s.heap.objs.size,_,I.laid (a:=s.heap.objs.size) (o:=.dK []) (t':=s.toks) (λ_ _ q=>Heap.get?_push_of_some _ q) (Nat.le_refl _) (ud s.heap I.big),rfl,h _ (I.bg.fresh (Nat.le_refl _))⟩
end
def t_:List (TE × TE)->St->Hp->(List (V × V)->Hp->Prop)->Prop
 |[],_,H,Q=>Q [] H
 | (tk,tv)::r,σ,H,Q=>tk σ H λx H1=>tv σ H1 λy H2=>t_ r σ H2 λps H3=>Q ((x,y)::ps) H3
abbrev VV:List (V × V)->List (Value × Value)->Prop:=Paired λp q=>RelV p.1 q.1/\RelV p.2 q.2
def Ie (X:Cx)(pos:Pos)(keys:List (Option Expr))(values:List Expr)(trs:List (TE × TE)):Prop :=
 ∀(pins:List (Addr × Obj)) (s:Shared) (σ:St) (H:Hp) (Q:List (V × V)->Hp->Prop),Inv X pins σ H s->t_ trs σ H Q ->
  wpAny (model X.prog X.w) X.A (evalPairs (pairTrees keys values X.env pos)) (λvs s'=>∃ps H',Inv X pins σ H' s'/\VV ps vs/\Q ps H') X.xe s
theorem EG {X:Cx}{pos:Pos}:Ie X pos [] [] []:=λpins s σ H Q I h=>pairTrees_nil_walk ⟨[],H,I,.nil,h⟩
theorem Bq {X:Cx}{pos:Pos}{k v:Expr}{ks:List (Option Expr)}{vs:List Expr}{tk tv:TE}{trs:List (TE × TE)}(hk:PE X k tk)(hv:PE X v tv)(hr:Ie X pos ks vs trs) :
  Ie X pos (some k::ks) (v::vs) ((tk,tv)::trs):=λpins s σ H Q I h =>
 pairTrees_cons_walk (br (hk pins s σ H _ I h) λu s1 ⟨x,H1,I1,rx,q1⟩=>br (hv pins s1 σ H1 _ I1 q1) λw2 s2 ⟨y,H2,I2,ry,q2⟩ =>
  br (hr pins s2 σ H2 _ I2 q2) λws s3 ⟨ps,H3,I3,rel,q3⟩=>⟨(x,y)::ps,H3,I3,.cons ⟨rx,ry⟩ rel,q3⟩)
def jC (kvs more:List (Key × V)):List (Key × V):=more.foldl (λacc kv=>putK acc kv.1 kv.2) kvs
theorem KV.merge:∀{more:List (Key × V)} {rs:List (Key × Value)} {kvs:List (Key × V)} {vs:List (Key × Value)},KV more rs->KV kvs vs->KV (jC kvs more) (merged vs rs):=by
 intro more rs kvs vs r
 unfold KV at r
 induction r generalizing kvs vs with
 |nil=>intro q;exact q
 | @cons p q ps qs h t ih =>
  intro r0
  have e:KV (putK kvs p.1 p.2) (stored vs q.1 q.2):=by
   have:=r0.put p.1 h.2
   rw[<- h.1];exact this
  exact ih e
theorem ky:∀(more kvs:List (Key × V)),(jC kvs more).length<=kvs.length+more.length
 |[],kvs=>by show kvs.length<=kvs.length+0;omega
 |p::r,kvs=>by
  have h1:=ky r (putK kvs p.1 p.2)
  have h2:=i_ kvs p.1 p.2
  show(jC (putK kvs p.1 p.2) r).length<=_
  rw[List.length_cons];omega
theorem pE {P:Program}{w:World}:∀{kvs:List (Key × V)} {ws:List (Value × Value)},VV (kvs.map λkv=>(kV kv.1,kv.2)) ws->∃rs,Carries (b8 P w) ws rs/\KV kvs rs
 |[],_,r=>by rw[List.map_nil] at r;cases r;exact⟨[],True.intro,.nil⟩
 |p::kvs,_,r=>by
  rw[List.map_cons] at r
  cases r with
  | @cons a b as bs h t =>
   obtain⟨rs,c,q⟩:=pE (P:=P) (w:=w) t
   obtain⟨b1,b2⟩:=b
   exact⟨(p.1,b2)::rs,⟨xw h.1,rfl,c⟩,.cons ⟨rfl,h.2⟩ q⟩
def J6 (trs:List (TE × TE)):TE:=λσ H Q=>∀p,H p=none->t_ trs σ (upd H p (.dK [])) λps H2=>H2 p=some (.dK [])/\∃kvs:List (Key × V),ps=kvs.map (λkv=>(kV kv.1,kv.2))/\kvs.length<=15/\Q (.ref p) (upd H2 p (.dK (jC [] kvs)))
theorem D5 {X:Cx}{pos:Pos}{keys:List (Option Expr)}{values:List Expr}{trs:List (TE × TE)}(h:Ie X pos keys values trs)(hall:keys.all (·.isSome)=true)(hl:keys.length=values.length)(h0:keys≠[])
  (h15:keys.length<=15):PE X (.Dict keys values pos) (J6 trs):=by
 intro pins s σ H Q I q
 have hn:=I.bg.fresh (Nat.le_refl s.heap.objs.size)
 have I1:=I.laid (a:=s.heap.objs.size) (o:=.dK []) (h':=s.heap.push { cls:=.type "dict",data:=.dict #[] }) (t':=s.toks) (λ_ _ q=>Heap.get?_push_of_some _ q) (Nat.le_refl _) (ud s.heap I.big)
 refine wpAny_Dict_walk (knd:=b8 X.prog X.w) hall hl h0 h15 (br (h pins _ σ _ _ I1 (q _ hn)) λws s2 ⟨ps,H2,I2,rel,e,kvs,ep,lk,q2⟩=>?_)
 subst ep
 obtain⟨rs,c,rk⟩:=pE (P:=X.prog) (w:=X.w) rel
 obtain⟨z,hd,vs0,r0,dd⟩:=FA I2.bg e
 cases r0
 refine⟨rs,c,dd,λh' dd' hs=>⟨.ref s.heap.objs.size,_,?_,rfl,q2⟩⟩
 have hz:(jC [] kvs).length<=sizeLine:=by
  have h1:=ky kvs []
  rw[List.length_nil] at h1
  rw[sizeLine_eq];omega
 have he:∃q,h'.get? s.heap.objs.size=some q:=let ⟨q,_,_,hq,_⟩:=dd';⟨q,hq⟩
 exact sG I2 (by rw[e];exact True.intro) hs he (Ak hz hd (rk.merge .nil) dd')
section
variable {X:Cx}{pins:List (Addr × Obj)}{σ:St}{H:Hp}{s:Shared}{a:Addr}{y d:V}{u r:Value}{o:Option V}{A:Around}{E:Value->Shared->Prop}
end
section
variable {X:Cx}{o e f:Expr}{apos cpos:Pos}{td ty tx:TE}
end
section
variable {X:Cx}{pins:List (Addr × Obj)}{σ:St}{H:Hp}{s:Shared}{a:Addr}{kvs:List (Key × V)}{A:Around}{E:Value->Shared->Prop}
end
section
variable {X:Cx}{pins:List (Addr × Obj)}{σ:St}{H:Hp}{s:Shared}{a:Addr}{y:V}{u:Value}{A:Around}{E:Value->Shared->Prop}
end
section
variable {X:Cx}
end
section
variable {κ:Type} [DecidableEq κ]
end
def ao (X:Cx)(scope:Scope)(cl:List (Str × Addr))(C:Addr)(N:List Str)(fp:List Addr)(s₂:Shared)(H₂:Hp):Cx where
 prog:=X.prog
 w:=X.w
 K:=X.K
 mg:=X.mg
 base:=X.base
 A:=X.A
 N:=N
 s₀:=s₂
 H₀:=H₂
 env:=compEnvC scope cl C X.env
 outer:=X.stack
 stack:=X.stack
 ex:=fp
 fn:=λ_=>false
 calm:=X.calm
 pn:=[]
 xe:=λ_ _=>False
theorem tV {scope:Scope}{env:Env}{y:Str}(nc:∀z∈scope.names,z.2≠.cell)(h:(relabel scope env).names.lookup y=some .cell\/(relabel scope env).names.lookup y=some .free):scope.names.lookup y=some .free:=by
 have key:∀(l:List (Str × NameKind)),(∀z∈l,z.2≠.cell)->((l.map fun(n,k)=>if(k == NameKind.free&&env.scope.kind == .function&&env.kindOf n == some .cell) then(n,NameKind.cell) else(n,k)).lookup y=some .cell \/
   (l.map fun(n,k)=>if(k == NameKind.free&&env.scope.kind == .function&&env.kindOf n == some .cell) then(n,NameKind.cell) else(n,k)).lookup y=some .free)->l.lookup y=some .free:=by
  intro l
  induction l with
  |nil=>intro _ h;rcases h with h|h<;>simp at h
  |cons p r ih =>
   obtain⟨n,k⟩:=p
   intro hn h
   have hr:=ih (λz hz=>hn z (List.mem_cons_of_mem _ hz))
   have hk:k≠.cell:=hn (n,k) List.mem_cons_self
   by_cases hc:(k == NameKind.free&&env.scope.kind == .function&&env.kindOf n == some .cell)=true
   ·have kf:k=.free:=by
     rw[Bool.and_eq_true,Bool.and_eq_true] at hc
     exact eq_of_beq hc.1.1
    subst kf
    simp only[List.map_cons,if_pos hc] at h
    cases hx:y == n with
    |true=>simp only[List.lookup_cons,hx]
    |false =>
     simp only[List.lookup_cons,hx] at h ⊢
     exact hr h
   ·simp only[List.map_cons,if_neg hc] at h
    cases hx:y == n with
    |true =>
     simp only[List.lookup_cons,hx] at h ⊢
     rcases h with h|h
     ·cases h;exact absurd rfl hk
     ·exact h
    |false =>
     simp only[List.lookup_cons,hx] at h ⊢
     exact hr h
 exact key scope.names nc h
theorem sR {scope:Scope}{env:Env}{y:Str}(h:scope.names.lookup y=some .free):(relabel scope env).names.lookup y=some .cell\/(relabel scope env).names.lookup y=some .free:=by
 have key:∀(l:List (Str × NameKind)),l.lookup y=some .free->((l.map fun(n,k)=>if(k == NameKind.free&&env.scope.kind == .function&&env.kindOf n == some .cell) then(n,NameKind.cell) else(n,k)).lookup y=some .cell \/
   (l.map fun(n,k)=>if(k == NameKind.free&&env.scope.kind == .function&&env.kindOf n == some .cell) then(n,NameKind.cell) else(n,k)).lookup y=some .free):=by
  intro l
  induction l with
  |nil=>intro h;simp at h
  |cons p r ih =>
   obtain⟨n,k⟩:=p
   intro h
   by_cases hc:(k == NameKind.free&&env.scope.kind == .function&&env.kindOf n == some .cell)=true
   ·simp only[List.map_cons,if_pos hc]
    cases hx:y == n with
    |true=>simp only[List.lookup_cons,hx];exact .inl trivial
    |false =>
     simp only[List.lookup_cons,hx] at h ⊢
     exact ih h
   ·simp only[List.map_cons,if_neg hc]
    cases hx:y == n with
    |true=>simp only[List.lookup_cons,hx] at h ⊢;exact .inr h
    |false =>
     simp only[List.lookup_cons,hx] at h ⊢
     exact ih h
 exact key scope.names h
structure bQ (X:Cx) (scope:Scope) (cl:List (Str × Addr)) (T:List Str) (caps:List Nat) (cn:List Str):Prop where
 kind:scope.kind=.function
 Ii:closureFor scope X.env=pure cl
 FU:∀y∈scope.names,y.2≠.cell
 names:∀y∈scope.names,y.2=.local->scope.names.lookup y.1=some .local
 sub:∀y c,cl.lookup y=some c->X.env.cells.lookup y=some c
 has:∀y,scope.names.lookup y=some .free->∃c,cl.lookup y=some c
 L5:Paired (fun(j:Nat) (y:Str)=>X.N[j]?=some y/\(X.env.kindOf y=some .cell\/X.env.kindOf y=some .free)/\scope.names.lookup y=some .free) caps cn
def zk (n:Nat)(caps:List Nat)(σ:St):St:=List.replicate n none++caps.map λj=>(σ[j]?).getD none
def Le (σ σ':St):Prop:=σ.length=σ'.length/\∀(i:Nat) v,σ[i]?=some (some v)->σ'[i]?=some (some v)
theorem Le.one {r:St}{x:Option V}:Le (none::r) (x::r):=⟨rfl,λi v h=>by
 cases i with
 |zero=>simp at h
 |succ i=>simpa using h⟩
def xV (X:Cx)(ifs:List Expr)(t:TT):Prop :=
 ∀(pins:List (Addr × Obj)) (s:Shared) (σ:St) (H:Hp) (Q:Bool->Hp->Prop),Inv X pins σ H s->t σ H Q ->
  wpAny (model X.prog X.w) X.A (forIn ifs true λc r=>if r=true then do let ok <- isTrue c X.env (eval c X.env);pure (ForInStep.yield ok) else pure (ForInStep.yield r)) (TP X pins σ Q) X.xe s
def Ll:TT:=λ_ H Q=>Q true H
theorem EK {X:Cx}:xV X [] Ll:=λpins s σ H Q I h=>wpAny_tests_nil ⟨H,I,h⟩
theorem EL {X:Cx}{c:Expr}{t:TT}(h:PT X c t):xV X [c] t:=λpins s σ H Q I q=>wpAny_tests_one (h pins s σ H Q I q)
theorem rz {prog:Program}{w:World}{A:Around}{R:Result->Shared->Prop}{s:Shared}{elt target iter:Expr}{ifs:List Expr}{scope:Scope}{pos:Pos}{it acc:Value}{env:Env}(I:Nat->Shared->Prop)
  (turn:∀n s,I n s->wpAny (model prog w) A (pyNext it) (λr s₁=>match r with
   |none=>R (.ok .next) s₁
   |some v=>wpAny (model prog w) A (letOwnedTupleGo target it v) (λ_ s₀=>wpAny (model prog w) A (assign target env v) (λ_ s₂ =>
     wpAny (model prog w) A (forIn ifs true λc r=>if r=true then do let ok <- isTrue c env (eval c env);pure (ForInStep.yield ok) else pure (ForInStep.yield r)) (λok s₃ =>
      if ok=true then wpAny (model prog w) A (eval elt env) (λx s₄ =>
       wpAny (model prog w) A (call (.builtin "list.append") [acc,x]) (λ_ s₅=>∃m,m<n/\I m s₅) (λ_ _=>False) s₄) (λ_ _=>False) s₃
      else ∃m,m<n/\I m s₃) (λ_ _=>False) s₂) (λ_ _=>False) s₀) (λ_ _=>False) s₁) (λ_ _=>False) s)
  (n:Nat)(h:I n s) :
  codeAny (model prog w) A (.compLoop (.ListComp elt [⟨target,iter,ifs,0⟩] scope pos) 0 it acc env) R s:=by
 refine codeAny_loop rfl I (λn s hI=>?_) n h
 show wpAny _ A ((compTurn (.ListComp elt [⟨target,iter,ifs,0⟩] scope pos) 0 it acc env).onRaise (λx=>do noteFrame x env;theTreesLotGoes x)) _ _ s
 refine wpAny_noted ?_
 rw[compTurn_list]
 refine wpAny_bind (wpAny_standAt (wpAny_bind (wpAny_mono (turn n s hI) (λr s₁ h₁=>?_) λ_ _ h'=>h'.elim)))
 cases r with
 |none=>exact wpAny_pure h₁
 |some v =>
  refine wpAny_bind (wpAny_mono h₁ (λ_ s₀ h₀=>?_) λ_ _ h'=>h'.elim)
  refine wpAny_bind (wpAny_mono h₀ (λ_ s₂ h₂=>wpAny_bind (wpAny_mono h₂ (λok s₃ h₃=>?_) λ_ _ h'=>h'.elim)) λ_ _ h'=>h'.elim)
  cases ok with
  |false=>exact wpAny_pure ⟨rfl,h₃⟩
  |true =>
   exact wpAny_bind (wpAny_bind (wpAny_mono h₃ (λx s₄ h₄=>wpAny_bind (wpAny_mono h₄ (λ_ s₅ h₅=>wpAny_pure (wpAny_pure ⟨rfl,h₅⟩)) λ_ _ h'=>h'.elim)) λ_ _ h'=>h'.elim))
section
variable {X:Cx}{scope:Scope}{cl:List (Str × Addr)}{T cn:List Str}{caps:List Nat}{pins:List (Addr × Obj)}{σ:St}{H2:Hp}{s2:Shared}{C:Addr}{h₁:Heap}{tk:Nat}{fp:List Addr}{ix:Addr}
theorem v_ (S:bQ X scope cl T caps cn)(I2:Inv X pins σ H2 s2)(f2:∀b∈fp,kZ X pins H2 b)(fo:∀b∈fp,b<s2.heap.objs.size)
  (hC:C=s2.heap.objs.size+1)(old:∀b o,s2.heap.get? b=some o->h₁.get? b=some o)(hacc:∃n,h₁.get? s2.heap.objs.size=some { cls:=.type "list",data:=.seq #[] n })(hns:h₁.Ns C λ_=>none) :
  Inv (ao X scope cl C (T++cn) fp s2 H2) [] (zk T.length caps σ) (upd H2 s2.heap.objs.size (.lst [])) { s2 with heap:=h₁,toks:=tk }:=by
 have hfr:H2 s2.heap.objs.size=none:=I2.fresh
 have lt_of:∀y c,cl.lookup y=some c->c<s2.heap.objs.size:=λy c e=>by
  obtain⟨v,o,ho,_⟩:=I2.cell y c (S.sub y c e)
  exact Heap.lt_size ho
 refine⟨⟨I2.ok.mod,S.kind,I2.ok.glob,I2.ok.blt,by show s2.heap.objs.size<=C;rw[hC];exact Nat.le_succ _,λy z c h1 h2=>I2.ok.inj y z c (S.sub y c h1) (S.sub z c h2),λy hy=>S.has y (tV S.FU hy),λy c hf _=>(Bool.false_ne_true hf).elim,
  I2.ok.hd,I2.ok.frames,.inl rfl,λb hb=>⟨?_,λy c e=>?_⟩,I2.bs,Nat.le_trans I2.ok.Cn I2.sz,λb o e hb=>?_,λb hb hs=>?_,I2.stack,I2.yM⟩,rfl,I2.bare,Un.laid old (Nat.le_refl _) hfr,⟨_,hns,λi y v e1 e2 e3=>?_⟩,λy c e=>?_,?_,λy c e=>?_,λp hp=>?_,I2.bg.laid old (Nat.le_refl _) ?_,?_⟩
 ·show b≠C
  rw[hC]
  exact Nat.ne_of_lt (Nat.lt_succ_of_lt (fo b hb))
 ·exact(f2 b hb).2.2.2.2.1 y c (S.sub y c e)
 ·have h0:=I2.ok.bs b o e
  rcases(f2 b hb).2.2.2.1 with z|z
  ·exact I2.ok.wm b o e z
  ·exact absurd (Nat.lt_of_lt_of_le (Heap.lt_size h0.1) z) (Nat.lt_irrefl _)
 ·rcases List.mem_cons.mp (I2.tw b hs) with z|z
  ·exact(f2 b hb).2.1 z
  ·exact(f2 b hb).2.2.1 z
 ·-- the slots
  have hT:T.length<=i:=by
   by_cases hi:i<T.length
   ·unfold zk at e2
    rw[List.getElem?_append_left (by simpa using hi),List.getElem?_replicate] at e2
    split at e2<;>cases e2
   ·omega
  obtain⟨k,rfl⟩:∃k,i=T.length+k:=⟨i - T.length,by omega⟩
  have e1':cn[k]?=some y:=by
   have q:(T++cn)[T.length+k]?=some y:=e1
   rw[List.getElem?_append_right (by omega)] at q
   simpa using q
  have e2':(caps.map λj=>(σ[j]?).getD none)[k]?=some (some v):=by
   unfold zk at e2
   rw[List.getElem?_append_right (by simp)] at e2
   simpa using e2
  have pr:∀{cs:List Nat} {ns:List Str} {k:Nat},Paired (fun(j:Nat) (y:Str)=>X.N[j]?=some y/\(X.env.kindOf y=some .cell\/X.env.kindOf y=some .free)/\scope.names.lookup y=some .free) cs ns ->
    ns[k]?=some y->(cs.map λj=>(σ[j]?).getD none)[k]?=some (some v)->∃(j:Nat),X.N[j]?=some y/\(X.env.kindOf y=some .cell\/X.env.kindOf y=some .free)/\scope.names.lookup y=some .free/\σ[j]?=some (some v):=by
   intro cs ns k p
   induction p generalizing k with
   |nil=>intro q;simp at q
   |cons a t ih =>
    rename_i j0 y0 l1 l2
    cases k with
    |zero =>
     intro q1 q2
     simp at q1 q2
     subst q1
     refine⟨j0,a.1,a.2.1,a.2.2,?_⟩
     cases e:σ[j0]? with
     |none=>rw[e] at q2;simp at q2
     |some z=>rw[e] at q2;simp at q2;rw[q2]
    |succ k=>intro q1 q2;exact ih (by simpa using q1) (by simpa using q2)
  obtain⟨j,n1,kd,fr,sv⟩:=pr S.L5 e1' e2'
  obtain⟨m,hn,hl⟩:=I2.loc
  obtain⟨u,r,lk⟩:=hl j y v n1 sv (by rcases kd with z|z;exact .inr (.inl z);exact .inr (.inr z))
  refine⟨u,r,.inr ⟨sR fr,?_⟩⟩
  obtain⟨c,hc⟩:=S.has y fr
  rcases lk with⟨z,_⟩|⟨_,c',hc',hcell⟩
  ·rcases kd with q|q<;>(rw[z] at q;cases q)
  ·have:c=c':=by
    have:=S.sub y c hc
    rw[hc'] at this
    exact(Option.some.inj this).symm
   subst this
   obtain⟨o,ho,hd⟩:=hcell
   exact⟨c,hc,o,old c o ho,hd⟩
 ·obtain⟨v,o,ho,hd⟩:=I2.cell y c (S.sub y c e)
  exact⟨v,o,old c o ho,hd⟩
 ·show upd H2 s2.heap.objs.size (.lst []) C=none
  rw[aN (by rw[hC];exact Nat.succ_ne_self _)]
  exact I2.bg.fresh (by rw[hC];exact Nat.le_succ _)
 ·rw[aN (Nat.ne_of_lt (lt_of y c e))]
  exact I2.eW y c (S.sub y c e)
 ·exact absurd (show p∈([]:List (Addr × Obj)) from hp) (by simp)
 ·obtain⟨n,e⟩:=hacc
  exact⟨Nat.zero_le _,[],n,.nil,e⟩
 ·have hp:∀{cs:List Nat} {ns:List Str} {F:Nat->Str->Prop},Paired F cs ns->cs.length=ns.length:=λp=>Paired.length p
  show(zk T.length caps σ).length=(T++cn).length
  unfold zk
  rw[List.length_append,List.length_replicate,List.length_map,List.length_append,hp S.L5]
theorem AW (I2:Inv X pins σ H2 s2)(f2:∀b∈fp,kZ X pins H2 b)(hC:s2.heap.objs.size<=C){N:List Str}{σ':St}{H':Hp}{s':Shared}(J:Inv (ao X scope cl C N fp s2 H2) [] σ' H' s') :
  ∃oC m,s'.heap.get? C=some oC/\s'.heap.Ns C m/\Inv X (pins++[(C,oC)]) σ H' s'/\kZ X pins H' C:=by
 obtain⟨m,hn,_⟩:=J.loc
 obtain⟨oC,es,ep,ho,hd,hrest⟩:=id hn
 have I3:Inv X pins σ H' s':=I2.AO (ch:=fp) J.os J.base J.bg J.bare λb hb=>⟨(f2 b hb).2.2.2.1,(f2 b hb).2.1,(f2 b hb).2.2.2.2.1,(f2 b hb).2.2.2.2.2⟩
 have fC:kZ X pins H' C:=I2.DG hC J.free
 refine⟨oC,m,ho,hn,I3.tQ λp hp=>?_,fC⟩
 rcases List.mem_append.mp hp with z|z
 ·exact I3.pin p (List.mem_append_right _ z)
 ·have e:p=(C,oC):=by simpa using z
  subst e
  exact⟨ho,fC.1,fC.2.1,fC.2.2.1,λv q=>by rw[hd] at q;cases q⟩
end
def Ez (J:It)(D:Addr)(H1:Hp)(σ0:St)(g:TG)(tt:TT)(te:TE)(Q:VK):Prop:=∃W:Nat->Nat->List V->Hp->Prop,(∃m,W 0 m [] (upd H1 D (.lst []))) /\
 ∀i m ys H,W i m ys H->H D=some (.lst ys)/\((J.stop i H/\Q (.ref D) H)\/(J.go i H/\∀x H',J.AH i H x H'->g x σ0 H' λσ2 H2=>Le σ0 σ2/\tt σ2 H2 λb H3 =>
  if b=true then te σ2 H3 λy H4=>H4 D=some (.lst ys)/\ys.length<sizeLine/\∃m',m'<m/\W (i+1) m' (ys++[y]) (upd H4 D (.lst (ys++[y]))) else ∃m',m'<m/\W (i+1) m' ys H3))
def rQ (n:Nat)(caps:List Nat)(wi:TI)(g:TG)(tt:TT)(te:TE):TE:=λσ H Q=>wi σ H λJ H1=>∀D,H1 D=none->Ez J D H1 (zk n caps σ) g tt te Q
section
variable {X:Cx}{scope:Scope}{cl:List (Str × Addr)}{T cn:List Str}{caps:List Nat}{elt tg iter:Expr}{ifs:List Expr}{wi:TI}{g:TG}{tt:TT}{te:TE}{pos:Pos}
theorem pF (S:bQ X scope cl T caps cn)(hc:X.calm=true)(hg:∀C fp s₂ H₂,PG (ao X scope cl C (T++cn) fp s₂ H₂) tg g)(ht:∀C fp s₂ H₂,xV (ao X scope cl C (T++cn) fp s₂ H₂) ifs tt)
  (he:∀C fp s₂ H₂,PE (ao X scope cl C (T++cn) fp s₂ H₂) elt te){pins:List (Addr × Obj)}{σ:St}{H2:Hp}{s2:Shared}{it:Addr}{fp:List Addr}{tn:Nat->Heap->Prop}{J:It}{E:Value->Shared->Prop}{Q:VK}
  {RR:Value->Addr->Result->Shared->Prop}(I2:Inv X pins σ H2 s2)(Tn:Turn X.prog X.w X.K tg J fp it tn)(st2:tn 0 s2.heap)(f2:∀b∈fp,kZ X pins H2 b)
  (q:∀D,H2 D=none->Ez J D H2 (zk T.length caps σ) g tt te Q)
  (fin:∀D C oC m H' s',Inv X (pins++[(C,oC)]) σ H' s'->s'.heap.get? C=some oC->s'.heap.Ns C m->kZ X pins H' C->Q (.ref D) H'->RR (.ref D) C (.ok .next) s') :
  wpAny (model X.prog X.w) X.A (newList []) (λacc s₃=>wpAny (model X.prog X.w) X.A (newFunctionEnv scope X.env.globals cl [] X.env.qual none .none (some X.env)) (λcenv s₄ =>
   codeAny (model X.prog X.w) X.A (.compStart (.ListComp elt [⟨tg,iter,ifs,0⟩] scope pos) 0 (.ref it) acc { cenv with scope:=relabel scope X.env }) (RR acc cenv.locals) s₄) E s₃) E s2:=by
 refine wpAny_newObj_type (wpAny_newFunctionEnv S.FU (by intro y hy;simp at hy) (λh₁ hns₁ hsb₁=>?_) S.kind)
 dsimp only at hns₁ hsb₁ ⊢
 generalize hH2:s2.heap.push { cls:=.type "list",dict:=none,data:=.seq ([]:List Value).toArray }=G2 at hns₁ hsb₁ ⊢
 have hC:G2.objs.size=s2.heap.objs.size+1:=by rw[<- hH2,Heap.size_push]
 have hDC:s2.heap.objs.size≠G2.objs.size:=by omega
 have old:∀b o,s2.heap.get? b=some o->h₁.get? b=some o:=λb o e=>hsb₁.extBut b o (by rw[hC];exact Nat.ne_of_lt (Nat.lt_succ_of_lt (Heap.lt_size e))) (Heap.get?_push_of_some _ (hH2 ▸ Heap.get?_push_of_some _ e))
 have hacc:∃n,h₁.get? s2.heap.objs.size=some { cls:=.type "list",data:=.seq #[] n }:=⟨_,hsb₁.extBut _ _ hDC (Heap.get?_push_of_some _ (hH2 ▸ Heap.get?_push_size _ rfl))⟩
 have fo:∀b∈fp,b<s2.heap.objs.size:=λb hb=>by
  obtain⟨o,e,_⟩:=Tn.obj 0 _ st2 b hb
  exact Heap.lt_size e
 obtain⟨W,⟨m0,w0⟩,turn⟩:=q s2.heap.objs.size I2.fresh
 have st1:tn 0 h₁:=Tn.keep 0 _ _ st2 λb hb o e=>old b o e
 have fr0:∀b∈fp,upd H2 s2.heap.objs.size (.lst []) b=none:=λb hb=>by rw[aN (Nat.ne_of_lt (fo b hb))];exact(f2 b hb).1
 have loop:∀s₃:Shared,s₃={ s2 with heap:=h₁,toks:=s2.toks+([]:List (Str × Value)).length } ->
   codeAny (model X.prog X.w) X.A (.compLoop (.ListComp elt [⟨tg,iter,ifs,0⟩] scope pos) 0 (.ref it) (.ref s2.heap.objs.size) (compEnvC scope cl G2.objs.size X.env)) (RR (.ref s2.heap.objs.size) G2.objs.size) s₃:=by
  intro s₃ hs3
  have I0:Inv (ao X scope cl G2.objs.size (T++cn) fp s2 H2) [] (zk T.length caps σ) (upd H2 s2.heap.objs.size (.lst [])) s₃:=by
   rw[hs3]
   exact v_ S I2 f2 fo hC old hacc (by simpa using hns₁)
  have st3:tn 0 s₃.heap:=by rw[hs3];exact st1
  have stat:∀{H':Hp},(∀b∈fp,H' b=none)->∀b∈fp,kZ (ao X scope cl G2.objs.size (T++cn) fp s2 H2) [] H' b:=fun{H'} hn b hb=>by
   refine⟨hn b hb,?_,λhs=>?_,.inl hb,λy c e=>(f2 b hb).2.2.2.2.1 y c (S.sub y c e),λp hp=>absurd (show p∈([]:List (Addr × Obj)) from hp) (by simp)⟩
   ·show b≠G2.objs.size
    rw[hC]
    exact Nat.ne_of_lt (Nat.lt_succ_of_lt (fo b hb))
   ·rcases List.mem_cons.mp (I2.tw b hs) with z|z
    ·exact(f2 b hb).2.1 z
    ·exact(f2 b hb).2.2.1 z
  refine rz (λn s'=>∃i ys H',Inv (ao X scope cl G2.objs.size (T++cn) fp s2 H2) [] (zk T.length caps σ) H' s'/\tn i s'.heap/\(∀b∈fp,H' b=none)/\W i n ys H') ?_ m0 ⟨0,[],_,I0,st3,fr0,w0⟩
  rintro n s4 ⟨i,ys,H4,I4,st4,fr4,w4⟩
  obtain⟨hD,tr⟩:=turn i n ys H4 w4
  rcases tr with⟨stop,qn⟩|⟨go,step⟩
  ·refine br (Tn.done (ao X scope cl G2.objs.size (T++cn) fp s2 H2) rfl rfl rfl hc i [] s4 (zk T.length caps σ) H4 (λ_ _=>False) I4 (stat fr4) st4 stop) λr s5 ⟨hr,I5⟩=>?_
   subst hr
   obtain⟨oC,m,a1,a2,a3,a4⟩:=AW I2 f2 (by omega) I5
   exact fin _ _ oC m H4 s5 a3 a1 a2 a4 qn
  ·refine br (Tn.item (ao X scope cl G2.objs.size (T++cn) fp s2 H2) rfl rfl rfl hc i [] s4 (zk T.length caps σ) H4 (λ_ _=>False) I4 (stat fr4) st4 go) λr s5 ⟨u,hr,h5⟩=>?_
   subst hr
   refine br h5 λ_ s6 ⟨x,H6,I6,r6,y6,st6,fr6⟩=>?_
   have I6':=I6.pinned (stat fr6) (Tn.obj _ _ st6)
   refine br (hg _ fp s2 H2 _ s6 _ H6 x u _ I6' r6 (step x H6 y6)) λ_ s7 ⟨σ7,H7,I7,le7,q7⟩=>?_
   have again:∀{σ8:St} {H8:Hp} {s8:Shared} {zs:List V} {m':Nat},Le (zk T.length caps σ) σ8->Inv (ao X scope cl G2.objs.size (T++cn) fp s2 H2) ([]++ly fp s6.heap) σ8 H8 s8->m'<n->W (i+1) m' zs H8 ->
     ∃m,m<n/\∃i ys H',Inv (ao X scope cl G2.objs.size (T++cn) fp s2 H2) [] (zk T.length caps σ) H' s8/\tn i s8.heap/\(∀b∈fp,H' b=none)/\W i m ys H':=fun{σ8 H8 s8 zs m'} le I8 hm w8=>by
    refine⟨m',hm,i+1,zs,H8,I8.hZ.weak le.1 le.2,Tn.keep _ _ _ st6 λb hb o e=>(I8.pin (b,o) (List.mem_append_right _ (List.mem_append_right _ (fv hb e)))).1,λb hb=>?_,w8⟩
    obtain⟨o,e,d⟩:=Tn.obj _ _ st6 b hb
    exact(I8.pin (b,o) (List.mem_append_right _ (List.mem_append_right _ (fv hb e)))).2.1
   refine br (ht _ fp s2 H2 _ s7 σ7 H7 _ I7 q7) λok s8 ⟨H8,I8,q8⟩=>?_
   cases ok with
   |false =>
    rw[if_neg Bool.false_ne_true] at q8 ⊢
    obtain⟨m',hm,w8⟩:=q8
    exact again le7 I8 hm w8
   |true =>
    rw[if_pos rfl] at q8 ⊢
    refine br (he _ fp s2 H2 _ s8 σ7 H8 _ I8 q8) λv9 s9 ⟨y,H9,I9,r9,hD9,hz9,m',hm,w9⟩=>?_
    refine br (ng _ s9 σ7 H9 (.ref s2.heap.objs.size) [y] (.ref s2.heap.objs.size) [v9] (λ_ H=>H=upd H9 s2.heap.objs.size (.lst (ys++[y]))) I9 rfl (.cons r9 .nil) ⟨_,ys,y,rfl,rfl,hD9,hz9,rfl⟩) λ_ s10 ⟨_,H10,I10,_,e10⟩=>?_
    subst e10
    exact again le7 I10 hm w9
 exact codeAny_compStart_list (loop _ rfl) (Tn.self X.A 0 _ _ _ st1 (loop _ rfl))
theorem tP (S:bQ X scope cl T caps cn)(hc:X.calm=true)(hi:PI X tg iter wi)(hg:∀C fp s₂ H₂,PG (ao X scope cl C (T++cn) fp s₂ H₂) tg g)(ht:∀C fp s₂ H₂,xV (ao X scope cl C (T++cn) fp s₂ H₂) ifs tt)
  (he:∀C fp s₂ H₂,PE (ao X scope cl C (T++cn) fp s₂ H₂) elt te)(hs:∀x,foldedSetIterable iter X.env x=pure x:=by intro _;rfl) :
  PE X (.ListComp elt [⟨tg,iter,ifs,0⟩] scope pos) (rQ T.length caps wi g tt te):=by
 intro pins s σ H Q I h
 rw[eval_ListComp]
 refine wpAny_comprehension_free (use:=none) rfl hs S.Ii S.kind S.names (br (hi pins s σ H _ I h) λv s1 h1=>br h1 λitv s2 h2=>?_)
 obtain⟨it,fp,tn,J,H2,e,I2,Tn,st2,f2,q⟩:=h2
 subst e
 refine pF (RR:=λacc C=>compPost (model X.prog X.w) X.A X.xe none (EP X pins σ Q) acc C) S hc hg ht he I2 Tn st2 f2 q λD C oC m H' s' I' ho hn fC qD=>?_
 refine⟨m,hn,λh' hs'=>⟨.ref D,H',?_,rfl,qD⟩⟩
 obtain⟨hp,g,d,t,os⟩:=s'
 exact I'.hZ.turned (λb o hb e=>(hs'.2 b hb).trans e) fC.1 fC.2.1 fC.2.2.2.1 fC.2.2.2.2.1 fC.2.2.2.2.2
def Fi (i:Nat)(t:TE):TS:=λD σ H=>t σ H λx H1=>D.nx (σ.set i (some x)) H1
theorem tS {i:Nat}{y:Str}{py spos:Pos}(hN:X.N.Nodup)(hi':X.N[i]?=some y)(hy:Loc X.env.scope y)(S:bQ X scope cl T caps cn)(hc:X.calm=true)(hi:PI X tg iter wi)
  (hg:∀C fp s₂ H₂,PG (ao X scope cl C (T++cn) fp s₂ H₂) tg g)(ht:∀C fp s₂ H₂,xV (ao X scope cl C (T++cn) fp s₂ H₂) ifs tt)
  (he:∀C fp s₂ H₂,PE (ao X scope cl C (T++cn) fp s₂ H₂) elt te)(hsw:swapsWith (.ListComp elt [⟨tg,iter,ifs,0⟩] scope pos) (some (.Name y py)) spos.line X.env=pure true:=by rfl)
  (hf:X.fn y=true\/X.env.scope.names.lookup y=some .local:=by first|exact .inl rfl|exact .inr rfl|assumption)
  (hs:∀x,foldedSetIterable iter X.env x=pure x:=by intro _;rfl) :
  PS X (.Assign [.Name y py] (.ListComp elt [⟨tg,iter,ifs,0⟩] scope pos) spos) (Fi i (rQ T.length caps wi g tt te)):=by
 intro pins s σ H D I h
 rw[exec_Assign_Name_used _ _ _ _ hsw]
 refine wpAny_bind (wpAny_standAt (wpAny_bind ?_))
 show wpAny _ X.A (do let _ <- comprehension (.ListComp elt [⟨tg,iter,ifs,0⟩] scope pos) scope X.env _ (newList []) false (eval iter X.env) (some (assign (.Name y py) X.env))) _ _ s
 refine wpAny_bind (wpAny_mono (wpAny_comprehension_free (use:=some (assign (.Name y py) X.env)) (Q:=λ_ s'=>SP X pins D .next s') rfl hs S.Ii S.kind S.names
  (br (hi pins s σ H _ I h) λv s1 h1=>br h1 λitv s2 h2=>?_)) (λ_ s' hq=>wpAny_pure (wpAny_pure hq)) λ_ _ e=>e)
 obtain⟨it,fp,tn,J,H2,e,I2,Tn,st2,f2,q⟩:=h2
 subst e
 refine pF (Q:=λx H1=>D.nx (σ.set i (some x)) H1) (RR:=λacc C=>compPost (model X.prog X.w) X.A X.xe (some (assign (.Name y py) X.env)) (λ_ s'=>SP X pins D .next s') acc C) S hc hg ht he I2 Tn st2 f2 q λDd C oC m H' s' I' ho hn fC qD=>?_
 show wpAny _ X.A (assign (.Name y py) X.env (.ref Dd)) _ _ s'
 refine br (bY (i:=i) hN hi' hy hf (pins++[(C,oC)]) s' σ H' (.ref Dd) (.ref Dd) (λσ' H1=>σ'=σ.set i (some (.ref Dd))/\H1=H') I' rfl ⟨rfl,rfl⟩) λ_ s'' ⟨σ'',H'',I'',e1,e2⟩=>?_
 subst e1 e2
 have hoC:s''.heap.get? C=some oC:=(I''.pin (C,oC) (List.mem_append_right _ (List.mem_append_right _ (List.mem_singleton.mpr rfl)))).1
 obtain⟨oC',es,ep,ho',r⟩:=hn
 rw[ho] at ho'
 cases ho'
 refine⟨m,⟨oC,es,ep,hoC,r⟩,λh' hs'=>⟨σ.set i (some (.ref Dd)),H'',?_,qD⟩⟩
 obtain⟨hp,g,d,t,os⟩:=s''
 exact I''.hZ.turned (λb o hb e=>(hs'.2 b hb).trans e) fC.1 fC.2.1 fC.2.2.2.1 fC.2.2.2.2.1 fC.2.2.2.2.2
end
section
variable {X:Cx}
theorem Bd:gU X (compareOp .Is) (λx y H Q=>∃a b,x=.bl a/\y=.bl b/\Q (.bl (a == b)) H):=by
 intro pins s σ H x y v u Q I rx ry h
 obtain⟨a,b,rfl,rfl,q⟩:=h
 cases rx
 cases ry
 exact is_bool (ax I q rfl)
theorem vG:gU X (compareOp .IsNot) (λx y H Q=>∃a b,x=.bl a/\y=.bl b/\Q (.bl (a != b)) H):=by
 intro pins s σ H x y v u Q I rx ry h
 obtain⟨a,b,rfl,rfl,q⟩:=h
 cases rx
 cases ry
 exact isnot_bool (ax I q rfl)
theorem D1:gU X (binaryOp .Mult) (rI IntMulOk λi j=>.int (i*j)):=LQ λ_ _ _ _ _ _ _ hc q=>mul_int q hc
end
mutual
inductive lT (K:PySem.W.Frag) (H:Hp):V->PyData->Prop
 |ag:lT K H .ag .none
 |bl (b:Bool):lT K H (.bl b) (.bool b)
 |int (i:Int):lT K H (.int i) (.int i)
 |str (x:Str):lT K H (.str x) (.str x)
 |lst {a:Addr} {xs:List V} {ds:List PyData}:fG K H a xs->i4 K H xs ds->lT K H (.ref a) (.list ds)
 |tup {a:Addr} {xs:List V} {ds:List PyData}:iz K H a xs->i4 K H xs ds->lT K H (.ref a) (.tuple ds)
inductive i4 (K:PySem.W.Frag) (H:Hp):List V->List PyData->Prop
 |nil:i4 K H [] []
 |cons {x:V} {d:PyData} {xs:List V} {ds:List PyData}:lT K H x d->i4 K H xs ds->i4 K H (x::xs) (d::ds)
end
theorem IsTup.of_get {h:Heap}{a:Addr}{its:Array Value}(p:IsTup h a its):∃o n,h.get? a=some o/\o.cls=.type "tuple"/\o.data=.seq its n:=by
 obtain⟨o,h1,h2,n,h3⟩:=p
 exact⟨o,n,h1,h2,h3⟩
mutual
theorem lT.reads {X:Cx}{pins:List (Addr × Obj)}{σ:St}{H:Hp}{s:Shared}(I:Inv X pins σ H s):∀{v:V} {d:PyData} {u:Value},lT X.K H v d->RelV v u->∃as,Reads s.heap u d as
 |_,_,u,.ag,r=>by cases(show u=Value.none from r);exact⟨_,.none⟩
 |_,_,u,.bl b,r=>by cases(show u=Value.bool b from r);exact⟨_,.bool b⟩
 |_,_,u,.int i,r=>by obtain⟨t,q⟩:=(show ∃t,u=Value.int i t from r);cases q;exact⟨_,.int i t⟩
 |_,_,u,.str x,r=>by obtain⟨t,q⟩:=(show ∃t,u=Value.str x t from r);cases q;exact⟨_,.str x t⟩
 |_,_,u,@lT.lst _ _ a xs ds h1 h2,r=>by
  cases(show u=Value.ref a from r)
  obtain⟨its,rv,pl,_⟩:=I.list h1
  obtain⟨as,q⟩:=i4.reads I h2 rv
  obtain⟨o,n,e1,e2,_,e3⟩:=pl
  exact⟨_,reads_list_at e1 e2 e3 (by simpa using q)⟩
 |_,_,u,@lT.tup _ _ a xs ds h1 h2,r=>by
  cases(show u=Value.ref a from r)
  obtain⟨its,rv,pl,_⟩:=I.tuple h1
  obtain⟨as,q⟩:=i4.reads I h2 rv
  obtain⟨o,n,e1,e2,e3⟩:=IsTup.of_get pl
  exact⟨_,reads_tuple_at e1 e2 e3 (by simpa using q)⟩
theorem i4.reads {X:Cx}{pins:List (Addr × Obj)}{σ:St}{H:Hp}{s:Shared}(I:Inv X pins σ H s):∀{vs:List V} {ds:List PyData} {us:List Value},i4 X.K H vs ds->Vals vs us->∃as,ReadsAll s.heap us ds as
 |_,_,us,.nil,r=>by cases r;exact⟨_,.nil⟩
 |_,_,us,.cons h1 h2,r=>by
  cases r with
  |cons r1 r2 =>
   obtain⟨as,q⟩:=lT.reads I h1 r1
   obtain⟨bs,p⟩:=i4.reads I h2 r2
   exact⟨_,.cons q p⟩
end
def ER (K:PySem.W.Frag)(neg:Bool):R2:=λx y H Q=>∃d e,lT K H x d/\lT K H y e/\SeqAt.shaped d=true/\SeqAt.shaped e=true/\Q (.bl (if neg then !PyData.eqv d e else PyData.eqv d e)) H
section
variable {X:Cx}
theorem Bc (hu:X.A.units+64<cLine):gU X (compareOp .Eq) (ER X.K false):=by
 intro pins s σ H x y v u Q I rx ry h
 obtain⟨d,e,hx,hy,sx,sy,q⟩:=h
 obtain⟨as,p1⟩:=hx.reads I rx
 obtain⟨bs,p2⟩:=hy.reads I ry
 exact eq_dataH p1 p2 sx sy hu ⟨.bl _,H,I,rfl,q⟩
theorem Bf (hu:X.A.units+64<cLine):gU X (compareOp .NotEq) (ER X.K true):=by
 intro pins s σ H x y v u Q I rx ry h
 obtain⟨d,e,hx,hy,sx,sy,q⟩:=h
 obtain⟨as,p1⟩:=hx.reads I rx
 obtain⟨bs,p2⟩:=hy.reads I ry
 exact ne_dataH p1 p2 sx sy hu ⟨.bl _,H,I,rfl,q⟩
theorem yZ {bs:List Bool}:∀{us:List Value},Vals (bs.map V.bl) us->∀(i:Nat) (v:Value),us[i]?=some v->∃b,bs[i]?=some b/\v=.bool b:=by
 intro us r i v e
 have hl:=r.length
 rw[List.length_map] at hl
 have hi:i<us.length:=(List.getElem?_eq_some_iff.mp e).1
 have hb:bs[i]?=some bs[i]:=List.getElem?_eq_getElem (by omega)
 obtain⟨u,h1,h2⟩:=r.get (i:=i) (x:=V.bl bs[i]) (by rw[List.getElem?_map,hb];rfl)
 rw[e] at h1
 cases h1
 exact⟨_,hb,h2⟩
theorem w_ (bs:List Bool):((List.range bs.length).all λi=>(bs[i]?).getD true)=bs.all id:=PyProof.Rows.LSm.range_all bs
theorem AQ:ki X (.builtin "all") (λxs H Q=>∃(p:Addr) (bs:List Bool),xs=[.ref p]/\X.A.handled=none/\fG X.K H p (bs.map V.bl)/\Q (.bl (bs.all id)) H):=by
 intro pins s σ H xs us Q I r h
 obtain⟨p,bs,rfl,hh,hS,q⟩:=h
 obtain⟨u,rfl,ru⟩:=vals1 r
 cases(show u=Value.ref p from ru)
 obtain⟨its,rv,pl,_⟩:=I.list hS
 have hl:=pl.isList
 have hlt:p<s.heap.objs.size:=pl.lt
 have hb:=yZ rv
 have hlen:its.length=bs.length:=by have:=rv.length;rw[List.length_map] at this;exact this.symm
 refine call_all_walk (wpAny_pyIter_list hl ?_)
 refine⟨s.heap.objs.size,[s.heap.objs.size,p],[s.heap.objs.size],its.toArray.size,_,_,λi=>(bs[i]?).getD true,rfl,Walks.list (A:=X.A.in1) hh _ p (Nat.ne_of_lt hlt) its.toArray,
  ⟨⟨_,Heap.get?_push_size _ rfl,rfl,rfl⟩,hl.push _⟩,λi v s' Q' E' hP hQ=>?_,λh' tk hk=>?_⟩
 ·obtain⟨b,e,rfl⟩:=hb i v (by simpa using hP)
  simp only[e,Option.getD_some] at hQ
  exact wpAny_truthy_bool hQ
 ·have e:((List.range its.toArray.size).all λi=>(bs[i]?).getD true)=bs.all id:=by
   rw[List.size_toArray,hlen];exact w_ bs
  rw[e]
  exact⟨.bl (bs.all id),H,I.kept (PyProof.Rows.LSm.kept_iter hk),rfl,q⟩
end
section
variable {X:Cx}{a b c:Expr}{ta tb:TE}{pos:Pos}{k:Int}{op op':CmpOp}{p p':Int->Int->Bool}
end
theorem af {H:Hp}{p:Addr}{o:HO}(h:H p=none):aJ H (upd H p o):=λb u e=>by
 rw[aN (ah e h)]
 exact e
theorem PE.imp {X:Cx}{e:Expr}{t t':TE}(h:PE X e t)(f:∀ σ H Q,t' σ H Q->t σ H Q):PE X e t':=λpins s σ H Q I q=>h pins s σ H Q I (f σ H Q q)
def Kt (x:Str):It:=⟨λi _=>i<x.cps.size,λi H v H'=>H'=H/\∃c,x.cps[i]?=some c/\v=.str ⟨#[c]⟩,λi _=>x.cps.size<=i⟩
theorem zw {P:Program}{w:World}{K:PySem.W.Frag}{tg:Expr}(x:Str)(t:Tok)(it:Addr):Turn P w K tg (Kt x) [it] it (λi h=>h.IsStrIter it "str_ascii_iterator" x t i) where
 mem:=by simp
 obj:=λi h st b hb=>by
  have e:b=it:=by simpa using hb
  subst e
  obtain⟨o,e,c,d⟩:=st
  exact⟨o,e,λv z=>by rw[d] at z;cases z⟩
 keep:=λi h h' st k=>by
  obtain⟨o,e,r⟩:=st
  exact⟨o,k it (by simp) o e,r⟩
 item:=by
  intro X hP hw hK hc i pins s σ H E I hf st hg
  subst hP hw hK
  obtain⟨f0,f1,f2,f3,f4,f5⟩:=hf it (by simp)
  have hi:i<x.cps.size:=hg
  refine wpAny_pyNext_ascii_item st (c:=x.cps[i]) (by simp[hi]) λh' st' sb=>?_
  have I1:Inv X pins σ H { s with heap:=h',toks:=s.toks+1 }:=I.turned (λb o hb e=>(sb.2 b hb).trans e) f0 f1 f3 f4 f5
  obtain⟨o,e,c,d⟩:=id st'
  exact⟨_,rfl,um (s:={ s with heap:=h',toks:=s.toks+1 }) e c d (by decide) ⟨.str ⟨#[x.cps[i]]⟩,H,I1,⟨_,rfl⟩,⟨rfl,_,by simp[hi],rfl⟩,st',λb hb=>(hf b hb).1⟩⟩
 done:=by
  intro X hP hw hK hc i pins s σ H E I hf st hg
  subst hP hw hK
  obtain⟨f0,f1,f2,f3,f4,f5⟩:=hf it (by simp)
  have hi:x.cps.size<=i:=hg
  exact wpAny_pyNext_ascii_end (I.ok.hd hc) st (by simp[hi]) λh' eb=>⟨rfl,I.turned (t':=s.toks) (λb o hb e=>eb b o hb e) f0 f1 f3 f4 f5⟩
 self:=λ_ _ _ _ _ st h=>wpAny_pyIter_striter_ascii st h
theorem zx {P:Program}{w:World}{K:PySem.W.Frag}{tg:Expr}(x:Str)(t:Tok)(it:Addr):Turn P w K tg (Kt x) [it] it (λi h=>h.IsStrIter it "str_iterator" x t i) where
 mem:=by simp
 obj:=λi h st b hb=>by
  have e:b=it:=by simpa using hb
  subst e
  obtain⟨o,e,c,d⟩:=st
  exact⟨o,e,λv z=>by rw[d] at z;cases z⟩
 keep:=λi h h' st k=>by
  obtain⟨o,e,r⟩:=st
  exact⟨o,k it (by simp) o e,r⟩
 item:=by
  intro X hP hw hK hc i pins s σ H E I hf st hg
  subst hP hw hK
  obtain⟨f0,f1,f2,f3,f4,f5⟩:=hf it (by simp)
  have hi:i<x.cps.size:=hg
  refine wpAny_pyNext_wide_item st (c:=x.cps[i]) (by simp[hi]) λh' st' sb=>?_
  have I1:Inv X pins σ H { s with heap:=h',toks:=s.toks+1 }:=I.turned (λb o hb e=>(sb.2 b hb).trans e) f0 f1 f3 f4 f5
  obtain⟨o,e,c,d⟩:=id st'
  exact⟨_,rfl,um (s:={ s with heap:=h',toks:=s.toks+1 }) e c d (by decide) ⟨.str ⟨#[x.cps[i]]⟩,H,I1,⟨_,rfl⟩,⟨rfl,_,by simp[hi],rfl⟩,st',λb hb=>(hf b hb).1⟩⟩
 done:=by
  intro X hP hw hK hc i pins s σ H E I hf st hg
  subst hP hw hK
  obtain⟨f0,f1,f2,f3,f4,f5⟩:=hf it (by simp)
  have hi:x.cps.size<=i:=hg
  exact wpAny_pyNext_wide_end (I.ok.hd hc) st (by simp[hi]) λh' eb=>⟨rfl,I.turned (t':=s.toks) (λb o hb e=>eb b o hb e) f0 f1 f3 f4 f5⟩
 self:=λ_ _ _ _ _ st h=>wpAny_pyIter_striter_wide st h
section
variable {X:Cx}{tg:Expr}
end
theorem rg:∀l:List (Str × Tok),Vals ((l.map (·.1)).map V.str) (strValues l)
 |[]=>.nil
 | (x,t)::r=>.cons ⟨t,rfl⟩ (rg r)
theorem zz (tk:Nat)(ws:List Str):Vals (ws.map V.str) (strsFrom tk ws):=by
 have h:=rg (numbered tk ws)
 rw[numbered_texts,<- strsFrom_eq] at h
 exact h
section
variable {X:Cx}
open Builtin Builtin.Str in
theorem BW:E5 X "str.split" (λx vs H Q=>∃z y,x=.str z/\vs=[.str y]/\(y.length == 0)=false/\z.length+2<=sizeLine/\∀p,H p=none->Q (.ref p) (upd H p (.lst ((Txt.split z y).map V.str)))):=by
 intro pins s σ H x vs v us Q I rx rv h
 obtain⟨z,y,rfl,rfl,hy,hz,q⟩:=h
 obtain⟨t,rfl⟩:=rx
 obtain⟨w',rfl,u,rfl⟩:=rv.one
 have hle:(Txt.split z y).length<=sizeLine:=Nat.le_trans (split_le z y) hz
 have hz0:z.length<=sizeLine:=by omega
 have q:=q s.heap.objs.size I.fresh
 cases h1:(decide (z.length<y.length)||decide (strKind z<strKind y)) with
 |true =>
  have e:Txt.split z y=[z]:=if_pos h1
  rw[e] at q
  refine call_meets F.slot_str_split (typeIs_str _ _ _) F.entry_str_split (F.args_str_split_2 _ _) (meets_str_split_cannot_occur z y t u h1) ?_
  exact⟨.ref s.heap.objs.size,_,I.laid (t':=s.toks) (o:=.lst [.str z]) (λb ob q=>Heap.get?_push_of_some _ q) (Nat.le_refl _) ⟨by show 1<=sizeLine;decide,_,0,.cons ⟨t,rfl⟩ .nil,Heap.get?_push_size _ rfl⟩,rfl,q⟩
 |false =>
  cases hf:(occurrences z y 0 z.length (z.length+1)).isEmpty with
  |true =>
   have e:Txt.split z y=[z]:=(if_neg (ne_true_of_eq_false h1)).trans (if_pos hf)
   rw[e] at q
   refine call_meets F.slot_str_split (typeIs_str _ _ _) F.entry_str_split (F.args_str_split_2 _ _) (meets_str_split_not_found z y t u h1 hy hf) ?_
   exact⟨.ref s.heap.objs.size,_,I.laid (t':=s.toks) (o:=.lst [.str z]) (λb ob q=>Heap.get?_push_of_some _ q) (Nat.le_refl _) ⟨by show 1<=sizeLine;decide,_,0,.cons ⟨t,rfl⟩ .nil,Heap.get?_push_size _ rfl⟩,rfl,q⟩
  |false =>
   have e:Txt.split z y=partsBetween z (occurrences z y 0 z.length (z.length+1)) y.length:=(if_neg (ne_true_of_eq_false h1)).trans (if_neg (ne_true_of_eq_false hf))
   rw[e] at q hle
   refine call_meets F.slot_str_split (typeIs_str _ _ _) F.entry_str_split (F.args_str_split_2 _ _) (meets_str_split_sep z y t u h1 hy hf hz0 hle) ?_
   exact⟨.ref s.heap.objs.size,_,I.laid (o:=.lst ((partsBetween z (occurrences z y 0 z.length (z.length+1)) y.length).map V.str)) (λb ob q=>Heap.get?_push_of_some _ q) (Nat.le_refl _)
    ⟨by rw[List.length_map];exact hle,_,0,zz _ _,Heap.get?_push_size _ rfl⟩,rfl,q⟩
theorem qa:∀{ws:List Str} {us:List Value},Vals (ws.map V.str) us->StrsAre us ws
 |[],_,.nil=>.nil
 |w::ws,_,.cons ⟨t,e⟩ r=>by subst e;exact .cons _ _ (qa r)
theorem Dq:E5 X "str.join" (λx vs H Q=>∃z p ws,x=.str z/\vs=[.ref p]/\fG X.K H p (ws.map V.str)/\(ws.map (·.length)).sum+ws.length*z.length<=16777216/\Q (.str (Txt.join z ws)) H):=by
 intro pins s σ H x vs v us Q I rx rv h
 obtain⟨z,p,ws,rfl,rfl,hS,hl,q⟩:=h
 obtain⟨t,rfl⟩:=rx
 obtain⟨u,rfl,ru⟩:=rv.one
 cases(show u=Value.ref p from ru)
 obtain⟨its,r,pl,_⟩:=I.list hS
 exact join_list pl.isList (qa r) hl λt' k=>⟨.str (Txt.join z ws),H,I.tok _,⟨t',rfl⟩,q⟩
theorem pV {v:Value}{o:Option Int}(p:IsPart v o):∃l:Option (Int × Tok),v=partValue l/\o=l.map (·.1):=by
 cases p with
 |none=>exact⟨none,rfl,rfl⟩
 |int i t=>exact⟨some (i,t),rfl,rfl⟩
theorem Hs:Cw X (λx lo hi H Q=>∃z,x=.str z/\z.length<=sizeLine/\Q (.str (Txt.slice z lo hi)) H):=by
 intro pins s σ H x v vl vu lo hi sl Q I rx hs pl pu h
 obtain⟨z,rfl,hz,q⟩:=h
 obtain⟨t,rfl⟩:=rx
 obtain⟨l,rfl,rfl⟩:=pV pl
 obtain⟨u,rfl,rfl⟩:=pV pu
 refine⟨"str",_,F.slot_str_getitem.lookup,typeIs_str _ _ _,wpAny_getItem_str_slice (l:=l) (u:=u) (st:=none) hs rfl ?_⟩
 exact post_val_or_str ⟨Nat.le_trans (Txt.slice_le z _ _) hz,λt' k=>⟨.str (Txt.slice z _ _),H,I.tok _,⟨t',rfl⟩,q⟩⟩
end
theorem mem_of_lookup {β:Type}{y:Str}{v:β}:∀{l:List (Str × β)},l.lookup y=some v->(y,v)∈l
 |[],h=>by simp at h
 | (x,u)::r,h=>by
  rw[List.lookup_cons] at h
  cases e:y == x with
  |true =>
   rw[e] at h
   have h1:=Option.some.inj h
   have h2:=eq_of_beq e
   subst h1 h2
   exact List.mem_cons_self
  |false =>
   rw[e] at h
   exact List.mem_cons_of_mem _ (mem_of_lookup h)
theorem i8 {X:Cx}{scope:Scope}{T:List Str}(hk:scope.kind=.function)(hc:closureFor scope X.env=pure [])(h1:∀y∈scope.names,y.2≠.cell)(h2:∀y∈scope.names,y.2≠.free)
  (h3:∀y∈scope.names,y.2=.local->scope.names.lookup y.1=some .local):bQ X scope [] T [] [] :=
 ⟨hk,hc,h1,h3,λy c h=>by simp at h,λy h=>absurd rfl (h2 _ (mem_of_lookup h)),.nil⟩
theorem uL {X:Cx}{scope:Scope}{T cn:List Str}{caps:List Nat}{cl:List (Str × Addr)}(hk:scope.kind=.function)(hc:closureFor scope X.env=pure cl)(h1:∀y∈scope.names,y.2≠.cell)
  (h2:∀y∈scope.names,y.2=.free->(cl.lookup y.1).isSome=true)(h3:∀y∈scope.names,y.2=.local->scope.names.lookup y.1=some .local)(hs:∀p∈cl,X.env.cells.lookup p.1=some p.2)
  (hp:Paired (fun(j:Nat) (y:Str)=>X.N[j]?=some y/\(X.env.kindOf y=some .cell\/X.env.kindOf y=some .free)/\scope.names.lookup y=some .free) caps cn):bQ X scope cl T caps cn :=
 ⟨hk,hc,h1,h3,λy c h=>hs (y,c) (mem_of_lookup h),λy h=>Option.isSome_iff_exists.mp (h2 _ (mem_of_lookup h) rfl),hp⟩
def del (H:Hp)(a:Addr):Hp:=λb=>if b=a then none else H b
theorem uX {H:Hp}{a:Addr}:del H a a=none:=if_pos rfl
theorem fq {H:Hp}{a b:Addr}(h:b≠a):del H a b=H b:=if_neg h
section
variable {X:Cx}{pins:List (Addr × Obj)}{σ:St}{H:Hp}{s:Shared}{a:Addr}{ys:List V}
end
section
variable {X:Cx}{e:Expr}{te:TE}{tt:TT}
def qb (te:TE):TE:=λσ H Q=>∃D ys,H D=some (.lst ys)/\te σ (del H D) λy H4=>H4 D=none->Q y (upd H4 D (.lst ys))
def qe (tt:TT):TT:=λσ H Q=>∃D ys,H D=some (.lst ys)/\tt σ (del H D) λb H4=>H4 D=none->Q b (upd H4 D (.lst ys))
end
theorem o4 {H:Hp}{a:Addr}{o:HO}(h:H a=none):del (upd H a o) a=H:=by
 funext b
 unfold del upd
 by_cases hb:b=a
 ·rw[if_pos hb,hb,h]
 ·rw[if_neg hb,if_neg hb]
def da (H:Hp)(a dx:Addr):Hp:=λb=>if b=a\/b=dx then none else H b
def shown (H:Hp)(a dx C:Addr)(fs:List (Str × V)):Hp:=upd (upd H dx (.own a)) a (.ins C dx fs)
section
variable {X:Cx}{pins:List (Addr × Obj)}{σ:St}{H:Hp}{s:Shared}{a dx C:Addr}{fs:List (Str × V)}
theorem Inv.Bb {o:HO}(I:Inv X pins σ H s)(e:H a=some o):a∉X.fs/\(∀b o,X.s₀.heap.get? b=some o->X.H₀ b=none->b∉X.ex->b≠a)/\(∀p∈X.pn++pins,p.1≠a)/\∀x c,X.env.cells.lookup x=some c->c≠a:=by
 refine⟨λhb=>?_,λb o q n hx z=>?_,λp hp z=>?_,λx c q z=>?_⟩
 ·have h1:=I.ok.Co a hb
  obtain⟨_,o,ho,_⟩:=I.ok.lh.mem hb
  have hx:a∉X.ex:=λhx=>I.ok.wG a hx hb
  have:=I.base.free a o ho h1 hx
  rw[e] at this
  cases this
 ·have:=I.base.free b o q n hx
  rw[z,e] at this
  cases this
 ·have:=(I.pin p hp).2.1
  rw[z,e] at this
  cases this
 ·have:=I.eW x c q
  rw[z,e] at this
  cases this
end
section
variable {X:Cx}{e:Expr}{te:TE}{st:Stmt}{ts:TS}
def Ek (te:TE):TE:=λσ H Q=>∃a dx C fs,H a=some (.ins C dx fs)/\te σ (da H a dx) λy H4=>H4 a=none->H4 dx=none->dx≠a->Q y (shown H4 a dx C fs)
def EU (ts:TS):TS:=λD σ H=>∃a dx C fs,H a=some (.ins C dx fs) /\
 ts ⟨λσ' H4=>H4 a=none->H4 dx=none->dx≠a->D.nx σ' (shown H4 a dx C fs),λv H4=>H4 a=none->H4 dx=none->dx≠a->D.rt v (shown H4 a dx C fs),
  λσ' H4=>H4 a=none->H4 dx=none->dx≠a->D.bk σ' (shown H4 a dx C fs),λσ' H4=>H4 a=none->H4 dx=none->dx≠a->D.ct σ' (shown H4 a dx C fs)⟩ σ (da H a dx)
theorem kN {H:Hp}{a dx C:Addr}{fs:List (Str × V)}(h1:H a=none)(h2:H dx=none):da (shown H a dx C fs) a dx=H:=by
 funext b
 unfold da shown upd
 by_cases hb:b=a
 ·rw[if_pos (.inl hb),hb,h1]
 ·by_cases hb2:b=dx
  ·rw[if_pos (.inr hb2),hb2,h2]
  ·rw[if_neg (λz=>z.elim hb hb2),if_neg hb,if_neg hb2]
theorem zy {H:Hp}{a dx C:Addr}{fs fs':List (Str × V)}:upd (shown H a dx C fs) a (.ins C dx fs')=shown H a dx C fs':=m6
theorem mz {H:Hp}{a dx C:Addr}{fs:List (Str × V)}:shown H a dx C fs a=some (.ins C dx fs):=aM
end
def aS (H:Hp)(L:List Addr):Hp:=λb=>if b∈L then none else H b
def bC (H' H:Hp)(L:List Addr):Hp:=λb=>if b∈L then H b else H' b
theorem cI {H:Hp}{L:List Addr}{b:Addr}(h:b∈L):aS H L b=none:=if_pos h
theorem bG {H:Hp}{L:List Addr}{b:Addr}(h:b∉L):aS H L b=H b:=if_neg h
theorem gy {H:Hp}{L:List Addr}{b:Addr}(h:H b=none):aS H L b=none:=by unfold aS;split<;>first|rfl|exact h
theorem nO {H:Hp}{L:List Addr}{b:Addr}{o:HO}(h:aS H L b=some o):b∉L/\H b=some o:=by
 unfold aS at h
 split at h
 ·cases h
 ·rename_i z;exact⟨z,h⟩
theorem au {H:Hp}{L:List Addr}:aJ (aS H L) H:=λb o h=>(nO h).2
theorem bu {H:Hp}:aS H []=H:=by funext b;exact if_neg (λh=>nomatch h)
theorem aY {H H':Hp}{L:List Addr}{b:Addr}(h:b∈L):bC H' H L b=H b:=if_pos h
theorem aV {H H':Hp}{L:List Addr}{b:Addr}(h:b∉L):bC H' H L b=H' b:=if_neg h
theorem b0 {H H':Hp}{L:List Addr}(h:∀b∈L,H' b=none):aS (bC H' H L) L=H':=by
 funext b
 by_cases hb:b∈L
 ·rw[cI hb,h b hb]
 ·rw[bG hb,aV hb]
inductive dW (H:Hp) (L:List Addr) (a:Addr):Prop
 |lst (xs:List V) (h:H a=some (.lst xs))
 |dK (kvs:List (Key × V)) (h:H a=some (.dK kvs))
 |ext (φ:Heap->Prop) (h:H a=some (.ext φ)) (hc:∀g,φ g->∃o,g.get? a=some o/\∀v,o.data≠.cell v)
 |ins (C dx:Addr) (fs:List (Str × V)) (h:H a=some (.ins C dx fs)) (hd:dx∈L)
 |own (C b:Addr) (fs:List (Str × V)) (h:H a=some (.own b)) (hb:b∈L) (hi:H b=some (.ins C a fs))
section
variable {X:Cx}{pins:List (Addr × Obj)}{σ:St}{H:Hp}{s:Shared}{L:List Addr}
theorem dW.there {a:Addr}(h:dW H L a):∃o,H a=some o:=by cases h<;>exact⟨_,by assumption⟩
theorem dW.qC {a:Addr}(h:dW H L a):(∀xs,H a≠some (.tup xs))/\(∀o u,H a≠some (.A6 o u))/\(∀ps,H a≠some (.Fp ps))/\∀b,H a=some (.own b)->b∈L:=by
 cases h with
 |lst xs h=>rw[h];exact⟨λ_ q=>(nomatch q),λ_ _ q=>(nomatch q),λ_ q=>(nomatch q),λ_ q=>(nomatch q)⟩
 |dK xs h=>rw[h];exact⟨λ_ q=>(nomatch q),λ_ _ q=>(nomatch q),λ_ q=>(nomatch q),λ_ q=>(nomatch q)⟩
 |ext φ h hc=>rw[h];exact⟨λ_ q=>(nomatch q),λ_ _ q=>(nomatch q),λ_ q=>(nomatch q),λ_ q=>(nomatch q)⟩
 |ins C dx fs h hd=>rw[h];exact⟨λ_ q=>(nomatch q),λ_ _ q=>(nomatch q),λ_ q=>(nomatch q),λ_ q=>(nomatch q)⟩
 |own C b fs h hb hi=>rw[h];exact⟨λ_ q=>(nomatch q),λ_ _ q=>(nomatch q),λ_ q=>(nomatch q),λc q=>by cases q;exact hb⟩
theorem dW.obj {a:Addr}(h:dW H L a)(I:Inv X pins σ H s):∃o,s.heap.get? a=some o/\∀v,o.data≠.cell v:=by
 cases h with
 |lst xs h =>
  obtain⟨_,its,n,_,ho⟩:=(show bR X.prog X.w H s.heap a (.lst xs) from I.bg a _ h)
  exact⟨_,ho,λv q=>by cases q⟩
 |dK kvs h =>
  obtain⟨_,_,vs,_,ob,es,ep,e,c⟩:=(show bR X.prog X.w H s.heap a (.dK kvs) from I.bg a _ h)
  exact⟨_,e,λv q=>by rw[c.2.1] at q;cases q⟩
 |ext φ h hc=>exact hc _ (show bR X.prog X.w H s.heap a (.ext φ) from I.bg a _ h).1
 |ins C dx fs h hd =>
  obtain⟨_,_,_,e,_⟩:=(show bR X.prog X.w H s.heap a (.ins C dx fs) from I.bg a _ h)
  exact⟨_,e,λv q=>by cases q⟩
 |own C b fs h hb hi =>
  obtain⟨_,_,_,_,mA,⟨od,es,ep,e2,c⟩,r⟩:=(show bR X.prog X.w H s.heap b (.ins C a fs) from I.bg b _ hi)
  exact⟨_,e2,λv q=>by rw[c.1] at q;cases q⟩
theorem nK {G:Prop}(I:Inv X pins σ H s)(hL:∀a∈L,dW H L a)
  (h:∀pl:List (Addr × Obj),Inv X (pins++pl) σ (aS H L) s->(∀b∈L,∃o,(b,o)∈pl)->(∀(σ':St) (H':Hp) (s':Shared),Inv X (pins++pl) σ' H' s'->(∀b∈L,H' b=none)/\Inv X pins σ' (bC H' H L) s')->G):G:=by
 have memL:∀{b:Addr} {o:Obj},(b,o)∈ly L s.heap ↔ b∈L/\s.heap.get? b=some o:=fun{b o}=>⟨λq=>nh q,λq=>fv q.1 q.2⟩
 refine h (ly L s.heap) ?_ (λb hb=>let ⟨o,e,_⟩:=(hL b hb).obj I;⟨o,memL.mpr ⟨hb,e⟩⟩) λσ' H' s' J=>?_
 ·refine⟨I.ok,I.os,I.bare,⟨I.base.keep,I.base.slot,λb o q n hx=>gy (I.base.free b o q n hx),I.base.there,λb xs q=>?_,λb o u q=>?_,λb ps q=>?_⟩,I.loc,I.cell,gy I.free,λx c q=>gy (I.eW x c q),λp hp=>?_,λb o q=>?_,I.len⟩
  ·have z:=I.base.qv b xs q
   rw[bG (λw=>(hL b w).qC.1 _ z)];exact z
  ·have z:=I.base.pP b o u q
   rw[bG (λw=>(hL b w).qC.2.1 _ _ z)];exact z
  ·obtain⟨more,z⟩:=I.base.qu b ps q
   exact⟨more,by rw[bG (λw=>(hL b w).qC.2.2.1 _ z)];exact z⟩
  ·rw[<- List.append_assoc] at hp
   rcases List.mem_append.mp hp with z|z
   ·obtain⟨p1,p2,p3,p4,p5⟩:=I.pin p z
    exact⟨p1,gy p2,p3,p4,p5⟩
   ·obtain⟨z1,z2⟩:=nh z
    obtain⟨o,e⟩:=(hL p.1 z1).there
    refine⟨z2,cI z1,λw=>?_,(I.Bb e).1,λv q=>?_⟩
    ·have f:=I.free
     rw[<- w,e] at f
     cases f
    ·obtain⟨ob,e2,nc⟩:=(hL p.1 z1).obj I
     rw[z2] at e2
     cases e2
     exact nc v q
  ·obtain⟨hb,q⟩:=nO q
   refine(I.bg b o q).tu (λ_ _ _ z=>z) (λc hc=>?_) (λc xs hc=>?_)
   ·rw[bG (λw=>hb ((hL c w).qC.2.2.2 _ hc))];exact hc
   ·rw[bG (λw=>(hL c w).qC.1 _ hc)];exact hc
 ·have pin:∀b∈L,H' b=none/\∀o,s.heap.get? b=some o->s'.heap.get? b=some o:=λb hb=>by
   obtain⟨o,e,_⟩:=(hL b hb).obj I
   obtain⟨g1,g2,_⟩:=J.pin (b,o) (List.mem_append_right _ (List.mem_append_right _ (memL.mpr ⟨hb,e⟩)))
   exact⟨g2,λo' e'=>by rw[e] at e';cases e';exact g1⟩
  refine⟨λb hb=>(pin b hb).1,⟨J.ok,J.os,J.bare,⟨J.base.keep,J.base.slot,λb o q n hx=>?_,J.base.there,λb xs q=>?_,λb o u q=>?_,λb ps q=>?_⟩,J.loc,J.cell,?_,λx c q=>?_,λp hp=>?_,λb o q=>?_,J.len⟩⟩
  ·rw[aV (λw=>let ⟨o',e⟩:=(hL b w).there;(I.Bb e).2.1 b o q n hx rfl)]
   exact J.base.free b o q n hx
  ·have z:=J.base.qv b xs q
   rw[aV (λw=>by rw[(pin b w).1] at z;cases z)];exact z
  ·have z:=J.base.pP b o u q
   rw[aV (λw=>by rw[(pin b w).1] at z;cases z)];exact z
  ·obtain⟨more,z⟩:=J.base.qu b ps q
   exact⟨more,by rw[aV (λw=>by rw[(pin b w).1] at z;cases z)];exact z⟩
  ·rw[aV (λw=>let ⟨o',e⟩:=(hL _ w).there;by rw[I.free] at e;cases e)]
   exact J.free
  ·rw[aV (λw=>let ⟨o',e⟩:=(hL _ w).there;by rw[I.eW x c q] at e;cases e)]
   exact J.eW x c q
  ·obtain⟨p1,p2,p3,p4,p5⟩:=J.pin p (by rw[<- List.append_assoc];exact List.mem_append_left _ hp)
   refine⟨p1,?_,p3,p4,p5⟩
   rw[aV (λw=>let ⟨o',e⟩:=(hL _ w).there;(I.Bb e).2.2.1 p hp rfl)]
   exact p2
  ·by_cases hb:b∈L
   ·rw[aY hb] at q
    have k:=(pin b hb).2
    have w:=hL b hb
    cases w with
    |lst xs h =>
     rw[h] at q;cases q
     obtain⟨hz,its,n,hv,ho⟩:=(show bR X.prog X.w H s.heap b (.lst xs) from I.bg b _ h)
     exact⟨hz,its,n,hv,k _ ho⟩
    |dK kvs h =>
     rw[h] at q;cases q
     obtain⟨z1,z2,vs,hv,ob,es,ep,e,c⟩:=(show bR X.prog X.w H s.heap b (.dK kvs) from I.bg b _ h)
     exact⟨z1,z2,vs,hv,ob,es,ep,k _ e,c⟩
    |ext φ h hc =>
     rw[h] at q;cases q
     obtain⟨hp,⟨o,e⟩,cl⟩:=(show bR X.prog X.w H s.heap b (.ext φ) from I.bg b _ h)
     exact⟨cl _ _ hp k,⟨o,k _ e⟩,cl⟩
    |ins C dx fs h hd =>
     rw[h] at q;cases q
     obtain⟨d,z,ne,ea,mA,⟨od,es,ep,e2,c⟩,r⟩:=(show bR X.prog X.w H s.heap b (.ins C dx fs) from I.bg b _ h)
     exact⟨by rw[aY hd];exact d,z,ne,k _ ea,mA,⟨od,es,ep,(pin dx hd).2 _ e2,c⟩,r⟩
    |own C a fs h ha hi =>
     rw[h] at q;cases q
     obtain⟨o,e⟩:=(show bR X.prog X.w H s.heap b (.own a) from I.bg b _ h)
     exact⟨o,k _ e⟩
   ·rw[aV hb] at q
    refine(J.bg b o q).tu (λ_ _ _ z=>z) (λc hc=>?_) (λc xs hc=>?_)
    ·rw[aV (λw=>by rw[(pin c w).1] at hc;cases hc)];exact hc
    ·rw[aV (λw=>by rw[(pin c w).1] at hc;cases hc)];exact hc
end
section
variable {X:Cx}{e:Expr}{te:TE}{tt:TT}{st:Stmt}{ts:TS}{tg iter:Expr}{wi:TI}
def MO (te:TE):TE:=λσ H Q=>∃L,(∀a∈L,dW H L a)/\te σ (aS H L) λy H4=>(∀b∈L,H4 b=none)->Q y (bC H4 H L)
theorem lu (he:PE X e te):PE X e (MO te):=by
 intro pins s σ H Q I ⟨L,hL,q⟩
 refine nK I hL λpl I' _ back=>?_
 refine br (he (pins++pl) s σ _ _ I' q) λv s1 ⟨y,H4,I4,r,k⟩=>?_
 obtain⟨z,J⟩:=back _ _ _ I4
 exact⟨y,_,J,r,k z⟩
def MT (tt:TT):TT:=λσ H Q=>∃L,(∀a∈L,dW H L a)/\tt σ (aS H L) λy H4=>(∀b∈L,H4 b=none)->Q y (bC H4 H L)
def sQ (D:Ends)(H:Hp)(L:List Addr):Ends:=⟨λσ' H4=>(∀b∈L,H4 b=none)->D.nx σ' (bC H4 H L),λv H4=>(∀b∈L,H4 b=none)->D.rt v (bC H4 H L),
 λσ' H4=>(∀b∈L,H4 b=none)->D.bk σ' (bC H4 H L),λσ' H4=>(∀b∈L,H4 b=none)->D.ct σ' (bC H4 H L)⟩
def L6 (ts:TS):TS:=λD σ H=>∃L,(∀a∈L,dW H L a)/\ts (sQ D H L) σ (aS H L)
theorem Ef {pins pl:List (Addr × Obj)}{D:Ends}{H:Hp}{L:List Addr}{f:Flow}{s1:Shared}(back:∀(σ':St) (H':Hp) (s':Shared),Inv X (pins++pl) σ' H' s'->(∀b∈L,H' b=none)/\Inv X pins σ' (bC H' H L) s')
  (hq:SP X (pins++pl) (sQ D H L) f s1):SP X pins D f s1:=by
 cases f with
 |next=>obtain⟨σ',H',J,k⟩:=hq;obtain⟨z,J'⟩:=back _ _ _ J;exact⟨σ',_,J',k z⟩
 |brk=>obtain⟨σ',H',J,k⟩:=hq;obtain⟨z,J'⟩:=back _ _ _ J;exact⟨σ',_,J',k z⟩
 |cont=>obtain⟨σ',H',J,k⟩:=hq;obtain⟨z,J'⟩:=back _ _ _ J;exact⟨σ',_,J',k z⟩
 |ret u=>obtain⟨v,σ',H',J,r,k⟩:=hq;obtain⟨z,J'⟩:=back _ _ _ J;exact⟨v,σ',_,J',r,k z⟩
theorem wx (he:PS X st ts):PS X st (L6 ts):=by
 intro pins s σ H D I ⟨L,hL,q⟩
 refine nK I hL λpl I' _ back=>?_
 exact br (he (pins++pl) s σ _ _ I' q) λf s1 hq=>Ef back hq
def MS (wi:TI):TI:=λσ H R=>∃L,(∀a∈L,dW H L a)/\wi σ (aS H L) λJ H4=>(∀b∈L,H4 b=none)->R J (bC H4 H L)
theorem Hb (he:PI X tg iter wi):PI X tg iter (MS wi):=by
 intro pins s σ H R I ⟨L,hL,q⟩
 refine nK I hL λpl I' hpl back=>?_
 refine br (he (pins++pl) s σ _ _ I' q) λv s1 h1=>br h1 λitv s2 ⟨it,fp,tn,J,H',e1,I2,T,t0,hf,k⟩=>?_
 obtain⟨z,J2⟩:=back _ _ _ I2
 have hn:∀b∈fp,b∉L:=λb hb hl=>let ⟨o,ho⟩:=hpl b hl;(hf b hb).2.2.2.2.2 (b,o) (List.mem_append_right _ (List.mem_append_right _ ho)) rfl
 refine⟨it,fp,tn,J,_,e1,J2,T,t0,λb hb=>?_,k z⟩
 obtain⟨f1,f2,f3,f4,f5,f6⟩:=hf b hb
 exact⟨by rw[aV (hn b hb)];exact f1,f2,f3,f4,f5,λp hp=>f6 p (by rw[<- List.append_assoc];exact List.mem_append_left _ hp)⟩
end
theorem ur {H:Hp}{a:Addr}:aS H [a]=del H a:=by
 funext b
 by_cases h:b=a
 ·rw[h,cI List.mem_cons_self,uX]
 ·rw[bG (λz=>h (List.mem_singleton.mp z)),fq h]
theorem rR {H H':Hp}{a:Addr}{o:HO}(e:H a=some o):bC H' H [a]=upd H' a o:=by
 funext b
 by_cases h:b=a
 ·rw[h,aY List.mem_cons_self,aM,e]
 ·rw[aV (λz=>h (List.mem_singleton.mp z)),aN h]
theorem uu {H:Hp}{a dx:Addr}:aS H [a,dx]=da H a dx:=by
 funext b
 unfold aS da
 simp
theorem rS {H H':Hp}{a dx C:Addr}{fs:List (Str × V)}(ea:H a=some (.ins C dx fs))(ed:H dx=some (.own a)):bC H' H [a,dx]=shown H' a dx C fs:=by
 funext b
 unfold shown
 by_cases h:b=a
 ·rw[h,aY List.mem_cons_self,aM,ea]
 ·rw[aN h]
  by_cases h2:b=dx
  ·rw[h2,aY (List.mem_cons_of_mem _ List.mem_cons_self),aM,ed]
  ·rw[aV (λz=>by simp at z;exact z.elim h h2),aN h2]
section
variable {X:Cx}{e:Expr}{te:TE}{tt:TT}{st:Stmt}{ts:TS}
theorem fc (he:PE X e te):PE X e (qb te):=λpins s σ H Q I ⟨D,ys,hD,q⟩ =>
 lu he pins s σ H Q I ⟨[D],λa ha=>by rw[List.mem_singleton.mp ha];exact .lst ys hD,by rw[ur];simpa only[rR hD,List.mem_singleton,forall_eq] using q⟩
theorem EJ {ifs:List Expr}(he:xV X ifs tt):xV X ifs (MT tt):=by
 intro pins s σ H Q I ⟨L,hL,q⟩
 refine nK I hL λpl I' _ back=>?_
 refine br (he (pins++pl) s σ _ _ I' q) λv s1 ⟨H4,I4,k⟩=>?_
 obtain⟨z,J⟩:=back _ _ _ I4
 exact⟨_,J,k z⟩
theorem eF {ifs:List Expr}(he:xV X ifs tt):xV X ifs (qe tt):=λpins s σ H Q I ⟨D,ys,hD,q⟩ =>
 EJ he pins s σ H Q I ⟨[D],λa ha=>by rw[List.mem_singleton.mp ha];exact .lst ys hD,by rw[ur];simpa only[rR hD,List.mem_singleton,forall_eq] using q⟩
theorem Cb {pins:List (Addr × Obj)}{σ:St}{H:Hp}{s:Shared}{a dx C:Addr}{fs:List (Str × V)}(I:Inv X pins σ H s)(ha:H a=some (.ins C dx fs)):H dx=some (.own a)/\dx≠a/\∀b∈[a,dx],dW H [a,dx] b:=by
 obtain⟨d,_,ne,_⟩:=(show bR X.prog X.w H s.heap a (.ins C dx fs) from I.bg a _ ha)
 refine⟨d,ne,λb hb=>?_⟩
 rcases List.mem_cons.mp hb with rfl|hb
 ·exact .ins C dx fs ha (by simp)
 ·rw[List.mem_singleton.mp hb];exact .own C a fs d (by simp) ha
theorem wq (he:PE X e te):PE X e (Ek te):=λpins s σ H Q I ⟨a,dx,C,fs,ha,q⟩=>by
 obtain⟨d,ne,ok⟩:=Cb I ha
 refine lu he pins s σ H Q I ⟨[a,dx],ok,?_⟩
 rw[uu]
 simp only[rS ha d,List.mem_cons,List.not_mem_nil,or_false,forall_eq_or_imp,forall_eq]
 exact(show(λy H4=>H4 a=none->H4 dx=none->dx≠a->Q y (shown H4 a dx C fs))=λy H4=>H4 a=none/\H4 dx=none->Q y (shown H4 a dx C fs) by funext y H4;simp[ne]) ▸ q
theorem wz (he:PS X st ts):PS X st (EU ts):=λpins s σ H D I ⟨a,dx,C,fs,ha,q⟩=>by
 obtain⟨d,ne,ok⟩:=Cb I ha
 refine wx he pins s σ H D I ⟨[a,dx],ok,?_⟩
 rw[uu]
 have e:sQ D H [a,dx]=⟨λσ' H4=>H4 a=none->H4 dx=none->dx≠a->D.nx σ' (shown H4 a dx C fs),λv H4=>H4 a=none->H4 dx=none->dx≠a->D.rt v (shown H4 a dx C fs),
  λσ' H4=>H4 a=none->H4 dx=none->dx≠a->D.bk σ' (shown H4 a dx C fs),λσ' H4=>H4 a=none->H4 dx=none->dx≠a->D.ct σ' (shown H4 a dx C fs)⟩:=by
  unfold sQ
  simp[rS ha d,ne]
 rw[e]
 exact q
end
end L2
namespace DC
open PySem PySem.Spec PyProof.Rows L2
inductive D where
 |ag|bl (b:Bool)|int (i:Int)|str (x:Str)
 |lst (xs:List D)|tup (xs:List D)
 |obj (C:Addr) (fs:List (Str × D))
 |dK (kvs:List (Key × D))|dT (kvs:List (List Int × D))
 |adr (a:Addr)
 |exc (a C:Addr) (fs:List (Str × D))
def Fv (a C:Addr)(dx:Option Addr):HO:=.ext λh=>∃oe vs,h.get? a=some oe/\oe.cls=.ref C/\oe.dict=dx/\oe.data=.fields vs/\vs[2]?=some .none
def Ky (d:Addr)(fs:List (Str × V)):HO:=.ext λh=>∃mA,h.Ns1 d mA/\(∀f,ir (fs.lookup f) (mA f))/\PySem.Within mA (fs.map (·.1))
def hT (k:List Int):Int:=reduceHash (Builtin.Tuple.tupleHashOf (k.map hashInt))
abbrev XT:=List (List Int × Addr × Value)
def K5 (x:List Int × Addr × Value):DictEntry:={ hash:=hT x.1,key:=.ref x.2.1,val:=x.2.2 }
def Ks (a:Addr)(xs:XT):HO:=.ext λh=>(xs.map (·.1)).Nodup/\xs.length<=sizeLine/\(a == sysModules)=false/\∃o es ep,h.get? a=some o/\o.ExactDict/\o.data=.dict es ep/\es.toList=xs.map K5
def xW (H:Hp)(dx:Option Addr)(fs:List (Str × V)):Prop:=match dx with
 |none=>fs=[]
 |some d=>Rd H d (Ky d fs)
theorem kT {H H':Hp}{a:Addr}{u:HO}(s:aJ H H')(r:Rd H a u):Rd H' a u:=by
 rcases r with r|⟨o,r⟩
 ·exact .inl (s _ _ r)
 ·exact .inr ⟨o,s _ _ r⟩
theorem xW.same {H H':Hp}{dx:Option Addr}{fs:List (Str × V)}(s:aJ H H')(h:xW H dx fs):xW H' dx fs:=by
 cases dx with
 |none=>exact h
 |some d=>exact kT s h
mutual
inductive Dv (K:PySem.W.Frag) (H:Hp):V->D->Prop
 |ag:Dv K H .ag .ag
 |bl (b:Bool):Dv K H (.bl b) (.bl b)
 |int (i:Int):Dv K H (.int i) (.int i)
 |str (x:Str):Dv K H (.str x) (.str x)
 |lst {a:Addr} {xs:List V} {ds:List D}:fG K H a xs->bN K H xs ds->Dv K H (.ref a) (.lst ds)
 |tup {a:Addr} {xs:List V} {ds:List D}:iz K H a xs->bN K H xs ds->Dv K H (.ref a) (.tup ds)
 |obj {a C dx:Addr} {fs:List (Str × V)} {gs:List (Str × D)}:Rd H a (.ins C dx fs)->iy K H fs gs->Dv K H (.ref a) (.obj C gs)
 |dK {a:Addr} {kvs:List (Key × V)} {gs:List (Key × D)}:Rd H a (.dK kvs)->ee K H kvs gs->Dv K H (.ref a) (.dK gs)
 |dT {a:Addr} {xs:XT} {gs:List (List Int × D)}:Rd H a (Ks a xs)->vt K H xs gs->Dv K H (.ref a) (.dT gs)
 |adr (a:Addr):Dv K H (.ref a) (.adr a)
 |exc {a C:Addr} {dx:Option Addr} {fs:List (Str × V)} {gs:List (Str × D)}:Rd H a (Fv a C dx)->xW H dx fs->iy K H fs gs->Dv K H (.ref a) (.exc a C gs)
inductive bN (K:PySem.W.Frag) (H:Hp):List V->List D->Prop
 |nil:bN K H [] []
 |cons {x:V} {d:D} {xs:List V} {ds:List D}:Dv K H x d->bN K H xs ds->bN K H (x::xs) (d::ds)
inductive iy (K:PySem.W.Frag) (H:Hp):List (Str × V)->List (Str × D)->Prop
 |nil:iy K H [] []
 |cons {k:Str} {x:V} {d:D} {xs:List (Str × V)} {ds:List (Str × D)}:Dv K H x d->iy K H xs ds->iy K H ((k,x)::xs) ((k,d)::ds)
inductive ee (K:PySem.W.Frag) (H:Hp):List (Key × V)->List (Key × D)->Prop
 |nil:ee K H [] []
 |cons {k:Key} {x:V} {d:D} {xs:List (Key × V)} {ds:List (Key × D)}:Dv K H x d->ee K H xs ds->ee K H ((k,x)::xs) ((k,d)::ds)
inductive vt (K:PySem.W.Frag) (H:Hp):XT->List (List Int × D)->Prop
 |nil:vt K H [] []
 |cons {k:List Int} {b:Addr} {u:Value} {x:V} {d:D} {xs:XT} {ds:List (List Int × D)}:iz K H b (k.map V.int)->RelV x u->Dv K H x d->vt K H xs ds->vt K H ((k,b,u)::xs) ((k,d)::ds)
end
theorem qN {K:PySem.W.Frag}{H H':Hp}{a:Addr}{xs:List V}(e:aJ H H')(h:iz K H a xs):iz K H' a xs:=by
 rcases h with(h|⟨o,h⟩)|h
 ·exact .inl (.inl (e _ _ h))
 ·exact .inl (.inr ⟨o,e _ _ h⟩)
 ·exact .inr h
section
variable {K:PySem.W.Frag}{H H':Hp}
mutual
theorem Dv.same (s:aJ H H'):∀{v:V} {d:D},Dv K H v d->Dv K H' v d
 |_,_,.ag=>.ag
 |_,_,.bl b=>.bl b
 |_,_,.int i=>.int i
 |_,_,.str x=>.str x
 |_,_,.lst h1 h2=>.lst (s.seq h1) (bN.same s h2)
 |_,_,.tup h1 h2=>.tup (qN s h1) (bN.same s h2)
 |_,_,.obj h1 h2=>.obj (kT s h1) (iy.same s h2)
 |_,_,.dK h1 h2=>.dK (kT s h1) (ee.same s h2)
 |_,_,.dT h1 h2=>.dT (kT s h1) (vt.same s h2)
 |_,_,.adr a=>.adr a
 |_,_,.exc h1 h2 h3=>.exc (kT s h1) (h2.same s) (iy.same s h3)
theorem bN.same (s:aJ H H'):∀{vs:List V} {ds:List D},bN K H vs ds->bN K H' vs ds
 |_,_,.nil=>.nil
 |_,_,.cons h1 h2=>.cons (Dv.same s h1) (bN.same s h2)
theorem iy.same (s:aJ H H'):∀{vs:List (Str × V)} {ds:List (Str × D)},iy K H vs ds->iy K H' vs ds
 |_,_,.nil=>.nil
 |_,_,.cons h1 h2=>.cons (Dv.same s h1) (iy.same s h2)
theorem ee.same (s:aJ H H'):∀{vs:List (Key × V)} {ds:List (Key × D)},ee K H vs ds->ee K H' vs ds
 |_,_,.nil=>.nil
 |_,_,.cons h1 h2=>.cons (Dv.same s h1) (ee.same s h2)
theorem vt.same (s:aJ H H'):∀{vs:XT} {ds:List (List Int × D)},vt K H vs ds->vt K H' vs ds
 |_,_,.nil=>.nil
 |_,_,.cons h0 hr h1 h2=>.cons (qN s h0) hr (Dv.same s h1) (vt.same s h2)
end
theorem bN.length:∀{vs:List V} {ds:List D},bN K H vs ds->vs.length=ds.length
 |_,_,.nil=>rfl
 |_,_,.cons _ h=>congrArg (·+1) (bN.length h)
theorem bN.get:∀{vs:List V} {ds:List D} {i:Nat} {d:D},bN K H vs ds->ds[i]?=some d->∃v,vs[i]?=some v/\Dv K H v d
 |_,_,_,_,.nil,e=>by simp at e
 |_,_,0,_,.cons h _,e=>by simp at e;subst e;exact⟨_,rfl,h⟩
 |_,_,i+1,d,.cons _ h,e=>by
  obtain⟨v,h1,h2⟩:=bN.get (i:=i) (d:=d) h (by simpa using e)
  exact⟨v,by simpa using h1,h2⟩
theorem bN.A7:∀{vs:List V} {ds:List D} {i:Nat} {v:V},bN K H vs ds->vs[i]?=some v->∃d,ds[i]?=some d/\Dv K H v d
 |_,_,_,_,.nil,e=>by simp at e
 |_,_,0,_,.cons h _,e=>by simp at e;subst e;exact⟨_,rfl,h⟩
 |_,_,i+1,v,.cons _ h,e=>by
  obtain⟨d,h1,h2⟩:=bN.A7 (i:=i) (v:=v) h (by simpa using e)
  exact⟨d,by simpa using h1,h2⟩
theorem bN.append:∀{vs ws:List V} {ds es:List D},bN K H vs ds->bN K H ws es->bN K H (vs++ws) (ds++es)
 |_,_,_,_,.nil,h=>h
 |_,_,_,_,.cons a r,h=>.cons a (bN.append r h)
theorem bN.take:∀{vs:List V} {ds:List D} (n:Nat),bN K H vs ds->bN K H (vs.take n) (ds.take n)
 |_,_,0,_=>.nil
 |_,_,_+1,.nil=>.nil
 |_,_,n+1,.cons r t=>.cons r (bN.take n t)
theorem bN.drop:∀{vs:List V} {ds:List D} (n:Nat),bN K H vs ds->bN K H (vs.drop n) (ds.drop n)
 |_,_,0,r=>r
 |_,_,_+1,.nil=>.nil
 |_,_,n+1,.cons _ t=>bN.drop n t
theorem iy.look:∀{fs:List (Str × V)} {gs:List (Str × D)} {f:Str} {d:D},iy K H fs gs->gs.lookup f=some d->∃v,fs.lookup f=some v/\Dv K H v d
 |_,_,_,_,.nil,e=>by simp at e
 |_,_,f,d,.cons (k:=k) h r,e=>by
  rw[List.lookup_cons] at e ⊢
  cases q:f == k with
  |true =>
   rw[q] at e
   cases e
   exact⟨_,rfl,h⟩
  |false =>
   rw[q] at e
   exact iy.look r e
theorem iy.none:∀{fs:List (Str × V)} {gs:List (Str × D)} {f:Str},iy K H fs gs->gs.lookup f=Option.none->fs.lookup f=Option.none
 |_,_,_,.nil,_=>rfl
 |_,_,f,.cons (k:=k) h r,e=>by
  rw[List.lookup_cons] at e ⊢
  cases q:f == k with
  |true=>rw[q] at e;cases e
  |false =>
   rw[q] at e
   exact iy.none r e
end
section
variable {X:Cx}{pins:List (Addr × Obj)}{σ:L2.St}{H:Hp}{s:Shared}{a C dx:Addr}{fs:List (Str × V)}{f:Str}{v:V}{A:Around}{E:Value->Shared->Prop}
theorem pS {P:Program}{w:World}{h:Heap}(bg:lU P w H h)(e:Rd H a (.ins C dx fs)):∃mA,uG h a dx C mA/\(∀f,ir (fs.lookup f) (mA f))/\PySem.Within mA (fs.map (·.1))/\fs.length<=1000/\H dx=some (.own a):=by
 obtain⟨d,z,ne,ob,mA,n,r,q⟩:=(show bR P w H h a (.ins C dx fs) from e.ok bg)
 exact⟨mA,⟨ob,n,ne⟩,r,q,z,d⟩
theorem uj {b:Bool}{Q:Value->Shared->Prop}(I:Inv X pins σ H s)(e:Rd H a (.ins C dx fs))(c:uF X.K C)(n:eh X.K C f)(l:fs.lookup f=some v)
  (h:∀u s',Inv X pins σ H s'->RelV v u->Q u s'):wpAny (model X.prog X.w) A (getAttr (.ref a) f b) Q E s:=by
 obtain⟨mA,O,r,_,_,_⟩:=pS I.bg e
 obtain⟨u,hu,ru⟩:=ir.some_of (v:=v) (o:=mA f) (by rw[<- l];exact r f)
 exact get_map I.uE O (c.get f) c.hd n hu (yx ru) (h u _ (I.tok _) ru)
theorem uk {m:Str}{g:Addr}{pl:Sem Bool}{Q:Value × List Value->Shared->Prop}(I:Inv X pins σ H s)(e:Rd H a (.ins C dx fs))(c:uF X.K C)(k:Meth X.K C m g)(l:fs.lookup m=none)
  (h:Q (.ref g,[.ref a]) s):wpAny (model X.prog X.w) A (getMethod (.ref a) m pl) Q E s:=by
 obtain⟨mA,O,r,_,_,_⟩:=pS I.bg e
 have hn:mA m=none:=ir.none_of (by rw[<- l];exact r m)
 exact A8 I.uE O (c.get m) k.at_ k.fn hn h
def J8 (K:PySem.W.Frag)(ta:TE)(f:Str):TE:=λσ H Q=>ta σ H λx H1=>∃a C dx fs v,x=.ref a/\Rd H1 a (.ins C dx fs)/\uF K C/\eh K C f/\fs.lookup f=some v/\Q v H1
theorem D6 {e:Expr}{ta:TE}{pos:Pos}(he:PE X e ta)(hb:attributeBase e f X.env (eval e X.env)=eval e X.env):PE X (.Attribute e f pos) (J8 X.K ta f):=by
 intro pins s σ H Q I h
 refine C0 hb (br (he pins s σ H _ I h) λu s1 ⟨x,H1,I1,rx,a,C,dx,fs,v,ex,ea,c,n,l,q⟩=>?_)
 subst ex
 obtain rfl:u=Value.ref a:=rx
 exact uj I1 ea c n l λu' s2 I2 ru=>⟨v,H1,I2,ru,q⟩
end
abbrev SD:=List (Option D)
abbrev ED:=SD->(D->Prop)->Prop
abbrev TD:=SD->(Bool->Prop)->Prop
abbrev AD:=SD->(List D->Prop)->Prop
structure bX (K:PySem.W.Frag) (H:Hp) (σ:L2.St) (δ:SD):Prop where
 len:σ.length=δ.length
 get:∀(i:Nat) (d:D),δ[i]?=some (some d)->∃v,σ[i]?=some (some v)/\Dv K H v d
theorem bX.same {K:PySem.W.Frag}{H H':Hp}{σ:L2.St}{δ:SD}(r:bX K H σ δ)(s:aJ H H'):bX K H' σ δ :=
 ⟨r.len,λi d h=>let ⟨v,h1,h2⟩:=r.get i d h;⟨v,h1,h2.same s⟩⟩
theorem bX.set {K:PySem.W.Frag}{H:Hp}{σ:L2.St}{δ:SD}(r:bX K H σ δ){v:V}{d:D}(i:Nat)(h:Dv K H v d):bX K H (σ.set i (some v)) (δ.set i (some d)):=by
 refine⟨by rw[List.length_set,List.length_set];exact r.len,λj e hj=>?_⟩
 rw[List.getElem?_set] at hj ⊢
 split at hj
 ·rename_i q
  subst q
  have hl:=r.len
  split at hj
  ·rename_i q2
   cases hj
   exact⟨v,by rw[if_pos rfl,if_pos (by omega)],h⟩
  ·cases hj
 ·rename_i q
  rw[if_neg q]
  exact r.get j e hj
def kD (K:PySem.W.Frag)(H:Hp)(Q:VK):D->Prop:=λd=>∀v H',aJ H H'->Dv K H' v d->Q v H'
def kB (H:Hp)(Q:Bool->Hp->Prop):Bool->Prop:=λb=>∀H',aJ H H'->Q b H'
def kA (K:PySem.W.Frag)(H:Hp)(Q:List V->Hp->Prop):List D->Prop:=λds=>∀vs H',aJ H H'->bN K H' vs ds->Q vs H'
theorem kD.on {K:PySem.W.Frag}{H H1:Hp}{Q:VK}{d:D}(s:aJ H H1)(h:kD K H Q d):kD K H1 Q d:=λv H' s' dv=>h v H' (s.trans s') dv
theorem kB.on {H H1:Hp}{Q:Bool->Hp->Prop}{b:Bool}(s:aJ H H1)(h:kB H Q b):kB H1 Q b:=λH' s'=>h H' (s.trans s')
def oE (K:PySem.W.Frag)(t:ED):TE:=λσ H Q=>∃ δ,bX K H σ δ/\t δ (kD K H Q)
def oT (K:PySem.W.Frag)(t:TD):TT:=λσ H Q=>∃ δ,bX K H σ δ/\t δ (kB H Q)
def oA (K:PySem.W.Frag)(t:AD):TA:=λσ H Q=>∃ δ,bX K H σ δ/\t δ (kA K H Q)
abbrev bO (t:ED):Prop:=∀ δ (P P':D->Prop),(∀d,P d->P' d)->t δ P->t δ P'
structure PD (X:Cx) (e:Expr) (t:ED):Prop where
 pe:PE X e (oE X.K t)
 mono:bO t
structure m9 (X:Cx) (e:Expr) (t:TD):Prop where
 pt:PT X e (oT X.K t)
 mono:∀ δ (P P':Bool->Prop),(∀d,P d->P' d)->t δ P->t δ P'
structure oq (X:Cx) (e:Expr) (t:TD):Prop where
 pw:PW X e (oT X.K t)
 mono:∀ δ (P P':Bool->Prop),(∀d,P d->P' d)->t δ P->t δ P'
structure nB (X:Cx) (es:List Expr) (t:AD):Prop where
 pa:PA X es (oA X.K t)
 mono:∀ δ (P P':List D->Prop),(∀d,P d->P' d)->t δ P->t δ P'
theorem PT.imp {X:Cx}{e:Expr}{t t':TT}(h:PT X e t)(f:∀ σ H Q,t' σ H Q->t σ H Q):PT X e t':=λpins s σ H Q I q=>h pins s σ H Q I (f σ H Q q)
theorem PW.imp {X:Cx}{e:Expr}{t t':TT}(h:PW X e t)(f:∀ σ H Q,t' σ H Q->t σ H Q):PW X e t':=λwh pins s σ H Q I q=>h wh pins s σ H Q I (f σ H Q q)
theorem PA.imp {X:Cx}{es:List Expr}{t t':TA}(h:PA X es t)(f:∀ σ H Q,t' σ H Q->t σ H Q):PA X es t':=λp pins s σ H Q I q=>h p pins s σ H Q I (f σ H Q q)
section
variable {X:Cx}{e a b c:Expr}{es rest:List Expr}{pos:Pos}{ta tb tc:ED}
def aF (i:Nat):ED:=λδ Q=>∃d,δ[i]?=some (some d)/\Q d
def vC (d:D):ED:=λ_ Q=>Q d
theorem K4 {i:Nat}(h:PE X e (Hz i)):PD X e (aF i) :=
 ⟨h.imp λσ H Q ⟨δ,r,d,hd,k⟩=>let ⟨v,hv,dv⟩:=r.get i d hd;⟨v,hv,k v H (aJ.refl _) dv⟩,λδ P P' f ⟨d,hd,k⟩=>⟨d,hd,f d k⟩⟩
theorem dv (i:Nat){x:Str}{pos:Pos}(hN:X.N[i]?=some x:=by rfl)(hv:Cz X.env.scope x:=by first|exact Or.inl rfl|exact Or.inr (Or.inl rfl)|exact Or.inr (Or.inr rfl))(hd:(x == ("__debug__":Str))=false:=by decide)
  (hcd:(x == ("__classdict__":Str))=false:=by decide):PD X (.Name x pos) (aF i):=K4 (pv i hN hv hd hcd)
theorem Ij {v:V}{d:D}(h:PE X e (tC v))(hv:∀H,Dv X.K H v d):PD X e (vC d) :=
 ⟨h.imp λσ H Q ⟨δ,r,k⟩=>k v H (aJ.refl _) (hv H),λδ P P' f k=>f d k⟩
theorem aD {i j pos}:PD X (.Constant (.int i) j pos) (vC (.int i)):=Ij HS λ_=>.int i
theorem AZ {i j pos}:PD X (.Constant (.bool i) j pos) (vC (.bl i)):=Ij Jh λ_=>.bl i
theorem aP {i j pos}:PD X (.Constant (.str i) j pos) (vC (.str i)):=Ij Bn λ_=>.str i
theorem pI {j pos}:PD X (.Constant .none j pos) (vC .ag):=Ij HU λ_=>.ag
theorem dD {x:Str}{v:V}{u:Value}{d:D}{pos:Pos}(hg:Gl X x)(hm:X.mg x=some u)(r:RelV v u)(hv:∀H,Dv X.K H v d)(hd:(x == ("__debug__":Str))=false:=by decide):PD X (.Name x pos) (vC d):=Ij (D7 hg hm r hd) hv
abbrev F2:=D->D->(D->Prop)->Prop
abbrev d8 (f:F2):Prop:=∀d e (P P':D->Prop),(∀r,P r->P' r)->f d e P->f d e P'
def o9 (f:F2)(ta tb:ED):ED:=λδ Q=>ta δ λd=>tb δ λe=>f d e Q
def gT (K:PySem.W.Frag)(r:R2)(f:F2):Prop:=∀H x y d e Q,Dv K H x d->Dv K H y e->f d e (kD K H Q)->r x y H Q
theorem uQ {t:TE}{r:R2}{f:F2}(hp:PE X e (Hy r (oE X.K ta) (oE X.K tb)))(ma:bO ta)(mb:bO tb)(hd:gT X.K r f)(hf:d8 f):PD X e (o9 f ta tb):=by
 refine⟨hp.imp λσ H Q ⟨δ,r,h⟩=>⟨δ,r,ma _ _ _ (λd hd' v H1 s1 dv=>⟨δ,r.same s1,mb _ _ _ (λe he w H2 s2 ew=>hd H2 v w d e Q (dv.same s2) ew (hf d e _ _ (λz hz=>hz.on (s1.trans s2)) he)) hd'⟩) h⟩,?_⟩
 exact λδ P P' g h=>ma _ _ _ (λd h'=>mb _ _ _ (λe h''=>hf d e _ _ g h'') h') h
theorem Af {op:Operator}{r:R2}{f:F2}(ho:gU X (binaryOp op) r)(hd:gT X.K r f)(hf:d8 f)(ha:PD X a ta)(hb:PD X b tb):PD X (.BinOp a op b pos) (o9 f ta tb) :=
 uQ (t:=oE X.K ta) (Fd ho ha.pe hb.pe) ha.mono hb.mono hd hf
theorem pG {op:CmpOp}{r:R2}{f:F2}(ho:gU X (compareOp op) r)(hd:gT X.K r f)(hf:d8 f)(ha:PD X a ta)(hb:PD X b tb)(hm:behindInMarks op b=false):PD X (.Compare a [op] [b] pos) (o9 f ta tb) :=
 uQ (t:=oE X.K ta) (D3 ho ha.pe hb.pe hm) ha.mono hb.mono hd hf
end
section
variable {X:Cx}
theorem yC:gU X (binaryOp .Add) (λx y H Q=>∃a b xs ys,x=.ref a/\y=.ref b/\fG X.K H a xs/\fG X.K H b ys/\xs.length+ys.length<=sizeLine/\∀p,H p=none->Q (.ref p) (upd H p (.lst (xs++ys)))):=by
 intro pins s σ H x y v u Q I rx ry h
 obtain⟨a,b,xs,ys,rfl,rfl,ha,hb,hz,q⟩:=h
 cases(show v=Value.ref a from rx)
 cases(show u=Value.ref b from ry)
 obtain⟨its,r1,p1,_⟩:=I.list ha
 obtain⟨its2,r2,p2,_⟩:=I.list hb
 have hl1:=r1.length
 have hl2:=r2.length
 obtain⟨⟨cls,dd,data,sl⟩,ho,hc,n,hd⟩:=id p1.isList
 obtain⟨⟨cls2,dd2,data2,sl2⟩,ho2,hc2,n2,hd2⟩:=id p2.isList
 simp only at hc hd hc2 hd2
 subst hc hd hc2 hd2
 have e:its.toArray++its2.toArray=(its++its2).toArray:=by simp
 refine concat_meets ⟨_,ho,rfl⟩ ⟨_,ho2,rfl⟩ noFill_list_add seq_list_add PySem.F.slot_list_add PySem.F.entry_list_add (PySem.F.args_list_add_2 _ _)
  (list_addW a b its.toArray its2.toArray n n2 dd dd2 sl sl2 (by rw[List.size_toArray,List.size_toArray];omega)) ⟨ho,ho2,?_⟩
 rw[e]
 exact⟨.ref _,_,I.LH (t':=s.toks) (r1.append r2) (by rw[List.length_append];omega),rfl,q _ I.fresh⟩
theorem Dy:gU X (binaryOp .Add) (λx y H Q=>∃a b ys,x=.ref a/\y=.ref b/\iz X.K H a []/\iz X.K H b ys/\Q (.ref b) H):=by
 intro pins s σ H x y v u Q I rx ry h
 obtain⟨a,b,ys,rfl,rfl,ha,hb,q⟩:=h
 cases(show v=Value.ref a from rx)
 cases(show u=Value.ref b from ry)
 obtain⟨its,r1,p1,_⟩:=I.tuple ha
 obtain⟨its2,r2,p2,_⟩:=I.tuple hb
 have e1:its=[]:=r1.zero
 subst e1
 obtain⟨⟨cls,dd,data,sl⟩,ho,hc,n,hd⟩:=id p1
 obtain⟨⟨cls2,dd2,data2,sl2⟩,ho2,hc2,n2,hd2⟩:=id p2
 simp only at hc hd hc2 hd2
 subst hc hd hc2 hd2
 exact concat_meets ⟨_,ho,rfl⟩ ⟨_,ho2,rfl⟩ noFill_tuple_add seq_tuple_add PySem.F.slot_tuple_add PySem.F.entry_tuple_add (PySem.F.args_tuple_add_2 _ _)
  (tuple_addW0 a b #[] its2.toArray n n2 dd dd2 sl sl2 rfl) ⟨ho,ho2,⟨.ref b,H,I,rfl,q⟩⟩
end
section
variable {K:PySem.W.Frag}
def DE:F2:=λd e Q=>match d,e with
 |.int i,.int j=>Q (.int (i+j))
 |.str x,.str y=>x.length+y.length<=sizeLine/\Q (.str (x++y))
 |.lst xs,.lst ys=>xs.length+ys.length<=sizeLine/\Q (.lst (xs++ys))
 |.tup xs,.tup ys=>xs.length+ys.length<=sizeLine/\Q (.tup (xs++ys))
 |_,_=>False
theorem JU:d8 DE:=by
 intro d e P P' g h
 unfold DE at h ⊢
 split at h
 ·exact g _ h
 ·exact⟨h.1,g _ h.2⟩
 ·exact⟨h.1,g _ h.2⟩
 ·exact⟨h.1,g _ h.2⟩
 ·exact h.elim
def Ff (K:PySem.W.Frag):R2:=λx y H Q=>(∃i j,x=.int i/\y=.int j/\Q (.int (i+j)) H)\/(∃i j,x=.str i/\y=.str j/\i.length+j.length<=sizeLine/\Q (.str (i++j)) H) \/
 (∃a b xs ys,x=.ref a/\y=.ref b/\fG K H a xs/\fG K H b ys/\xs.length+ys.length<=sizeLine/\∀p,H p=none->Q (.ref p) (upd H p (.lst (xs++ys)))) \/
 Fg K x y H Q\/(∃a b ys,x=.ref a/\y=.ref b/\iz K H a []/\iz K H b ys/\Q (.ref b) H)
theorem Dx {X:Cx}:gU X (binaryOp .Add) (Ff X.K):=HH.or (wo.or (yC.or (Dz.or Dy)))
theorem An:gT K (Ff K) DE:=by
 intro H x y d e Q hx hy h
 cases hx with
 |int i=>cases hy with
  |int j=>exact .inl ⟨i,j,rfl,rfl,h _ H (aJ.refl _) (.int _)⟩
  |_=>exact h.elim
 |str i=>cases hy with
  |str j=>exact .inr (.inl ⟨i,j,rfl,rfl,h.1,h.2 _ H (aJ.refl _) (.str _)⟩)
  |_=>exact h.elim
 |lst h1 h2=>cases hy with
  |lst g1 g2 =>
   refine .inr (.inr (.inl ⟨_,_,_,_,rfl,rfl,h1,g1,?_,λp hp=>?_⟩))
   ·rw[h2.length,g2.length];exact h.1
   ·exact h.2 _ _ (af hp) (.lst (fG.of aM) ((h2.append g2).same (af hp)))
  |_=>exact h.elim
 |tup h1 h2=>cases hy with
  |tup g1 g2 =>
   have z:=h.1
   rw[<- h2.length,<- g2.length] at z
   cases h2 with
   |nil=>exact .inr (.inr (.inr (.inr ⟨_,_,_,rfl,rfl,h1,g1,h.2 _ H (aJ.refl _) (.tup g1 g2)⟩)))
   |cons a r =>
    refine .inr (.inr (.inr (.inl ⟨_,_,_,_,rfl,rfl,h1,g1,(λq=>nomatch q),z,λe=>?_,λe p hp=>?_⟩)))
    ·subst e
     cases g2
     have q:=h.2
     rw[List.append_nil] at q
     exact q _ H (aJ.refl _) (.tup h1 (.cons a r))
    ·exact h.2 _ _ (af hp) (.tup (iz.of aM) (((bN.cons a r).append g2).same (af hp)))
  |_=>exact h.elim
 |_=>exact h.elim
def fI (C:Int->Int->Prop)(g:Int->Int->D):F2:=λd e Q=>match d,e with
 |.int i,.int j=>C i j/\Q (g i j)
 |_,_=>False
theorem LI {C:Int->Int->Prop}{g:Int->Int->D}:d8 (fI C g):=by
 intro d e P P' f h
 unfold fI at h ⊢
 split at h
 ·exact⟨h.1,f _ h.2⟩
 ·exact h.elim
theorem wA {C:Int->Int->Prop}{g:Int->Int->V}{g':Int->Int->D}(hg:∀H i j,Dv K H (g i j) (g' i j)):gT K (rI C g) (fI C g'):=by
 intro H x y d e Q hx hy h
 cases hx with
 |int i=>cases hy with
  |int j=>exact⟨i,j,rfl,rfl,h.1,h.2 _ H (aJ.refl _) (hg H i j)⟩
  |_=>exact h.elim
 |_=>exact h.elim
def FF (g:Int->Int->D):F2:=λd e Q=>match d,e with
 |.int i,.int j=>Q (g i j)
 |_,_=>False
theorem wa {g:Int->Int->D}:d8 (FF g):=by
 intro d e P P' f h
 unfold FF at h ⊢
 split at h
 ·exact f _ h
 ·exact h.elim
theorem iF {g:Int->Int->V}{g':Int->Int->D}(hg:∀H i j,Dv K H (g i j) (g' i j)):gT K (Cs g) (FF g'):=by
 intro H x y d e Q hx hy h
 cases hx with
 |int i=>cases hy with
  |int j=>exact⟨i,j,rfl,rfl,h _ H (aJ.refl _) (hg H i j)⟩
  |_=>exact h.elim
 |_=>exact h.elim
end
section
variable {X:Cx}{a b c:Expr}{es rest:List Expr}{pos:Pos}{ta tb tc:ED}
def uC:ED->ED->ED:=o9 DE
def mC:ED->ED->ED:=o9 (FF λi j=>.int (i - j))
def KP:ED->ED->ED:=o9 (fI IntMulOk λi j=>.int (i*j))
def qy:ED->ED->ED:=o9 (fI (λ_ j=>0<j) λi j=>.int (i%j))
def qw:ED->ED->ED:=o9 (fI Ft λi j=>.int (i / j))
theorem cF (ha:PD X a ta)(hb:PD X b tb):PD X (.BinOp a .Add b pos) (uC ta tb):=Af Dx An JU ha hb
theorem fm (ha:PD X a ta)(hb:PD X b tb):PD X (.BinOp a .Sub b pos) (mC ta tb):=Af HN (iF λ_ _ _=>.int _) wa ha hb
theorem pH (ha:PD X a ta)(hb:PD X b tb):PD X (.BinOp a .Mult b pos) (KP ta tb):=Af D1 (wA λ_ _ _=>.int _) LI ha hb
theorem b5 (ha:PD X a ta)(hb:PD X b tb):PD X (.BinOp a .Mod b pos) (qy ta tb):=Af HM (wA λ_ _ _=>.int _) LI ha hb
theorem cG (ha:PD X a ta)(hb:PD X b tb):PD X (.BinOp a .FloorDiv b pos) (qw ta tb):=Af D0 (wA λ_ _ _=>.int _) LI ha hb
def vk (ta:ED):ED:=λδ Q=>ta δ λd=>∃i,d=.int i/\Q (.int (-i))
theorem oN (ha:PD X a ta):PD X (.UnaryOp .USub a pos) (vk ta) :=
 ⟨(Jk IG ha.pe).imp λσ H Q ⟨δ,r,h⟩=>⟨δ,r,ha.mono _ _ _ (λd ⟨i,e,k⟩ v H1 s1 dv=>by subst e;cases dv;exact⟨i,rfl,k _ H1 s1 (.int _)⟩) h⟩,
  λδ P P' g h=>ha.mono _ _ _ (λd ⟨i,e,k⟩=>⟨i,e,g _ k⟩) h⟩
def MF:ED->ED->ED:=o9 (FF λi j=>.bl (decide (i<j)))
def Mh:ED->ED->ED:=o9 (FF λi j=>.bl (decide (i<=j)))
def KJ:ED->ED->ED:=o9 (FF λi j=>.bl (decide (j<i)))
theorem GL (ha:PD X a ta)(hb:PD X b tb):PD X (.Compare a [.LtE] [b] pos) (Mh ta tb):=pG Be (iF λ_ _ _=>.bl _) wa ha hb (gc _)
theorem GG (ha:PD X a ta)(hb:PD X b tb):PD X (.Compare a [.Gt] [b] pos) (KJ ta tb):=pG FZ (iF λ_ _ _=>.bl _) wa ha hb (gc _)
end
mutual
def kh:D->PyData
 |.ag=>.none
 |.bl b=>.bool b
 |.int i=>.int i
 |.str x=>.str x
 |.lst xs=>.list (gH xs)
 |.tup xs=>.tuple (gH xs)
 |.obj _ _=>.none
 |.dK _=>.none
 |.dT _=>.none
 |.adr _=>.none
 |.exc _ _ _=>.none
def gH:List D->List PyData
 |[]=>[]
 |d::ds=>kh d::gH ds
end
mutual
def plain:D->Bool
 |.lst xs=>lz xs
 |.tup xs=>lz xs
 |.obj _ _=>false
 |.dK _=>false
 |.dT _=>false
 |.adr _=>false
 |.exc _ _ _=>false
 |_=>true
def lz:List D->Bool
 |[]=>true
 |d::ds=>plain d&&lz ds
end
section
variable {K:PySem.W.Frag}{H:Hp}
mutual
theorem Dv.dat:∀{v:V} {d:D},plain d=true->Dv K H v d->lT K H v (kh d)
 |_,_,_,.ag=>by rw[kh];exact .ag
 |_,_,_,.bl b=>by rw[kh];exact .bl b
 |_,_,_,.int i=>by rw[kh];exact .int i
 |_,_,_,.str x=>by rw[kh];exact .str x
 |_,_,p,.lst h1 h2=>by rw[kh];rw[plain] at p;exact .lst h1 (bN.dat p h2)
 |_,_,p,.tup h1 h2=>by rw[kh];rw[plain] at p;exact .tup h1 (bN.dat p h2)
 |_,_,p,.obj _ _=>by rw[plain] at p;cases p
 |_,_,p,.dK _ _=>by rw[plain] at p;cases p
 |_,_,p,.dT _ _=>by rw[plain] at p;cases p
 |_,_,p,.adr _=>by rw[plain] at p;cases p
 |_,_,p,.exc _ _ _=>by rw[plain] at p;cases p
theorem bN.dat:∀{vs:List V} {ds:List D},lz ds=true->bN K H vs ds->i4 K H vs (gH ds)
 |_,_,_,.nil=>by rw[gH];exact .nil
 |_,_,p,.cons h1 h2=>by
  rw[gH]
  rw[lz,Bool.and_eq_true] at p
  exact .cons (Dv.dat p.1 h1) (bN.dat p.2 h2)
end
end
def nI:D->D->Option Bool
 |.ag,.ag=>some true
 |.bl a,.bl b=>some (decide (a=b))
 |.int i,.int j=>some (decide (i=j))
 |.str x,.str y=>some (decide (x=y))
 |.ag,.bl _=>some false
 |.ag,.int _=>some false
 |.ag,.str _=>some false
 |.bl _,.ag=>some false
 |.bl _,.str _=>some false
 |.int _,.ag=>some false
 |.int _,.str _=>some false
 |.str _,.ag=>some false
 |.str _,.bl _=>some false
 |.str _,.int _=>some false
 |_,_=>none
def yu (neg:Bool):F2:=λd e Q=>match nI d e with
 |some b=>Q (.bl (if neg then !b else b))
 |none=>plain d=true/\plain e=true/\SeqAt.shaped (kh d)=true/\SeqAt.shaped (kh e)=true/\Q (.bl (if neg then !PyData.eqv (kh d) (kh e) else PyData.eqv (kh d) (kh e)))
theorem De {neg:Bool}:d8 (yu neg):=by
 intro d e P P' f h
 unfold yu at h ⊢
 split at h
 ·exact f _ h
 ·exact⟨h.1,h.2.1,h.2.2.1,h.2.2.2.1,f _ h.2.2.2.2⟩
theorem xf {K:PySem.W.Frag}:gT K (λx y H Q=>MA x y H Q\/ER K false x y H Q) (yu false):=by
 intro H x y d e Q hx hy h
 unfold yu at h
 split at h
 ·rename_i b hb
  left
  have q:=h _ H (aJ.refl _) (.bl _)
  cases hx<;>cases hy<;>simp only[nI,Option.some.injEq,reduceCtorEq] at hb<;>subst hb<;>refine⟨rfl,?_⟩<;>simpa using q
 ·obtain⟨p1,p2,s1,s2,q⟩:=h
  exact .inr ⟨_,_,hx.dat p1,hy.dat p2,s1,s2,q _ H (aJ.refl _) (.bl _)⟩
theorem xg {K:PySem.W.Frag}:gT K (λx y H Q=>MC x y H Q\/ER K true x y H Q) (yu true):=by
 intro H x y d e Q hx hy h
 unfold yu at h
 split at h
 ·rename_i b hb
  left
  have q:=h _ H (aJ.refl _) (.bl _)
  cases hx<;>cases hy<;>simp only[nI,Option.some.injEq,reduceCtorEq] at hb<;>subst hb<;>refine⟨rfl,?_⟩<;>simpa using q
 ·obtain⟨p1,p2,s1,s2,q⟩:=h
  exact .inr ⟨_,_,hx.dat p1,hy.dat p2,s1,s2,q _ H (aJ.refl _) (.bl _)⟩
def IT (neg:Bool):F2:=λd e Q=>match e with
 |.ag=>Q (.bl (match d with|.ag=>!neg|_=>neg))
 |.bl b=>∃a,d=.bl a/\Q (.bl (if neg then a != b else a == b))
 |_=>False
theorem JY {neg:Bool}:d8 (IT neg):=by
 intro d e P P' f h
 unfold IT at h ⊢
 split at h
 ·exact f _ h
 ·obtain⟨a,ha,q⟩:=h;exact⟨a,ha,f _ q⟩
 ·exact h.elim
theorem C_ {K:PySem.W.Frag}:gT K (λx y H Q=>(y=.ag/\Q (.bl (decide (x=.ag))) H)\/∃a b,x=.bl a/\y=.bl b/\Q (.bl (a == b)) H) (IT false):=by
 intro H x y d e Q hx hy h
 cases hy with
 |ag =>
  refine .inl ⟨rfl,?_⟩
  have q:=h _ H (aJ.refl _) (.bl _)
  cases hx<;>exact q
 |bl b =>
  obtain⟨a,rfl,q⟩:=h
  cases hx
  exact .inr ⟨a,b,rfl,rfl,q _ H (aJ.refl _) (.bl _)⟩
 |_=>exact h.elim
theorem wB {K:PySem.W.Frag}:gT K (λx y H Q=>(y=.ag/\Q (.bl (!decide (x=.ag))) H)\/∃a b,x=.bl a/\y=.bl b/\Q (.bl (a != b)) H) (IT true):=by
 intro H x y d e Q hx hy h
 cases hy with
 |ag =>
  refine .inl ⟨rfl,?_⟩
  have q:=h _ H (aJ.refl _) (.bl _)
  cases hx<;>exact q
 |bl b =>
  obtain⟨a,rfl,q⟩:=h
  cases hx
  exact .inr ⟨a,b,rfl,rfl,q _ H (aJ.refl _) (.bl _)⟩
 |_=>exact h.elim
def ft:D->Bool
 |.ag=>true
 |.bl _=>true
 |.int _=>true
 |.str _=>true
 |_=>false
def sM:D->D->Bool
 |.ag,.ag=>true
 |.bl a,.bl b=>a == b
 |.bl a,.int j=>(if a then 1 else 0) == j
 |.int i,.bl b=>i == (if b then 1 else 0)
 |.int i,.int j=>i == j
 |.str x,.str y=>x == y
 |_,_=>false
def inD (x:D)(xs:List D):Bool:=xs.any λy=>sM y x
def fB (x y:Str):Bool:=!(Builtin.Str.occurrences y x 0 y.length 1).isEmpty
def GR (neg:Bool):F2:=λd e Q=>match e with
 |.lst xs=>ft d=true/\xs.all ft=true/\Q (.bl (if neg then !inD d xs else inD d xs))
 |.tup xs=>ft d=true/\xs.all ft=true/\Q (.bl (if neg then !inD d xs else inD d xs))
 |.str y=>∃x,d=.str x/\Q (.bl (if neg then !fB x y else fB x y))
 |_=>False
theorem Dh {neg:Bool}:d8 (GR neg):=by
 intro d e P P' f h
 unfold GR at h ⊢
 split at h
 ·exact⟨h.1,h.2.1,f _ h.2.2⟩
 ·exact⟨h.1,h.2.1,f _ h.2.2⟩
 ·obtain⟨a,ha,q⟩:=h;exact⟨a,ha,f _ q⟩
 ·exact h.elim
section
variable {K:PySem.W.Frag}{H:Hp}
theorem Dv.flat {v:V}{d:D}(h:Dv K H v d)(f:ft d=true):kq v=true:=by
 cases h<;>first|rfl|cases f
theorem Dv.sM {v w:V}{d e:D}(h:Dv K H v d)(g:Dv K H w e)(f:ft d=true)(f':ft e=true):DD v w=DC.sM d e:=by
 cases h<;>cases g<;>first|rfl|cases f|cases f'
theorem bN.flat:∀{vs:List V} {ds:List D},bN K H vs ds->ds.all ft=true->vs.all kq=true
 |_,_,.nil,_=>rfl
 |_,_,.cons h r,f=>by
  rw[List.all_cons,Bool.and_eq_true] at f ⊢
  exact⟨h.flat f.1,bN.flat r f.2⟩
theorem bN.Cp {w:V}{e:D}(g:Dv K H w e)(f':ft e=true):∀{vs:List V} {ds:List D},bN K H vs ds->ds.all ft=true->L2.Cp w vs=inD e ds
 |_,_,.nil,_=>rfl
 |_,_,.cons h r,f=>by
  rw[List.all_cons,Bool.and_eq_true] at f
  have q:=bN.Cp g f' r f.2
  unfold L2.Cp inD at q ⊢
  rw[List.any_cons,List.any_cons,q,h.sM g f.1 f']
end
theorem sH {K:PySem.W.Frag}:gT K (λx y H Q=>Jm K false x y H Q\/∃i j,x=.str i/\y=.str j/\Q (.bl (!(Builtin.Str.occurrences j i 0 j.length 1).isEmpty)) H) (GR false):=by
 intro H x y d e Q hx hy h
 cases hy with
 |lst g1 g2=>exact .inl ⟨_,_,rfl,.inl g1,hx.flat h.1,g2.flat h.2.1,by rw[bN.Cp hx h.1 g2 h.2.1];exact h.2.2 _ H (aJ.refl _) (.bl _)⟩
 |tup g1 g2=>exact .inl ⟨_,_,rfl,.inr g1,hx.flat h.1,g2.flat h.2.1,by rw[bN.Cp hx h.1 g2 h.2.1];exact h.2.2 _ H (aJ.refl _) (.bl _)⟩
 |str j =>
  obtain⟨i,rfl,q⟩:=h
  cases hx
  exact .inr ⟨i,j,rfl,rfl,q _ H (aJ.refl _) (.bl _)⟩
 |_=>exact h.elim
theorem wC {K:PySem.W.Frag}:gT K (λx y H Q=>Jm K true x y H Q\/∃i j,x=.str i/\y=.str j/\Q (.bl (!(!(Builtin.Str.occurrences j i 0 j.length 1).isEmpty))) H) (GR true):=by
 intro H x y d e Q hx hy h
 cases hy with
 |lst g1 g2=>exact .inl ⟨_,_,rfl,.inl g1,hx.flat h.1,g2.flat h.2.1,by rw[bN.Cp hx h.1 g2 h.2.1];exact h.2.2 _ H (aJ.refl _) (.bl _)⟩
 |tup g1 g2=>exact .inl ⟨_,_,rfl,.inr g1,hx.flat h.1,g2.flat h.2.1,by rw[bN.Cp hx h.1 g2 h.2.1];exact h.2.2 _ H (aJ.refl _) (.bl _)⟩
 |str j =>
  obtain⟨i,rfl,q⟩:=h
  cases hx
  exact .inr ⟨i,j,rfl,rfl,q _ H (aJ.refl _) (.bl _)⟩
 |_=>exact h.elim
section
variable {X:Cx}{a b c:Expr}{es rest:List Expr}{pos:Pos}{ta tb tc:ED}
def vEq:ED->ED->ED:=o9 (yu false)
def IY:ED->ED->ED:=o9 (yu true)
def Mg:ED->ED->ED:=o9 (IT false)
def Cd:ED->ED->ED:=o9 (IT true)
def KL:ED->ED->ED:=o9 (GR false)
def IK:ED->ED->ED:=o9 (GR true)
theorem iD (hu:X.A.units+64<cLine)(ha:PD X a ta)(hb:PD X b tb):PD X (.Compare a [.Eq] [b] pos) (vEq ta tb):=pG (FY.or (Bc hu)) xf De ha hb (gc _)
theorem K3 (hu:X.A.units+64<cLine)(ha:PD X a ta)(hb:PD X b tb):PD X (.Compare a [.NotEq] [b] pos) (IY ta tb):=pG (Fb.or (Bf hu)) xg De ha hb (gc _)
theorem Il (ha:PD X a ta)(hb:PD X b tb)(hm:behindInMarks .In b=false):PD X (.Compare a [.In] [b] pos) (KL ta tb):=pG (nj.or nk) sH Dh ha hb hm
theorem xY (ha:PD X a ta)(hb:PD X b tb)(hm:behindInMarks .NotIn b=false):PD X (.Compare a [.NotIn] [b] pos) (IK ta tb):=pG (tL.or tM) wC Dh ha hb hm
end
abbrev fF (t:TD):Prop:=∀ δ (P P':Bool->Prop),(∀d,P d->P' d)->t δ P->t δ P'
abbrev kl (t:AD):Prop:=∀ δ (P P':List D->Prop),(∀d,P d->P' d)->t δ P->t δ P'
def bK (t:ED):TD:=λδ Q=>t δ λd=>∃b,d=.bl b/\Q b
theorem BQ {t:ED}(m:bO t):fF (bK t):=λδ P P' g h=>m _ _ _ (λd ⟨b,e,q⟩=>⟨b,e,g b q⟩) h
theorem Eo {K:PySem.W.Frag}{t:ED}(m:bO t){δ:SD}{H:Hp}{Q:Bool->Hp->Prop}(h:bK t δ (kB H Q)):t δ (kD K H λx H'=>∃k,x=.bl k/\Q k H') :=
 m _ _ _ (λd ⟨b,e,q⟩ v H' s dv=>by subst e;cases dv;exact⟨b,rfl,q H' s⟩) h
section
variable {X:Cx}{a b c e:Expr}{es rest:List Expr}{pos:Pos}{ta tb tc:ED}{ua ub:TD}
theorem m9.of {t:TE}{v:ED}(h:PT X e (Fm t))(p:∀ σ H Q,oE X.K v σ H Q->t σ H Q)(m:bO v):m9 X e (bK v) :=
 ⟨PT.imp h λσ H Q ⟨δ,r,q⟩=>p σ H _ ⟨δ,r,Eo m q⟩,BQ m⟩
theorem F4 {r:R2}{f:F2}(ma:bO ta)(mb:bO tb)(hd:gT X.K r f)(hf:d8 f):(∀ σ H Q,oE X.K (o9 f ta tb) σ H Q->Hy r (oE X.K ta) (oE X.K tb) σ H Q)/\bO (o9 f ta tb):=by
 refine⟨λσ H Q ⟨δ,r,h⟩=>⟨δ,r,ma _ _ _ (λd hd' v H1 s1 dv=>⟨δ,r.same s1,mb _ _ _ (λe he w H2 s2 ew=>hd H2 v w d e Q (dv.same s2) ew (hf d e _ _ (λz hz=>hz.on (s1.trans s2)) he)) hd'⟩) h⟩,?_⟩
 exact λδ P P' g h=>ma _ _ _ (λd h'=>mb _ _ _ (λe h''=>hf d e _ _ g h'') h') h
theorem m5 {op:CmpOp}{r:R2}{f:F2}(ho:gU X (compareOp op) r)(hd:gT X.K r f)(hf:d8 f)(ha:PD X a ta)(hb:PD X b tb)(hm:behindInMarks op b=false):m9 X (.Compare a [op] [b] pos) (bK (o9 f ta tb)) :=
 let q:=F4 ha.mono hb.mono hd hf
 m9.of (EI ho ha.pe hb.pe hm) q.1 q.2
theorem IA (ha:PD X a ta)(hb:PD X b tb):m9 X (.Compare a [.Lt] [b] pos) (bK (MF ta tb)):=m5 Jg (iF λ_ _ _=>.bl _) wa ha hb (gc _)
theorem H_ (ha:PD X a ta)(hb:PD X b tb):m9 X (.Compare a [.Gt] [b] pos) (bK (KJ ta tb)):=m5 FZ (iF λ_ _ _=>.bl _) wa ha hb (gc _)
theorem dF (hu:X.A.units+64<cLine)(ha:PD X a ta)(hb:PD X b tb):m9 X (.Compare a [.Eq] [b] pos) (bK (vEq ta tb)):=m5 (FY.or (Bc hu)) xf De ha hb (gc _)
theorem zm (hu:X.A.units+64<cLine)(ha:PD X a ta)(hb:PD X b tb):m9 X (.Compare a [.NotEq] [b] pos) (bK (IY ta tb)):=m5 (Fb.or (Bf hu)) xg De ha hb (gc _)
theorem Lm (ha:PD X a ta)(hb:PD X b tb):m9 X (.Compare a [.Is] [b] pos) (bK (Mg ta tb)):=m5 (HL.or Bd) C_ JY ha hb (gc _)
theorem yP (ha:PD X a ta)(hb:PD X b tb):m9 X (.Compare a [.IsNot] [b] pos) (bK (Cd ta tb)):=m5 (D2.or vG) wB JY ha hb (gc _)
theorem xH (ha:PD X a ta)(hb:PD X b tb)(hm:behindInMarks .In b=false):m9 X (.Compare a [.In] [b] pos) (bK (KL ta tb)):=m5 (nj.or nk) sH Dh ha hb hm
def Er:D->Option Bool
 |.ag=>some false
 |.bl b=>some b
 |.int i=>some (i != 0)
 |.str y=>if y.length<=sizeLine then some ((y.length:Int) != 0) else none
 |.lst xs=>some (!xs.isEmpty)
 |.tup xs=>some (!xs.isEmpty)
 |_=>none
def Ce (t:ED):TD:=λδ Q=>t δ λd=>∃b,Er d=some b/\Q b
theorem bN.isEmpty {K:PySem.W.Frag}{H:Hp}{vs:List V}{ds:List D}(h:bN K H vs ds):vs.isEmpty=ds.isEmpty:=by cases h<;>rfl
theorem Dv.Md {K:PySem.W.Frag}{H:Hp}{v:V}{d:D}{b:Bool}(h:Dv K H v d)(e:Er d=some b):F0 K v H b:=by
 cases h with
 |ag=>cases e;rfl
 |bl x=>cases e;rfl
 |int i=>cases e;rfl
 |str x =>
  have e':(if x.length<=sizeLine then some ((x.length:Int) != 0) else none)=some b:=e
  by_cases hz:x.length<=sizeLine
  ·rw[if_pos hz] at e'
   exact⟨hz,(Option.some.inj e').symm⟩
  ·rw[if_neg hz] at e'
   cases e'
 |lst h1 h2=>cases e;exact .inl ⟨_,h1,by rw[h2.isEmpty]⟩
 |tup h1 h2=>cases e;exact .inr (.inl ⟨_,h1,by rw[h2.isEmpty]⟩)
 |dK _ _=>cases e
 |exc _ _ _=>cases e
 |obj _ _=>cases e
 |dT _ _=>cases e
 |adr _=>cases e
theorem eB (ha:PD X a ta)(he:∀whole,isTrue a X.env whole=(do let v <- whole;standAt a.pos;holding [v] (truthy v)):=by intro _;rfl):m9 X a (Ce ta) :=
 ⟨PT.imp (Bt ha.pe he) λσ H Q ⟨δ,r,h⟩=>⟨δ,r,ha.mono _ _ _ (λd ⟨b,e,q⟩ v H1 s1 dv=>⟨b,dv.Md e,q H1 s1⟩) h⟩,λδ P P' g h=>ha.mono _ _ _ (λd ⟨b,e,q⟩=>⟨b,e,g b q⟩) h⟩
def Lp (t:TD):TD:=λδ Q=>t δ λb=>Q (!b)
def uB (t u:TD):TD:=λδ Q=>t δ λb=>if b=true then u δ Q else Q false
def IX (t u:TD):TD:=λδ Q=>t δ λb=>if b=true then Q true else u δ Q
theorem qd (ha:m9 X a ua):m9 X (.UnaryOp .Not a pos) (Lp ua) :=
 ⟨PT.imp (Hj ha.pt) λσ H Q ⟨δ,r,h⟩=>⟨δ,r,ha.mono _ _ _ (λb q H' s=>q H' s) h⟩,λδ P P' g h=>ha.mono _ _ _ (λb q=>g _ q) h⟩
theorem JW (ma:fF ua)(mb:fF ub):fF (uB ua ub):=λδ P P' g h=>ma _ _ _ (λb q=>by
 cases b with
 |true=>rw[if_pos rfl] at q ⊢;exact mb _ _ _ g q
 |false=>rw[if_neg Bool.false_ne_true] at q ⊢;exact g _ q) h
theorem LM (ma:fF ua)(mb:fF ub):fF (IX ua ub):=λδ P P' g h=>ma _ _ _ (λb q=>by
 cases b with
 |true=>rw[if_pos rfl] at q ⊢;exact g _ q
 |false=>rw[if_neg Bool.false_ne_true] at q ⊢;exact mb _ _ _ g q) h
theorem oq.td (h:oq X e ua):m9 X e ua:=⟨h.pw.pt,h.mono⟩
theorem mD (ha:m9 X a ua):oq X (.BoolOp .And [a] pos) ua:=⟨EN ha.pt,ha.mono⟩
theorem lS (ha:m9 X a ua):oq X (.BoolOp .Or [a] pos) ua:=⟨Hl ha.pt,ha.mono⟩
theorem w_and (ha:m9 X a ua)(hb:oq X (.BoolOp .And (b::rest) pos) ub):oq X (.BoolOp .And (a::b::rest) pos) (uB ua ub):=by
 refine⟨PW.imp (Hk ha.pt hb.pw) λσ H Q ⟨δ,r,h⟩=>⟨δ,r,ha.mono _ _ _ (λb q H' s=>?_) h⟩,JW ha.mono hb.mono⟩
 cases b with
 |true=>rw[if_pos rfl] at q ⊢;exact⟨δ,r.same s,hb.mono _ _ _ (λb k=>k.on s) q⟩
 |false=>rw[if_neg Bool.false_ne_true] at q ⊢;exact q H' s
theorem w_or (ha:m9 X a ua)(hb:oq X (.BoolOp .Or (b::rest) pos) ub):oq X (.BoolOp .Or (a::b::rest) pos) (IX ua ub):=by
 refine⟨PW.imp (Jl ha.pt hb.pw) λσ H Q ⟨δ,r,h⟩=>⟨δ,r,ha.mono _ _ _ (λb q H' s=>?_) h⟩,LM ha.mono hb.mono⟩
 cases b with
 |true=>rw[if_pos rfl] at q ⊢;exact q H' s
 |false=>rw[if_neg Bool.false_ne_true] at q ⊢;exact⟨δ,r.same s,hb.mono _ _ _ (λb k=>k.on s) q⟩
def Lq (ta tb:ED):ED:=λδ Q=>ta δ λd=>∃b,d=.bl b/\if b=true then tb δ Q else Q (.bl false)
def Ls (ta tb:ED):ED:=λδ Q=>ta δ λd=>∃b,d=.bl b/\if b=true then Q (.bl true) else tb δ Q
def KQ (ta:ED):ED:=λδ Q=>ta δ λd=>∃b,d=.bl b/\Q (.bl (!b))
theorem fH {op}(h:PD X a ta):PD X (.BoolOp op [a] pos) ta:=⟨HW h.pe,h.mono⟩
theorem kn (ha:PD X a ta)(hb:PD X (.BoolOp .And (b::rest) pos) tb):PD X (.BoolOp .And (a::b::rest) pos) (Lq ta tb):=by
 refine⟨(HQ ha.pe hb.pe).imp λσ H Q ⟨δ,r,h⟩=>⟨δ,r,ha.mono _ _ _ (λd ⟨b,e,q⟩ v H1 s1 dv=>?_) h⟩,λδ P P' g h=>ha.mono _ _ _ (λd ⟨b,e,q⟩=>⟨b,e,?_⟩) h⟩
 ·subst e
  cases dv
  refine⟨b,rfl,?_⟩
  cases b with
  |true=>rw[if_pos rfl] at q ⊢;exact⟨δ,r.same s1,hb.mono _ _ _ (λb k=>k.on s1) q⟩
  |false=>rw[if_neg Bool.false_ne_true] at q ⊢;exact q _ H1 s1 (.bl _)
 ·cases b with
  |true=>rw[if_pos rfl] at q ⊢;exact hb.mono _ _ _ g q
  |false=>rw[if_neg Bool.false_ne_true] at q ⊢;exact g _ q
theorem yn (ha:PD X a ta)(hb:PD X (.BoolOp .Or (b::rest) pos) tb):PD X (.BoolOp .Or (a::b::rest) pos) (Ls ta tb):=by
 refine⟨(Jj ha.pe hb.pe).imp λσ H Q ⟨δ,r,h⟩=>⟨δ,r,ha.mono _ _ _ (λd ⟨b,e,q⟩ v H1 s1 dv=>?_) h⟩,λδ P P' g h=>ha.mono _ _ _ (λd ⟨b,e,q⟩=>⟨b,e,?_⟩) h⟩
 ·subst e
  cases dv
  refine⟨b,rfl,?_⟩
  cases b with
  |true=>rw[if_pos rfl] at q ⊢;exact q _ H1 s1 (.bl _)
  |false=>rw[if_neg Bool.false_ne_true] at q ⊢;exact⟨δ,r.same s1,hb.mono _ _ _ (λb k=>k.on s1) q⟩
 ·cases b with
  |true=>rw[if_pos rfl] at q ⊢;exact g _ q
  |false=>rw[if_neg Bool.false_ne_true] at q ⊢;exact hb.mono _ _ _ g q
theorem Io (ha:PD X a ta):PD X (.UnaryOp .Not a pos) (KQ ta) :=
 ⟨(HV ha.pe).imp λσ H Q ⟨δ,r,h⟩=>⟨δ,r,ha.mono _ _ _ (λd ⟨b,e,q⟩ v H1 s1 dv=>by subst e;cases dv;exact⟨b,rfl,q _ H1 s1 (.bl _)⟩) h⟩,
  λδ P P' g h=>ha.mono _ _ _ (λd ⟨b,e,q⟩=>⟨b,e,g _ q⟩) h⟩
def Mf (u:TD)(ta tb:ED):ED:=λδ Q=>u δ λb=>if b=true then ta δ Q else tb δ Q
theorem Ab (hc:m9 X c ua)(ha:PD X a ta)(hb:PD X b tb):PD X (.IfExp c a b pos) (Mf ua ta tb):=by
 refine⟨(Bl hc.pt ha.pe hb.pe).imp λσ H Q ⟨δ,r,h⟩=>⟨δ,r,hc.mono _ _ _ (λk q H1 s1=>?_) h⟩,λδ P P' g h=>hc.mono _ _ _ (λk q=>?_) h⟩
 ·cases k with
  |true=>rw[if_pos rfl] at q ⊢;exact⟨δ,r.same s1,ha.mono _ _ _ (λb k=>k.on s1) q⟩
  |false=>rw[if_neg Bool.false_ne_true] at q ⊢;exact⟨δ,r.same s1,hb.mono _ _ _ (λb k=>k.on s1) q⟩
 ·cases k with
  |true=>rw[if_pos rfl] at q ⊢;exact ha.mono _ _ _ g q
  |false=>rw[if_neg Bool.false_ne_true] at q ⊢;exact hb.mono _ _ _ g q
def xR (f f':F2)(ta tb tc:ED):ED:=λδ Q=>ta δ λx=>tb δ λy=>f x y λz=>∃k,z=.bl k/\if k=true then tc δ λw=>f' y w Q else Q (.bl false)
theorem AV {r r':R2}{f f':F2}(ma:bO ta)(mb:bO tb)(mc:bO tc)(hd:gT X.K r f)(hf:d8 f)(hd':gT X.K r' f')(hf':d8 f') :
  (∀ σ H Q,oE X.K (xR f f' ta tb tc) σ H Q->CL r r' (oE X.K ta) (oE X.K tb) (oE X.K tc) σ H Q)/\bO (xR f f' ta tb tc):=by
 refine⟨λσ H Q ⟨δ,r,h⟩=>⟨δ,r,ma _ _ _ (λd h1 v H1 s1 dv=>⟨δ,r.same s1,mb _ _ _ (λe h2 w H2 s2 ew=>hd H2 v w d e _ (dv.same s2) ew (hf d e _ _ (λz hz u H3 s3 du=>?_) h2)) h1⟩) h⟩,?_⟩
 ·obtain⟨k,rfl,q⟩:=hz
  cases du
  refine⟨k,rfl,?_⟩
  have s:=s1.trans (s2.trans s3)
  cases k with
  |true =>
   rw[if_pos rfl] at q ⊢
   exact⟨δ,r.same s,mc _ _ _ (λd h3 u H4 s4 du=>hd' H4 w u e d Q (ew.same (s3.trans s4)) du (hf' _ _ _ _ (λz hz=>hz.on (s.trans s4)) h3)) q⟩
  |false =>
   rw[if_neg Bool.false_ne_true] at q ⊢
   exact q _ H3 s (.bl _)
 ·intro δ P P' g h
  refine ma _ _ _ (λd h1=>mb _ _ _ (λe h2=>hf _ _ _ _ (λz ⟨k,ez,q⟩=>⟨k,ez,?_⟩) h2) h1) h
  cases k with
  |true=>rw[if_pos rfl] at q ⊢;exact mc _ _ _ (λd h3=>hf' _ _ _ _ g h3) q
  |false=>rw[if_neg Bool.false_ne_true] at q ⊢;exact g _ q
def Ke:F2:=FF λi j=>.bl (decide (i<=j))
theorem Ad (ha:PD X a ta)(hb:PD X b tb)(hc:PD X c tc)(hm:lastMarks [.LtE,.LtE] [b,c]=false:=by with_unfolding_all rfl):PD X (.Compare a [.LtE,.LtE] [b,c] pos) (xR Ke Ke ta tb tc) :=
 let q:=AV (X:=X) ha.mono hb.mono hc.mono (r:=Cs λi j=>.bl (decide (i<=j))) (r':=Cs λi j=>.bl (decide (i<=j))) (f:=Ke) (f':=Ke) (iF λ_ _ _=>.bl _) wa (iF λ_ _ _=>.bl _) wa
 ⟨(Bj Be Be ha.pe hb.pe hc.pe hm).imp q.1,q.2⟩
end
section
variable {X:Cx}{a b c e:Expr}{es rest:List Expr}{pos:Pos}{ta tb tc:ED}{ua ub:TD}{t:AD}
def ak:AD:=λ_ Q=>Q []
def aE (ta:ED)(t:AD):AD:=λδ Q=>ta δ λd=>t δ λds=>Q (d::ds)
theorem aC:nB X [] ak:=⟨PA.imp iN λσ H Q ⟨δ,r,h⟩=>h [] H (aJ.refl _) .nil,λδ P P' g h=>g _ h⟩
theorem aA (ha:PD X e ta)(hr:nB X es t)(hs:starEach (e::es) X.env=(false,eval e X.env)::starEach es X.env:=by rfl):nB X (e::es) (aE ta t) :=
 ⟨PA.imp (dO ha.pe hr.pa hs) λσ H Q ⟨δ,r,h⟩=>⟨δ,r,ha.mono _ _ _ (λd h1 v H1 s1 dv=>⟨δ,r.same s1,hr.mono _ _ _ (λds h2 vs H2 s2 dvs=>h2 (v::vs) H2 (s1.trans s2) (.cons (dv.same s2) dvs)) h1⟩) h⟩,
  λδ P P' g h=>ha.mono _ _ _ (λd h1=>hr.mono _ _ _ (λds h2=>g _ h2) h1) h⟩
def gq (t:AD):ED:=λδ Q=>t δ λds=>ds.length<=sizeLine/\Q (.tup ds)
def qx (t:AD):ED:=λδ Q=>t δ λds=>ds.length<=sizeLine/\Q (.lst ds)
theorem ay {x1}(h:nB X es t):PD X (.Tuple es x1 pos) (gq t) :=
 ⟨(Bo h.pa).imp λσ H Q ⟨δ,r,q⟩=>⟨δ,r,h.mono _ _ _ (λds ⟨hl,k⟩ vs H1 s1 dvs=>⟨by rw[dvs.length];exact hl,λp hp=>k _ _ (s1.trans (af hp)) (.tup (iz.of aM) (dvs.same (af hp)))⟩) q⟩,
  λδ P P' g q=>h.mono _ _ _ (λds ⟨hl,k⟩=>⟨hl,g _ k⟩) q⟩
theorem fk (h:nB X es t):PD X (.List es pos) (qx t) :=
 ⟨(wt h.pa).imp λσ H Q ⟨δ,r,q⟩=>⟨δ,r,h.mono _ _ _ (λds ⟨hl,k⟩ vs H1 s1 dvs=>⟨by rw[dvs.length];exact hl,λp hp=>k _ _ (s1.trans (af hp)) (.lst (fG.of aM) (dvs.same (af hp)))⟩) q⟩,
  λδ P P' g q=>h.mono _ _ _ (λds ⟨hl,k⟩=>⟨hl,g _ k⟩) q⟩
def r_:Expr->Option D
 |.Constant (.str x) _ _=>some (.str x)
 |.Constant (.int i) _ _=>some (.int i)
 |.Constant (.bool b) _ _=>some (.bl b)
 |.Constant .none _ _=>some .ag
 |.UnaryOp .USub (.Constant (.int i) _ _) _=>some (.int (-i))
 |_=>none
def kI:List Expr->List D
 |[]=>[]
 |e::es=>(r_ e).getD .ag::kI es
def mG (ds:List D):AD:=λ_ Q=>Q ds
theorem lV:∀{es:List Expr} (_:es.all (λe=>(r_ e).isSome)=true),nB X es (mG (kI es))
 |[],_=>⟨aC.pa,λδ P P' g h=>g _ h⟩
 |e::es,h=>by
  rw[List.all_cons,Bool.and_eq_true] at h
  have ih:=lV h.2
  obtain⟨v,hv⟩:=Option.isSome_iff_exists.mp h.1
  have e1:kI (e::es)=v::kI es:=by
   show(r_ e).getD .ag::kI es=_
   rw[hv]
   rfl
  rw[e1]
  refine⟨?_,λδ P P' g h=>g _ h⟩
  have one:nB X (e::es) (aE (vC v) (mG (kI es))):=by
   unfold r_ at hv
   split at hv
   ·cases hv;exact aA aP ih rfl
   ·cases hv;exact aA aD ih rfl
   ·cases hv;exact aA AZ ih rfl
   ·cases hv;exact aA pI ih rfl
   ·cases hv
    refine aA ⟨(oN aD).pe.imp ?_,λδ P P' g h=>g _ h⟩ ih rfl
    exact λσ H Q ⟨δ,r,q⟩=>⟨δ,r,_,rfl,q⟩
   ·cases hv
  exact one.pa
def Kd:F2:=λd e Q=>match d,e with
 |.lst xs,.int i=>∃r,m_ xs i=some r/\Q r
 |.tup xs,.int i=>∃r,m_ xs i=some r/\Q r
 |.str z,.int i=>z.length<=sizeLine/\∃c,m_ z.cps.toList i=some c/\Q (.str ⟨#[c]⟩)
 |_,_=>False
theorem LL:d8 Kd:=by
 intro d e P P' f h
 unfold Kd at h ⊢
 split at h
 ·obtain⟨r,hr,q⟩:=h;exact⟨r,hr,f _ q⟩
 ·obtain⟨r,hr,q⟩:=h;exact⟨r,hr,f _ q⟩
 ·obtain⟨hz,r,hr,q⟩:=h;exact⟨hz,r,hr,f _ q⟩
 ·exact h.elim
theorem bN.m_ {K:PySem.W.Frag}{H:Hp}{vs:List V}{ds:List D}{i:Int}{d:D}(h:bN K H vs ds)(e:L2.m_ ds i=some d):∃v,L2.m_ vs i=some v/\Dv K H v d:=by
 unfold L2.m_ at e ⊢
 rw[h.length]
 cases q:DM ds.length i with
 |none=>rw[q] at e;cases e
 |some j =>
  rw[q] at e
  exact h.get e
theorem DA {K:PySem.W.Frag}:gT K (MB K) Kd:=by
 intro H x y d e Q hx hy h
 cases hy with
 |int i=>cases hx with
  |lst h1 h2 =>
   obtain⟨r,hr,q⟩:=h
   obtain⟨v,hv,dv⟩:=h2.m_ hr
   exact .inl ⟨_,_,i,v,rfl,rfl,h1,hv,q _ H (aJ.refl _) dv⟩
  |tup h1 h2 =>
   obtain⟨r,hr,q⟩:=h
   obtain⟨v,hv,dv⟩:=h2.m_ hr
   exact .inr (.inl ⟨_,_,i,v,rfl,rfl,h1,hv,q _ H (aJ.refl _) dv⟩)
  |str z =>
   obtain⟨hz,c,hc,q⟩:=h
   exact .inr (.inr ⟨z,i,c,rfl,rfl,hz,hc,q _ H (aJ.refl _) (.str _)⟩)
  |_=>exact h.elim
 |_=>cases hx<;>exact h.elim
def iw:ED->ED->ED:=o9 Kd
theorem aj (ha:PD X a ta)(hb:PD X b tb)(hs:rm b):PD X (.Subscript a b pos) (iw ta tb):=uQ (t:=oE X.K ta) (Fc Ge ha.pe hb.pe hs) ha.mono hb.mono DA LL
def cutD (xs:List D)(lo hi:Option Int):List D:=(xs.drop (HT.cq xs.length 0 lo)).take (HT.cq xs.length xs.length hi - HT.cq xs.length 0 lo)
theorem bN.cut {K:PySem.W.Frag}{H:Hp}{vs:List V}{ds:List D}(h:bN K H vs ds)(lo hi:Option Int):bN K H (uN vs lo hi) (cutD ds lo hi):=by
 unfold uN cutD
 rw[h.length]
 exact(h.drop _).take _
def Kf (d:D)(lo hi:Option Int)(Q:D->Prop):Prop:=match d with
 |.lst xs=>Q (.lst (cutD xs lo hi))
 |.tup xs=>¬ (HT.cq xs.length 0 lo=0/\HT.cq xs.length xs.length hi=xs.length)/\Q (.tup (cutD xs lo hi))
 |.str z=>z.length<=sizeLine/\Q (.str (Txt.slice z lo hi))
 |_=>False
theorem LN {d:D}{lo hi:Option Int}{P P':D->Prop}(f:∀r,P r->P' r)(h:Kf d lo hi P):Kf d lo hi P':=by
 unfold Kf at h ⊢
 split at h
 ·exact f _ h
 ·exact⟨h.1,f _ h.2⟩
 ·exact⟨h.1,f _ h.2⟩
 ·exact h.elim
theorem LX:Cw X (λx lo hi H Q=>Jr X.K x lo hi H Q\/Js X.K x lo hi H Q\/∃z,x=.str z/\z.length<=sizeLine/\Q (.str (Txt.slice z lo hi)) H):=Ed.or (Ht.or Hs)
abbrev OD:=SD->(Option Int->Prop)->Prop
structure Ka (X:Cx) (e:Option Expr) (t:OD):Prop where
 po:PO X e (λσ H Q=>∃ δ,bX X.K H σ δ/\t δ λo=>∀H',aJ H H'->Q o H')
 mono:∀ δ (P P':Option Int->Prop),(∀d,P d->P' d)->t δ P->t δ P'
def qE:OD:=λ_ Q=>Q none
def qF (t:ED):OD:=λδ Q=>t δ λd=>∃i,d=.int i/\Q (some i)
theorem PO.imp {e:Option Expr}{t t':TO}(h:PO X e t)(f:∀ σ H Q,t' σ H Q->t σ H Q):PO X e t':=λpins s σ H Q I q=>h pins s σ H Q I (f σ H Q q)
theorem iJ:Ka X none qE:=⟨PO.imp EC λσ H Q ⟨δ,r,h⟩=>h H (aJ.refl _),λδ P P' g h=>g _ h⟩
theorem fz (h:PD X e ta):Ka X (some e) (qF ta) :=
 ⟨PO.imp (EE h.pe) λσ H Q ⟨δ,r,q⟩=>⟨δ,r,h.mono _ _ _ (λd ⟨i,ed,k⟩ v H1 s1 dv=>by subst ed;cases dv;exact⟨i,rfl,k H1 s1⟩) q⟩,λδ P P' g q=>h.mono _ _ _ (λd ⟨i,ed,k⟩=>⟨i,ed,g _ k⟩) q⟩
def IL (ta:ED)(tl th:OD):ED:=λδ Q=>ta δ λd=>tl δ λlo=>th δ λhi=>Kf d lo hi Q
theorem eK {lo hi:Option Expr}{tl th:OD}{p2:Pos}(he:PD X e ta)(hl:Ka X lo tl)(hh:Ka X hi th):PD X (.Subscript e (.Slice lo hi none p2) pos) (IL ta tl th):=by
 refine⟨(Bm LX he.pe hl.po hh.po).imp λσ H Q ⟨δ,r,h⟩=>⟨δ,r,he.mono _ _ _ (λd h1 v H1 s1 dv=>⟨δ,r.same s1,hl.mono _ _ _ (λlo h2 H2 s2=>⟨δ,r.same (s1.trans s2),hh.mono _ _ _ (λhi h3 H3 s3=>?_) h2⟩) h1⟩) h⟩,
  λδ P P' g h=>he.mono _ _ _ (λd h1=>hl.mono _ _ _ (λlo h2=>hh.mono _ _ _ (λhi h3=>LN g h3) h2) h1) h⟩
 have s:=s1.trans (s2.trans s3)
 have dv3:=dv.same (s2.trans s3)
 clear h1 h2 dv
 cases dv3 with
 |lst h1 h2=>exact .inl ⟨_,_,rfl,h1,λp hp=>h3 _ _ (s.trans (af hp)) (.lst (fG.of aM) ((h2.cut lo hi).same (af hp)))⟩
 |tup h1 h2=>exact .inr (.inl ⟨_,_,rfl,h1,by rw[h2.length];exact h3.1,λp hp=>h3.2 _ _ (s.trans (af hp)) (.tup (iz.of aM) ((h2.cut lo hi).same (af hp)))⟩)
 |str z=>exact .inr (.inr ⟨z,rfl,h3.1,h3.2 _ H3 s (.str _)⟩)
 |_=>exact h3.elim
def Eu (K:PySem.W.Frag)(ta:ED)(f:Str):ED:=λδ Q=>ta δ λd=>∃C gs r,d=.obj C gs/\uF K C/\eh K C f/\gs.lookup f=some r/\Q r
theorem Ik {f:Str}(he:PD X e ta)(hb:attributeBase e f X.env (eval e X.env)=eval e X.env):PD X (.Attribute e f pos) (Eu X.K ta f) :=
 ⟨(D6 he.pe hb).imp λσ H Q ⟨δ,r,h⟩=>⟨δ,r,he.mono _ _ _ (λd ⟨C,gs,r,ed,hc,hn,hl,k⟩ v H1 s1 dv=>by
   subst ed
   cases dv with
   |obj h1 h2 =>
    obtain⟨w,hw,dw⟩:=h2.look hl
    exact⟨_,_,_,_,w,rfl,h1,hc,hn,hw,k _ H1 s1 dw⟩) h⟩,
  λδ P P' g h=>he.mono _ _ _ (λd ⟨C,gs,r,ed,hc,hn,hl,k⟩=>⟨C,gs,r,ed,hc,hn,hl,g _ k⟩) h⟩
abbrev cg:=List D->(D->Prop)->Prop
abbrev b4 (sd:cg):Prop:=∀ds (P P':D->Prop),(∀d,P d->P' d)->sd ds P->sd ds P'
def qt (K:PySem.W.Frag)(sd:cg):Sp:=λvs H Q _=>∃ds,bN K H vs ds/\sd ds (kD K H Q)
def bD (sd:cg)(t:AD):ED:=λδ Q=>t δ λds=>sd ds Q
theorem GC {k:Nat}{f:Addr}{fd:FuncData}{ps:List Str}{x:Str}{p:Pos}{sd:cg}(F:dB X.prog X.w X.K X.mg X.base oy k f fd ps (qt X.K sd))(ms:b4 sd)(hr:cA k X.A)(hg:Gl X x)(hm:X.mg x=some (.ref f))
  (hk:keepIn X.K (.ref f)=true)(hb:Binds X.K fd ps [])(ha:nB X (e::es) t)(hdb:(x == ("__debug__":Str))=false:=by decide)
  (hp:PE X (.Call (.Name x p) (e::es) [] pos) (Fl (qt X.K sd) [] E0 (oA X.K t)):=by exact tO F hr hg hm hk hb .nil vI ha.pa):PD X (.Call (.Name x p) (e::es) [] pos) (bD sd t) :=
 ⟨hp.imp λσ H Q ⟨δ,r,h⟩=>⟨δ,r,ha.mono _ _ _ (λds h1 vs H1 s1 dvs=>⟨ds,by rw[List.append_nil];exact dvs,ms _ _ _ (λd k=>k.on s1) h1⟩) h⟩,λδ P P' g h=>ha.mono _ _ _ (λds h1=>ms _ _ _ g h1) h⟩
def vB (sd:cg)(t:AD):ED:=λδ Q=>t δ λds=>sd ds Q
def o_ (K:PySem.W.Frag)(r:List V->Hp->VK->Prop)(sd:cg):Prop:=∀H vs ds Q,bN K H vs ds->sd ds (kD K H Q)->r vs H Q
theorem yl {r:List V->Hp->VK->Prop}{sd:cg}(hp:PE X e (Km r (oA X.K t)))(ha:kl t)(hd:o_ X.K r sd)(ms:b4 sd):PD X e (vB sd t) :=
 ⟨hp.imp λσ H Q ⟨δ,r,h⟩=>⟨δ,r,ha _ _ _ (λds h1 vs H1 s1 dvs=>hd H1 vs ds Q dvs (ms _ _ _ (λd k=>k.on s1) h1)) h⟩,λδ P P' g h=>ha _ _ _ (λds h1=>ms _ _ _ g h1) h⟩
end
structure kj where
 nx:SD->Prop
 rt:D->Prop
 bk:SD->Prop:=λ_=>False
 ct:SD->Prop:=λ_=>False
abbrev kG:=kj->SD->Prop
structure kj.Le (E E':kj):Prop where
 nx:∀ δ,E.nx δ->E'.nx δ
 rt:∀d,E.rt d->E'.rt d
 bk:∀ δ,E.bk δ->E'.bk δ
 ct:∀ δ,E.ct δ->E'.ct δ
abbrev xU (t:kG):Prop:=∀E E' δ,kj.Le E E'->t E δ->t E' δ
def kS (K:PySem.W.Frag)(H:Hp)(Q:L2.St->Hp->Prop):SD->Prop:=λδ=>∀ σ H',aJ H H'->bX K H' σ δ->Q σ H'
def lg (K:PySem.W.Frag)(H:Hp)(D:Ends):kj:=⟨kS K H D.nx,kD K H D.rt,kS K H D.bk,kS K H D.ct⟩
theorem kS.on {K:PySem.W.Frag}{H H1:Hp}{Q:L2.St->Hp->Prop}{δ:SD}(s:aJ H H1)(h:kS K H Q δ):kS K H1 Q δ:=λσ H' s' r=>h σ H' (s.trans s') r
theorem sL {K:PySem.W.Frag}{H H1:Hp}{D:Ends}(s:aJ H H1):kj.Le (lg K H D) (lg K H1 D):=⟨λ_ h=>h.on s,λ_ h=>h.on s,λ_ h=>h.on s,λ_ h=>h.on s⟩
def oS (K:PySem.W.Frag)(t:kG):TS:=λD σ H=>∃ δ,bX K H σ δ/\t (lg K H D) δ
structure AB (X:Cx) (st:Stmt) (t:kG):Prop where
 ps:PS X st (oS X.K t)
 mono:xU t
structure om (X:Cx) (st:List Stmt) (t:kG):Prop where
 ps:m8 X st (oS X.K t)
 mono:xU t
section
variable {X:Cx}{st:Stmt}{rest body els:List Stmt}{t u:kG}{e c:Expr}{te:ED}{uc:TD}{pos:Pos}
theorem PS.imp {t t':TS}(h:PS X st t)(f:∀D σ H,t' D σ H->t D σ H):PS X st t':=λpins s σ H D I q=>h pins s σ H D I (f D σ H q)
theorem m8.imp {t t':TS}(h:m8 X rest t)(f:∀D σ H,t' D σ H->t D σ H):m8 X rest t':=λpins s σ H D I q=>h pins s σ H D I (f D σ H q)
def jF:kG:=λE δ=>E.nx δ
def fP (t u:kG):kG:=λE δ=>t { E with nx:=u E } δ
theorem ar:om X [] jF:=⟨m8.imp tU λD σ H ⟨δ,r,h⟩=>h σ H (aJ.refl _) r,λE E' δ l h=>l.nx _ h⟩
theorem aH (h1:AB X st t)(h2:om X rest u):om X (st::rest) (fP t u) :=
 ⟨m8.imp (qL h1.ps h2.ps) λD σ H ⟨δ,r,h⟩=>⟨δ,r,h1.mono { lg X.K H D with nx:=u (lg X.K H D)} _ _ ⟨λδ' q σ' H' s' r'=>⟨δ',r',h2.mono _ _ _ (sL s') q⟩,λ_ q=>q,λ_ q=>q,λ_ q=>q⟩ h⟩,
  λE E' δ l h=>h1.mono { E with nx:=u E } _ _ ⟨λδ' q=>h2.mono _ _ _ l q,l.rt,l.bk,l.ct⟩ h⟩
theorem aI (h1:AB X st t):om X [st] t:=⟨yD h1.ps,h1.mono⟩
def mU (te:ED):kG:=λE δ=>te δ E.rt
theorem aQ (he:PD X e te):AB X (.Return (some e) pos) (mU te):=⟨PS.imp (w6 he.pe) λD σ H ⟨δ,r,h⟩=>⟨δ,r,h⟩,λE E' δ l h=>he.mono _ _ _ l.rt h⟩
def Bw (te:ED):kG:=λE δ=>te δ λ_=>E.nx δ
theorem bZ (he:PD X e te)(hs:swapsWith e none pos.line X.env=pure false:=by rfl):AB X (.Expr e pos) (Bw te) :=
 ⟨PS.imp (kQ he.pe hs) λD σ H ⟨δ,r,h⟩=>⟨δ,r,he.mono _ _ _ (λd q v H1 s1 dv=>q σ H1 s1 (r.same s1)) h⟩,λE E' δ l h=>he.mono _ _ _ (λd q=>l.nx _ q) h⟩
def jG (i:Nat)(te:ED):kG:=λE δ=>te δ λd=>E.nx (δ.set i (some d))
theorem aq {i:Nat}{x:Str}{pos':Pos}(hN:X.N.Nodup)(hi:X.N[i]?=some x)(hx:Loc X.env.scope x)(he:PD X e te)(hs:swapsWith e (some (.Name x pos')) pos.line X.env=pure false:=by rfl)
  (hf:X.fn x=true\/X.env.scope.names.lookup x=some .local:=by first|exact .inl rfl|exact .inr rfl|assumption):AB X (.Assign [.Name x pos'] e pos) (jG i te) :=
 ⟨PS.imp (tT hN hi hx he.pe hs hf) λD σ H ⟨δ,r,h⟩=>⟨δ,r,he.mono _ _ _ (λd q v H1 s1 dv=>q _ H1 s1 ((r.same s1).set i dv)) h⟩,λE E' δ l h=>he.mono _ _ _ (λd q=>l.nx _ q) h⟩
def Cr (uc:TD)(t u:kG):kG:=λE δ=>uc δ λb=>if b=true then t E δ else u E δ
theorem cE (hc:m9 X c uc)(ha:om X body t)(hb:om X els u):AB X (.If c body els pos) (Cr uc t u):=by
 refine⟨PS.imp (Fe hc.pt ha.ps hb.ps) λD σ H ⟨δ,r,h⟩=>⟨δ,r,hc.mono _ _ _ (λk q H1 s1=>?_) h⟩,λE E' δ l h=>hc.mono _ _ _ (λk q=>?_) h⟩
 ·cases k with
  |true=>rw[if_pos rfl] at q ⊢;exact⟨δ,r.same s1,ha.mono _ _ _ (sL s1) q⟩
  |false=>rw[if_neg Bool.false_ne_true] at q ⊢;exact⟨δ,r.same s1,hb.mono _ _ _ (sL s1) q⟩
 ·cases k with
  |true=>rw[if_pos rfl] at q ⊢;exact ha.mono _ _ _ l q
  |false=>rw[if_neg Bool.false_ne_true] at q ⊢;exact hb.mono _ _ _ l q
def By:kG:=λ_ _=>False
theorem kU:AB X st By:=⟨PS.imp Bs λD σ H ⟨δ,r,h⟩=>h,λE E' δ l h=>h⟩
theorem CH:om X rest By:=⟨m8.imp ze λD σ H ⟨δ,r,h⟩=>h,λE E' δ l h=>h⟩
end
def dE (N:List Str)(ds:List D):SD:=ds.map some++List.replicate (N.length - ds.length) none
theorem kY {K:PySem.W.Frag}{H:Hp}{N:List Str}{vs:List V}{ds:List D}(h:bN K H vs ds):bX K H (L2.start N vs) (dE N ds):=by
 unfold L2.start dE
 have hl:=h.length
 refine⟨by rw[List.length_append,List.length_append,List.length_map,List.length_map,List.length_replicate,List.length_replicate,hl],λi d e=>?_⟩
 by_cases hi:i<ds.length
 ·rw[List.getElem?_append_left (by rw[List.length_map];exact hi),List.getElem?_map] at e
  cases q:ds[i]? with
  |none=>rw[q] at e;cases e
  |some d' =>
   rw[q] at e
   cases e
   obtain⟨v,hv,dv⟩:=h.get q
   exact⟨v,by rw[List.getElem?_append_left (by rw[List.length_map];omega),List.getElem?_map,hv];rfl,dv⟩
 ·rw[List.getElem?_append_right (by rw[List.length_map];omega),List.getElem?_replicate] at e
  split at e<;>cases e
section
variable {P:Program}{w:World}{K:PySem.W.Frag}{mg:Str->Option Value}{base:Heap}
abbrev Bx (P:Program)(w:World)(K:PySem.W.Frag)(mg:Str->Option Value)(base:Heap)(N:List Str)(qual:Str)(st:Stmt)(f:Addr)(cdv:Value)(A:Around)(outer:List Env)(s:Shared)(H:Hp)(E:XK):Cx:=(uO oy P w K mg base N qual (aB st) f cdv A outer s H E).HB
theorem L8 {x qual:Str}{st:Stmt}{f:Addr}{fd:FuncData}{N ps:List Str}{k:Nat}{sd:cg}{t:kG}(F:vx K x qual st f fd)(S:aG N ps (aB st))(len:∀ds Q,sd ds Q->ds.length=ps.length)
  (hb:∀(cdv:Value) (A:Around) (outer:List Env) (s:Shared) (H:Hp) (E:XK),cA k (A.deeper (envOfC qual (aB st) s.heap.objs.size f cdv))->om (Bx P w K mg base N qual st f cdv A outer s H E) (bF st) t)
  (hr:∀ds Q,sd ds Q->t { nx:=λ_=>Q .ag,rt:=Q } (dE N ds)):dB P w K mg base oy (k+1) f fd ps (qt K sd):=by
 refine F.ok S (λvs H Q E ⟨ds,dvs,h⟩=>by rw[dvs.length];exact len ds _ h) (λcdv A outer s H vs Q E hroom ⟨ds,dvs,h⟩=>?_)
 have B:=hb cdv A outer s H E hroom
 refine⟨_,B.ps,dE N ds,kY dvs,?_⟩
 refine B.mono { nx:=λ_=>kD K H Q .ag,rt:=kD K H Q } _ _ ⟨λδ q σ H' s' r=>q _ H' s' .ag,λd q=>q,λ_ q=>q.elim,λ_ q=>q.elim⟩ (hr ds _ h)
end
structure Fw (K:PySem.W.Frag) (J:It) (H1:Hp) (ds:List D):Prop where
 go:∀i H',aJ H1 H'->i<ds.length->J.go i H'
 stop:∀H',aJ H1 H'->J.stop ds.length H'
 AH:∀i H' x H'',aJ H1 H'->i<ds.length->J.AH i H' x H''->aJ H' H''/\∃d,ds[i]?=some d/\∃Hx,aJ H1 Hx/\Dv K Hx x d/\(∀a o,Hx a=some o->H1 a=some o\/H' a=none)/\aJ Hx H''
structure PId (X:Cx) (tg iter:Expr) (ti:AD):Prop where
 pi:PI X tg iter (λσ H R=>∃ δ,bX X.K H σ δ/\ti δ λds=>∀J H1,aJ H H1->Fw X.K J H1 ds->R J H1)
 mono:kl ti
def Gd:D->Option (List D)
 |.lst xs=>some xs
 |.tup xs=>some xs
 |.str y=>some (y.cps.toList.map λc=>.str ⟨#[c]⟩)
 |_=>none
def nC (te:ED):AD:=λδ Q=>te δ λd=>∃ds,Gd d=some ds/\Q ds
section
variable {X:Cx}{tg:Expr}{l:Expr}{te:ED}
theorem PI.imp {wi wi':TI}(h:PI X tg l wi)(f:∀ σ H R,wi' σ H R->wi σ H R):PI X tg l wi':=λpins s σ H R I q=>h pins s σ H R I (f σ H R q)
theorem Ha {tl:TE}(hl:PE X l tl):PI X tg l (λσ H R=>tl σ H λx H1=>(∃a,x=.ref a/\(∃xs,fG X.K H1 a xs)/\R (Lw X.K a) H1)\/(∃a,x=.ref a/\(∃xs,iz X.K H1 a xs)/\R (Lx X.K a) H1)\/∃y,x=.str y/\R (Kt y) H1):=by
 intro pins s σ H R I h
 refine br (hl pins s σ H _ I h) λv s1 ⟨x,H1,I1,r1,q1⟩=>?_
 have hf:∀b∈[s1.heap.objs.size],kZ X pins H1 b:=λb hb=>by
  have e:b=s1.heap.objs.size:=by simpa using hb
  subst e
  exact I1.DG (Nat.le_refl _) (I1.bg.fresh (Nat.le_refl _))
 rcases q1 with⟨a,e,⟨xs,hq⟩,q⟩|⟨a,e,⟨xs,hq⟩,q⟩|⟨y,e,q⟩
 ·subst e
  cases(show v=Value.ref a from r1)
  obtain⟨its,rv,p,hz⟩:=I1.list hq
  exact wpAny_pyIter_list p.isList ⟨s1.heap.objs.size,[s1.heap.objs.size],_,_,H1,rfl,I1.kept (t':=s1.toks) λb o e=>Heap.get?_push_of_some _ e,zv a _,⟨_,Heap.get?_push_size _ rfl,rfl,rfl⟩,hf,q⟩
 ·subst e
  cases(show v=Value.ref a from r1)
  obtain⟨its,rv,p,hz⟩:=I1.tuple hq
  exact wpAny_pyIter_tuple (show s1.heap.IsTuple a its.toArray from p) ⟨s1.heap.objs.size,[s1.heap.objs.size],_,_,H1,rfl,I1.kept (t':=s1.toks) λb o e=>Heap.get?_push_of_some _ e,xQ a _,⟨_,Heap.get?_push_size _ rfl,rfl,rfl⟩,hf,q⟩
 ·subst e
  obtain⟨t,rfl⟩:=r1
  cases ha:y.cps.all (·<128)
  ·exact wpAny_pyIter_wide ha ⟨s1.heap.objs.size,[s1.heap.objs.size],_,_,H1,rfl,I1.kept (t':=s1.toks) λb o e=>Heap.get?_push_of_some _ e,zx y t _,⟨_,Heap.get?_push_size _ rfl,rfl,rfl⟩,hf,q⟩
  ·exact wpAny_pyIter_ascii ha ⟨s1.heap.objs.size,[s1.heap.objs.size],_,_,H1,rfl,I1.kept (t':=s1.toks) λb o e=>Heap.get?_push_of_some _ e,zw y t _,⟨_,Heap.get?_push_size _ rfl,rfl,rfl⟩,hf,q⟩
theorem gz (he:PD X l te):PId X tg l (nC te):=by
 refine⟨PI.imp (Ha he.pe) λσ H R ⟨δ,r,h⟩=>⟨δ,r,he.mono _ _ _ (λd ⟨ds,e,q⟩ v H1 s1 dv=>?_) h⟩,λδ P P' g h=>he.mono _ _ _ (λd ⟨ds,e,q⟩=>⟨ds,e,g _ q⟩) h⟩
 cases dv with
 |lst h1 h2 =>
  cases e
  refine .inl ⟨_,rfl,⟨_,h1⟩,q _ H1 s1 ⟨λi H' s' hi=>?_,λH' s'=>⟨_,s'.seq h1,by rw[h2.length];exact Nat.le_refl _⟩,λi H' x H'' s' hi y=>?_⟩⟩
  ·obtain⟨v,hv,_⟩:=h2.get (List.getElem?_eq_getElem hi)
   exact⟨_,v,s'.seq h1,hv⟩
  ·obtain⟨rfl,y2⟩:=y
   obtain⟨d,hd,dv⟩:=h2.A7 (y2 _ (s'.seq h1))
   exact⟨aJ.refl _,d,hd,H1,aJ.refl _,dv,λ_ _ z=>.inl z,s'⟩
 |tup h1 h2 =>
  cases e
  refine .inr (.inl ⟨_,rfl,⟨_,h1⟩,q _ H1 s1 ⟨λi H' s' hi=>?_,λH' s'=>⟨_,qN s' h1,by rw[h2.length];exact Nat.le_refl _⟩,λi H' x H'' s' hi y=>?_⟩⟩)
  ·obtain⟨v,hv,_⟩:=h2.get (List.getElem?_eq_getElem hi)
   exact⟨_,v,qN s' h1,hv⟩
  ·obtain⟨rfl,y2⟩:=y
   obtain⟨d,hd,dv⟩:=h2.A7 (y2 _ (qN s' h1))
   exact⟨aJ.refl _,d,hd,H1,aJ.refl _,dv,λ_ _ z=>.inl z,s'⟩
 |str y =>
  cases e
  refine .inr (.inr ⟨_,rfl,q _ H1 s1 ⟨λi H' s' hi=>?_,λH' s'=>?_,λi H' x H'' s' hi y=>?_⟩⟩)
  ·have hi':i<y.cps.size:=by simpa using hi
   exact hi'
  ·show y.cps.size<=_
   simp
  ·obtain⟨rfl,c,hc,rfl⟩:=y
   refine⟨aJ.refl _,.str ⟨#[c]⟩,?_,H1,aJ.refl _,.str _,λ_ _ z=>.inl z,s'⟩
   rw[List.getElem?_map,Array.getElem?_toList,hc]
   rfl
 |_=>cases e
def rn (t:AD):AD:=λδ Q=>t δ λds=>∃n:Int,ds=[.int n]/\-(2 ^ 62)<=n/\n<2 ^ 62/\Q ((List.range n.toNat).map λi:Nat=>.int (0+(i:Int)))
theorem BF {K:PySem.W.Frag}{H:Hp}(lo:Int)(n:Nat):Fw K (KU lo n) H ((List.range n).map λi:Nat=>.int (lo+(i:Int))):=by
 refine⟨λi H' s' hi=>?_,λH' s'=>?_,λi H' x H'' s' hi y=>?_⟩
 ·have hi':i<n:=by simpa using hi
  exact hi'
 ·show n<=_
  simp
 ·obtain⟨rfl,rfl⟩:=y
  have hi':i<n:=by simpa using hi
  exact⟨aJ.refl _,.int (lo+i),by rw[List.getElem?_map,List.getElem?_range hi'];rfl,H,aJ.refl _,.int _,λ_ _ z=>.inl z,s'⟩
theorem fu {a:Expr}{ta:AD}{p pos:Pos}(hg:Gl X "range")(hm:X.mg "range"=none)(ha:nB X [a] ta)(hs:starEach [a] X.env=[(false,eval a X.env)]:=by rfl):PId X tg (.Call (.Name "range" p) [a] [] pos) (rn ta):=by
 refine⟨PI.imp (za hg hm ha.pa hs) λσ H R ⟨δ,r,h⟩=>⟨δ,r,ha.mono _ _ _ (λds ⟨n,e,h1,h2,q⟩ vs H1 s1 dvs=>?_) h⟩,λδ P P' g h=>ha.mono _ _ _ (λds ⟨n,e,h1,h2,q⟩=>⟨n,e,h1,h2,g _ q⟩) h⟩
 subst e
 cases dvs with
 |cons a b =>
  cases a
  cases b
  exact⟨n,rfl,h1,h2,q _ H1 s1 (BF 0 n.toNat)⟩
end
abbrev E7:=D->SD->(SD->Prop)->Prop
structure Kv (X:Cx) (tg:Expr) (g:E7):Prop where
 pg:PG X tg (λv σ H Q=>∃d δ,Dv X.K H v d/\bX X.K H σ δ/\g d δ (kS X.K H Q))
 mono:∀d δ (P P':SD->Prop),(∀ δ,P δ->P' δ)->g d δ P->g d δ P'
def hName (i:Nat):E7:=λd δ Q=>Q (δ.set i (some d))
section
variable {X:Cx}{tg iter:Expr}{body:List Stmt}{ti:AD}{g:E7}{tb:kG}{pos:Pos}
theorem PG.imp {t t':TG}(h:PG X tg t)(f:∀v σ H Q,t' v σ H Q->t v σ H Q):PG X tg t':=λpins s σ H v u Q I r q=>h pins s σ H v u Q I r (f v σ H Q q)
theorem pQ {i:Nat}{x:Str}(hN:X.N.Nodup)(hi:X.N[i]?=some x)(hx:Loc X.env.scope x)(hf:X.fn x=true\/X.env.scope.names.lookup x=some .local:=by first|exact .inl rfl|exact .inr rfl|assumption):Kv X (.Name x pos) (hName i) :=
 ⟨PG.imp (bY hN hi hx hf) λv σ H Q ⟨d,δ,dv,r,q⟩=>q _ H (aJ.refl _) (r.set i dv),λd δ P P' f q=>f _ q⟩
def LS (ti:AD)(g:E7)(tb:kG):kG:=λE δ=>ti δ λds=>∃inv:Nat->SD->Prop,inv 0 δ /\
 (∀i d δ',ds[i]?=some d->inv i δ'->g d δ' λδ2=>tb { E with nx:=inv (i+1),ct:=inv (i+1),bk:=E.nx } δ2)/\∀ δ',inv ds.length δ'->E.nx δ'
theorem Jv (hp:PassesOwn (model X.prog X.w) X.A X.env X.xe)(hc:X.calm=true)(hi:PId X tg iter ti)(hg:Kv X tg g)(hb:om X body tb)(hs:∀x,foldedSetIterable iter X.env x=pure x:=by intro _;rfl) :
  AB X (.For tg iter body [] pos) (LS ti g tb):=by
 refine⟨PS.imp (Br hp hc hi.pi hg.pg hb.ps hs) λD σ H ⟨δ,r,h⟩=>⟨δ,r,hi.mono _ _ _ (λds ⟨inv,i0,step,fin⟩ J H1 s1 it=>?_) h⟩,λE E' δ l h=>hi.mono _ _ _ (λds ⟨inv,i0,step,fin⟩=>⟨inv,i0,λi d δ' hd hin=>hg.mono _ _ _ _ (λδ2 q=>hb.mono { E with nx:=inv (i+1),ct:=inv (i+1),bk:=E.nx } _ _ ⟨λ_ q=>q,l.rt,l.nx,λ_ q=>q⟩ q) (step i d δ' hd hin),λδ' q=>l.nx _ (fin δ' q)⟩) h⟩
 refine⟨λi m σ' H'=>m=ds.length - i/\i<=ds.length/\aJ H1 H'/\∃ δ',bX X.K H' σ' δ'/\inv i δ',⟨ds.length,rfl,Nat.zero_le _,aJ.refl _,δ,r.same s1,i0⟩,?_⟩
 rintro i m σ' H' ⟨rfl,hle,s',δ',r',hin⟩
 by_cases hlt:i<ds.length
 ·refine .inr ⟨it.go i H' s' hlt,λσ2 H2=>aJ H1 H2/\∃ δ2,bX X.K H2 σ2 δ2/\inv (i+1) δ2,λσ2 H2 ⟨s2,δ2,r2,h2⟩=>⟨ds.length - (i+1),by omega,rfl,hlt,s2,δ2,r2,h2⟩,λx H'' y=>?_⟩
  obtain⟨s2,d,hd,Hx,_,dvx,_,sx⟩:=it.AH i H' x H'' s' hlt y
  have dv:=dvx.same sx
  have sA:=s'.trans s2
  refine⟨d,δ',dv,r'.same s2,hg.mono _ _ _ _ (λδ2 q σ3 H3 s3 r3=>⟨δ2,r3,hb.mono { lg X.K H D with nx:=inv (i+1),ct:=inv (i+1),bk:=(lg X.K H D).nx } _ _ ?_ q⟩) (step i d δ' hd hin)⟩
  have sB:=s1.trans (sA.trans s3)
  exact⟨λδ3 q3 σ4 H4 s4 r4=>⟨sA.trans (s3.trans s4),δ3,r4,q3⟩,λ_ q3=>q3.on sB,λ_ q3=>q3.on sB,λδ3 q3 σ4 H4 s4 r4=>⟨sA.trans (s3.trans s4),δ3,r4,q3⟩⟩
 ·have e:i=ds.length:=by omega
  subst e
  exact .inl ⟨it.stop H' s',fin δ' hin σ' H' (s1.trans s') r'⟩
end
structure ql (X:Cx) (ifs:List Expr) (t:TD):Prop where
 IV:xV X ifs (oT X.K t)
 mono:fF t
def IF:TD:=λ_ Q=>Q true
section
variable {X:Cx}{c:Expr}{ut:TD}
theorem xV.imp {ifs:List Expr}{t t':TT}(h:xV X ifs t)(f:∀ σ H Q,t' σ H Q->t σ H Q):xV X ifs t':=λpins s σ H Q I q=>h pins s σ H Q I (f σ H Q q)
theorem fE:ql X [] IF:=⟨xV.imp EK λσ H Q ⟨δ,r,h⟩=>h H (aJ.refl _),λδ P P' g h=>g _ h⟩
theorem uA (h:m9 X c ut):ql X [c] ut:=⟨EL h.pt,h.mono⟩
end
def iu (caps:List Nat)(δ:SD):SD:=caps.map λj=>(δ[j]?).getD none
def kC (caps:List Nat)(ti:AD)(tt:TD)(te:ED):ED:=λδ Q=>ti δ λds=>∃outs:List (Option D),outs.length=ds.length /\
 (∀(i:Nat) (d:D) (o:Option D),ds[i]?=some d->outs[i]?=some o->tt (some d::iu caps δ) λb=>b=o.isSome/\(b=true->te (some d::iu caps δ) λy=>o=some y))/\ds.length<sizeLine/\Q (.lst (outs.filterMap id))
theorem oz {K:PySem.W.Frag}{H:Hp}{σ:L2.St}{δ:SD}(r:bX K H σ δ){x:V}{d:D}(dv:Dv K H x d)(caps:List Nat):bX K H (some x::caps.map λj=>(σ[j]?).getD none) (some d::iu caps δ):=by
 refine⟨by unfold iu;simp,λi e h=>?_⟩
 cases i with
 |zero=>simp at h;subst h;exact⟨x,rfl,dv⟩
 |succ i =>
  unfold iu at h
  simp only[List.getElem?_cons_succ,List.getElem?_map] at h ⊢
  cases q:caps[i]? with
  |none=>rw[q] at h;cases h
  |some j =>
   rw[q] at h
   have h':(δ[j]?).getD none=some e:=by simpa using h
   have h2:δ[j]?=some (some e):=by
    cases z:δ[j]? with
    |none=>rw[z] at h';cases h'
    |some o=>rw[z] at h';exact congrArg some h'
   obtain⟨v,hv,dv⟩:=r.get j e h2
   exact⟨v,by simp[hv],dv⟩
theorem uM {K:PySem.W.Frag}{caps:List Nat}{ti:AD}{tt:TD}{te:ED}(mi:kl ti)(mt:fF tt)(me:bO te){σ:L2.St}{H:Hp}{Q:VK}(h:oE K (kC caps ti tt te) σ H Q) :
  rQ 1 caps (λσ H R=>∃ δ,bX K H σ δ/\ti δ λds=>∀J H1,aJ H H1->Fw K J H1 ds->R J H1) (fK 0) (qe (oT K tt)) (qb (oE K te)) σ H Q:=by
 obtain⟨δ,r,h⟩:=h
 refine⟨δ,r,mi _ _ _ (λds ⟨outs,hol,each,hlen,q⟩ J H1 s1 it D hD=>?_) h⟩
 refine⟨λi m ys H'=>m=ds.length - i/\i<=ds.length/\∃H0,H0 D=none/\aJ H1 H0/\bN K H0 ys ((outs.take i).filterMap id)/\H'=upd H0 D (.lst ys),⟨ds.length,rfl,Nat.zero_le _,H1,hD,aJ.refl _,.nil,rfl⟩,?_⟩
 rintro i m ys H' ⟨rfl,hle,H0,h0,s0,dys,rfl⟩
 refine⟨aM,?_⟩
 have sU:aJ H1 (upd H0 D (.lst ys)):=s0.trans (af h0)
 by_cases hlt:i<ds.length
 ·refine .inr ⟨it.go i _ sU hlt,λx H'' y=>?_⟩
  obtain⟨s2,d,hd,Hx,sx1,dvx,only,sx⟩:=it.AH i _ x H'' sU hlt y
  have hD2:H'' D=some (.lst ys):=s2 _ _ aM
  have ne1:∀a o,H1 a=some o->a≠D:=λa o z=>ah z hD
  have nex:∀a o,Hx a=some o->a≠D:=λa o z w=>by
   rcases only a o z with z1|z1
   ·exact ne1 a o z1 w
   ·rw[w,aM] at z1;cases z1
  have sd1:aJ H0 (del H'' D):=λa o z=>by
   rw[fq (ah z h0)]
   exact s2 a o (af h0 a o z)
  have sdx:aJ Hx (del H'' D):=λa o z=>by
   rw[fq (nex a o z)]
   exact sx a o z
  obtain⟨o,ho⟩:∃o,outs[i]?=some o:=⟨_,List.getElem?_eq_getElem (show i<outs.length by omega)⟩
  have rel:bX K (del H'' D) (some x::caps.map λj=>(σ[j]?).getD none) (some d::iu caps δ):=oz (r.same (s1.trans (s0.trans sd1))) (dvx.same sdx) caps
  refine⟨Le.one,D,ys,hD2,_,rel,mt _ _ _ (λb ⟨eb,hb⟩ H3 s3 h3=>?_) (each i d o hd ho)⟩
  have ht:outs.take (i+1)=outs.take i++[o]:=by rw[List.take_succ,ho];rfl
  have s03:aJ H0 H3:=sd1.trans s3
  cases b with
  |false =>
   refine aO ?_
   refine⟨ds.length - (i+1),by omega,rfl,hlt,H3,h3,s0.trans s03,?_,rfl⟩
   have on:o=none:=by cases o with|none=>rfl|some z=>cases eb
   rw[ht,on,List.filterMap_append]
   simpa using dys.same s03
  |true =>
   refine aR ?_
   refine⟨D,ys,aM,?_⟩
   rw[o4 h3]
   refine⟨_,rel.same s3,me _ _ _ (λy ey v H4 s4 dv h4=>⟨aM,?_,ds.length - (i+1),by omega,rfl,hlt,H4,h4,s0.trans (s03.trans s4),?_,m6⟩) (hb rfl)⟩
   ·rw[dys.length]
    exact Nat.lt_of_le_of_lt (Nat.le_trans (List.length_filterMap_le _ _) (List.length_take_le' _ _)) (by rw[hol];exact hlen)
   ·rw[ht,ey,List.filterMap_append]
    exact(dys.same (s03.trans s4)).append (.cons dv .nil)
 ·have e:i=ds.length:=by omega
  subst e
  refine .inl ⟨it.stop _ sU,?_⟩
  rw[<- hol,List.take_length] at dys
  exact q _ _ (s1.trans sU) (.lst (fG.of aM) (dys.same (af h0)))
section
variable {X:Cx}{scope:Scope}{cl:List (Str × Addr)}{x:Str}{cn:List Str}{caps:List Nat}{elt tg iter:Expr}{ifs:List Expr}{ti:AD}{tt:TD}{te:ED}{pos:Pos}
theorem pq (mi:kl ti):bO (kC caps ti tt te):=λδ P P' g h=>mi _ _ _ (λds ⟨outs,hol,each,hlen,q⟩=>⟨outs,hol,each,hlen,g _ q⟩) h
theorem GF (S:bQ X scope cl [x] caps cn)(hc:X.calm=true)(hi:PId X tg iter ti)(hg:∀C fp s₂ H₂,PG (ao X scope cl C ([x]++cn) fp s₂ H₂) tg (fK 0))(ht:∀C fp s₂ H₂,ql (ao X scope cl C ([x]++cn) fp s₂ H₂) ifs tt)
  (he:∀C fp s₂ H₂,PD (ao X scope cl C ([x]++cn) fp s₂ H₂) elt te)(mt:fF tt)(me:bO te)(hs:∀x,foldedSetIterable iter X.env x=pure x:=by intro _;rfl):PD X (.ListComp elt [⟨tg,iter,ifs,0⟩] scope pos) (kC caps ti tt te) :=
 ⟨(tP S hc hi.pi hg (λC fp s₂ H₂=>eF (ht C fp s₂ H₂).IV) (λC fp s₂ H₂=>fc (he C fp s₂ H₂).pe) hs).imp λσ H Q h=>uM hi.mono mt me h,pq hi.mono⟩
theorem Hq {i:Nat}{y:Str}{py spos:Pos}(hN:X.N.Nodup)(hi':X.N[i]?=some y)(hy:Loc X.env.scope y)(S:bQ X scope cl [x] caps cn)(hc:X.calm=true)(hi:PId X tg iter ti)
  (hg:∀C fp s₂ H₂,PG (ao X scope cl C ([x]++cn) fp s₂ H₂) tg (fK 0))(ht:∀C fp s₂ H₂,ql (ao X scope cl C ([x]++cn) fp s₂ H₂) ifs tt)(he:∀C fp s₂ H₂,PD (ao X scope cl C ([x]++cn) fp s₂ H₂) elt te)(mt:fF tt)(me:bO te)
  (hsw:swapsWith (.ListComp elt [⟨tg,iter,ifs,0⟩] scope pos) (some (.Name y py)) spos.line X.env=pure true:=by rfl)(hf:X.fn y=true\/X.env.scope.names.lookup y=some .local:=by first|exact .inl rfl|exact .inr rfl|assumption)
  (hs:∀x,foldedSetIterable iter X.env x=pure x:=by intro _;rfl):AB X (.Assign [.Name y py] (.ListComp elt [⟨tg,iter,ifs,0⟩] scope pos) spos) (jG i (kC caps ti tt te)) :=
 ⟨PS.imp (tS hN hi' hy S hc hi.pi hg (λC fp s₂ H₂=>eF (ht C fp s₂ H₂).IV) (λC fp s₂ H₂=>fc (he C fp s₂ H₂).pe) hsw hf hs) λD σ H ⟨δ,r,h⟩ =>
   uM hi.mono mt me ⟨δ,r,pq hi.mono _ _ _ (λd q v H1 s1 dv=>q _ H1 s1 ((r.same s1).set i dv)) h⟩,
  λE E' δ l h=>pq hi.mono _ _ _ (λd q=>l.nx _ q) h⟩
end
def oQ:D->Option String
 |.ag=>some "NoneType"
 |.bl _=>some "bool"
 |.int _=>some "int"
 |.str _=>some "str"
 |.lst _=>some "list"
 |.tup _=>some "tuple"
 |.dK _=>some "dict"
 |.dT _=>some "dict"
 |.obj _ _=>none
 |.adr _=>none
 |.exc _ _ _=>none
structure i5 (K:PySem.W.Frag) (C:Addr):Prop where
 cl:uF K C
 ha:findIn K (.ref C) "__class__"=some (some (.builtin "object.__class__"))
 hn:PySem.W.specialIn K (.builtin "object.__class__") "__get__"=some (some (.builtin "getset_descriptor.__get__"))
 MU:PySem.W.takesIn K (.builtin "object.__class__")=some true
 hm:PySem.W.mroIn K C (.type "object")=some true
inductive E8 (K:PySem.W.Frag):D->Value->Prop
 |k {d:D} {T:String} (h:oQ d=some T):E8 K d (.type T)
 |o {C:Addr} {gs:List (Str × D)} (h:i5 K C):E8 K (.obj C gs) (.ref C)
section
variable {X:Cx}{pins:List (Addr × Obj)}{σ:L2.St}{H:Hp}{s:Shared}
theorem xu {x:V}{u t:Value}{d:D}(I:Inv X pins σ H s)(rx:RelV x u)(dv:Dv X.K H x d)(ty:E8 X.K d t):∃Hh,PySem.W.KitX X.K u t Hh/\Hh s.heap/\u≠.builtin "__main__.__loader__#opaque":=by
 cases ty with
 |k h =>
  cases dv with
  |ag=>cases h;cases(show u=Value.none from rx);exact⟨_,PySem.W.kitx_none,True.intro,λz=>nomatch z⟩
  |bl y=>cases h;cases(show u=Value.bool y from rx);exact⟨_,PySem.W.kitx_bool,True.intro,λz=>nomatch z⟩
  |int i=>cases h;obtain⟨t,q⟩:=(show ∃t,u=Value.int i t from rx);cases q;exact⟨_,PySem.W.kitx_int,True.intro,λz=>nomatch z⟩
  |str y=>cases h;obtain⟨t,q⟩:=(show ∃t,u=Value.str y t from rx);cases q;exact⟨_,PySem.W.kitx_str,True.intro,λz=>nomatch z⟩
  | @lst a xs ds h1 h2 =>
   cases h
   cases(show u=Value.ref a from rx)
   obtain⟨its,_,pl,_⟩:=I.list h1
   obtain⟨o,n,e1,e2,_⟩:=pl
   exact⟨_,PySem.W.kitx_list,⟨o,e1,e2⟩,λz=>nomatch z⟩
  | @tup a xs ds h1 h2 =>
   cases h
   cases(show u=Value.ref a from rx)
   obtain⟨its,_,pl,_⟩:=I.tuple h1
   obtain⟨o,n,e1,e2,_⟩:=IsTup.of_get pl
   exact⟨_,PySem.W.kitx_tuple,⟨o,e1,e2⟩,λz=>nomatch z⟩
  | @dK a kvs gs h1 h2 =>
   cases h
   cases(show u=Value.ref a from rx)
   obtain⟨_,_,vs,_,p⟩:=(show bR X.prog X.w H s.heap a (.dK kvs) from h1.ok I.bg)
   obtain⟨o,es,ep,g1,g2,_⟩:=p
   exact⟨_,PySem.W.kitx_dict,⟨o,g1,g2.1⟩,λz=>nomatch z⟩
  | @dT a kvs gs h1 h2 =>
   cases h
   cases(show u=Value.ref a from rx)
   obtain⟨⟨_,_,_,o,es,ep,g1,g2,_⟩,_⟩:=(show bR X.prog X.w H s.heap a (Ks a kvs) from h1.ok I.bg)
   exact⟨_,PySem.W.kitx_dict,⟨o,g1,g2.1⟩,λz=>nomatch z⟩
  |obj h1 h2=>cases h
  |adr _=>cases h
  |exc _ _ _=>cases h
 |o h =>
  cases dv with
  | @obj a C dx fs gs h1 h2 =>
   cases(show u=Value.ref a from rx)
   obtain⟨mA,O,_⟩:=pS I.bg h1
   obtain⟨od,J,_⟩:=O.look
   exact⟨_,PySem.W.kitx_own (h.cl.get _) h.cl.hd h.ha h.hn h.MU h.hm,J,λz=>nomatch z⟩
end
section
variable {X:Cx}{e:Expr}{te:ED}{pos p p2:Pos}
theorem yi {c:Value}{vc:V}(rc:∀u,RelV vc u->u=c):ki X (.builtin "isinstance") (λxs H Q=>∃x d t b,xs=[x,vc]/\Dv X.K H x d/\E8 X.K d t/\kitOne X.K t c=some b/\Q (.bl b) H):=by
 intro pins s σ H xs us Q I r h
 obtain⟨x,d,t,b,rfl,dv,ty,e,q⟩:=h
 obtain⟨u,w',rfl,r1,r2⟩:=vals2 r
 obtain rfl:=rc w' r2
 obtain⟨Hh,Z,hh,hx⟩:=xu I r1 dv ty
 exact PySem.W.kia_one Z I.uE hh e hx λtk=>⟨.bl b,H,I.tok _,rfl,q⟩
def IJ (K:PySem.W.Frag)(c:Value)(te:ED):ED:=λδ Q=>te δ λd=>∃t b,E8 K d t/\kitOne K t c=some b/\Q (.bl b)
theorem Ac {c:Value}{vc:V}(he:PD X e te){ec:Expr}(hp:PE X (.Call (.Name "isinstance" p) [e,ec] [] pos) (Km (λxs H Q=>∃x d t b,xs=[x,vc]/\Dv X.K H x d/\E8 X.K d t/\kitOne X.K t c=some b/\Q (.bl b) H) (yO (oE X.K te) (yO (tC vc) Em)))) :
  PD X (.Call (.Name "isinstance" p) [e,ec] [] pos) (IJ X.K c te) :=
 ⟨hp.imp λσ H Q ⟨δ,r,h⟩=>⟨δ,r,he.mono _ _ _ (λd ⟨t,b,ty,ek,k⟩ v H1 s1 dv=>⟨v,d,t,b,rfl,dv,ty,ek,k _ H1 s1 (.bl _)⟩) h⟩,λδ P P' g h=>he.mono _ _ _ (λd ⟨t,b,ty,ek,k⟩=>⟨t,b,ty,ek,g _ k⟩) h⟩
theorem nH {T:String}{x:Str}(he:PD X e te)(hg:Gl X "isinstance")(hm:X.mg "isinstance"=none)(hg2:Gl X x)(hm2:X.mg x=none)(hv2:bootBuiltins x=some (.type T))(hn:x≠"__name__":=by decide)(hd:(x == ("__debug__":Str))=false:=by decide)
  (hs:starEach [e,.Name x p2] X.env=(false,eval e X.env)::starEach [.Name x p2] X.env:=by rfl):PD X (.Call (.Name "isinstance" p) [e,.Name x p2] [] pos) (IJ X.K (.type T) te) :=
 Ac (vc:=.ty T) he (jE (yi λu z=>z) hg hm boot_isinstance (dO he.pe (dO (tN (v:=.ty T) hg2 hm2 hv2 rfl hn hd) iN) hs) (he:=hs))
end
def kb (T:String)(d:D):Option Bool:=(oQ d).map λk=>k == T||(k == "bool"&&T == "int")
theorem sk {K:PySem.W.Frag}{d:D}{k T:String}(hk:oQ d=some k)(hT:T∈["bool","int","str","list","tuple","dict"]):kitOne K (.type k) (.type T)=some (k == T||(k == "bool"&&T == "int")):=by
 have hk':k∈["NoneType","bool","int","str","list","tuple","dict"]:=by cases d<;>cases hk<;>simp
 simp only[List.mem_cons,List.not_mem_nil,or_false] at hk' hT
 rcases hk' with rfl|rfl|rfl|rfl|rfl|rfl|rfl<;>rcases hT with rfl|rfl|rfl|rfl|rfl|rfl<;>kernel_rfl
def lQ (T:String)(te:ED):ED:=λδ Q=>te δ λd=>∃b,kb T d=some b/\Q (.bl b)
theorem PD.kb {X:Cx}{e:Expr}{te:ED}{T:String}(h:PD X e (IJ X.K (.type T) te))(m:bO te)(hT:T∈["bool","int","str","list","tuple","dict"]):PD X e (lQ T te) :=
 ⟨h.pe.imp λσ H Q ⟨δ,r,q⟩=>⟨δ,r,m _ _ _ (λd ⟨b,eb,k⟩=>by
   unfold DC.kb at eb
   cases hk:oQ d with
   |none=>rw[hk] at eb;cases eb
   |some kk =>
    rw[hk] at eb
    have e1:(kk == T||(kk == "bool"&&T == "int"))=b:=by simpa using eb
    exact⟨_,b,.k hk,by rw[sk hk hT,e1],k⟩) q⟩,λδ P P' g q=>m _ _ _ (λd ⟨b,eb,k⟩=>⟨b,eb,g _ k⟩) q⟩
def LG:D->Option Int
 |.str x=>if x.length<=sizeLine then some x.length else none
 |.lst xs=>some xs.length
 |.tup xs=>some xs.length
 |_=>none
def lP:cg:=λds Q=>∃d n,ds=[d]/\LG d=some n/\Q (.int n)
theorem JZ:b4 lP:=λds P P' g ⟨d,n,e,h,q⟩=>⟨d,n,e,h,g _ q⟩
theorem As {K:PySem.W.Frag}:o_ K (λxs H Q=>∃x n,xs=[x]/\Ia K x H n/\Q (.int n) H) lP:=by
 intro H vs ds Q dvs ⟨d,n,e,h,q⟩
 subst e
 cases dvs with
 |cons dv r =>
  cases r
  cases dv with
  |str x =>
   have h':(if x.length<=sizeLine then some (x.length:Int) else none)=some n:=h
   by_cases hz:x.length<=sizeLine
   ·rw[if_pos hz] at h'
    cases h'
    exact⟨_,x.length,rfl,⟨hz,rfl⟩,q _ H (aJ.refl _) (.int _)⟩
   ·rw[if_neg hz] at h'
    cases h'
  |lst h1 h2=>cases h;exact⟨_,_,rfl,.inl ⟨_,h1,rfl⟩,by rw[h2.length];exact q _ H (aJ.refl _) (.int _)⟩
  |tup h1 h2=>cases h;exact⟨_,_,rfl,.inr ⟨_,h1,rfl⟩,by rw[h2.length];exact q _ H (aJ.refl _) (.int _)⟩
  |_=>cases h
section
variable {X:Cx}{e:Expr}{es:List Expr}{t:AD}{pos p:Pos}
theorem cZ (hg:Gl X "len")(hm:X.mg "len"=none)(ha:nB X (e::es) t)(h1:starEach (e::es) X.env=(false,eval e X.env)::starEach es X.env:=by rfl)(h2:(backTo pos (starEach es X.env)).any (·.1)=false:=by rfl) :
  PD X (.Call (.Name "len" p) (e::es) [] pos) (vB lP t):=yl (jE AR hg hm PySem.boot_len ha.pa (he:=h1) (hpl:=h2)) ha.mono As JZ
def CB:cg:=λds Q=>∃i:Int,ds=[.int i]/\i.natAbs.log2<1920/\Q (.str (toString i))
theorem Ja:b4 CB:=λds P P' g ⟨i,e,h,q⟩=>⟨i,e,h,g _ q⟩
theorem Au {K:PySem.W.Frag}:o_ K (λxs H Q=>∃i,xs=[.int i]/\i.natAbs.log2<1920/\Q (.str (toString i)) H) CB:=by
 intro H vs ds Q dvs ⟨i,e,h,q⟩
 subst e
 cases dvs with
 |cons dv r=>cases r;cases dv;exact⟨i,rfl,h,q _ H (aJ.refl _) (.str _)⟩
theorem boot_str:bootBuiltins "str"=some (.type "str"):=by decide +kernel
theorem nD:bootBuiltins "int"=some (.type "int"):=by decide +kernel
theorem v7:bootBuiltins "bool"=some (.type "bool"):=by decide +kernel
theorem boot_tuple:bootBuiltins "tuple"=some (.type "tuple"):=by decide +kernel
theorem boot_list:bootBuiltins "list"=some (.type "list"):=by decide +kernel
theorem yd:bootBuiltins "all"=some (.builtin "all"):=by decide +kernel
theorem uU (hg:Gl X "str")(hm:X.mg "str"=none)(ha:nB X (e::es) t)(h1:starEach (e::es) X.env=(false,eval e X.env)::starEach es X.env:=by rfl)(h2:(backTo pos (starEach es X.env)).any (·.1)=false:=by rfl):PD X (.Call (.Name "str" p) (e::es) [] pos) (vB CB t):=yl (nr rq hg hm boot_str ha.pa (he:=h1) (hpl:=h2)) ha.mono Au Ja
def yI:cg:=λds Q=>(∃i,ds=[.int i]/\Q (.int i))\/∃k:Bool,ds=[.bl k]/\Q (.int (if k then 1 else 0))
theorem JX:b4 yI:=λds P P' g h=>h.elim (fun⟨i,e,q⟩=>.inl ⟨i,e,g _ q⟩) fun⟨k,e,q⟩=>.inr ⟨k,e,g _ q⟩
theorem Ar {K:PySem.W.Frag}:o_ K (λxs H Q=>(∃i,xs=[.int i]/\Q (.int i) H)\/∃k,xs=[.bl k]/\Q (.int (if k then 1 else 0)) H) yI:=by
 intro H vs ds Q dvs h
 rcases h with⟨i,e,q⟩|⟨k,e,q⟩
 ·subst e
  cases dvs with
  |cons dv r=>cases r;cases dv;exact .inl ⟨i,rfl,q _ H (aJ.refl _) (.int _)⟩
 ·subst e
  cases dvs with
  |cons dv r=>cases r;cases dv;exact .inr ⟨k,rfl,q _ H (aJ.refl _) (.int _)⟩
theorem uR (hg:Gl X "int")(hm:X.mg "int"=none)(ha:nB X (e::es) t)(h1:starEach (e::es) X.env=(false,eval e X.env)::starEach es X.env:=by rfl)(h2:(backTo pos (starEach es X.env)).any (·.1)=false:=by rfl):PD X (.Call (.Name "int" p) (e::es) [] pos) (vB yI t):=yl (nr yf hg hm nD ha.pa (he:=h1) (hpl:=h2)) ha.mono Ar JX
def yH:cg:=λds Q=>∃(bs:List Bool),ds=[.lst (bs.map D.bl)]/\Q (.bl (bs.all id))
theorem JV:b4 yH:=λds P P' g ⟨bs,e,q⟩=>⟨bs,e,g _ q⟩
theorem yR {K:PySem.W.Frag}{H:Hp}:∀{vs:List V} {bs:List Bool},bN K H vs (bs.map D.bl)->vs=bs.map V.bl
 |[],[],_=>rfl
 |_,_::_,.cons (.bl _) r=>by rw[yR r];rfl
theorem Ao {K:PySem.W.Frag}{A:Around}(hh:A.handled=none):o_ K (λxs H Q=>∃(p:Addr) (bs:List Bool),xs=[.ref p]/\A.handled=none/\fG K H p (bs.map V.bl)/\Q (.bl (bs.all id)) H) yH:=by
 intro H vs ds Q dvs ⟨bs,e,q⟩
 subst e
 cases dvs with
 |cons dv r =>
  cases r
  cases dv with
  |lst h1 h2 =>
   rw[yR h2] at h1
   exact⟨_,bs,rfl,hh,h1,q _ H (aJ.refl _) (.bl _)⟩
theorem uP (hh:X.A.handled=none)(hg:Gl X "all")(hm:X.mg "all"=none)(ha:nB X (e::es) t)(h1:starEach (e::es) X.env=(false,eval e X.env)::starEach es X.env:=by rfl)(h2:(backTo pos (starEach es X.env)).any (·.1)=false:=by rfl):PD X (.Call (.Name "all" p) (e::es) [] pos) (vB yH t):=yl (jE AQ hg hm yd ha.pa (he:=h1) (hpl:=h2)) ha.mono (Ao hh) JV
end
structure MG (X:Cx) (C:Addr) (m:Str) (sd:cg) (dd:List D) (k:Nat) (f:Addr) (fd:FuncData) (ps:List Str) (dvs:List V) (ds:List Value):Prop where
 cls:uF X.K C
 Jc:Meth X.K C m f
 fn:dB X.prog X.w X.K X.mg X.base oy k f fd ps (qt X.K sd)
 mono:b4 sd
 room:cA k X.A
 binds:Binds X.K fd ps ds
 vals:Vals dvs ds
 dflt:∀H,bN X.K H dvs dd
structure MH (X:Cx) (C:Addr) (m:Str) (sd:cg) (dd:List D):Prop where
 ex:∃k f fd ps dvs ds,MG X C m sd dd k f fd ps dvs ds
def rZ (ok:Addr->Prop)(m:Str)(sd:Addr->cg)(dd:List D)(ta:ED)(t:AD):ED:=λδ Q=>ta δ λd=>∃C gs,d=.obj C gs/\gs.lookup m=none/\ok C/\t δ λds=>sd C (d::(ds++dd)) Q
section
variable {X:Cx}{ok:Addr->Prop}{o e:Expr}{es:List Expr}{m:Str}{sd:Addr->cg}{dd:List D}{ta:ED}{t:AD}{pos apos:Pos}
def CM (X:Cx)(m:Str)(sd:Addr->cg)(dd:List D)(ta:TE)(t:TA):TE:=λσ H Q=>ta σ H λx H1=>∃a C dx fs,x=.ref a/\Rd H1 a (.ins C dx fs)/\fs.lookup m=none/\MH X C m (sd C) dd /\
 ∀dvs,(∀H,bN X.K H dvs dd)->t σ H1 λvs H2=>qt X.K (sd C) (x::(vs++dvs)) H2 Q E0
theorem zZ {ta:TE}{pl:Sem Bool}(he:PE X o ta)
  (ht:eval (.Call (.Attribute o m apos) [] [] pos) X.env=(do
   let ov <- eval o X.env
   standAt apos.atName
   let (f,first) <- holding [ov] (getMethod ov m pl)
   callWith pos f first (backTo pos (starEach [] X.env)) (backToKw pos (keywordEach [] X.env))):=by rfl) :
  PE X (.Call (.Attribute o m apos) [] [] pos) (CM X m sd dd ta Em):=by
 intro pins s σ H Q I h
 refine PySem.W.methodCall_KW (pl:=pl) (br (he pins s σ H _ I h) λu s1 ⟨x,H1,I1,rx,a,C,dx,fs,ex,ea,l,⟨k,f,fd,ps,dvs,ds,M⟩,q⟩=>?_) ht
 subst ex
 obtain rfl:u=Value.ref a:=rx
 refine uk I1 ea M.cls M.Jc l ?_
 exact PySem.W.callWith_K0 (first:=[.ref a]) I1.uE M.Jc.kp (B1 (us:=[.ref a]) (vs:=[.ref a]) M.fn M.room M.binds M.vals vI I1 (.cons rfl .nil) (q dvs M.dflt))
theorem G3 (hM:∀C,ok C->MH X C m (sd C) dd)(ma:bO ta)(mt:kl t):bO (rZ ok m sd dd ta t):=λδ P P' g h=>ma _ _ _ (λd ⟨C,gs,e,l,M,q⟩=>⟨C,gs,e,l,M,mt _ _ _ (λds k=>by
 obtain⟨_,_,_,_,_,_,M'⟩:=hM C M
 exact M'.mono _ _ _ g k) q⟩) h
theorem Dk (hM:∀C,ok C->MH X C m (sd C) dd)(ma:bO ta)(mt:kl t){σ:L2.St}{H:Hp}{Q:VK}(h:oE X.K (rZ ok m sd dd ta t) σ H Q):CM X m sd dd (oE X.K ta) (oA X.K t) σ H Q:=by
 obtain⟨δ,r,h⟩:=h
 refine⟨δ,r,ma _ _ _ (λd ⟨C,gs,ed,l,M,q⟩ v H1 s1 dv=>?_) h⟩
 subst ed
 cases dv with
 | @obj a C dx fs gs h1 h2 =>
  refine⟨_,C,dx,fs,rfl,h1,h2.none l,hM C M,λdvs hd=>⟨δ,r.same s1,mt _ _ _ (λds k vs H2 s2 dvs'=>?_) q⟩⟩
  obtain⟨_,_,_,_,_,_,M'⟩:=hM C M
  exact⟨_,.cons (Dv.same s2 (.obj h1 h2)) (dvs'.append (hd H2)),M'.mono _ _ _ (λd k=>k.on (s1.trans s2)) k⟩
theorem C9 {pl:Sem Bool}(hM:∀C,ok C->MH X C m (sd C) dd)(he:PD X o ta)
  (ht:eval (.Call (.Attribute o m apos) [] [] pos) X.env=(do
   let ov <- eval o X.env
   standAt apos.atName
   let (f,first) <- holding [ov] (getMethod ov m pl)
   callWith pos f first (backTo pos (starEach [] X.env)) (backToKw pos (keywordEach [] X.env))):=by rfl) :
  PD X (.Call (.Attribute o m apos) [] [] pos) (rZ ok m sd dd ta ak) :=
 ⟨(zZ he.pe ht).imp λσ H Q h=>by
   have q:=Dk (t:=ak) hM he.mono (λδ P P' g h=>g _ h) h
   obtain⟨δ,r,h'⟩:=q
   refine⟨δ,r,he.mono _ _ _ (λd k v H1 s1 dv=>?_) h'⟩
   obtain⟨a,C,dx,fs,e1,e2,l,M,z⟩:=k v H1 s1 dv
   refine⟨a,C,dx,fs,e1,e2,l,M,λdvs hd=>?_⟩
   obtain⟨δ',r',z'⟩:=z dvs hd
   exact z' [] H1 (aJ.refl _) .nil,G3 hM he.mono λδ P P' g h=>g _ h⟩
end
abbrev FD:=List (Str × D)
structure q9 where
 nx:SD->FD->Prop
 rt:FD->Prop
 fin:FD->Prop
abbrev yX:=q9->SD->FD->Prop
structure q9.Le (E E':q9):Prop where
 nx:∀ δ gs,E.nx δ gs->E'.nx δ gs
 rt:∀gs,E.rt gs->E'.rt gs
 fin:∀gs,E.fin gs->E'.fin gs
abbrev E4 (t:yX):Prop:=∀E E' δ gs,q9.Le E E'->t E δ gs->t E' δ gs
def putD (f:Str)(d:D):FD->FD
 |[]=>[(f,d)]
 | (g,e)::r=>if g=f then(g,d)::r else(g,e)::putD f d r
structure AA (K:PySem.W.Frag) (C a dx:Addr) (H:Hp) (gs:FD):Prop where
 ex:∃fs,H a=some (.ins C dx fs)/\iy K (da H a dx) fs gs
 ne:dx≠a
def sJ (K:PySem.W.Frag)(C a dx:Addr)(H:Hp)(D:Ends):q9 :=
 ⟨λδ gs=>∀ σ H',aJ (da H a dx) (da H' a dx)->bX K (da H' a dx) σ δ->AA K C a dx H' gs->D.nx σ H',λgs=>∀H',aJ (da H a dx) (da H' a dx)->AA K C a dx H' gs->D.rt .ag H',λgs=>∀ σ H',aJ (da H a dx) (da H' a dx)->AA K C a dx H' gs->D.nx σ H'⟩
def oI (K:PySem.W.Frag)(C:Addr)(t:Addr->yX):TS:=λD σ H=>∃a dx δ gs,bX K (da H a dx) σ δ/\AA K C a dx H gs/\t a (sJ K C a dx H D) δ gs
structure IS (X:Cx) (C:Addr) (st:List Stmt) (t:Addr->yX):Prop where
 ps:m8 X st (oI X.K C t)
 mono:∀a,E4 (t a)
structure KY (X:Cx) (C:Addr) (st:Stmt) (t:Addr->yX):Prop where
 ps:PS X st (oI X.K C t)
 mono:∀a,E4 (t a)
section
variable {X:Cx}{C:Addr}{st:Stmt}{rest:List Stmt}{t u:Addr->yX}{e:Expr}{te:ED}{pos pos' p:Pos}{f:Str}
theorem DB {K:PySem.W.Frag}{a dx:Addr}{H H1:Hp}{D:Ends}(s:aJ (da H a dx) (da H1 a dx)):q9.Le (sJ K C a dx H D) (sJ K C a dx H1 D) :=
 ⟨λ_ _ h σ H' s' r g=>h σ H' (s.trans s') r g,λ_ h H' s' g=>h H' (s.trans s') g,λ_ h σ H' s' g=>h σ H' (s.trans s') g⟩
def K_ (t u:Addr->yX):Addr->yX:=λa E δ gs=>t a { nx:=u a E,rt:=E.rt,fin:=λ_=>False } δ gs
theorem bU (h1:KY X C st t)(h2:IS X C rest u):IS X C (st::rest) (K_ t u) :=
 ⟨m8.imp (qL h1.ps h2.ps) λD σ H ⟨a,dx,δ,gs,r,g,h⟩=>⟨a,dx,δ,gs,r,g,h1.mono a { nx:=u a (sJ X.K C a dx H D),rt:=(sJ X.K C a dx H D).rt,fin:=λ_=>False } _ _ _
   ⟨λδ' gs' q σ' H' s' r' g'=>⟨a,dx,δ',gs',r',g',h2.mono a _ _ _ _ (DB s') q⟩,λgs' q=>q,λgs' q=>q.elim⟩ h⟩,
  λa E E' δ gs l h=>h1.mono a { nx:=u a E,rt:=E.rt,fin:=λ_=>False } _ _ _ ⟨λδ' gs' q=>h2.mono a _ _ _ _ l q,l.rt,λ_ q=>q.elim⟩ h⟩
def JF (C:Addr)(t:kG):Addr->yX:=λa E δ gs=>t { nx:=λ_=>E.fin gs,rt:=λd=>d=.ag/\E.rt gs } (δ.set 0 (some (.obj C gs)))
def K9:Addr->yX:=λa E δ gs=>E.fin gs
theorem FK:IS X C [] K9:=⟨m8.imp tU λD σ H ⟨a,dx,δ,gs,r,g,h⟩=>h σ H (aJ.refl _) g,λa E E' δ gs l h=>l.fin _ h⟩
def JE (t:kG):Addr->yX:=λa E δ gs=>t { nx:=λδ'=>E.nx δ' gs,rt:=λd=>d=.ag/\E.rt gs } δ
theorem lq {t:kG}(h:AB X st t):KY X C st (JE t):=by
 refine⟨PS.imp (wz h.ps) λD σ H ⟨a,dx,δ,gs,r,⟨⟨fs,ha,hf⟩,ne⟩,q⟩=>⟨a,dx,C,fs,ha,δ,r,?_⟩,λa E E' δ gs l q=>h.mono { nx:=λδ'=>E.nx δ' gs,rt:=λd=>d=.ag/\E.rt gs } _ _ ⟨λδ' k=>l.nx _ _ k,λd k=>⟨k.1,l.rt _ k.2⟩,λ_ k=>k,λ_ k=>k⟩ q⟩
 refine h.mono { nx:=λδ'=>(sJ X.K C a dx H D).nx δ' gs,rt:=λd=>d=.ag/\(sJ X.K C a dx H D).rt gs } _ _ ⟨λδ' k σ' H' s' r' z1 z2 _=>?_,λd k v H' s' dv z1 z2 _=>?_,λ_ k=>k.elim,λ_ k=>k.elim⟩ q
 ·have hs:da (shown H' a dx C fs) a dx=H':=kN z1 z2
  exact k σ' _ (by rw[hs];exact s') (by rw[hs];exact r') ⟨⟨fs,mz,by rw[hs];exact iy.same s' hf⟩,ne⟩
 ·have hs:da (shown H' a dx C fs) a dx=H':=kN z1 z2
  obtain⟨e,k⟩:=k
  subst e
  cases dv
  exact k _ (by rw[hs];exact s') ⟨⟨fs,mz,by rw[hs];exact iy.same s' hf⟩,ne⟩
theorem iy.put {K:PySem.W.Frag}{H:Hp}{v:V}{d:D}(dv:Dv K H v d):∀{fs:List (Str × V)} {gs:FD},iy K H fs gs->iy K H (iO f v fs) (putD f d gs)
 |_,_,.nil=>.cons dv .nil
 |_,_,.cons (k:=k) h r=>by
  unfold iO putD
  by_cases q:k=f
  ·rw[if_pos q,if_pos q];exact .cons dv r
  ·rw[if_neg q,if_neg q];exact .cons h (iy.put dv r)
theorem iy.length {K:PySem.W.Frag}{H:Hp}:∀{fs:List (Str × V)} {gs:FD},iy K H fs gs->fs.length=gs.length
 |_,_,.nil=>rfl
 |_,_,.cons _ r=>congrArg (·+1) (iy.length r)
def JH (K:PySem.W.Frag)(C:Addr)(f:Str)(te:ED):Addr->yX:=λa E δ gs=>te δ λd=>δ[0]?=some (some (.adr a))/\uF K C/\eh K C f/\gs.length<1000/\E.nx δ (putD f d gs)
theorem JI {x:Str}(hN:X.N[0]?=some x)(hv:Cz X.env.scope x)(he:PD X e te)(hs:swapsWith e (some (.Attribute (.Name x p) f pos')) pos.line X.env=pure false:=by rfl)(hd:(x == ("__debug__":Str))=false:=by decide)
  (hcd:(x == ("__classdict__":Str))=false:=by decide):KY X C (.Assign [.Attribute (.Name x p) f pos'] e pos) (JH X.K C f te):=by
 refine⟨PS.imp (Hi (qK hN hv hd hcd) (wq he.pe) hs) λD σ H ⟨a,dx,δ,gs,r,⟨⟨fs,ha,hf⟩,ne⟩,q⟩=>⟨a,dx,C,fs,ha,δ,r,?_⟩,λa E E' δ gs l q=>he.mono _ _ _ (λd ⟨k0,k1,k2,k3,k⟩=>⟨k0,k1,k2,k3,l.nx _ _ k⟩) q⟩
 refine he.mono _ _ _ (λd ⟨k0,k1,k2,k3,k⟩ v H' s' dv z1 z2 _=>?_) q
 obtain⟨w,hw,dw⟩:=r.get 0 _ k0
 cases dw
 refine⟨_,hw,a,C,dx,fs,rfl,mz,k1,k2,by rw[hf.length];exact k3,?_⟩
 rw[zy]
 have hs:da (shown H' a dx C (iO f v fs)) a dx=H':=kN z1 z2
 exact k σ _ (by rw[hs];exact s') (by rw[hs];exact r.same s') ⟨⟨_,mz,by rw[hs];exact(iy.same s' hf).put dv⟩,ne⟩
theorem pR {H:Hp}{a dx:Addr}:aJ (da H a dx) H:=λb o h=>by
 unfold da at h
 split at h
 ·cases h
 ·exact h
theorem AA.dv {K:PySem.W.Frag}{a dx:Addr}{H:Hp}{gs:FD}(g:AA K C a dx H gs):Dv K H (.ref a) (.obj C gs):=by
 obtain⟨⟨fs,h,hf⟩,_⟩:=g
 exact .obj (.of h) (iy.same pR hf)
theorem AA.on {K:PySem.W.Frag}{a dx:Addr}{H H':Hp}{gs:FD}(g:AA K C a dx H gs)(s:aJ H H'):AA K C a dx H' gs:=by
 obtain⟨⟨fs,h,hf⟩,ne⟩:=g
 refine⟨⟨fs,s _ _ h,iy.same (λb o q=>?_) hf⟩,ne⟩
 unfold da at q ⊢
 split at q
 ·cases q
 ·rename_i z;rw[if_neg z];exact s _ _ q
theorem vT {H H':Hp}{a dx:Addr}(s:aJ H H'):aJ (da H a dx) (da H' a dx):=λb o q=>by
 unfold da at q ⊢
 split at q
 ·cases q
 ·rename_i z;rw[if_neg z];exact s _ _ q
theorem lr {t:kG}(h:om X rest t):IS X C rest (λa E δ gs=>δ[0]?=some (some (.adr a))/\JF C t a E δ gs):=by
 refine⟨m8.imp h.ps λD σ H ⟨a,dx,δ,gs,r,g,k0,q⟩=>⟨δ.set 0 (some (.obj C gs)),?_,?_⟩,λa E E' δ gs l ⟨k0,q⟩=>⟨k0,h.mono { nx:=λ_=>E.fin gs,rt:=λd=>d=.ag/\E.rt gs } _ _ ⟨λδ' k=>l.fin _ k,λd k=>⟨k.1,l.rt _ k.2⟩,λ_ k=>k,λ_ k=>k⟩ q⟩⟩
 ·obtain⟨w,hw,dw⟩:=r.get 0 _ k0
  cases dw
  have z:=(r.same pR).set 0 g.dv
  rw[show σ.set 0 (some (.ref a))=σ from by
   refine List.ext_getElem? λi=>?_
   rw[List.getElem?_set]
   split
   ·rename_i q2
    subst q2
    split
    ·exact hw.symm
    ·rename_i q3
     rw[List.getElem?_eq_none (by omega)] at hw
     cases hw
   ·rfl] at z
  exact z
 ·refine h.mono { nx:=λ_=>(sJ X.K C a dx H D).fin gs,rt:=λd=>d=.ag/\(sJ X.K C a dx H D).rt gs } _ _ ⟨λδ' k σ' H' s' r'=>k σ' H' (vT s') (g.on s'),λd k v H' s' dv=>?_,λ_ k=>k.elim,λ_ k=>k.elim⟩ q
  obtain⟨e,k⟩:=k
  subst e
  cases dv
  exact k H' (vT s') (g.on s')
end
abbrev E6:=List D->(FD->Prop)->Prop
abbrev vz (sd:E6):Prop:=∀ds (P P':FD->Prop),(∀d,P d->P' d)->sd ds P->sd ds P'
def LY (K:PySem.W.Frag)(C:Addr)(sd:E6):Sp:=λvs H Q _=>∃a dx vs' ds,vs=.ref a::vs'/\AA K C a dx H []/\bN K (da H a dx) vs' ds/\sd ds λgs=>∀H',aJ (da H a dx) (da H' a dx)->AA K C a dx H' gs->Q .ag H'
section
variable {P:Program}{w:World}{K:PySem.W.Frag}{mg:Str->Option Value}{base:Heap}
structure Cu (K:PySem.W.Frag) (x qual:Str) (st:Stmt) (f:Addr) (fd:FuncData):Prop where
 ex:∃(oc:Value) (od:Option Addr) (dV kV doc pm:Value) (an:Option Addr) (cdv ct:Value) (osl:Array (Option Value)),
  fd=fnOf x qual (cj st) (bF st) (aB st) dV kV doc pm an cdv ct/\K.lookup f=some ⟨oc,od,.func fd,osl⟩/\codeIn K cdv qual=true
 kp:keepIn K (.ref f)=true
theorem Cu.ok {P:Program}{w:World}{K:PySem.W.Frag}{mg:Str->Option Value}{base:Heap}{x qual:Str}{st:Stmt}{f:Addr}{fd:FuncData}{N ps:List Str}{k:Nat}{sp:Sp}(F:Cu K x qual st f fd)(S:aG N ps (aB st))(len:∀vs H Q E,sp vs H Q E->vs.length=ps.length)
  (hbody:∀(cdv:Value) (A:Around) (outer:List Env) (s:Shared) (H:Hp) (vs:List V) (Q:VK) (E:XK),cA k (A.deeper (envOfC qual (aB st) s.heap.objs.size f cdv))->sp vs H Q E ->
   ∃t,m8 (uO oy P w K mg base N qual (aB st) f cdv A outer s H E).HB (bF st) t/\t { nx:=λ_ H'=>Q .ag H',rt:=Q } (L2.start N vs) H):dB P w K mg base oy (k+1) f fd ps sp:=by
 obtain⟨oc,od,dV,kV,doc,pm,an,cdv,ct,osl,rfl,lk,hcd⟩:=F.ex
 refine FJ lk hcd S len λA outer s H vs Q E hr hsp=>?_
 obtain⟨t,h,q⟩:=hbody cdv A outer s H vs Q E hr hsp
 exact⟨t,h.HB,q⟩
theorem MV {x qual:Str}{st:Stmt}{f C:Addr}{fd:FuncData}{N ps:List Str}{k:Nat}{sd:E6}{t:Addr->yX}(F:Cu K x qual st f fd)(S:aG N ps (aB st))(len:∀ds Q,sd ds Q->ds.length+1=ps.length)
  (hb:∀(cdv:Value) (A:Around) (outer:List Env) (s:Shared) (H:Hp) (E:XK),cA k (A.deeper (envOfC qual (aB st) s.heap.objs.size f cdv))->IS (Bx P w K mg base N qual st f cdv A outer s H E) C (bF st) t)
  (hr:∀a ds Q,sd ds Q->t a { nx:=λ_=>Q,rt:=Q,fin:=Q } (dE N (.adr a::ds)) []):dB P w K mg base oy (k+1) f fd ps (LY K C sd):=by
 refine F.ok S (λvs H Q E ⟨a,dx,vs',ds,e,g,dvs,h⟩=>by rw[e,List.length_cons,dvs.length];exact len ds _ h) (λcdv A outer s H vs Q E hroom ⟨a,dx,vs',ds,e,g,dvs,h⟩=>?_)
 have B:=hb cdv A outer s H E hroom
 subst e
 refine⟨_,B.ps,a,dx,dE N (.adr a::ds),[],kY (.cons (.adr a) dvs),g,?_⟩
 let Q':FD->Prop:=λgs=>∀H',aJ (da H a dx) (da H' a dx)->AA K C a dx H' gs->Q .ag H'
 exact B.mono a { nx:=λ_=>Q',rt:=Q',fin:=Q' } _ _ _ ⟨λδ gs q σ H' s' r' g'=>q H' s' g',λgs q H' s' g'=>q H' s' g',λgs q σ H' s' g'=>q H' s' g'⟩ (hr a ds _ h)
end
section
variable {X:Cx}{C f:Addr}{fd:FuncData}{ps:List Str}{sd:E6}{dd:List D}{dvs:List V}{dls:List Value}{k:Nat}{x:Str}{e:Expr}{es:List Expr}{t:AD}{p pos:Pos}
def Fq (C:Addr)(sd:E6)(dd:List D)(t:AD):ED:=λδ Q=>t δ λds=>sd (ds++dd) λgs=>Q (.obj C gs)
theorem GN (M:Mk X.K C f)(F:dB X.prog X.w X.K X.mg X.base oy k f fd ps (LY X.K C sd))(ms:vz sd)(hr:cA (k+1) X.A)(hg:Gl X x)(hm:X.mg x=some (.ref C))(hb:Binds X.K fd ps dls)(hv:Vals dvs dls)(hd:∀H,bN X.K H dvs dd)
  (ha:nB X (e::es) t)(hdb:(x == ("__debug__":Str))=false:=by decide)(he:starEach (e::es) X.env=(false,eval e X.env)::starEach es X.env:=by rfl)(hpl:(backTo pos (starEach es X.env)).any (·.1)=false:=by rfl) :
  PD X (.Call (.Name x p) (e::es) [] pos) (Fq C sd dd t):=by
 refine⟨(D8 M F hr hg hm hb hv vI ha.pa hdb he hpl).imp λσ H Q ⟨δ,r,h⟩=>⟨δ,r,ha.mono _ _ _ (λds q vs H1 s1 dvs' y dx hy hdx ne=>?_) h⟩,λδ P P' g h=>ha.mono _ _ _ (λds q=>ms _ _ _ (λgs z=>g _ z) q) h⟩
 have hs:da (shown H1 y dx C []) y dx=H1:=kN hy hdx
 refine⟨y,dx,_,_,rfl,⟨⟨[],mz,.nil⟩,ne⟩,?_,ms _ _ _ (λgs z H' s' g'=>⟨rfl,z _ H' ?_ g'.dv⟩) q⟩
 ·show bN X.K (da (shown H1 y dx C []) y dx) _ _
  rw[hs]
  exact dvs'.append (hd H1)
 ·have s2:aJ (da (shown H1 y dx C []) y dx) (da H' y dx):=s'
  rw[hs] at s2
  exact s1.trans (s2.trans pR)
end
end DC
namespace L2
open PySem PySem.Spec PyProof.Rows
section
variable {X:Cx}
theorem u3 {ns:List Int}:∀{us:List Value},Vals (ns.map V.int) us->IntsAre us ns:=by
 induction ns with
 |nil=>intro us r;cases r;exact .nil
 |cons n ns ih =>
  intro us r
  cases r with
  |cons a r =>
   obtain⟨t,e⟩:=a
   subst e
   exact .cons _ _ (ih r)
theorem AS:ki X (.builtin "sum") (λxs H Q=>∃(p:Addr) (ns:List Int),xs=[.ref p]/\X.A.handled=none/\fG X.K H p (ns.map V.int)/\Q (.int ns.sum) H):=by
 intro pins s σ H xs us Q I r h
 obtain⟨p,ns,rfl,hh,hS,q⟩:=h
 obtain⟨u,rfl,ru⟩:=vals1 r
 cases(show u=Value.ref p from ru)
 obtain⟨its,rv,pl,_⟩:=I.list hS
 have hl:=pl.isList
 have hi:=u3 rv
 obtain⟨xs,hx⟩:=hi.allInts.items
 have hl':s.heap.IsList p (intItems xs):=hx ▸ hl
 refine sum_intListG hh hl' λh' tk t' hk=>?_
 have e1:ns=xs.toList.map (·.1):=by
  rw[<- nums_intItems,<- hx]
  exact(show numsOf its.toArray.toList=ns from hi.numsOf).symm
 have e2:preSum (numAt xs) xs.size=ns.sum:=by
  rw[preSum_eq,List.take_of_length_le (by simp),e1]
 rw[e2]
 exact⟨.int ns.sum,H,I.kept hk,⟨_,rfl⟩,q⟩
end
section
variable {prog:Program}{w:World}{A:Around}{R:Result->Shared->Prop}{I:Addr}{fp wr:List Addr}{n:Nat}{P:Nat->Value->Prop}{St:Nat->Heap->Prop}{E:Value->Shared->Prop}{s:Shared}{Q:Value->Shared->Prop}
abbrev bestAt (S:Addr)(items:Array Value)(h:Heap):Prop:=∃c,h.get? S=some { cls:=.type "list",dict:=none,data:=.seq items c,slots:=#[] }
theorem BU {kw:List (Str × Value)}(W:Walks prog w A.in1 I fp wr n P St)(bt:Nat->Nat->Bool)(hcmp:CmpOf prog w A.in1 .Gt P bt)(S:Addr)(hSf:S∉fp) :
  ∀(k j:Nat) (s:Shared) (vb:Value),j+1+k=n->St (j+1) s.heap->P (argBest bt j) vb->bestAt S #[vb,vb] s.heap ->
  (∀v h' tk,P (argBest bt (n - 1)) v->(∀b o,b∉wr->b≠S->s.heap.get? b=some o->h'.get? b=some o)->R (.ok (.ret v)) { s with heap:=h',toks:=tk }) ->
  codeAny (model prog w) A (.builtin "max.loop" ⟨[.ref I,.none,.ref S],kw⟩) R s:=by
 have hSw:S∉wr:=λh=>hSf (W.sub _ h)
 have hname:(toString "max"++toString ".loop":String)="max.loop":=by decide
 intro k
 induction k with
 |zero =>
  intro j s vb hj hst hP ⟨c,hS⟩ hR
  refine codeAny_builtin F.entry_max_loop ?_
  rw[Around.under_plainId F.plain_max_loop _]
  show wpAny _ A.in1 (seqItems? (.ref S) >>= _) _ _ s
  refine wpAny_bind (wpAny_seqItems hS rfl ?_)
  show wpAny _ A.in1 (tryCatch (pyNext (.ref I)) _ >>= _) _ _ s
  refine wpAny_bind (wpAny_tryCatch (W.done s _ _ ((show j+1=n by omega) ▸ hst) λh' tk hk=>?_))
  show wpAny _ A.in1 (updateSeq S (λ_=>#[]) >>= _) _ _ _
  refine wpAny_bind (wpAny_updateSeq (hk S _ hSw hS) rfl (wpAny_bind (wpAny_letGo (wpAny_pure ?_))))
  exact hR vb _ tk (by rw[show n - 1=j by omega];exact hP) λb o h1 h2 e=>(Heap.get?_update_other _ _ (Ne.symm h2)).trans (hk b o h1 e)
 |succ k ih =>
  intro j s vb hj hst hP ⟨c,hS⟩ hR
  refine codeAny_builtin F.entry_max_loop ?_
  rw[Around.under_plainId F.plain_max_loop _]
  show wpAny _ A.in1 (seqItems? (.ref S) >>= _) _ _ s
  refine wpAny_bind (wpAny_seqItems hS rfl ?_)
  show wpAny _ A.in1 (tryCatch (pyNext (.ref I)) _ >>= _) _ _ s
  refine wpAny_bind (wpAny_tryCatch (W.item (j+1) s _ _ (by omega) hst λv h' tk hv hst' hk=>?_))
  have hS':=hk S _ hSw hS
  show wpAny _ A.in1 (tryCatch (holding [v,v] (richCompare .Gt v vb >>= _)) _ >>= _) _ _ _
  refine wpAny_bind (wpAny_tryCatch (wpAny_holding (wpAny_bind (hcmp (j+1) (argBest bt j) v vb _ _ _ hv hP ?_))))
  refine wpAny_bind (wpAny_holding (wpAny_truthy_bool (wpAny_bind (wpAny_letGo (wpAny_pure ?_)))))
  cases hb:bt (j+1) (argBest bt j) with
  |true =>
   simp only[if_true]
   refine wpAny_bind (wpAny_updateSeq hS' rfl (wpAny_bind (wpAny_letGo ?_)))
   rw[hname]
   refine wpAny_pure ⟨plainId_quiet F.plain_max_loop _,ih (j+1) _ v (by omega) (W.frame _ _ _ hst' λb hbf o e=>?_) (by simp only[argBest,hb,if_true];exact hv) ⟨_,Heap.get?_update_self _ hS' rfl⟩ λv' h2 tk2 hp2 hk2=>?_⟩
   ·exact(Heap.get?_update_other _ _ (λh:S=b=>hSf (by rw[h];exact hbf))).trans e
   ·exact hR v' h2 tk2 hp2 λb o h1 h3 e=>hk2 b o h1 h3 ((Heap.get?_update_other _ _ (Ne.symm h3)).trans (hk b o h1 e))
  |false =>
   simp only[Bool.false_eq_true,if_false]
   refine wpAny_bind (wpAny_letGo ?_)
   rw[hname]
   refine wpAny_pure ⟨plainId_quiet F.plain_max_loop _,ih (j+1) _ vb (by omega) hst' (by simp only[argBest,hb,Bool.false_eq_true,if_false];exact hP) ⟨c,hS'⟩ λv' h2 tk2 hp2 hk2=>?_⟩
   exact hR v' h2 tk2 hp2 λb o h1 h3 e=>hk2 b o h1 h3 (hk b o h1 e)
theorem BS {d:Value}(W:Walks prog w A.in1 I fp wr n P St)(bt:Nat->Nat->Bool)(hcmp:CmpOf prog w A.in1 .Gt P bt)(S:Addr)(hSf:S∉fp){s:Shared}(hst:St 0 s.heap)(hS:bestAt S #[] s.heap)
  (hR:∀v h' tk,(if n=0 then v=d else P (argBest bt (n - 1)) v)->(∀b o,b∉wr->b≠S->s.heap.get? b=some o->h'.get? b=some o)->R (.ok (.ret v)) { s with heap:=h',toks:=tk }) :
  codeAny (model prog w) A (.builtin "max.loop" ⟨[.ref I,.none,.ref S],[("default",d)]⟩) R s:=by
 have hSw:S∉wr:=λh=>hSf (W.sub _ h)
 have hname:(toString "max"++toString ".loop":String)="max.loop":=by decide
 obtain⟨c,hS⟩:=hS
 refine codeAny_builtin F.entry_max_loop ?_
 rw[Around.under_plainId F.plain_max_loop _]
 show wpAny _ A.in1 (seqItems? (.ref S) >>= _) _ _ s
 refine wpAny_bind (wpAny_seqItems hS rfl ?_)
 show wpAny _ A.in1 (tryCatch (pyNext (.ref I)) _ >>= _) _ _ s
 by_cases hn:n=0
 ·refine wpAny_bind (wpAny_tryCatch (W.done s _ _ (hn ▸ hst) λh' tk hk=>?_))
  refine wpAny_bind (wpAny_rule (wpAny_pure ?_))
  exact hR d h' tk (by rw[if_pos hn]) λb o h1 _ e=>hk b o h1 e
 ·refine wpAny_bind (wpAny_tryCatch (W.item 0 s _ _ (by omega) hst λv h' tk hv hst' hk=>?_))
  have hS':=hk S _ hSw hS
  show wpAny _ A.in1 (updateSeq S (λ_=>#[v,v]) >>= _) _ _ _
  refine wpAny_bind (wpAny_updateSeq hS' rfl ?_)
  rw[hname]
  refine wpAny_pure ⟨plainId_quiet F.plain_max_loop _,BU W bt hcmp S hSf (n - 1) 0 _ v (by omega) (W.frame _ _ _ hst' λb hbf o e=>?_) hv ⟨_,Heap.get?_update_self _ hS' rfl⟩ λv' h2 tk2 hp2 hk2=>?_⟩
  ·exact(Heap.get?_update_other _ _ (λh:S=b=>hSf (by rw[h];exact hbf))).trans e
  ·exact hR v' h2 tk2 (by rw[if_neg hn];exact hp2) λb o h1 h3 e=>hk2 b o h1 h3 ((Heap.get?_update_other _ _ (Ne.symm h3)).trans (hk b o h1 e))
end
def qm (d:Int):List Int->Int
 |[]=>d
 |x::xs=>xs.foldl max x
theorem mL:∀(xs:List Int) (a:Int),a<=xs.foldl max a/\∀x∈xs,x<=xs.foldl max a
 |[],a=>⟨Int.le_refl _,λx h=>nomatch h⟩
 |y::ys,a=>by
  obtain⟨h1,h2⟩:=mL ys (max a y)
  refine⟨Int.le_trans (Int.le_max_left _ _) h1,λx h=>?_⟩
  rcases List.mem_cons.mp h with rfl|h
  ·exact Int.le_trans (Int.le_max_right _ _) h1
  ·exact h2 x h
theorem kr:∀(xs:List Int) (a:Int),xs.foldl max a=a\/xs.foldl max a∈xs
 |[],a=>.inl rfl
 |y::ys,a=>by
  rcases kr ys (max a y) with h|h
  ·rw[List.foldl_cons,h]
   rcases Int.le_total a y with q|q
   ·rw[Int.max_eq_right q];exact .inr (List.mem_cons_self)
   ·rw[Int.max_eq_left q];exact .inl rfl
  ·exact .inr (List.mem_cons_of_mem _ h)
theorem Dj {d m:Int}{ns:List Int}(h:m∈ns)(g:∀x∈ns,x<=m):qm d ns=m:=by
 cases ns with
 |nil=>cases h
 |cons x xs =>
  obtain⟨h1,h2⟩:=mL xs x
  have a1:m<=qm d (x::xs):=by
   rcases List.mem_cons.mp h with rfl|h
   ·exact h1
   ·exact h2 m h
  have a2:qm d (x::xs)<=m:=by
   rcases kr xs x with q|q
   ·show xs.foldl max x<=m
    rw[q];exact g x List.mem_cons_self
   ·exact g _ (List.mem_cons_of_mem _ q)
  exact Int.le_antisymm a2 a1
theorem oJ (val:Nat->Int):∀k,argBest (λi j=>decide (val i > val j)) k<=k/\∀i,i<=k->val i<=val (argBest (λi j=>decide (val i > val j)) k)
 | 0=>⟨Nat.le_refl _,λi h=>by cases Nat.le_zero.mp h;exact Int.le_refl _⟩
 |k+1=>by
  obtain⟨h1,h2⟩:=oJ val k
  rw[argBest]
  by_cases q:val (k+1) > val (argBest (λi j=>decide (val i > val j)) k)
  ·rw[if_pos (decide_eq_true q)]
   refine⟨Nat.le_refl _,λi h=>?_⟩
   rcases Nat.lt_or_ge i (k+1) with z|z
   ·exact Int.le_trans (h2 i (by omega)) (Int.le_of_lt q)
   ·rw[show i=k+1 by omega];exact Int.le_refl _
  ·rw[if_neg (by simpa using q)]
   refine⟨Nat.le_succ_of_le h1,λi h=>?_⟩
   rcases Nat.lt_or_ge i (k+1) with z|z
   ·exact h2 i (by omega)
   ·rw[show i=k+1 by omega];exact Int.not_lt.mp q
section
variable {X:Cx}
theorem yY (a d:Value):argsOk "max" ⟨[a],[("default",d)]⟩:=by unfold argsOk;kernel_rfl
theorem G5 {pins:List (Addr × Obj)}{s:Shared}{σ:St}{H:Hp}{Q:VK}{p:Addr}{ns:List Int}{d:Int}{t:Tok}(I:Inv X pins σ H s)(hh:X.A.handled=none)(hS:fG X.K H p (ns.map V.int))(q:Q (.int (qm d ns)) H) :
  wpAny (model X.prog X.w) X.A (call (.builtin "max") [.ref p] [("default",.int d t)]) (EP X pins σ Q) X.xe s:=by
 obtain⟨its,rv,pl,_⟩:=I.list hS
 have hl:=pl.isList
 have hi:=u3 rv
 have hlt:p<s.heap.objs.size:=pl.lt
 have hlen:its.length=ns.length:=by have:=rv.length;rw[List.length_map] at this;exact this.symm
 have hname:(toString "max"++toString ".loop":String)="max.loop":=by decide
 have hval:∀(i:Nat) (v:Value),its.toArray[i]?=some v->∃t,v=.int (ns.getD i 0) t:=λi v e=>by
  have e':its[i]?=some v:=by simpa using e
  have hb:i<ns.length:=by have:=(List.getElem?_eq_some_iff.mp e').1;omega
  obtain⟨u,h1,h2⟩:=rv.get (i:=i) (x:=V.int ns[i]) (by rw[List.getElem?_map,List.getElem?_eq_getElem hb];rfl)
  rw[e'] at h1
  cases h1
  obtain⟨t,ht⟩:=(show ∃t,v=Value.int ns[i] t from h2)
  exact⟨t,by rw[ht,List.getD_eq_getElem?_getD,List.getElem?_eq_getElem hb];rfl⟩
 refine wpAny_call (codeAny_call_builtin F.plain_max F.entry_max ?_)
 simp only[checkBuiltinCall,F.kind_max]
 have ha:argsOk "max" ⟨[.ref p],[("default",.int d t)]⟩:=yY _ _
 have body:wpAny (model X.prog X.w) X.A.in1 (Builtin.«max» ⟨[.ref p],[("default",.int d t)]⟩) (λfin s'=>match fin with
   |.done f=>(match (Except.ok f:Result) with|.ok (.ret v)=>EP X pins σ Q v s'|.ok _=>False|.error e=>X.xe e s')
   |.again c'=>c'.quiet=true/\codeAny (model X.prog X.w) X.A c' (λr s'=>match r with|.ok (.ret v)=>EP X pins σ Q v s'|.ok _=>False|.error e=>X.xe e s') s') X.xe s:=by
  show wpAny _ X.A.in1 (Builtin.Builtins.bindParams "max" ["key","default"] 0 ⟨[],[("default",.int d t)]⟩ >>= _) _ _ s
  refine wpAny_bind (wpAny_of_eq (show Builtin.Builtins.bindParams "max" ["key","default"] 0 ⟨[],[("default",.int d t)]⟩=pure [none,some (.int d t)] from rfl) ?_)
  refine wpAny_bind (wpAny_pure ?_)
  refine wpAny_bind (wpAny_pyIter_list hl ?_)
  refine wpAny_bind (wpAny_newObj_type ?_)
  rw[hname]
  have W:=Walks.list (prog:=X.prog) (w:=X.w) (A:=X.A.in1) hh s.heap.objs.size p (Nat.ne_of_lt hlt) its.toArray
  refine wpAny_pure ⟨plainId_quiet F.plain_max_loop _,BS W _ (CmpOf.ints_gt (λi=>ns.getD i 0) hval) ((s.heap.push _).objs.size) (λhm=>?_) (W.frame _ _ _ ⟨⟨_,Heap.get?_push_size _ rfl,rfl,rfl⟩,hl.push _⟩ λb _ o e=>Heap.get?_push_of_some _ e) ⟨_,Heap.get?_push_size _ rfl⟩ λv h' tk hv hk=>?_⟩
  ·have hsz:(s.heap.push { cls:=.type "list_iterator",data:=.fields #[.ref p,.int 0 0] }).objs.size=s.heap.objs.size+1:=Heap.size_push ..
   rcases List.mem_cons.mp hm with z|z
   ·exact absurd (hsz.symm.trans z) (Nat.succ_ne_self _)
   ·exact absurd (hsz.symm.trans (List.mem_singleton.mp z)) (Nat.ne_of_gt (Nat.lt_succ_of_lt hlt))
  ·have hkept:∀b o,s.heap.get? b=some o->h'.get? b=some o:=λb o e=>hk b o (λhm=>by
    exact absurd (List.mem_singleton.mp hm) (Nat.ne_of_lt (Heap.lt_size e))) (λhm=>by
    rw[Heap.size_push] at hm
    exact absurd hm (Nat.ne_of_lt (Nat.lt_succ_of_lt (Heap.lt_size e)))) (Heap.get?_push_of_some _ (Heap.get?_push_of_some _ e))
   have ev:∃t,v=.int (qm d ns) t:=by
    by_cases hn:its.toArray.size=0
    ·rw[if_pos hn] at hv
     have hz:ns=[]:=List.length_eq_zero_iff.mp (by rw[<- hlen];simpa using hn)
     rw[hz]
     exact⟨_,hv⟩
    ·rw[if_neg hn] at hv
     obtain⟨b1,b2⟩:=oJ (λi=>ns.getD i 0) (its.toArray.size - 1)
     have hsz:its.toArray.size=ns.length:=by rw[List.size_toArray,hlen]
     obtain⟨t',e⟩:=hval _ v hv
     refine⟨t',?_⟩
     rw[e,Dj (m:=ns.getD (argBest (λi j=>decide (ns.getD i 0 > ns.getD j 0)) (its.toArray.size - 1)) 0) ?_ λx hx=>?_]
     ·rw[List.getD_eq_getElem?_getD,List.getElem?_eq_getElem (by omega)]
      exact List.getElem_mem _
     ·obtain⟨i,hi',rfl⟩:=List.getElem_of_mem hx
      have z:=b2 i (by omega)
      simp only[List.getD_eq_getElem?_getD,List.getElem?_eq_getElem hi',Option.getD_some] at z
      simpa only[List.getD_eq_getElem?_getD] using z
   obtain⟨t',rfl⟩:=ev
   exact⟨.int (qm d ns),H,I.kept hkept,⟨_,rfl⟩,q⟩
 cases hsig:Manifest.signature? "max" with
 |none=>exact wpAny_pure body
 |some sig =>
  simp only[argsOk,hsig] at ha
  have h2:Bind.checkArgs "max" sig ⟨[.ref p],[("default",.int d t)]⟩=pure ():=ha
  show wpAny _ X.A.in1 (Bind.checkArgs "max" sig ⟨[.ref p],[("default",.int d t)]⟩) _ _ s
  rw[h2];exact wpAny_pure body
end
section
variable {X:Cx}{e c:Expr}{te tc:TE}{p pos kp:Pos}
def Bz (X:Cx)(x y:V)(H:Hp)(Q:VK):Prop:=∃(l:Addr) (ns:List Int) (d:Int),x=.ref l/\y=.int d/\X.A.handled=none/\fG X.K H l (ns.map V.int)/\Q (.int (qm d ns)) H
def one (F:V->Hp->Prop)(vs:List V)(H:Hp):Prop:=match vs with
 |[x]=>F x H
 |_=>False
theorem D9 (hg:Gl X "max")(hm:X.mg "max"=none)(he:PE X e te)(hc:PE X c tc)(h1:starEach [e] X.env=(false,eval e X.env)::starEach [] X.env:=by rfl)(hv:bootBuiltins "max"=some (.builtin "max"):=by decide +kernel) :
  PE X (.Call (.Name "max" p) [e] [⟨some "default",c,kp⟩] pos) (Hy (Bz X) te tc):=by
 intro pins s σ H Q I h
 refine wpAny_Call_Name_kw (nV I hg hm hv ?_)
 refine callWith_kw (env:=X.env) ?_ (by rw[h1];rfl) (by rw[h1];rfl) rfl rfl
 refine br ((dO he iN h1) pos pins s σ H (one λx H1=>tc σ H1 λy H2=>Bz X x y H2 Q) I h) λus s1 ⟨vs,H1,I1,r1,q⟩=>?_
 match vs,r1,q with
 |[x],r1,q =>
  obtain⟨u,rfl,ru⟩:=vals1 r1
  refine br ((EB (nm:=some "default") (kpos:=kp) hc He) pos pins s1 σ H1 (one λy H2=>Bz X x y H2 Q) I1 q) λws s2 ⟨zs,H2,I2,r2,k⟩=>?_
  match zs,r2,k with
  |[y],r2,k =>
   obtain⟨l,ns,d,e1,e2,hh,hS,kk⟩:=k
   subst e1 e2
   obtain⟨w,rfl,rw'⟩:=vals1 r2
   obtain⟨t,rfl⟩:=(show ∃t,w=Value.int d t from rw')
   cases(show u=Value.ref l from ru)
   exact G5 I2 hh hS kk
abbrev TJ:=St->Hp->Str->(Str->Hp->Prop)->Prop
def PJ (X:Cx)(es:List Expr)(t:TJ):Prop:=∀(pins:List (Addr × Obj)) (s:Shared) (σ:St) (H:Hp) (out:Str) (Q:Str->Hp->Prop),Inv X pins σ H s->t σ H out Q ->
 wpAny (model X.prog X.w) X.A (joinParts out (evalEach es X.env)) (EP X pins σ λv H'=>∃z,v=.str z/\Q z H') X.xe s
def LB:TJ:=λ_ H out Q=>out.length<=sizeLine/\Q out H
def JK (te:TE)(t:TJ):TJ:=λσ H out Q=>te σ H λv H1=>∃y,v=.str y/\(out++y).length<=sizeLine/\t σ H1 (out++y) Q
theorem Hd:PJ X [] LB:=λpins s σ H out Q I h=>joinParts_nil ⟨.str out,H,I.tok _,⟨_,rfl⟩,out,rfl,h.2⟩ h.1
theorem EA {es:List Expr}{t:TJ}(he:PE X e te)(hr:PJ X es t):PJ X (e::es) (JK te t):=by
 intro pins s σ H out Q I h
 show wpAny _ _ (joinParts out (eval e X.env::evalEach es X.env)) _ _ s
 refine joinParts_cons (br (he pins s σ H _ I h) λu s1 ⟨v,H1,I1,r,y,ev,hz,q⟩=>?_)
 subst ev
 obtain⟨t',rfl⟩:=(show ∃t',u=Value.str y t' from r)
 exact⟨hz,hr pins s1 σ H1 _ Q I1 q⟩
def El (t:TJ):TE:=λσ H Q=>t σ H Str.empty λz H1=>Q (.str z) H1
theorem zY {e2:Expr}{es:List Expr}{t:TJ}(h:PJ X (e::e2::es) t):PE X (.JoinedStr (e::e2::es) pos) (El t):=λpins s σ H Q I q =>
 JoinedStr_many (br (h pins s σ H _ _ I q) λu s1 ⟨v,H1,I1,r,z,ev,k⟩=>⟨v,H1,I1,r,ev ▸ k⟩)
def MY (te:TE):TE:=λσ H Q=>te σ H λv H1=>(∃y,v=.str y/\y.length<=sizeLine/\Q v H1)\/∃i:Int,v=.int i/\i.natAbs.log2<1920/\Q (.str (toString i)) H1
theorem Ji (h:PE X e te):PE X (.FormattedValue e (-1) none pos) (MY te):=by
 intro pins s σ H Q I q
 refine FormattedValue_plain (br (h pins s σ H _ I q) λu s1 ⟨v,H1,I1,r,k⟩=>?_)
 rcases k with⟨y,rfl,hz,k⟩|⟨i,rfl,hz,k⟩
 ·obtain⟨t',rfl⟩:=(show ∃t',u=Value.str y t' from r)
  exact formatField_str (λt' tk=>⟨.str y,H1,I1.tok _,⟨_,rfl⟩,k⟩) hz
 ·obtain⟨t',rfl⟩:=(show ∃t',u=Value.int i t' from r)
  exact formatField_int_small hz ⟨.str (toString i),H1,I1.tok _,⟨_,rfl⟩,k⟩
end
end L2
namespace DC
open PySem PySem.Spec PyProof.Rows L2
section
variable {X:Cx}{e c:Expr}{te tc:ED}{p pos kp:Pos}{es:List Expr}{t:AD}
theorem boot_sum:bootBuiltins "sum"=some (.builtin "sum"):=by decide +kernel
def CC:cg:=λds Q=>∃(ns:List Int),ds=[.lst (ns.map D.int)]/\Q (.int ns.sum)
theorem Jb:b4 CC:=λds P P' g ⟨bs,e,q⟩=>⟨bs,e,g _ q⟩
theorem qh {K:PySem.W.Frag}{H:Hp}:∀{vs:List V} {bs:List Int},bN K H vs (bs.map D.int)->vs=bs.map V.int
 |[],[],_=>rfl
 |_,_::_,.cons (.int _) r=>by rw[qh r];rfl
theorem Av {K:PySem.W.Frag}{A:Around}(hh:A.handled=none):o_ K (λxs H Q=>∃(p:Addr) (ns:List Int),xs=[.ref p]/\A.handled=none/\fG K H p (ns.map V.int)/\Q (.int ns.sum) H) CC:=by
 intro H vs ds Q dvs ⟨bs,e,q⟩
 subst e
 cases dvs with
 |cons dv r =>
  cases r
  cases dv with
  |lst h1 h2 =>
   rw[qh h2] at h1
   exact⟨_,bs,rfl,hh,h1,q _ H (aJ.refl _) (.int _)⟩
theorem Ip (hh:X.A.handled=none)(hg:Gl X "sum")(hm:X.mg "sum"=none)(ha:nB X (e::es) t)(h1:starEach (e::es) X.env=(false,eval e X.env)::starEach es X.env:=by rfl)(h2:(backTo pos (starEach es X.env)).any (·.1)=false:=by rfl):PD X (.Call (.Name "sum" p) (e::es) [] pos) (vB CC t):=yl (jE AS hg hm boot_sum ha.pa (he:=h1) (hpl:=h2)) ha.mono (Av hh) Jb
def FG:F2:=λd e Q=>∃(ns:List Int) (i:Int),d=.lst (ns.map D.int)/\e=.int i/\Q (.int (qm i ns))
theorem G1:d8 FG:=λd e P P' g ⟨ns,i,e1,e2,q⟩=>⟨ns,i,e1,e2,g _ q⟩
def KO:ED->ED->ED:=o9 FG
theorem GO (hh:X.A.handled=none)(hg:Gl X "max")(hm:X.mg "max"=none)(he:PD X e te)(hc:PD X c tc)(h1:starEach [e] X.env=(false,eval e X.env)::starEach [] X.env:=by rfl):PD X (.Call (.Name "max" p) [e] [⟨some "default",c,kp⟩] pos) (KO te tc):=by
 refine uQ (t:=oE X.K te) (D9 hg hm he.pe hc.pe h1) he.mono hc.mono ?_ G1
 intro H x y d e Q hx hy ⟨ns,i,e1,e2,q⟩
 subst e1 e2
 cases hy
 cases hx with
 |lst g1 g2 =>
  rw[qh g2] at g1
  exact⟨_,ns,i,rfl,rfl,hh,g1,q _ H (aJ.refl _) (.int _)⟩
abbrev JD:=SD->Str->(Str->Prop)->Prop
structure KZ (X:Cx) (es:List Expr) (t:JD):Prop where
 pj:PJ X es (λσ H out Q=>∃ δ,bX X.K H σ δ/\t δ out λz=>∀H',aJ H H'->Q z H')
 mono:∀ δ out (P P':Str->Prop),(∀d,P d->P' d)->t δ out P->t δ out P'
def LC:JD:=λ_ out Q=>out.length<=sizeLine/\Q out
def FN (te:ED)(t:JD):JD:=λδ out Q=>te δ λd=>∃y,d=.str y/\(out++y).length<=sizeLine/\t δ (out++y) Q
theorem pY:KZ X [] LC:=⟨λpins s σ H out Q I ⟨δ,r,h⟩=>Hd pins s σ H out Q I ⟨h.1,h.2 H (aJ.refl _)⟩,λδ out P P' g h=>⟨h.1,g _ h.2⟩⟩
theorem aw {t:JD}(he:PD X e te)(hr:KZ X es t):KZ X (e::es) (FN te t):=by
 refine⟨λpins s σ H out Q I ⟨δ,r,h⟩=>EA he.pe hr.pj pins s σ H out Q I ⟨δ,r,he.mono _ _ _ (λd ⟨y,ed,hz,k⟩ v H1 s1 dv=>?_) h⟩,λδ out P P' g h=>he.mono _ _ _ (λd ⟨y,ed,hz,k⟩=>⟨y,ed,hz,hr.mono _ _ _ _ g k⟩) h⟩
 subst ed
 cases dv
 exact⟨y,rfl,hz,δ,r.same s1,hr.mono _ _ _ _ (λz q H' s'=>q H' (s1.trans s')) k⟩
def Ew (t:JD):ED:=λδ Q=>t δ Str.empty λz=>Q (.str z)
theorem fj {e2:Expr}{t:JD}(h:KZ X (e::e2::es) t):PD X (.JoinedStr (e::e2::es) pos) (Ew t) :=
 ⟨(zY h.pj).imp λσ H Q ⟨δ,r,q⟩=>⟨δ,r,h.mono _ _ _ _ (λz k H' s'=>k _ H' s' (.str z)) q⟩,λδ P P' g q=>h.mono _ _ _ _ (λz k=>g _ k) q⟩
def Lr (te:ED):ED:=λδ Q=>te δ λd=>(∃y,d=.str y/\y.length<=sizeLine/\Q (.str y))\/∃i:Int,d=.int i/\i.natAbs.log2<1920/\Q (.str (toString i))
theorem ka (h:PD X e te):PD X (.FormattedValue e (-1) none pos) (Lr te):=by
 refine⟨(Ji h.pe).imp λσ H Q ⟨δ,r,q⟩=>⟨δ,r,h.mono _ _ _ (λd k v H1 s1 dv=>?_) q⟩,λδ P P' g q=>h.mono _ _ _ (λd k=>?_) q⟩
 ·rcases k with⟨y,rfl,hz,k⟩|⟨i,rfl,hz,k⟩
  ·cases dv
   exact .inl ⟨y,rfl,hz,k _ H1 s1 (.str _)⟩
  ·cases dv
   exact .inr ⟨i,rfl,hz,k _ H1 s1 (.str _)⟩
 ·rcases k with⟨y,rfl,hz,k⟩|⟨i,rfl,hz,k⟩
  ·exact .inl ⟨y,rfl,hz,g _ k⟩
  ·exact .inr ⟨i,rfl,hz,g _ k⟩
end
inductive MD where
 |lst (ds:List D)|ins (C:Addr) (gs:FD)|dK (kvs:List (Key × D))|dT (gs:List (List Int × D))
abbrev Mu:=List (Addr × MD)
def KS (K:PySem.W.Frag)(H:Hp)(L:List Addr)(a:Addr):MD->Prop
 |.lst ds=>∃vs,H a=some (.lst vs)/\bN K (aS H L) vs ds
 |.ins C gs=>∃dx fs,H a=some (.ins C dx fs)/\H dx=some (.own a)/\dx∈L/\iy K (aS H L) fs gs
 |.dK kvs=>∃ws,H a=some (.dK ws)/\ee K (aS H L) ws kvs
 |.dT kvs=>∃ws,H a=some (Ks a ws)/\vt K (aS H L) ws kvs
structure dS (K:PySem.W.Frag) (H:Hp) (μ:Mu) (L:List Addr):Prop where
 at_:∀p∈μ,p.1∈L/\KS K H L p.1 p.2
 AF:(μ.map (·.1)).Nodup
 da:∀b∈L,dW H L b
 GB:∀b∈L,(∃m,(b,m)∈μ)\/∃a,H b=some (.own a)
section
variable {K:PySem.W.Frag}{H H1 H4:Hp}{μ:Mu}{L:List Addr}
theorem bS (s:aJ H H1):aJ (aS H L) (aS H1 L):=λb o h=>by
 obtain⟨h1,h2⟩:=nO h
 rw[bG h1]
 exact s _ _ h2
theorem KS.on {a:Addr}(s:aJ H H1):∀{m:MD},KS K H L a m->KS K H1 L a m
 |.lst _,⟨vs,h,d⟩=>⟨vs,s _ _ h,bN.same (bS s) d⟩
 |.ins _ _,⟨dx,fs,h,h2,h3,d⟩=>⟨dx,fs,s _ _ h,s _ _ h2,h3,iy.same (bS s) d⟩
 |.dK _,⟨ws,h,d⟩=>⟨ws,s _ _ h,ee.same (bS s) d⟩
 |.dT _,⟨ws,h,d⟩=>⟨ws,s _ _ h,vt.same (bS s) d⟩
theorem GY {a:Addr}(s:aJ H H1)(h:dW H L a):dW H1 L a:=by
 cases h with
 |lst xs h=>exact .lst xs (s _ _ h)
 |dK xs h=>exact .dK xs (s _ _ h)
 |ext φ h hc=>exact .ext φ (s _ _ h) hc
 |ins C dx fs h hd=>exact .ins C dx fs (s _ _ h) hd
 |own C b fs h hb hi=>exact .own C b fs (s _ _ h) hb (s _ _ hi)
theorem dS.on (g:dS K H μ L)(s:aJ H H1):dS K H1 μ L :=
 ⟨λp hp=>⟨(g.at_ p hp).1,(g.at_ p hp).2.on s⟩,g.AF,λb hb=>GY s (g.da b hb),λb hb=>(g.GB b hb).imp id fun⟨a,q⟩=>⟨a,s _ _ q⟩⟩
theorem dS.show (g:dS K H μ L)(z:∀b∈L,H4 b=none)(s:aJ (aS H L) H4):dS K (bC H4 H L) μ L:=by
 have e:aS (bC H4 H L) L=H4:=b0 z
 refine⟨λp hp=>⟨(g.at_ p hp).1,?_⟩,g.AF,λb hb=>?_,λb hb=>(g.GB b hb).imp id fun⟨a,q⟩=>⟨a,by rw[aY hb];exact q⟩⟩
 ·obtain⟨hp1,ha⟩:=g.at_ p hp
  obtain⟨a,m⟩:=p
  cases m with
  |lst ds=>obtain⟨vs,h,d⟩:=ha;exact⟨vs,by rw[aY hp1];exact h,by rw[e];exact bN.same s d⟩
  |ins C gs=>obtain⟨dx,fs,h,h2,h3,d⟩:=ha;exact⟨dx,fs,by rw[aY hp1];exact h,by rw[aY h3];exact h2,h3,by rw[e];exact iy.same s d⟩
  |dK kvs=>obtain⟨ws,h,d⟩:=ha;exact⟨ws,by rw[aY hp1];exact h,by rw[e];exact ee.same s d⟩
  |dT kvs=>obtain⟨ws,h,d⟩:=ha;exact⟨ws,by rw[aY hp1];exact h,by rw[e];exact vt.same s d⟩
 ·have w:=g.da b hb
  cases w with
  |lst xs h=>exact .lst xs (by rw[aY hb];exact h)
  |dK xs h=>exact .dK xs (by rw[aY hb];exact h)
  |ext φ h hc=>exact .ext φ (by rw[aY hb];exact h) hc
  |ins C dx fs h hd=>exact .ins C dx fs (by rw[aY hb];exact h) hd
  |own C c fs h hc hi=>exact .own C c fs (by rw[aY hb];exact h) hc (by rw[aY hc];exact hi)
theorem dS.nil:dS K H [] []:=⟨λp hp=>(nomatch hp),List.nodup_nil,λb hb=>(nomatch hb),λb hb=>(nomatch hb)⟩
def MD.d:MD->D
 |.lst ds=>.lst ds
 |.ins C gs=>.obj C gs
 |.dK kvs=>.dK kvs
 |.dT kvs=>.dT kvs
def bj (μ:Mu):D->D
 |.adr a=>((μ.lookup a).map MD.d).getD (.adr a)
 |d=>d
def cW (μ:Mu)(δ:SD):SD:=δ.map (Option.map (bj μ))
theorem mem_of_lookup {a:Addr}{m:MD}:∀{μ:Mu},μ.lookup a=some m->(a,m)∈μ
 |[],h=>by cases h
 | (b,n)::r,h=>by
  rw[List.lookup_cons] at h
  cases q:a == b with
  |true=>rw[q] at h;cases h;rw[beq_iff_eq.mp q];exact List.mem_cons_self
  |false=>rw[q] at h;exact List.mem_cons_of_mem _ (mem_of_lookup h)
theorem dS.view (g:dS K H μ L){v:V}{d:D}(h:Dv K (aS H L) v d):Dv K H v (bj μ d):=by
 cases h with
 |adr a =>
  show Dv K H (.ref a) (((μ.lookup a).map MD.d).getD (.adr a))
  cases q:μ.lookup a with
  |none=>exact .adr a
  |some m =>
   show Dv K H (.ref a) m.d
   obtain⟨_,ha⟩:=g.at_ _ (mem_of_lookup q)
   cases m with
   |lst ds=>obtain⟨vs,h,d⟩:=ha;exact .lst (fG.of h) (bN.same au d)
   |ins C gs=>obtain⟨dx,fs,h,h2,h3,d⟩:=ha;exact .obj (.of h) (iy.same au d)
   |dK kvs=>obtain⟨ws,h,d⟩:=ha;exact .dK (.of h) (ee.same au d)
   |dT kvs=>obtain⟨ws,h,d⟩:=ha;exact .dT (.of h) (vt.same au d)
 |ag=>exact .ag
 |bl b=>exact .bl b
 |int i=>exact .int i
 |str x=>exact .str x
 |lst h1 h2=>exact Dv.same au (.lst h1 h2)
 |tup h1 h2=>exact Dv.same au (.tup h1 h2)
 |obj h1 h2=>exact Dv.same au (.obj h1 h2)
 |dK h1 h2=>exact Dv.same au (.dK h1 h2)
 |dT h1 h2=>exact Dv.same au (.dT h1 h2)
 |exc h1 h2 h3=>exact Dv.same au (.exc h1 h2 h3)
theorem dS.cW (g:dS K H μ L){σ:L2.St}{δ:SD}(r:bX K (aS H L) σ δ):bX K H σ (cW μ δ):=by
 refine⟨by unfold DC.cW;rw[List.length_map];exact r.len,λi d h=>?_⟩
 unfold DC.cW at h
 rw[List.getElem?_map] at h
 cases q:δ[i]? with
 |none=>rw[q] at h;cases h
 |some o =>
  rw[q] at h
  cases o with
  |none=>cases h
  |some d' =>
   cases h
   obtain⟨v,hv,dv⟩:=r.get i d' q
   exact⟨v,hv,g.view dv⟩
end
structure de where
 nx:SD->Mu->Prop
 rt:D->Mu->Prop
 bk:SD->Mu->Prop:=λ_ _=>False
 ct:SD->Mu->Prop:=λ_ _=>False
abbrev fe:=de->SD->Mu->Prop
structure de.Le (E E':de):Prop where
 nx:∀ δ μ,E.nx δ μ->E'.nx δ μ
 rt:∀d μ,E.rt d μ->E'.rt d μ
 bk:∀ δ μ,E.bk δ μ->E'.bk δ μ
 ct:∀ δ μ,E.ct δ μ->E'.ct δ μ
abbrev AL (t:fe):Prop:=∀E E' δ μ,de.Le E E'->t E δ μ->t E' δ μ
def kM (K:PySem.W.Frag)(H:Hp)(L:List Addr)(Q:L2.St->Hp->Prop):SD->Mu->Prop:=λδ μ=>∀ σ H' L',aJ (aS H L) (aS H' L')->bX K (aS H' L') σ δ->dS K H' μ L'->Q σ H'
def kR (K:PySem.W.Frag)(H:Hp)(L:List Addr)(Q:VK):D->Mu->Prop:=λd μ=>∀v H' L',aJ (aS H L) (aS H' L')->dS K H' μ L'->Dv K (aS H' L') v d->Q v H'
def pN (K:PySem.W.Frag)(H:Hp)(L:List Addr)(D:Ends):de:=⟨kM K H L D.nx,kR K H L D.rt,kM K H L D.bk,kM K H L D.ct⟩
theorem o5 {K:PySem.W.Frag}{H H1:Hp}{L L1:List Addr}{D:Ends}(s:aJ (aS H L) (aS H1 L1)):de.Le (pN K H L D) (pN K H1 L1 D) :=
 ⟨λ_ _ h σ H' L' s' r g=>h σ H' L' (s.trans s') r g,λ_ _ h v H' L' s' g d=>h v H' L' (s.trans s') g d,λ_ _ h σ H' L' s' r g=>h σ H' L' (s.trans s') r g,λ_ _ h σ H' L' s' r g=>h σ H' L' (s.trans s') r g⟩
def oM (K:PySem.W.Frag)(t:fe):TS:=λD σ H=>∃ δ μ L,bX K (aS H L) σ δ/\dS K H μ L/\t (pN K H L D) δ μ
structure rj (X:Cx) (st:Stmt) (t:fe):Prop where
 ps:PS X st (oM X.K t)
 mono:AL t
structure yW (X:Cx) (st:List Stmt) (t:fe):Prop where
 ps:m8 X st (oM X.K t)
 mono:AL t
section
variable {X:Cx}{st:Stmt}{rest body els:List Stmt}{t u:fe}{e c:Expr}{te:ED}{uc:TD}{pos:Pos}
def BN:fe:=λE δ μ=>E.nx δ μ
def jA (t u:fe):fe:=λE δ μ=>t { E with nx:=u E } δ μ
theorem p9:yW X [] BN:=⟨m8.imp tU λD σ H ⟨δ,μ,L,r,g,h⟩=>h σ H L (aJ.refl _) r g,λE E' δ μ l h=>l.nx _ _ h⟩
theorem ai (h1:rj X st t)(h2:yW X rest u):yW X (st::rest) (jA t u) :=
 ⟨m8.imp (qL h1.ps h2.ps) λD σ H ⟨δ,μ,L,r,g,h⟩=>⟨δ,μ,L,r,g,h1.mono { pN X.K H L D with nx:=u (pN X.K H L D)} _ _ _ ⟨λδ' μ' q σ' H' L' s' r' g'=>⟨δ',μ',L',r',g',h2.mono _ _ _ _ (o5 s') q⟩,λ_ _ q=>q,λ_ _ q=>q,λ_ _ q=>q⟩ h⟩,
  λE E' δ μ l h=>h1.mono { E with nx:=u E } _ _ _ ⟨λδ' μ' q=>h2.mono _ _ _ _ l q,l.rt,l.bk,l.ct⟩ h⟩
theorem cJ (h1:rj X st t):yW X [st] t:=⟨yD h1.ps,h1.mono⟩
def x4 (t:kG):fe:=λE δ μ=>t { nx:=λδ'=>E.nx δ' μ,rt:=λd=>E.rt d μ,bk:=λδ'=>E.bk δ' μ,ct:=λδ'=>E.ct δ' μ } δ
theorem DW {t:kG}(m:xU t){D:Ends}{σ:L2.St}{H:Hp}(h:oM X.K (x4 t) D σ H):L6 (oS X.K t) D σ H:=by
 obtain⟨δ,μ,L,r,g,h⟩:=h
 refine⟨L,g.da,δ,r,?_⟩
 refine m { nx:=λδ'=>(pN X.K H L D).nx δ' μ,rt:=λd=>(pN X.K H L D).rt d μ,bk:=λδ'=>(pN X.K H L D).bk δ' μ,ct:=λδ'=>(pN X.K H L D).ct δ' μ } _ _ ⟨λδ' q σ' H' s' r' z=>?_,λd q v H' s' dv z=>?_,λδ' q σ' H' s' r' z=>?_,λδ' q σ' H' s' r' z=>?_⟩ h
 ·have e:aS (bC H' H L) L=H':=b0 z
  exact q σ' _ L (by rw[e];exact s') (by rw[e];exact r') (g.show z s')
 ·have e:aS (bC H' H L) L=H':=b0 z
  exact q v _ L (by rw[e];exact s') (g.show z s') (by rw[e];exact dv)
 ·have e:aS (bC H' H L) L=H':=b0 z
  exact q σ' _ L (by rw[e];exact s') (by rw[e];exact r') (g.show z s')
 ·have e:aS (bC H' H L) L=H':=b0 z
  exact q σ' _ L (by rw[e];exact s') (by rw[e];exact r') (g.show z s')
theorem G0 {t:kG}(m:xU t):AL (x4 t):=λE E' δ μ l h=>m { nx:=λδ'=>E.nx δ' μ,rt:=λd=>E.rt d μ,bk:=λδ'=>E.bk δ' μ,ct:=λδ'=>E.ct δ' μ } _ _ ⟨λ_ q=>l.nx _ _ q,λ_ q=>l.rt _ _ q,λ_ q=>l.bk _ _ q,λ_ q=>l.ct _ _ q⟩ h
theorem cp {t:kG}(h:AB X st t):rj X st (x4 t):=⟨PS.imp (wx h.ps) λD σ H q=>DW h.mono q,G0 h.mono⟩
def Gu (uc:TD)(t u:fe):fe:=λE δ μ=>uc (cW μ δ) λb=>if b=true then t E δ μ else u E δ μ
theorem p8 (hc:m9 X c uc)(ha:yW X body t)(hb:yW X els u):rj X (.If c body els pos) (Gu uc t u):=by
 refine⟨PS.imp (Fe hc.pt ha.ps hb.ps) λD σ H ⟨δ,μ,L,r,g,h⟩=>⟨_,g.cW r,hc.mono _ _ _ (λk q H1 s1=>?_) h⟩,λE E' δ μ l h=>hc.mono _ _ _ (λk q=>?_) h⟩
 ·have s2:aJ (aS H L) (aS H1 L):=bS s1
  cases k with
  |true =>
   show if true=true then _ else _
   rw[if_pos rfl] at q ⊢;exact⟨δ,μ,L,r.same s2,g.on s1,ha.mono _ _ _ _ (o5 s2) q⟩
  |false =>
   show if false=true then _ else _
   rw[if_neg Bool.false_ne_true] at q ⊢;exact⟨δ,μ,L,r.same s2,g.on s1,hb.mono _ _ _ _ (o5 s2) q⟩
 ·cases k with
  |true=>rw[if_pos rfl] at q ⊢;exact ha.mono _ _ _ _ l q
  |false=>rw[if_neg Bool.false_ne_true] at q ⊢;exact hb.mono _ _ _ _ l q
theorem Dv.DF {K:PySem.W.Frag}{H H':Hp}{v:V}{d:D}(h:Dv K H v d)(f:ft d=true):Dv K H' v d:=by
 cases h with
 |ag=>exact .ag
 |bl b=>exact .bl b
 |int i=>exact .int i
 |str x=>exact .str x
 |_=>cases f
def JO (te:ED):fe:=λE δ μ=>te (cW μ δ) λd=>E.rt d []
theorem p_ (he:PD X e te):rj X (.Return (some e) pos) (JO te) :=
 ⟨PS.imp (w6 he.pe) λD σ H ⟨δ,μ,L,r,g,h⟩=>⟨_,g.cW r,he.mono _ _ _ (λd q v H1 s1 dv=>q v H1 [] (by rw[bu];exact au.trans s1) dS.nil (by rw[bu];exact dv)) h⟩,
  λE E' δ μ l h=>he.mono _ _ _ (λd q=>l.rt _ _ q) h⟩
end
def d7 (a:Addr)(m:MD)(μ:Mu):Mu:=μ.map λp=>if p.1=a then(a,m) else p
theorem rP (a:Addr)(m:MD)(μ:Mu):(d7 a m μ).map (·.1)=μ.map (·.1):=by
 unfold d7
 rw[List.map_map]
 refine List.map_congr_left λp _=>?_
 show(if p.1=a then(a,m) else p).1=p.1
 split
 ·rename_i h;exact h.symm
 ·rfl
section
variable {K:PySem.W.Frag}{H:Hp}{μ:Mu}{L:List Addr}{a:Addr}{vs ys:List V}{ds:List D}
theorem eX {o:HO}(h:a∈L):aS (upd H a o) L=aS H L:=by
 funext b
 by_cases hb:b∈L
 ·rw[cI hb,cI hb]
 ·rw[bG hb,bG hb,aN (λz=>hb (by rw[z];exact h))]
theorem dS.putL (g:dS K H μ L)(ha:a∈L)(hv:H a=some (.lst vs))(d:bN K (aS H L) ys ds):dS K (upd H a (.lst ys)) (d7 a (.lst ds) μ) L:=by
 have e:aS (upd H a (.lst ys)) L=aS H L:=eX ha
 refine⟨λp hp=>?_,by rw[rP];exact g.AF,λb hb=>?_,λb hb=>?_⟩
 ·obtain⟨q,hq,rfl⟩:=List.mem_map.mp hp
  by_cases hqa:q.1=a
  ·rw[if_pos hqa]
   exact⟨ha,ys,aM,by rw[e];exact d⟩
  ·rw[if_neg hqa]
   obtain⟨h1,h2⟩:=g.at_ q hq
   refine⟨h1,?_⟩
   obtain⟨b,m⟩:=q
   cases m with
   |lst ds=>obtain⟨ws,h,d⟩:=h2;exact⟨ws,by rw[aN hqa];exact h,by rw[e];exact d⟩
   |ins C gs=>obtain⟨dx,fs,h,h2,h3,d⟩:=h2;exact⟨dx,fs,by rw[aN hqa];exact h,by rw[aN (λz=>by rw[z,hv] at h2;cases h2)];exact h2,h3,by rw[e];exact d⟩
   |dK kvs=>obtain⟨ws,h,d⟩:=h2;exact⟨ws,by rw[aN hqa];exact h,by rw[e];exact d⟩
   |dT kvs=>obtain⟨ws,h,d⟩:=h2;exact⟨ws,by rw[aN hqa];exact h,by rw[e];exact d⟩
 ·by_cases hba:b=a
  ·rw[hba];exact .lst ys aM
  ·have w:=g.da b hb
   cases w with
   |lst xs h=>exact .lst xs (by rw[aN hba];exact h)
   |dK xs h=>exact .dK xs (by rw[aN hba];exact h)
   |ext φ h hc=>exact .ext φ (by rw[aN hba];exact h) hc
   |ins C dx fs h hd=>exact .ins C dx fs (by rw[aN hba];exact h) hd
   |own C c fs h hc hi=>exact .own C c fs (by rw[aN hba];exact h) hc (by rw[aN (λz=>by rw[z,hv] at hi;cases hi)];exact hi)
 ·rcases g.GB b hb with⟨m,h⟩|⟨c,h⟩
  ·by_cases hba:b=a
   ·exact .inl ⟨.lst ds,List.mem_map.mpr ⟨_,h,by rw[if_pos hba,hba]⟩⟩
   ·exact .inl ⟨m,List.mem_map.mpr ⟨_,h,if_neg hba⟩⟩
  ·exact .inr ⟨c,by rw[aN (λz=>by rw[z,hv] at h;cases h)];exact h⟩
theorem dS.zS (g:dS K H μ L)(hn:H a=none)(d:bN K (aS H L) ys ds):dS K (upd H a (.lst ys)) ((a,.lst ds)::μ) (a::L)/\aS (upd H a (.lst ys)) (a::L)=aS H L:=by
 have haL:a∉L:=λh=>by obtain⟨o,q⟩:=(g.da a h).there;rw[hn] at q;cases q
 have e:aS (upd H a (.lst ys)) (a::L)=aS H L:=by
  funext b
  by_cases hb:b=a
  ·rw[hb,cI List.mem_cons_self,gy hn]
  ·by_cases hb2:b∈L
   ·rw[cI (List.mem_cons_of_mem _ hb2),cI hb2]
   ·rw[bG (λz=>(List.mem_cons.mp z).elim hb hb2),bG hb2,aN hb]
 have ne:∀{b:Addr} {o:HO},H b=some o->b≠a:=λh=>ah h hn
 refine⟨⟨λp hp=>?_,?_,λb hb=>?_,λb hb=>?_⟩,e⟩
 ·rcases List.mem_cons.mp hp with rfl|hp
  ·exact⟨List.mem_cons_self,ys,aM,by rw[e];exact d⟩
  ·obtain⟨h1,h2⟩:=g.at_ p hp
   refine⟨List.mem_cons_of_mem _ h1,?_⟩
   obtain⟨b,m⟩:=p
   cases m with
   |lst ds=>obtain⟨ws,h,d⟩:=h2;exact⟨ws,by rw[aN (ne h)];exact h,by rw[e];exact d⟩
   |ins C gs=>obtain⟨dx,fs,h,h2,h3,d⟩:=h2;exact⟨dx,fs,by rw[aN (ne h)];exact h,by rw[aN (ne h2)];exact h2,List.mem_cons_of_mem _ h3,by rw[e];exact d⟩
   |dK kvs=>obtain⟨ws,h,d⟩:=h2;exact⟨ws,by rw[aN (ne h)];exact h,by rw[e];exact d⟩
   |dT kvs=>obtain⟨ws,h,d⟩:=h2;exact⟨ws,by rw[aN (ne h)];exact h,by rw[e];exact d⟩
 ·rw[List.map_cons,List.nodup_cons]
  refine⟨λh=>?_,g.AF⟩
  obtain⟨p,hp,hpa⟩:=List.mem_map.mp h
  have:p.1=a:=hpa
  exact haL (this ▸ (g.at_ p hp).1)
 ·rcases List.mem_cons.mp hb with rfl|hb
  ·exact .lst ys aM
  ·have w:=g.da b hb
   cases w with
   |lst xs h=>exact .lst xs (by rw[aN (ne h)];exact h)
   |dK xs h=>exact .dK xs (by rw[aN (ne h)];exact h)
   |ext φ h hc=>exact .ext φ (by rw[aN (ne h)];exact h) hc
   |ins C dx fs h hd=>exact .ins C dx fs (by rw[aN (ne h)];exact h) (List.mem_cons_of_mem _ hd)
   |own C c fs h hc hi=>exact .own C c fs (by rw[aN (ne h)];exact h) (List.mem_cons_of_mem _ hc) (by rw[aN (ne hi)];exact hi)
 ·rcases List.mem_cons.mp hb with rfl|hb
  ·exact .inl ⟨_,List.mem_cons_self⟩
  ·rcases g.GB b hb with⟨m,h⟩|⟨c,h⟩
   ·exact .inl ⟨m,List.mem_cons_of_mem _ h⟩
   ·exact .inr ⟨c,by rw[aN (ne h)];exact h⟩
end
section
variable {X:Cx}{e:Expr}{te:ED}{es:List Expr}{t:AD}{i:Nat}{x:Str}{p pos pos' apos cpos:Pos}
def x3 (i:Nat)(te:ED):fe:=λE δ μ=>∃a ds,δ[i]?=some (some (.adr a))/\μ.lookup a=some (.lst ds)/\ds.length<sizeLine/\te δ λd=>E.nx δ (d7 a (.lst (ds++[d])) μ)
theorem zM (hi:X.N[i]?=some x)(hv:Cz X.env.scope x)(he:PD X e te)(hd:(x == ("__debug__":Str))=false:=by decide)(hcd:(x == ("__classdict__":Str))=false:=by decide)
  (hst:starEach [e] X.env=(false,eval e X.env)::starEach [] X.env:=by rfl)(hline:(apos.endLine == cpos.line)=true:=by rfl)
  (hfew:((backTo cpos (starEach [e] X.env)).all (λx=>!x.1)&&(backToKw cpos (keywordEach [] X.env)).all (λx=>x.1.isSome)&&decide ([e].length+([]:List Keyword).length+(if([]:List Keyword).isEmpty then 0 else 1)<30))=true:=by rfl)
  (hs:swapsWith (.Call (.Attribute (.Name x p) "append" apos) [e] [] cpos) none pos.line X.env=pure false:=by rfl)
  (hb:attributeBase (.Name x p) "append" X.env (eval (.Name x p) X.env)=eval (.Name x p) X.env:=by rfl) :
  rj X (.Expr (.Call (.Attribute (.Name x p) "append" apos) [e] [] cpos) pos) (x3 i te):=by
 refine⟨PS.imp (kQ (oV PySem.F.plainAttrs_list PySem.F.slot_list_append PySem.F.type_list_append ng (qK hi hv hd hcd) (dO (lu he.pe) iN hst) hb hfew hline hst) hs) λD σ H ⟨δ,μ,L,r,g,q⟩=>?_,
  λE E' δ μ l ⟨a,ds,k1,k2,k3,q⟩=>⟨a,ds,k1,k2,k3,he.mono _ _ _ (λd k=>l.nx _ _ k) q⟩⟩
 obtain⟨a,ds,k1,k2,k3,q⟩:=q
 obtain⟨v,hv1,dv⟩:=r.get i _ k1
 cases dv
 have hm:=mem_of_lookup k2
 obtain⟨haL,vs,hH,dvs⟩:=g.at_ _ hm
 refine⟨_,hv1,.inl ⟨rfl,_,fG.of hH⟩,L,g.da,δ,r,he.mono _ _ _ (λd k w H1 s1 dw z=>?_) q⟩
 have e1:aS (bC H1 H L) L=H1:=b0 z
 have g1:dS X.K (bC H1 H L) μ L:=g.show z s1
 have hH1:bC H1 H L a=some (.lst vs):=by rw[aY haL];exact hH
 refine⟨a,vs,w,rfl,rfl,hH1,by rw[dvs.length];exact k3,?_⟩
 have g2:=g1.putL haL hH1 (ys:=vs++[w]) (ds:=ds++[d]) (by rw[e1];exact(bN.same s1 dvs).append (.cons dw .nil))
 have e2:aS (upd (bC H1 H L) a (.lst (vs++[w]))) L=H1:=by rw[eX haL,e1]
 exact k σ _ L (by rw[e2];exact s1) (by rw[e2];exact r.same s1) g2
end
end DC
namespace L2
open PySem PySem.Spec PyProof.Rows
section
variable {X:Cx}{tg:Expr}{g:TG}
def MR (g:TG):TG:=λv σ H Q=>∃L,(∀a∈L,dW H L a)/\g v σ (aS H L) λσ' H4=>(∀b∈L,H4 b=none)->Q σ' (bC H4 H L)
theorem HY (h:PG X tg g):PG X tg (MR g):=by
 intro pins s σ H v u Q I r ⟨L,hL,q⟩
 refine nK I hL λpl I' _ back=>?_
 refine br (h (pins++pl) s σ _ v u _ I' r q) λ_ s1 ⟨σ',H4,I4,k⟩=>?_
 obtain⟨z,J⟩:=back _ _ _ I4
 exact⟨σ',_,J,k z⟩
end
end L2
namespace DC
open PySem PySem.Spec PyProof.Rows L2
section
variable {X:Cx}{tg iter:Expr}{body:List Stmt}{ti:AD}{g:E7}{tb:fe}{pos:Pos}
def Gs (ti:AD)(g:E7)(tb:fe):fe:=λE δ μ=>ti δ λds=>∃inv:Nat->SD->Mu->Prop,inv 0 δ μ /\
 (∀i d δ' μ',ds[i]?=some d->inv i δ' μ'->g d δ' λδ2=>tb { E with nx:=inv (i+1),ct:=inv (i+1),bk:=E.nx } δ2 μ')/\∀ δ' μ',inv ds.length δ' μ'->E.nx δ' μ'
theorem tG (hp:PassesOwn (model X.prog X.w) X.A X.env X.xe)(hc:X.calm=true)(hi:PId X tg iter ti)(hg:Kv X tg g)(hb:yW X body tb)(hs:∀x,foldedSetIterable iter X.env x=pure x:=by intro _;rfl) :
  rj X (.For tg iter body [] pos) (Gs ti g tb):=by
 refine⟨PS.imp (Br hp hc (Hb hi.pi) (HY hg.pg) hb.ps hs) λD σ H ⟨δ,μ,L,r,st,h⟩=>⟨L,st.da,δ,r,hi.mono _ _ _ (λds ⟨inv,i0,step,fin⟩ J H1 s1 it z=>?_) h⟩,λE E' δ μ l h=>hi.mono _ _ _ (λds ⟨inv,i0,step,fin⟩=>⟨inv,i0,λi d δ' μ' hd hin=>hg.mono _ _ _ _ (λδ2 q=>hb.mono { E with nx:=inv (i+1),ct:=inv (i+1),bk:=E.nx } _ _ _ ⟨λ_ _ q=>q,l.rt,l.nx,λ_ _ q=>q⟩ q) (step i d δ' μ' hd hin),λδ' μ' q=>l.nx _ _ (fin δ' μ' q)⟩) h⟩
 have e1:aS (bC H1 H L) L=H1:=b0 z
 refine⟨λi m σ' H'=>m=ds.length - i/\i<=ds.length/\∃ δ' μ' L',aJ H1 (aS H' L')/\bX X.K (aS H' L') σ' δ'/\dS X.K H' μ' L'/\inv i δ' μ',⟨ds.length,rfl,Nat.zero_le _,δ,μ,L,by rw[e1];exact aJ.refl _,by rw[e1];exact r.same s1,st.show z s1,i0⟩,?_⟩
 rintro i m σ' H' ⟨rfl,hle,δ',μ',L',s',r',st',hin⟩
 have sf:aJ H1 H':=s'.trans au
 by_cases hlt:i<ds.length
 ·refine .inr ⟨it.go i H' sf hlt,λσ2 H2=>∃ δ2 μ2 L2,aJ H1 (aS H2 L2)/\bX X.K (aS H2 L2) σ2 δ2/\dS X.K H2 μ2 L2/\inv (i+1) δ2 μ2,λσ2 H2 ⟨δ2,μ2,L2,q⟩=>⟨ds.length - (i+1),by omega,rfl,hlt,δ2,μ2,L2,q⟩,λx H'' y=>?_⟩
  obtain⟨s2,d,hd,Hx,_,dvx,hx,sx⟩:=it.AH i H' x H'' sf hlt y
  have sA:aJ (aS H' L') (aS H'' L'):=bS s2
  have sX:aJ Hx (aS H'' L'):=λb o hb=>by
   have nb:b∉L':=by
    intro hbL
    rcases hx b o hb with q|q
    ·have:=s' _ _ q
     rw[cI hbL] at this
     cases this
    ·obtain⟨o',q'⟩:=(st'.da b hbL).there
     rw[q] at q'
     cases q'
   rw[bG nb]
   exact sx _ _ hb
  have st2:dS X.K H'' μ' L':=st'.on s2
  refine⟨L',st2.da,d,δ',dvx.same sX,r'.same sA,hg.mono _ _ _ _ (λδ2 q σ3 H3 s3 r3 z3=>?_) (step i d δ' μ' hd hin)⟩
  have e3:aS (bC H3 H'' L') L'=H3:=b0 z3
  have st3:dS X.K (bC H3 H'' L') μ' L':=st2.show z3 s3
  have sB:aJ H1 H3:=s'.trans (sA.trans s3)
  refine⟨δ2,μ',L',by rw[e3];exact r3,st3,hb.mono { pN X.K H L D with nx:=inv (i+1),ct:=inv (i+1),bk:=(pN X.K H L D).nx } _ _ _ ?_ q⟩
  have sC:aJ (aS H L) (aS (bC H3 H'' L') L'):=by rw[e3];exact s1.trans sB
  have l:=o5 (K:=X.K) (D:=D) sC
  refine⟨λδ4 μ4 q4 σ4 H4 L4 s4 r4 st4=>⟨δ4,μ4,L4,?_,r4,st4,q4⟩,λ_ _ q4=>l.rt _ _ q4,λ_ _ q4=>l.nx _ _ q4,λδ4 μ4 q4 σ4 H4 L4 s4 r4 st4=>⟨δ4,μ4,L4,?_,r4,st4,q4⟩⟩
  ·rw[e3] at s4;exact sB.trans s4
  ·rw[e3] at s4;exact sB.trans s4
 ·have e:i=ds.length:=by omega
  subst e
  exact .inl ⟨it.stop H' sf,fin δ' μ' hin σ' H' L' (s1.trans s') r' st'⟩
end
section
variable {P:Program}{w:World}{K:PySem.W.Frag}{mg:Str->Option Value}{base:Heap}
theorem L9 {x qual:Str}{st:Stmt}{f:Addr}{fd:FuncData}{N ps:List Str}{k:Nat}{sd:cg}{t:fe}(F:vx K x qual st f fd)(S:aG N ps (aB st))(len:∀ds Q,sd ds Q->ds.length=ps.length)
  (hb:∀(cdv:Value) (A:Around) (outer:List Env) (s:Shared) (H:Hp) (E:XK),cA k (A.deeper (envOfC qual (aB st) s.heap.objs.size f cdv))->yW (Bx P w K mg base N qual st f cdv A outer s H E) (bF st) t)
  (hr:∀ds Q,sd ds Q->t { nx:=λ_ _=>Q .ag,rt:=λd μ=>Q (bj μ d)} (dE N ds) []):dB P w K mg base oy (k+1) f fd ps (qt K sd):=by
 refine F.ok S (λvs H Q E ⟨ds,dvs,h⟩=>by rw[dvs.length];exact len ds _ h) (λcdv A outer s H vs Q E hroom ⟨ds,dvs,h⟩=>?_)
 have B:=hb cdv A outer s H E hroom
 refine⟨_,B.ps,dE N ds,[],[],by rw[bu];exact kY dvs,dS.nil,?_⟩
 refine B.mono { nx:=λ_ _=>kD K H Q .ag,rt:=λd μ=>kD K H Q (bj μ d)} _ _ _ ⟨λδ μ q σ H' L' s' r g=>?_,λd μ q v H' L' s' g dv=>?_,λ_ _ q=>q.elim,λ_ _ q=>q.elim⟩ (hr ds _ h)
 ·rw[bu] at s'
  exact q _ H' (s'.trans au) .ag
 ·rw[bu] at s'
  exact q _ H' (s'.trans au) (g.view dv)
end
structure bE (P:Program) (w:World) (K:PySem.W.Frag) (mg:Str->Option Value) (base:Heap) (k:Nat) (x:Str) (ps:List Str) (sd:cg):Prop where
 ex:∃f fd,dB P w K mg base oy k f fd ps (qt K sd)/\mg x=some (.ref f)/\keepIn K (.ref f)=true/\Binds K fd ps []
 ms:b4 sd
section
variable {P:Program}{w:World}{K:PySem.W.Frag}{mg:Str->Option Value}{base:Heap}
theorem bE.up {j k:Nat}{x:Str}{ps:List Str}{sd:cg}(c:bE P w K mg base j x ps sd)(h:j<=k):bE P w K mg base k x ps sd :=
 ⟨let ⟨f,fd,F,r⟩:=c.ex;⟨f,fd,F.mono h,r⟩,c.ms⟩
structure Df (K:PySem.W.Frag) (mg:Str->Option Value) (x:Str) (st:Stmt) (ps:List Str):Prop where
 ex:∃f fd,vx K x x st f fd/\mg x=some (.ref f)/\Binds K fd ps []
theorem Df.dC {k:Nat}{x:Str}{st:Stmt}{ps N:List Str}{sd:cg}{t:kG}(d:Df K mg x st ps)(S:aG N ps (aB st))(ms:b4 sd)(len:∀ds Q,sd ds Q->ds.length=ps.length)
  (hb:∀(f:Addr) (cdv:Value) (A:Around) (outer:List Env) (s:Shared) (H:Hp) (E:XK),cA k (A.deeper (envOfC x (aB st) s.heap.objs.size f cdv))->om (Bx P w K mg base N x st f cdv A outer s H E) (bF st) t)
  (hr:∀ds Q,sd ds Q->t { nx:=λ_=>Q .ag,rt:=Q } (dE N ds)):bE P w K mg base (k+1) x ps sd:=by
 obtain⟨f,fd,F,m,b⟩:=d.ex
 exact⟨⟨f,fd,L8 F S len (hb f) hr,m,F.kp,b⟩,ms⟩
theorem Df.F_ {k:Nat}{x:Str}{st:Stmt}{ps N:List Str}{sd:cg}{t:fe}(d:Df K mg x st ps)(S:aG N ps (aB st))(ms:b4 sd)(len:∀ds Q,sd ds Q->ds.length=ps.length)
  (hb:∀(f:Addr) (cdv:Value) (A:Around) (outer:List Env) (s:Shared) (H:Hp) (E:XK),cA k (A.deeper (envOfC x (aB st) s.heap.objs.size f cdv))->yW (Bx P w K mg base N x st f cdv A outer s H E) (bF st) t)
  (hr:∀ds Q,sd ds Q->t { nx:=λ_ _=>Q .ag,rt:=λd μ=>Q (bj μ d)} (dE N ds) []):bE P w K mg base (k+1) x ps sd:=by
 obtain⟨f,fd,F,m,b⟩:=d.ex
 exact⟨⟨f,fd,L9 F S len (hb f) hr,m,F.kp,b⟩,ms⟩
end
section
variable {X:Cx}{e:Expr}{es:List Expr}{t:AD}{j k:Nat}{x:Str}{ps:List Str}{sd:cg}{p pos:Pos}
theorem aK (c:bE X.prog X.w X.K X.mg X.base j x ps sd)(hr:cA k X.A)(hj:j<=k)(hg:Gl X x)(ha:nB X (e::es) t)(hdb:(x == ("__debug__":Str))=false:=by decide)
  (h1:starEach (e::es) X.env=(false,eval e X.env)::starEach es X.env:=by rfl)(h2:(backTo pos (starEach es X.env)).any (·.1)=false:=by rfl):PD X (.Call (.Name x p) (e::es) [] pos) (bD sd t):=by
 obtain⟨f,fd,F,m,kp,b⟩:=c.ex
 exact GC F c.ms (hr.mono hj) hg m kp b ha hdb (tO F (hr.mono hj) hg m kp b .nil vI ha.pa hdb h1 h2)
end
section
variable {X:Cx}{scope:Scope}{cl:List (Str × Addr)}{x:Str}{caps:List Nat}{cn:List Str}{tg iter elt:Expr}{ifs:List Expr}{ti:AD}{tt:TD}{te:ED}{pos:Pos}
theorem uS (S:bQ X scope cl [x] caps cn)(hc:X.calm=true)(hi:PId X tg iter ti)(hg:∀C fp s₂ H₂,PG (ao X scope cl C ([x]++cn) fp s₂ H₂) tg (fK 0))(ht:∀C fp s₂ H₂,ql (ao X scope cl C ([x]++cn) fp s₂ H₂) ifs tt)
  (he:∀C fp s₂ H₂,PD (ao X scope cl C ([x]++cn) fp s₂ H₂) elt te)(hs:∀x,foldedSetIterable iter X.env x=pure x:=by intro _;rfl):PD X (.ListComp elt [⟨tg,iter,ifs,0⟩] scope pos) (kC caps ti tt te) :=
 GF S hc hi hg ht he (ht 0 [] X.s₀ X.H₀).mono (he 0 [] X.s₀ X.H₀).mono hs
theorem EV {i:Nat}{y:Str}{py spos:Pos}(hN:X.N.Nodup)(hi':X.N[i]?=some y)(hy:Loc X.env.scope y)(S:bQ X scope cl [x] caps cn)(hc:X.calm=true)(hi:PId X tg iter ti)
  (hg:∀C fp s₂ H₂,PG (ao X scope cl C ([x]++cn) fp s₂ H₂) tg (fK 0))(ht:∀C fp s₂ H₂,ql (ao X scope cl C ([x]++cn) fp s₂ H₂) ifs tt)(he:∀C fp s₂ H₂,PD (ao X scope cl C ([x]++cn) fp s₂ H₂) elt te)
  (hsw:swapsWith (.ListComp elt [⟨tg,iter,ifs,0⟩] scope pos) (some (.Name y py)) spos.line X.env=pure true:=by rfl)(hf:X.fn y=true\/X.env.scope.names.lookup y=some .local:=by first|exact .inl rfl|exact .inr rfl|assumption)
  (hs:∀x,foldedSetIterable iter X.env x=pure x:=by intro _;rfl):AB X (.Assign [.Name y py] (.ListComp elt [⟨tg,iter,ifs,0⟩] scope pos) spos) (jG i (kC caps ti tt te)) :=
 Hq hN hi' hy S hc hi hg ht he (ht 0 [] X.s₀ X.H₀).mono (he 0 [] X.s₀ X.H₀).mono hsw hf hs
theorem isSome_of {cl:List (Str × Addr)}{y:Str}:y∈cl.map (·.1)->(cl.lookup y).isSome=true:=by
 induction cl with
 |nil=>intro h;cases h
 |cons p r ih =>
  intro h
  rw[List.lookup_cons]
  cases q:y == p.1 with
  |true=>rfl
  |false =>
   rw[List.map_cons,List.mem_cons] at h
   rcases h with h|h
   ·rw[h] at q;simp at q
   ·exact ih h
theorem mM {cl:List (Str × Addr)}(ks:List Str)(hk:cl.map (·.1)=ks)(h:∀y∈scope.names,y.2=.free->y.1∈ks):∀y∈scope.names,y.2=.free->(cl.lookup y.1).isSome=true:=λy hy e=>isSome_of (by rw[hk];exact h y hy e)
theorem gv {f:Str × Addr->Prop}:∀p∈([]:List (Str × Addr)),f p:=λp h=>nomatch h
theorem bz {f:Str × Addr->Prop}{a:Str × Addr}{r:List (Str × Addr)}(h:f a)(hr:∀p∈r,f p):∀p∈a::r,f p:=List.forall_mem_cons.mpr ⟨h,hr⟩
end
section
variable {X:Cx}{e:Expr}{te:ED}{p p2 pos:Pos}
theorem g6 (hg:Gl X "isinstance")(hm:X.mg "isinstance"=none)(hg2:Gl X "bool")(hm2:X.mg "bool"=none)(he:PD X e te)(hs:starEach [e,.Name "bool" p2] X.env=(false,eval e X.env)::starEach [.Name "bool" p2] X.env:=by rfl):PD X (.Call (.Name "isinstance" p) [e,.Name "bool" p2] [] pos) (lQ "bool" te):=(nH he hg hm hg2 hm2 v7 (by decide) (by decide) hs).kb he.mono (by decide)
theorem DK (hg:Gl X "isinstance")(hm:X.mg "isinstance"=none)(hg2:Gl X "int")(hm2:X.mg "int"=none)(he:PD X e te)(hs:starEach [e,.Name "int" p2] X.env=(false,eval e X.env)::starEach [.Name "int" p2] X.env:=by rfl):PD X (.Call (.Name "isinstance" p) [e,.Name "int" p2] [] pos) (lQ "int" te):=(nH he hg hm hg2 hm2 nD (by decide) (by decide) hs).kb he.mono (by decide)
theorem xv (hg:Gl X "isinstance")(hm:X.mg "isinstance"=none)(hg2:Gl X "str")(hm2:X.mg "str"=none)(he:PD X e te)(hs:starEach [e,.Name "str" p2] X.env=(false,eval e X.env)::starEach [.Name "str" p2] X.env:=by rfl):PD X (.Call (.Name "isinstance" p) [e,.Name "str" p2] [] pos) (lQ "str" te):=(nH he hg hm hg2 hm2 boot_str (by decide) (by decide) hs).kb he.mono (by decide)
theorem kO (hg:Gl X "isinstance")(hm:X.mg "isinstance"=none)(hg2:Gl X "tuple")(hm2:X.mg "tuple"=none)(he:PD X e te)(hs:starEach [e,.Name "tuple" p2] X.env=(false,eval e X.env)::starEach [.Name "tuple" p2] X.env:=by rfl):PD X (.Call (.Name "isinstance" p) [e,.Name "tuple" p2] [] pos) (lQ "tuple" te):=(nH he hg hm hg2 hm2 boot_tuple (by decide) (by decide) hs).kb he.mono (by decide)
theorem u4 (hg:Gl X "isinstance")(hm:X.mg "isinstance"=none)(hg2:Gl X "list")(hm2:X.mg "list"=none)(he:PD X e te)(hs:starEach [e,.Name "list" p2] X.env=(false,eval e X.env)::starEach [.Name "list" p2] X.env:=by rfl):PD X (.Call (.Name "isinstance" p) [e,.Name "list" p2] [] pos) (lQ "list" te):=(nH he hg hm hg2 hm2 boot_list (by decide) (by decide) hs).kb he.mono (by decide)
end
structure cS (P:Program) (w:World) (K:PySem.W.Frag) (mg:Str->Option Value) (base:Heap) (j:Nat) (C:Addr) (m:Str) (sd:cg) (dd:List D):Prop where
 ex:∃f fd ps dvs ds,uF K C/\Meth K C m f/\dB P w K mg base oy j f fd ps (qt K sd)/\Binds K fd ps ds/\Vals dvs ds/\∀H,bN K H dvs dd
 ms:b4 sd
theorem cS.mh {X:Cx}{j k:Nat}{C:Addr}{m:Str}{sd:cg}{dd:List D}(c:cS X.prog X.w X.K X.mg X.base j C m sd dd)(hr:cA k X.A)(hj:j<=k):MH X C m sd dd :=
 let ⟨f,fd,ps,dvs,ds,h1,h2,h3,h4,h5,h6⟩:=c.ex
 ⟨j,f,fd,ps,dvs,ds,h1,h2,h3,c.ms,hr.mono hj,h4,h5,h6⟩
theorem cS.up {P:Program}{w:World}{K:PySem.W.Frag}{mg:Str->Option Value}{base:Heap}{i j:Nat}{C:Addr}{m:Str}{sd:cg}{dd:List D}(c:cS P w K mg base i C m sd dd)(h:i<=j):cS P w K mg base j C m sd dd :=
 ⟨let ⟨f,fd,ps,dvs,ds,h1,h2,h3,r⟩:=c.ex;⟨f,fd,ps,dvs,ds,h1,h2,h3.mono h,r⟩,c.ms⟩
structure Dm (K:PySem.W.Frag) (C:Addr) (m qual:Str) (st:Stmt) (ps:List Str):Prop where
 ex:∃f fd,vx K m qual st f fd/\Meth K C m f/\uF K C/\Binds K fd ps []
section
variable {P:Program}{w:World}{K:PySem.W.Frag}{mg:Str->Option Value}{base:Heap}
theorem Dm.dC {k:Nat}{C:Addr}{m qual:Str}{st:Stmt}{ps N:List Str}{sd:cg}{t:kG}(d:Dm K C m qual st ps)(S:aG N ps (aB st))(ms:b4 sd)(len:∀ds Q,sd ds Q->ds.length=ps.length)
  (hb:∀(f:Addr) (cdv:Value) (A:Around) (outer:List Env) (s:Shared) (H:Hp) (E:XK),cA k (A.deeper (envOfC qual (aB st) s.heap.objs.size f cdv))->om (Bx P w K mg base N qual st f cdv A outer s H E) (bF st) t)
  (hr:∀ds Q,sd ds Q->t { nx:=λ_=>Q .ag,rt:=Q } (dE N ds)):cS P w K mg base (k+1) C m sd []:=by
 obtain⟨f,fd,F,M,c,b⟩:=d.ex
 exact⟨⟨f,fd,ps,[],[],c,M,L8 F S len (hb f) hr,b,.nil,λ_=>.nil⟩,ms⟩
structure qk (P:Program) (w:World) (K:PySem.W.Frag) (mg:Str->Option Value) (base:Heap) (j:Nat) (x:Str) (C:Addr) (sd:E6) (dd:List D):Prop where
 ex:∃f fd ps dvs ds,Mk K C f/\dB P w K mg base oy j f fd ps (LY K C sd)/\mg x=some (.ref C)/\Binds K fd ps ds/\Vals dvs ds/\∀H,bN K H dvs dd
 ms:vz sd
structure Di (K:PySem.W.Frag) (mg:Str->Option Value) (x:Str) (C:Addr) (qual:Str) (st:Stmt) (ps:List Str) (dd:List D):Prop where
 ex:∃f fd dvs ds,Cu K "__init__" qual st f fd/\Mk K C f/\mg x=some (.ref C)/\Binds K fd ps ds/\Vals dvs ds/\∀H,bN K H dvs dd
theorem Di.Dn {k:Nat}{x:Str}{C:Addr}{qual:Str}{st:Stmt}{ps N:List Str}{dd:List D}{sd:E6}{t:Addr->yX}(d:Di K mg x C qual st ps dd)(S:aG N ps (aB st))(ms:vz sd)(len:∀ds Q,sd ds Q->ds.length+1=ps.length)
  (hb:∀(f:Addr) (cdv:Value) (A:Around) (outer:List Env) (s:Shared) (H:Hp) (E:XK),cA k (A.deeper (envOfC qual (aB st) s.heap.objs.size f cdv))->IS (Bx P w K mg base N qual st f cdv A outer s H E) C (bF st) t)
  (hr:∀a ds Q,sd ds Q->t a { nx:=λ_=>Q,rt:=Q,fin:=Q } (dE N (.adr a::ds)) []):qk P w K mg base (k+1) x C sd dd:=by
 obtain⟨f,fd,dvs,ds,F,M,m,b,v,h⟩:=d.ex
 exact⟨⟨f,fd,ps,dvs,ds,M,MV F S len (hb f) hr,m,b,v,h⟩,ms⟩
end
section
variable {X:Cx}{ok:Addr->Prop}{o e:Expr}{es:List Expr}{m x:Str}{sd:Addr->cg}{dd:List D}{ta:ED}{t:AD}{pos apos p:Pos}{j k:Nat}{C:Addr}{si:E6}
theorem cT {pl:Sem Bool}(hM:∀C,ok C->cS X.prog X.w X.K X.mg X.base j C m (sd C) dd)(hr:cA k X.A)(hj:j<=k)(he:PD X o ta)
  (ht:eval (.Call (.Attribute o m apos) [] [] pos) X.env=(do
   let ov <- eval o X.env
   standAt apos.atName
   let (f,first) <- holding [ov] (getMethod ov m pl)
   callWith pos f first (backTo pos (starEach [] X.env)) (backToKw pos (keywordEach [] X.env))):=by rfl) :
  PD X (.Call (.Attribute o m apos) [] [] pos) (rZ ok m sd dd ta ak):=C9 (λC h=>(hM C h).mh hr hj) he ht
theorem sD (c:qk X.prog X.w X.K X.mg X.base j x C si dd)(hr:cA k X.A)(hj:j+1<=k)(hg:Gl X x)(ha:nB X (e::es) t)(hdb:(x == ("__debug__":Str))=false:=by decide)
  (h1:starEach (e::es) X.env=(false,eval e X.env)::starEach es X.env:=by rfl)(h2:(backTo pos (starEach es X.env)).any (·.1)=false:=by rfl):PD X (.Call (.Name x p) (e::es) [] pos) (Fq C si dd t):=by
 obtain⟨f,fd,ps,dvs,ds,M,F,m,b,v,h⟩:=c.ex
 exact GN M F c.ms (hr.mono hj) hg m b v h ha hdb h1 h2
end
section
variable {X:Cx}{e:Expr}{te:ED}{p p2 pos pos':Pos}{f x:Str}{C:Addr}
theorem aa (K:PySem.W.Frag)(hK:X.K=K)(he:PD X e te)(hb:attributeBase e f X.env (eval e X.env)=eval e X.env):PD X (.Attribute e f pos) (Eu K te f):=by subst hK;exact Ik he hb
theorem cU (K:PySem.W.Frag)(hK:X.K=K)(hN:X.N[0]?=some x)(hv:Cz X.env.scope x)(he:PD X e te)(hs:swapsWith e (some (.Attribute (.Name x p) f pos')) pos.line X.env=pure false:=by rfl)(hd:(x == ("__debug__":Str))=false:=by decide)
  (hcd:(x == ("__classdict__":Str))=false:=by decide):KY X C (.Assign [.Attribute (.Name x p) f pos'] e pos) (JH K C f te):=by subst hK;exact JI hN hv he hs hd hcd
end
section
variable {X:Cx}{o e:Expr}{es:List Expr}{to te:ED}{t:AD}{p p1 p2 tp pos apos cpos:Pos}
def KN (T U:String)(te:ED):ED:=λδ Q=>te δ λd=>∃a b,kb T d=some a/\kb U d=some b/\Q (.bl (a||b))
theorem yh {T U:String}:ki X (.builtin "isinstance") (λxs H Q=>∃x q d t b,xs=[x,.ref q]/\H q=some (.tup [.ty T,.ty U])/\Dv X.K H x d/\E8 X.K d t/\kitAny X.K t [.type T,.type U]=some b/\Q (.bl b) H):=by
 intro pins s σ H xs us Q I r h
 obtain⟨x,q,d,t,b,rfl,hq,dv,ty,e,k⟩:=h
 obtain⟨u,w',rfl,r1,r2⟩:=vals2 r
 cases(show w'=Value.ref q from r2)
 obtain⟨Hh,Z,hh,hx⟩:=xu I r1 dv ty
 obtain⟨its,rv,ht,_⟩:=I.tuple (iz.of hq)
 obtain⟨ob,ho,hc,n,hd⟩:=id ht
 obtain⟨y1,y2,rfl,z1,z2⟩:=vals2 rv
 cases(show y1=Value.type T from z1)
 cases(show y2=Value.type U from z2)
 obtain⟨cls,dd,data,sl⟩:=ob
 simp only at hc hd
 subst hc hd
 exact PySem.W.kia_tup Z I.uE hh ho e hx λtk=>⟨.bl b,H,I.tok _,rfl,k⟩
theorem DS {K:PySem.W.Frag}{d:D}{T U:String}{a b:Bool}(hT:T∈["bool","int","str","list","tuple","dict"])(hU:U∈["bool","int","str","list","tuple","dict"])(h1:kb T d=some a)(h2:kb U d=some b) :
  ∃t,E8 K d t/\kitAny K t [.type T,.type U]=some (a||b):=by
 unfold DC.kb at h1 h2
 cases hk:oQ d with
 |none=>rw[hk] at h1;cases h1
 |some kk =>
  rw[hk] at h1 h2
  have e1:(kk == T||(kk == "bool"&&T == "int"))=a:=by simpa using h1
  have e2:(kk == U||(kk == "bool"&&U == "int"))=b:=by simpa using h2
  refine⟨_,.k hk,?_⟩
  unfold kitAny
  rw[sk hk hT,e1]
  cases a with
  |true=>rfl
  |false =>
   unfold kitAny
   rw[sk hk hU,e2]
   cases b<;>rfl
theorem GJ {T U:String}{x y:Str}{c:Nat}(he:PD X e te)(hg:Gl X "isinstance")(hm:X.mg "isinstance"=none)(g1:Gl X x)(m1:X.mg x=none)(b1:bootBuiltins x=some (.type T))(g2:Gl X y)(m2:X.mg y=none)(b2:bootBuiltins y=some (.type U))
  (hT:T∈["bool","int","str","list","tuple","dict"])(hU:U∈["bool","int","str","list","tuple","dict"])(n1:x≠"__name__":=by decide)(n2:y≠"__name__":=by decide)(d1:(x == ("__debug__":Str))=false:=by decide)(d2:(y == ("__debug__":Str))=false:=by decide)
  (hs:starEach [e,.Tuple [.Name x p1,.Name y p2] c tp] X.env=(false,eval e X.env)::starEach [.Tuple [.Name x p1,.Name y p2] c tp] X.env:=by rfl) :
  PD X (.Call (.Name "isinstance" p) [e,.Tuple [.Name x p1,.Name y p2] c tp] [] pos) (KN T U te):=by
 refine⟨(jE (yh (T:=T) (U:=U)) hg hm boot_isinstance (dO he.pe (dO (Bo (dO (tN (v:=.ty T) g1 m1 b1 rfl n1 d1) (dO (tN (v:=.ty U) g2 m2 b2 rfl n2 d2) iN))) iN) hs) (he:=hs)).imp
  λσ H Q ⟨δ,r,h⟩=>⟨δ,r,he.mono _ _ _ (λd ⟨a,b,ea,eb,k⟩ v H1 s1 dv=>⟨(show 2<=sizeLine by decide),λq hq=>?_⟩) h⟩,λδ P P' g h=>he.mono _ _ _ (λd ⟨a,b,ea,eb,k⟩=>⟨a,b,ea,eb,g _ k⟩) h⟩
 obtain⟨t,ty,ek⟩:=DS (K:=X.K) hT hU ea eb
 exact⟨v,q,d,t,_,rfl,aM,dv.same (af hq),ty,ek,k _ _ (s1.trans (af hq)) (.bl _)⟩
def EY (z:D):cg:=λds Q=>∃x y,z=.str x/\ds=[.str y]/\(y.length == 0)=false/\x.length+2<=sizeLine/\Q (.lst ((Txt.split x y).map D.str))
theorem pM {K:PySem.W.Frag}{H:Hp}:∀(ws:List Str),bN K H (ws.map V.str) (ws.map D.str)
 |[]=>.nil
 |w::ws=>.cons (.str w) (pM ws)
theorem vn {K:PySem.W.Frag}{H:Hp}:∀{vs:List V} {ws:List Str},bN K H vs (ws.map D.str)->vs=ws.map V.str
 |[],[],_=>rfl
 |_,_::_,.cons (.str _) r=>by rw[vn r];rfl
def isStr:D->Prop:=λd=>∃x,d=.str x
def IH (sd:D->cg)(to:ED)(t:AD):ED:=λδ Q=>to δ λz=>isStr z/\t δ λds=>sd z ds Q
theorem sE (ho:PD X o to)(ha:nB X (e::es) t)(hbase:attributeBase o "split" X.env (eval o X.env)=eval o X.env:=by rfl)
  (hfew:((backTo cpos (starEach (e::es) X.env)).all (λx=>!x.1)&&(backToKw cpos (keywordEach [] X.env)).all (λx=>x.1.isSome)&&decide ((e::es).length+([]:List Keyword).length+(if([]:List Keyword).isEmpty then 0 else 1)<30))=true:=by rfl)
  (hline:(apos.endLine == cpos.line)=true:=by rfl)(hs:starEach (e::es) X.env=(false,eval e X.env)::starEach es X.env:=by rfl)(hplain:(backTo cpos (starEach es X.env)).any (·.1)=false:=by rfl) :
  PD X (.Call (.Attribute o "split" apos) (e::es) [] cpos) (IH EY to t):=by
 refine⟨(oV PySem.F.plainAttrs_str PySem.F.slot_str_split PySem.F.type_str_split BW ho.pe ha.pa hbase hfew hline hs hplain).imp λσ H Q ⟨δ,r,h⟩=>⟨δ,r,ho.mono _ _ _ (λz ⟨⟨x,ez⟩,q⟩ v H1 s1 dv=>?_) h⟩,
  λδ P P' g h=>ho.mono _ _ _ (λz ⟨i,q⟩=>⟨i,ha.mono _ _ _ (λds ⟨x,y,e1,e2,c1,c2,k⟩=>⟨x,y,e1,e2,c1,c2,g _ k⟩) q⟩) h⟩
 subst ez
 cases dv
 refine⟨rfl,δ,r.same s1,ha.mono _ _ _ (λds ⟨x',y,e1,e2,c1,c2,k⟩ vs H2 s2 dvs=>?_) q⟩
 cases e1
 subst e2
 cases dvs with
 |cons a b =>
  cases a
  cases b
  exact⟨_,y,rfl,rfl,c1,c2,λp hp=>k _ _ ((s1.trans s2).trans (af hp)) (.lst (fG.of aM) (pM _))⟩
def B7 (z:D):cg:=λds Q=>∃x ws,z=.str x/\ds=[.lst (ws.map D.str)]/\(ws.map (·.length)).sum+ws.length*x.length<=16777216/\Q (.str (Txt.join x ws))
theorem GK (ho:PD X o to)(ha:nB X (e::es) t)(hbase:attributeBase o "join" X.env (eval o X.env)=eval o X.env:=by rfl)
  (hfew:((backTo cpos (starEach (e::es) X.env)).all (λx=>!x.1)&&(backToKw cpos (keywordEach [] X.env)).all (λx=>x.1.isSome)&&decide ((e::es).length+([]:List Keyword).length+(if([]:List Keyword).isEmpty then 0 else 1)<30))=true:=by rfl)
  (hline:(apos.endLine == cpos.line)=true:=by rfl)(hs:starEach (e::es) X.env=(false,eval e X.env)::starEach es X.env:=by rfl)(hplain:(backTo cpos (starEach es X.env)).any (·.1)=false:=by rfl) :
  PD X (.Call (.Attribute o "join" apos) (e::es) [] cpos) (IH B7 to t):=by
 refine⟨(oV PySem.F.plainAttrs_str PySem.F.slot_str_join PySem.F.type_str_join Dq ho.pe ha.pa hbase hfew hline hs hplain).imp λσ H Q ⟨δ,r,h⟩=>⟨δ,r,ho.mono _ _ _ (λz ⟨⟨x,ez⟩,q⟩ v H1 s1 dv=>?_) h⟩,
  λδ P P' g h=>ho.mono _ _ _ (λz ⟨i,q⟩=>⟨i,ha.mono _ _ _ (λds ⟨x,y,e1,e2,c1,k⟩=>⟨x,y,e1,e2,c1,g _ k⟩) q⟩) h⟩
 subst ez
 cases dv
 refine⟨rfl,δ,r.same s1,ha.mono _ _ _ (λds ⟨x',ws,e1,e2,c1,k⟩ vs H2 s2 dvs=>?_) q⟩
 cases e1
 subst e2
 cases dvs with
 |cons a b =>
  cases b
  cases a with
  |lst g1 g2 =>
   rw[vn g2] at g1
   exact⟨_,_,ws,rfl,rfl,g1,c1,k _ _ (s1.trans s2) (.str _)⟩
end
end DC
namespace L2
open PySem PySem.Spec PyProof.Rows
section
variable {X:Cx}
end
end L2
namespace DC
open PySem PySem.Spec PyProof.Rows L2
section
variable {X:Cx}{e:Expr}{es:List Expr}{t:AD}{p pos:Pos}
end
end DC
namespace L2
open PySem PySem.Spec PyProof.Rows
section
variable {prog:Program}{w:World}{A:Around}{E:Value->Shared->Prop}{s:Shared}
theorem tI {it t:Addr}{i:Nat}{items:Array Value}{x:Value}{Q:Value->Shared->Prop}(hit:s.heap.IsTupleIter it t i)(ht:s.heap.IsTuple t items)(hx:items[i]?=some x)
  (hQ:∀h',h'.IsTupleIter it t (i+1)->Heap.SameBut it s.heap h'->Q x { s with heap:=h' }):wpAny (model prog w) A (Builtin.SmallTypes.nextOf (.ref it)) Q E s:=by
 obtain⟨o,ho,hc,hd⟩:=id hit
 obtain⟨ol,hol,_,nl,hdl⟩:=ht
 unfold Builtin.SmallTypes.nextOf
 refine wpAny_bind (wpAny_callSpecial?_slot (name:=Str.ofString "__next__") hit.typeIs F.slot_tuple_iterator_next (wpAny_call_entry F.slot_tuple_iterator_next hit.typeIs F.entry_tuple_iterator_next ?_ (F.args_tuple_iterator_next_1 _)))
 show wpAny _ _ (field (.ref it) 0 >>= _) _ _ s
 refine wpAny_bind (wpAny_field ho hd (x:=.ref t) rfl ?_)
 show wpAny _ _ (if(Value.ref t == Value.none)=true then _ else _) _ _ s
 rw[if_neg (show¬((Value.ref t == Value.none)=true) from Bool.false_ne_true)]
 show wpAny _ _ (field (.ref it) 1 >>= _) _ _ s
 refine wpAny_bind (wpAny_field ho hd (x:=.int i 0) rfl ?_)
 show wpAny _ _ (seqItems? (.ref t) >>= _) _ _ s
 refine wpAny_bind (wpAny_seqItems hol hdl ?_)
 simp only[Int.toNat_natCast,hx]
 refine wpAny_bind (wpAny_setField ho hd (by simp) (wpAny_pure ⟨x,rfl,wpAny_pure (hQ _ ?_ (Heap.SameBut.update ..))⟩))
 exact⟨_,Heap.get?_update_self _ ho (Obj.isFreed_of_fields (Obj.data_mapFields hd _)),(Obj.cls_mapFields ..).trans hc,by rw[Obj.data_mapFields hd];simp[rawInt]⟩
theorem vD {it t:Addr}{i:Nat}{items:Array Value}{Q:Value->Shared->Prop}(hh:A.handled=none)(hit:s.heap.IsTupleIter it t i)(ht:s.heap.IsTuple t items)(hx:items[i]?=none)
  (hE:∀h' e,Heap.ExtBut it s.heap h'->(∃o,h'.get? e=some o/\o.cls=.type "StopIteration")->E (.ref e) { s with heap:=h' }):wpAny (model prog w) A (Builtin.SmallTypes.nextOf (.ref it)) Q E s:=by
 obtain⟨o,ho,hc,hd⟩:=id hit
 obtain⟨ol,hol,_,nl,hdl⟩:=ht
 unfold Builtin.SmallTypes.nextOf
 refine wpAny_bind (wpAny_callSpecial?_slot (name:=Str.ofString "__next__") hit.typeIs F.slot_tuple_iterator_next (wpAny_call_entry F.slot_tuple_iterator_next hit.typeIs F.entry_tuple_iterator_next ?_ (F.args_tuple_iterator_next_1 _)))
 show wpAny _ _ (field (.ref it) 0 >>= _) _ _ s
 refine wpAny_bind (wpAny_field ho hd (x:=.ref t) rfl ?_)
 show wpAny _ _ (if(Value.ref t == Value.none)=true then _ else _) _ _ s
 rw[if_neg (show¬((Value.ref t == Value.none)=true) from Bool.false_ne_true)]
 show wpAny _ _ (field (.ref it) 1 >>= _) _ _ s
 refine wpAny_bind (wpAny_field ho hd (x:=.int i 0) rfl ?_)
 show wpAny _ _ (seqItems? (.ref t) >>= _) _ _ s
 refine wpAny_bind (wpAny_seqItems hol hdl ?_)
 simp only[Int.toNat_natCast,hx]
 refine wpAny_bind (wpAny_rule (wpAny_bind (wpAny_setField ho hd (by simp) ?_)))
 show wpAny _ _ (newExc (.type "StopIteration") [] >>= _) _ _ _
 refine wpAny_bind ?_
 simp only[newExc,newTuple]
 refine wpAny_bind (wpAny_newObj_type ?_ (by size_fits))
 refine wpAny_bind (m:=firstArgMember _ _) (wpAny_of_eq (a:=Value.none) (by first|rfl|(simp only[firstArgMember];rfl)) ?_)
 refine wpAny_newObj_type ?_ (by size_fits)
 simp only[raiseNew]
 refine wpAny_bind (wpAny_handled ?_)
 first|rw[show A.in1.handled=none from hh]|rw[hh]
 refine wpAny_bind (wpAny_pure (wpAny_throw ?_))
 exact hE _ _ (((Heap.SameBut.update ..).extBut.push _).push _) ⟨_,Heap.get?_push_size _ rfl,rfl⟩
end
structure Sq (prog:Program) (w:World) (A:Around) (i l:Addr) (xs:Array Value) (S:Nat->Heap->Prop):Prop where
 item:∀(k:Nat) (s:Shared) (x:Value) (Q:Value->Shared->Prop) (E:Value->Shared->Prop),S k s.heap->xs[k]?=some x->(∀h',S (k+1) h'->Heap.SameBut i s.heap h'->Q x { s with heap:=h' })->wpAny (model prog w) A (Builtin.SmallTypes.nextOf (.ref i)) Q E s
 stop:∀(k:Nat) (s:Shared) (Q:Value->Shared->Prop) (E:Value->Shared->Prop),S k s.heap->xs[k]?=none->(∀h' e,Heap.ExtBut i s.heap h'->(∃o,h'.get? e=some o/\o.cls=.type "StopIteration")->E (.ref e) { s with heap:=h' })->wpAny (model prog w) A (Builtin.SmallTypes.nextOf (.ref i)) Q E s
 keep:∀(k:Nat) (h h':Heap),S k h->(∀o,h.get? i=some o->h'.get? i=some o)->(∀o,h.get? l=some o->h'.get? l=some o)->S k h'
 there:∀(k:Nat) (h:Heap),S k h->∃o,h.get? i=some o/\∀v,o.data≠.cell v
section
variable {prog:Program}{w:World}{A:Around}
theorem Eg (hh:A.handled=none)(i l:Addr)(hne:l≠i)(xs:Array Value):Sq prog w A i l xs (λk h=>h.IsListIter i l k/\h.IsList l xs) where
 item:=λk s x Q E ⟨h1,h2⟩ hx hQ=>wpAny_nextOf_list_item h1 h2 hx λh' h1' sb=>hQ h' ⟨h1',h2.extBut sb.extBut hne⟩ sb
 stop:=λk s Q E ⟨h1,h2⟩ hx hE=>wpAny_nextOf_list_end hh h1 h2 hx hE
 keep:=λk h h' ⟨h1,h2⟩ a b=>⟨h1.at a,h2.at b⟩
 there:=λk h ⟨⟨o,e,c,d⟩,_⟩=>⟨o,e,λv z=>by rw[d] at z;cases z⟩
theorem Hv (hh:A.handled=none)(i l:Addr)(hne:l≠i)(xs:Array Value):Sq prog w A i l xs (λk h=>h.IsTupleIter i l k/\h.IsTuple l xs) where
 item:=λk s x Q E ⟨h1,h2⟩ hx hQ=>tI h1 h2 hx λh' h1' sb=>hQ h' ⟨h1',by obtain⟨o,e,r⟩:=h2;exact⟨o,sb.extBut _ _ hne e,r⟩⟩ sb
 stop:=λk s Q E ⟨h1,h2⟩ hx hE=>vD hh h1 h2 hx hE
 keep:=λk h h' ⟨h1,h2⟩ a b=>⟨h1.at a,by obtain⟨o,e,r⟩:=h2;exact⟨o,b _ e,r⟩⟩
 there:=λk h ⟨⟨o,e,c,d⟩,_⟩=>⟨o,e,λv z=>by rw[d] at z;cases z⟩
end
section
variable {prog:Program}{w:World}{A:Around}{E:Value->Shared->Prop}{s:Shared}{z TI TO i1 i2 l1 l2:Addr}{k1 k2:Nat}{xs ys:Array Value}{x y a b:Value}{S1 S2:Nat->Heap->Prop}
theorem uD {Q:Value->Shared->Prop}(D:ZipApart z TI TO i1 i2 l1 l2)(q1:Sq prog w A i1 l1 xs S1)(q2:Sq prog w A i2 l2 ys S2)
  (hz:IsZip s.heap z TI TO .none)(hTI:IsPair s.heap TI (.ref i1) (.ref i2))(hTO:IsPair s.heap TO a b)(h1:S1 k1 s.heap)(h2:S2 k2 s.heap)(hx:xs[k1]?=some x)(hy:ys[k2]?=some y)
  (hQ:∀h',IsZip h' z TI TO (rawInt s.heap.objs.size)->IsPair h' TO x y->S1 (k1+1) h'->S2 (k2+1) h'->IsPair h' s.heap.objs.size x y->h'.objs.size=s.heap.objs.size+1 ->
   (∀c o,c≠z->c≠TO->c≠i1->c≠i2->s.heap.get? c=some o->h'.get? c=some o)->Q (.ref s.heap.objs.size) { s with heap:=h' }) :
  wpAny (model prog w) A (Builtin.«zip.__next__» ⟨[.ref z],[]⟩) (λfin s'=>∃v,fin=.done (.ret v)/\Q v s') E s:=by
 show wpAny _ _ (field (.ref z) 2 >>= _) _ _ _
 refine wpAny_bind (wpAny_field hz rfl (x:=.bool false) rfl ?_)
 show wpAny _ _ (field (.ref z) 3 >>= _) _ _ _
 refine wpAny_bind (wpAny_field hz rfl (x:=.ref TI) rfl ?_)
 refine wpAny_bind (wpAny_seqItems hTI rfl ?_)
 show wpAny _ _ (Builtin.SmallTypes.ownedTupleIsFree (.ref z) >>= _) _ _ _
 refine wpAny_bind ?_
 unfold Builtin.SmallTypes.ownedTupleIsFree
 refine wpAny_bind (wpAny_field hz rfl (x:=.none) rfl (wpAny_pure ?_))
 simp only[if_true]
 refine wpAny_bind (wpAny_rule (wpAny_bind (wpAny_field hz rfl (x:=.ref TO) rfl (wpAny_bind (wpAny_setField_rec hz (by simp) λg1 hz1 e1=>?_)))))
 replace hz1:IsZip g1 z TI TO .ellipsis:=hz1
 refine wpAny_bind ?_
 simp only[List.zipIdx_cons,List.zipIdx_nil,List.forIn_cons,List.forIn_nil]
 refine wpAny_bind (wpAny_bind (wpAny_onRaise ?_))
 show wpAny _ _ (Builtin.SmallTypes.nextOf (.ref i1) >>= _) _ _ _
 have s11:S1 k1 g1:=q1.keep _ _ _ h1 (λo q=>e1.extBut _ _ D.i1z q) (λo q=>e1.extBut _ _ D.l1z q)
 refine wpAny_bind (q1.item k1 _ x _ _ s11 hx λg2 s12 e2=>wpAny_pure ?_)
 have p2:IsPair g2 TO a b:=e2.extBut _ _ D.TOi1 (e1.extBut _ _ D.TOz hTO)
 refine wpAny_bind (wpAny_seqItems p2 rfl (wpAny_bind (wpAny_updateSeq_pair p2 λg3 p3 e3=>?_)))
 replace p3:IsPair g3 TO x b:=p3
 refine wpAny_bind (wpAny_letGo (wpAny_pure ?_))
 refine wpAny_bind (wpAny_bind (wpAny_onRaise ?_))
 show wpAny _ _ (Builtin.SmallTypes.nextOf (.ref i2) >>= _) _ _ _
 have s23:S2 k2 g3:=q2.keep _ _ _ h2 (λo q=>e3.extBut _ _ D.TOi2.symm (e2.extBut _ _ D.i12.symm (e1.extBut _ _ D.i2z q))) (λo q=>e3.extBut _ _ D.l2TO (e2.extBut _ _ D.l2i1 (e1.extBut _ _ D.l2z q)))
 refine wpAny_bind (q2.item k2 _ y _ _ s23 hy λg4 s24 e4=>wpAny_pure ?_)
 have p4:IsPair g4 TO x b:=e4.extBut _ _ D.TOi2 p3
 refine wpAny_bind (wpAny_seqItems p4 rfl (wpAny_bind (wpAny_updateSeq_pair p4 λg5 p5 e5=>?_)))
 replace p5:IsPair g5 TO x y:=p5
 refine wpAny_bind (wpAny_letGo (wpAny_pure (wpAny_pure ?_)))
 refine wpAny_bind (wpAny_seqItems p5 rfl (wpAny_bind (wpAny_newTuple ?_)))
 have hsz:g5.objs.size=s.heap.objs.size:=by rw[e5.1,e4.1,e3.1,e2.1,e1.1]
 have z5:IsZip g5 z TI TO .ellipsis:=e5.extBut _ _ D.TOz.symm (e4.extBut _ _ D.i2z.symm (e3.extBut _ _ D.TOz.symm (e2.extBut _ _ D.i1z.symm hz1)))
 have zlt:z<g5.objs.size:=Heap.lt_size z5
 show wpAny _ _ (Builtin.SmallTypes.ownedTupleHandOut (.ref z) (.ref g5.objs.size) >>= _) _ _ _
 refine wpAny_bind ?_
 unfold Builtin.SmallTypes.ownedTupleHandOut
 have z6:IsZip (g5.push { cls:=.type "tuple",data:=.seq #[x,y] }) z TI TO .ellipsis:=Heap.get?_push_of_some _ z5
 refine wpAny_bind (wpAny_setField_rec z6 (by simp) λg7 z7 e7=>?_)
 replace z7:IsZip g7 z TI TO (rawInt g5.objs.size):=z7
 refine wpAny_setField_rec z7 (by simp) λg8 z8 e8=>?_
 replace z8:IsZip g8 z TI TO (rawInt g5.objs.size):=z8
 have up:∀c o,c≠z->g5.get? c=some o->g8.get? c=some o:=λc o c1 q=>e8.extBut _ _ c1 (e7.extBut _ _ c1 (Heap.get?_push_of_some _ q))
 have t8:IsPair g8 g5.objs.size x y:=e8.extBut _ _ (Nat.ne_of_gt zlt) (e7.extBut _ _ (Nat.ne_of_gt zlt) (Heap.get?_push_size _ rfl))
 have n8:g8.objs.size=g5.objs.size+1:=by rw[e8.1,e7.1,Heap.size_push]
 have f1:S1 (k1+1) g8:=q1.keep _ _ _ s12 (λo q=>up _ _ D.i1z (e5.extBut _ _ D.TOi1.symm (e4.extBut _ _ D.i12 (e3.extBut _ _ D.TOi1.symm q)))) (λo q=>up _ _ D.l1z (e5.extBut _ _ D.l1TO (e4.extBut _ _ D.l1i2 (e3.extBut _ _ D.l1TO q))))
 have f2:S2 (k2+1) g8:=q2.keep _ _ _ s24 (λo q=>up _ _ D.i2z (e5.extBut _ _ D.TOi2.symm q)) (λo q=>up _ _ D.l2z (e5.extBut _ _ D.l2TO q))
 rw[hsz] at z8 t8 n8
 refine wpAny_pure ⟨_,rfl,?_⟩
 show Q (.ref g5.objs.size) _
 rw[hsz]
 exact hQ g8 z8 (up _ _ D.TOz p5) f1 f2 t8 n8 λc o c1 c2 c3 c4 q=>up c o c1 (e5.extBut _ _ c2 (e4.extBut _ _ c4 (e3.extBut _ _ c2 (e2.extBut _ _ c3 (e1.extBut _ _ c1 q)))))
theorem vo {Q:Fin->Shared->Prop}(D:ZipApart z TI TO i1 i2 l1 l2)(q1:Sq prog w A i1 l1 xs S1)(q2:Sq prog w A i2 l2 ys S2)
  (hz:IsZip s.heap z TI TO .none)(hTI:IsPair s.heap TI (.ref i1) (.ref i2))(hTO:IsPair s.heap TO a b)(h1:S1 k1 s.heap)(h2:S2 k2 s.heap)(hend:xs[k1]?=none\/ys[k2]?=none)
  (hE:∀h' e,(∀c o,c≠z->c≠TO->c≠i1->c≠i2->s.heap.get? c=some o->h'.get? c=some o)->(∃o,h'.get? e=some o/\o.cls=.type "StopIteration")->E (.ref e) { s with heap:=h' }) :
  wpAny (model prog w) A (Builtin.«zip.__next__» ⟨[.ref z],[]⟩) Q E s:=by
 show wpAny _ _ (field (.ref z) 2 >>= _) _ _ _
 refine wpAny_bind (wpAny_field hz rfl (x:=.bool false) rfl ?_)
 show wpAny _ _ (field (.ref z) 3 >>= _) _ _ _
 refine wpAny_bind (wpAny_field hz rfl (x:=.ref TI) rfl ?_)
 refine wpAny_bind (wpAny_seqItems hTI rfl ?_)
 show wpAny _ _ (Builtin.SmallTypes.ownedTupleIsFree (.ref z) >>= _) _ _ _
 refine wpAny_bind ?_
 unfold Builtin.SmallTypes.ownedTupleIsFree
 refine wpAny_bind (wpAny_field hz rfl (x:=.none) rfl (wpAny_pure ?_))
 simp only[if_true]
 refine wpAny_bind (wpAny_rule (wpAny_bind (wpAny_field hz rfl (x:=.ref TO) rfl (wpAny_bind (wpAny_setField_rec hz (by simp) λg1 hz1 e1=>?_)))))
 replace hz1:IsZip g1 z TI TO .ellipsis:=hz1
 refine wpAny_bind ?_
 simp only[List.zipIdx_cons,List.zipIdx_nil,List.forIn_cons,List.forIn_nil]
 refine wpAny_bind (wpAny_bind (wpAny_onRaise ?_))
 show wpAny _ _ (Builtin.SmallTypes.nextOf (.ref i1) >>= _) _ _ _
 have s11:S1 k1 g1:=q1.keep _ _ _ h1 (λo q=>e1.extBut _ _ D.i1z q) (λo q=>e1.extBut _ _ D.l1z q)
 cases hx:xs[k1]? with
 |none =>
  refine wpAny_bind (q1.stop k1 _ _ _ s11 hx λg2 e e2 he=>?_)
  obtain⟨oe,hoe,hce⟩:=he
  have z2:IsZip g2 z TI TO .ellipsis:=e2 _ _ D.i1z.symm hz1
  have hez:e≠z:=λq=>by subst q;rw[z2] at hoe;cases hoe;simp at hce
  exact wpAny_setField_rec z2 (by simp) λg3 _ e3=>hE g3 e (λc o c1 _ c3 _ q=>e3.extBut _ _ c1 (e2 _ _ c3 (e1.extBut _ _ c1 q))) ⟨oe,e3.extBut _ _ hez hoe,hce⟩
 |some x =>
  have hy:ys[k2]?=none:=by rcases hend with h|h;rw[hx] at h;cases h;exact h
  refine wpAny_bind (q1.item k1 _ x _ _ s11 hx λg2 s12 e2=>wpAny_pure ?_)
  have p2:IsPair g2 TO a b:=e2.extBut _ _ D.TOi1 (e1.extBut _ _ D.TOz hTO)
  refine wpAny_bind (wpAny_seqItems p2 rfl (wpAny_bind (wpAny_updateSeq_pair p2 λg3 p3 e3=>?_)))
  refine wpAny_bind (wpAny_letGo (wpAny_pure ?_))
  refine wpAny_bind (wpAny_bind (wpAny_onRaise ?_))
  show wpAny _ _ (Builtin.SmallTypes.nextOf (.ref i2) >>= _) _ _ _
  have s23:S2 k2 g3:=q2.keep _ _ _ h2 (λo q=>e3.extBut _ _ D.TOi2.symm (e2.extBut _ _ D.i12.symm (e1.extBut _ _ D.i2z q))) (λo q=>e3.extBut _ _ D.l2TO (e2.extBut _ _ D.l2i1 (e1.extBut _ _ D.l2z q)))
  refine wpAny_bind (q2.stop k2 _ _ _ s23 hy λg4 e e4 he=>?_)
  obtain⟨oe,hoe,hce⟩:=he
  have z4:IsZip g4 z TI TO .ellipsis:=e4 _ _ D.i2z.symm (e3.extBut _ _ D.TOz.symm (e2.extBut _ _ D.i1z.symm hz1))
  have hez:e≠z:=λq=>by subst q;rw[z4] at hoe;cases hoe;simp at hce
  exact wpAny_setField_rec z4 (by simp) λg5 _ e5=>hE g5 e (λc o c1 c2 c3 c4 q=>e5.extBut _ _ c1 (e4 _ _ c4 (e3.extBut _ _ c2 (e2.extBut _ _ c3 (e1.extBut _ _ c1 q))))) ⟨oe,e5.extBut _ _ hez hoe,hce⟩
end
section
variable {prog:Program}{w:World}{A:Around}{E:Value->Shared->Prop}{s:Shared}{z TI TO i1 i2 l1 l2:Addr}{k1 k2:Nat}{xs ys:Array Value}{x y a b:Value}{S1 S2:Nat->Heap->Prop}
theorem qM {Q:Option Value->Shared->Prop}(D:ZipApart z TI TO i1 i2 l1 l2)(q1:∀A:Around,A.handled=none->Sq prog w A i1 l1 xs S1)(q2:∀A:Around,A.handled=none->Sq prog w A i2 l2 ys S2)(hh:A.handled=none)
  (hz:IsZip s.heap z TI TO .none)(hTI:IsPair s.heap TI (.ref i1) (.ref i2))(hTO:IsPair s.heap TO a b)(h1:S1 k1 s.heap)(h2:S2 k2 s.heap)(hx:xs[k1]?=some x)(hy:ys[k2]?=some y)
  (hQ:∀h',IsZip h' z TI TO (rawInt s.heap.objs.size)->IsPair h' TO x y->S1 (k1+1) h'->S2 (k2+1) h'->IsPair h' s.heap.objs.size x y->h'.objs.size=s.heap.objs.size+1 ->
   (∀c o,c≠z->c≠TO->c≠i1->c≠i2->s.heap.get? c=some o->h'.get? c=some o)->Q (some (.ref s.heap.objs.size)) { s with heap:=h' }) :
  wpAny (model prog w) A (pyNext (.ref z)) Q E s:=by
 have hT:s.TypeIs (.ref z) "zip":=⟨_,hz,rfl⟩
 unfold pyNext
 exact wpAny_bind (wpAny_attempt (wpAny_callSpecial?_slot (name:=Str.ofString "__next__") hT F.slot_zip_next
  (wpAny_call_entry F.slot_zip_next hT F.entry_zip_next
   (uD D (q1 _ hh) (q2 _ hh) hz hTI hTO h1 h2 hx hy λh' a1 a2 a3 a4 a5 a6 a7=>wpAny_pure (hQ h' a1 a2 a3 a4 a5 a6 a7)) (F.args_zip_next_1 _))))
theorem qp {Q:Option Value->Shared->Prop}(D:ZipApart z TI TO i1 i2 l1 l2)(q1:∀A:Around,A.handled=none->Sq prog w A i1 l1 xs S1)(q2:∀A:Around,A.handled=none->Sq prog w A i2 l2 ys S2)(hh:A.handled=none)
  (hz:IsZip s.heap z TI TO .none)(hTI:IsPair s.heap TI (.ref i1) (.ref i2))(hTO:IsPair s.heap TO a b)(h1:S1 k1 s.heap)(h2:S2 k2 s.heap)(hend:xs[k1]?=none\/ys[k2]?=none)
  (hQ:∀h',(∀c o,c≠z->c≠TO->c≠i1->c≠i2->s.heap.get? c=some o->h'.get? c=some o)->Q none { s with heap:=h' }):wpAny (model prog w) A (pyNext (.ref z)) Q E s:=by
 have hT:s.TypeIs (.ref z) "zip":=⟨_,hz,rfl⟩
 unfold pyNext
 refine wpAny_bind (wpAny_attempt (wpAny_callSpecial?_slot (name:=Str.ofString "__next__") hT F.slot_zip_next
  (wpAny_call_entry F.slot_zip_next hT F.entry_zip_next (vo D (q1 _ hh) (q2 _ hh) hz hTI hTO h1 h2 hend λh' e hk he=>?_) (F.args_zip_next_1 _))))
 obtain⟨o,ho,hc⟩:=he
 refine wpAny_bind (wpAny_isInstance (T:="StopIteration") (b:=true) ⟨o,ho,hc⟩ isSubtype_stop ?_)
 exact wpAny_pure (hQ _ hk)
end
def vy (v:Value)(o:Obj)(P:Heap->Prop):Prop:=∀(prog:Program) (w:World) (A:Around) (s:Shared) (Q:Value->Shared->Prop) (E:Value->Shared->Prop),P s.heap->Q (.ref s.heap.objs.size) { s with heap:=s.heap.push o }->wpAny (model prog w) A (pyIter v) Q E s
abbrev Ko (h:Heap)(o1:Obj):Heap:=h.push o1
abbrev Kp (h:Heap)(o1 o2:Obj):Heap:=(Ko h o1).push o2
abbrev Kq (h:Heap)(o1 o2:Obj):Heap:=(Kp h o1 o2).push { cls:=.type "tuple",data:=.seq #[.ref h.objs.size,.ref (Ko h o1).objs.size] }
abbrev Kr (h:Heap)(o1 o2:Obj):Heap:=(Kq h o1 o2).push { cls:=.type "tuple",data:=.seq #[.none,.none] }
abbrev IP (h:Heap)(o1 o2:Obj):Heap:=(Kr h o1 o2).push { cls:=.type "zip",data:=.fields #[.none,.bool false,.bool false,.ref (Kp h o1 o2).objs.size,.ref (Kq h o1 o2).objs.size] }
theorem zL (v1 v2:Value)(o1 o2:Obj){P1 P2:Heap->Prop}(p1:vy v1 o1 P1)(p2:vy v2 o2 P2) :
  Meets (Builtin.«zip.__new__» ⟨[.type "zip",v1,v2],[]⟩) (λ_ R s=>P1 s.heap/\P2 (s.heap.push o1)/\R (.ok (.ret (.ref (Kr s.heap o1 o2).objs.size))) { s with heap:=IP s.heap o1 o2 }) :=
 .of_wp λprog w A R s h=>by
  obtain⟨hp,g,d,tk,os⟩:=s;obtain⟨hl1,hl2,h⟩:=h
  have hsub:=sub_zip
  have q1:=fun{A:Around} {Q:Value->Shared->Prop} {E:Value->Shared->Prop}=>p1 prog w A ⟨hp,g,d,tk,os⟩ Q E hl1
  have q2:=fun{A:Around} {Q:Value->Shared->Prop} {E:Value->Shared->Prop}=>p2 prog w A ⟨hp.push o1,g,d,tk,os⟩ Q E hl2
  wp_walk using q1,q2
  exact⟨_,rfl,h⟩
def vp (K:PySem.W.Frag)(isL:Bool)(H:Hp)(a:Addr)(xs:List V):Prop:=if isL=true then fG K H a xs else iz K H a xs
def bT (isL:Bool)(l:Addr):Obj:={ cls:=.type (if isL then "list_iterator" else "tuple_iterator"),data:=.fields #[.ref l,.int 0 0] }
def pA (isL:Bool)(i l:Addr)(k:Nat)(h:Heap):Prop:=if isL=true then h.IsListIter i l k else h.IsTupleIter i l k
def km (isL:Bool)(l:Addr)(xs:Array Value)(h:Heap):Prop:=if isL=true then h.IsList l xs else h.IsTuple l xs
section
variable {X:Cx}{pins:List (Addr × Obj)}{σ:St}{H:Hp}{s:Shared}{a:Addr}{xs ys:List V}
theorem Inv.Eh {isL:Bool}(I:Inv X pins σ H s)(h:vp X.K isL H a xs):∃its:List Value,Vals xs its/\km isL a its.toArray s.heap:=by
 cases isL with
 |true=>obtain⟨its,r,p,_⟩:=I.list h;exact⟨its,r,p.isList⟩
 |false=>obtain⟨its,r,p,_⟩:=I.tuple h;exact⟨its,r,p⟩
theorem Inv.yL {isL:Bool}(I:Inv X pins σ H s)(h:vp X.K isL H a xs)(h':vp X.K isL H a ys):xs=ys:=by
 cases isL with
 |true=>exact I.u6 h h'
 |false=>exact I.rX h h'
theorem tq {prog:Program}{w:World}{A:Around}{isL:Bool}(hh:A.handled=none)(i l:Addr)(hne:l≠i)(xs:Array Value):Sq prog w A i l xs (λk h=>pA isL i l k h/\km isL l xs h):=by
 cases isL with
 |true=>exact Eg hh i l hne xs
 |false=>exact Hv hh i l hne xs
theorem pA.keep {isL:Bool}{i l:Addr}{k:Nat}{h h':Heap}(q:pA isL i l k h)(e:∀o,h.get? i=some o->h'.get? i=some o):pA isL i l k h':=by
 cases isL with
 |true=>exact Heap.IsListIter.at q e
 |false=>exact Heap.IsTupleIter.at q e
theorem pA.obj {isL:Bool}{i l:Addr}{k:Nat}{h:Heap}(q:pA isL i l k h):∃o,h.get? i=some o/\∀v,o.data≠.cell v:=by
 cases isL with
 |true=>obtain⟨o,e,c,d⟩:=(show h.IsListIter i l k from q);exact⟨o,e,λv z=>by rw[d] at z;cases z⟩
 |false=>obtain⟨o,e,c,d⟩:=(show h.IsTupleIter i l k from q);exact⟨o,e,λv z=>by rw[d] at z;cases z⟩
theorem Inv.Et {h':Heap}{t':Nat}{ch:List Addr}{T:Addr}{u1 u2:Value}{x y:V}(I:Inv X pins σ H s)(hk:∀b o,b∉ch->s.heap.get? b=some o->h'.get? b=some o)(hf:∀b∈ch,kZ X pins H b)
  (hT:s.heap.objs.size<=T)(hp:IsPair h' T u1 u2)(r1:RelV x u1)(r2:RelV y u2):Inv X pins σ (upd H T (.tup [x,y])) { s with heap:=h',toks:=t' }:=by
 have hn:H T=none:=I.bg.fresh hT
 have nT:∀{b:Addr} {o:Obj},s.heap.get? b=some o->b≠T:=λe=>Nat.ne_of_lt (Nat.lt_of_lt_of_le (Heap.lt_size e) hT)
 have nch:∀{b:Addr} {o:HO},H b=some o->b∉ch:=λe hb=>by rw[(hf _ hb).1] at e;cases e
 refine I.AO (ch:=ch) rfl ⟨λb o e n hb hc=>hk b o hc e,λb o e n hb hc=>⟨o.slots,hk b o hc e⟩,λb o e n hc=>by rw[aN (nT e)];exact n,λb o e hc=>⟨o,hk b o hc e⟩,
  λb zs e=>by rw[aN (ah e hn)];exact e,λb o u e=>by rw[aN (ah e hn)];exact e,λb ps e=>⟨#[],by rw[aN (ah e hn),e];simp⟩⟩ (λb o e=>?_) I.bare λb hb=>?_
 ·by_cases hb:b=T
  ·rw[hb,aM] at e
   cases e
   rw[hb]
   exact⟨(show 2<=sizeLine by decide),[u1,u2],.cons r1 (.cons r2 .nil),_,hp,rfl,_,rfl⟩
  ·rw[aN hb] at e
   refine(I.bg b o e).tu (λc u hc q=>hk c u ?_ q) (λc hc=>by rw[aN (ah hc hn)];exact hc) (λc zs hc=>by rw[aN (ah hc hn)];exact hc)
   rcases hc with rfl|hc
   ·exact nch e
   ·exact nch hc
 ·obtain⟨_,f2,f3,f4,f5,f6⟩:=hf b hb
  exact⟨f4,f2,f5,f6⟩
theorem Inv.Es {h':Heap}{t':Nat}{ch:List Addr}(I:Inv X pins σ H s)(hk:∀b o,b∉ch->s.heap.get? b=some o->h'.get? b=some o)(hf:∀b∈ch,kZ X pins H b):Inv X pins σ H { s with heap:=h',toks:=t' }:=by
 have nch:∀{b:Addr} {o:HO},H b=some o->b∉ch:=λe hb=>by rw[(hf _ hb).1] at e;cases e
 refine I.AO (ch:=ch) rfl ⟨λb o e n hb hc=>hk b o hc e,λb o e n hb hc=>⟨o.slots,hk b o hc e⟩,λb o e n hc=>n,λb o e hc=>⟨o,hk b o hc e⟩,λb zs e=>e,λb o u e=>e,λb ps e=>⟨#[],by rw[e];simp⟩⟩ (λb o e=>?_) I.bare λb hb=>?_
 ·refine(I.bg b o e).tu (λc u hc q=>hk c u ?_ q) (λc hc=>hc) (λc zs hc=>hc)
  rcases hc with rfl|hc
  ·exact nch e
  ·exact nch hc
 ·obtain⟨_,f2,f3,f4,f5,f6⟩:=hf b hb
  exact⟨f4,f2,f5,f6⟩
end
def Ku (K:PySem.W.Frag)(b1 b2:Bool)(l1 l2:Addr):It where
 go:=λi H=>∃xs ys x y,vp K b1 H l1 xs/\vp K b2 H l2 ys/\xs[i]?=some x/\ys[i]?=some y
 AH:=λi H v H'=>∃p x y,H p=none/\v=.ref p/\H'=upd H p (.tup [x,y])/\(∀xs,vp K b1 H l1 xs->xs[i]?=some x)/\∀ys,vp K b2 H l2 ys->ys[i]?=some y
 stop:=λi H=>∃xs ys,vp K b1 H l1 xs/\vp K b2 H l2 ys/\(xs[i]?=none\/ys[i]?=none)
theorem Ca {P:Program}{w:World}{K:PySem.W.Frag}{elts:List Expr}{c:Nat}{tp:Pos}{b1 b2:Bool}{z TI TO i1 i2 l1 l2:Addr}(D:ZipApart z TI TO i1 i2 l1 l2) :
  Turn P w K (.Tuple elts c tp) (Ku K b1 b2 l1 l2) [z,TI,TO,i1,i2] z (λi h=>IsZip h z TI TO .none/\IsPair h TI (.ref i1) (.ref i2)/\(∃a b,IsPair h TO a b)/\pA b1 i1 l1 i h/\pA b2 i2 l2 i h) where
 mem:=by simp
 obj:=λi h ⟨hz,hTI,⟨a,b,hTO⟩,h1,h2⟩ q hq=>by
  simp only[List.mem_cons,List.not_mem_nil,or_false] at hq
  rcases hq with rfl|rfl|rfl|rfl|rfl
  ·exact⟨_,hz,λv e=>by cases e⟩
  ·exact⟨_,hTI,λv e=>by cases e⟩
  ·exact⟨_,hTO,λv e=>by cases e⟩
  ·exact h1.obj
  ·exact h2.obj
 keep:=λi h h' ⟨hz,hTI,⟨a,b,hTO⟩,h1,h2⟩ k=>⟨k _ (by simp) _ hz,k _ (by simp) _ hTI,⟨a,b,k _ (by simp) _ hTO⟩,h1.keep (k _ (by simp)),h2.keep (k _ (by simp))⟩
 item:=by
  intro X hP hw hK hc i pins s σ H E I hf st hg
  subst hP hw hK
  obtain⟨hz,hTI,⟨a,b,hTO⟩,h1,h2⟩:=st
  obtain⟨xs,ys,x,y,hq1,hq2,hx,hy⟩:=hg
  obtain⟨its1,rv1,p1⟩:=I.Eh hq1
  obtain⟨its2,rv2,p2⟩:=I.Eh hq2
  obtain⟨u1,hu1,ru1⟩:=rv1.get hx
  obtain⟨u2,hu2,ru2⟩:=rv2.get hy
  refine qM D (λA hh=>tq (isL:=b1) hh i1 l1 D.l1i1 its1.toArray) (λA hh=>tq (isL:=b2) hh i2 l2 D.l2i2 its2.toArray) (I.ok.hd hc) hz hTI hTO ⟨h1,p1⟩ ⟨h2,p2⟩ (x:=u1) (y:=u2) (by simpa using hu1) (by simpa using hu2) λh' a1 a2 a3 a4 a5 a6 a7=>?_
  refine⟨_,rfl,wpAny_letOwnedTupleGo_zip a1 λh'' z2 sb=>?_⟩
  have zlt:z<s.heap.objs.size:=Heap.lt_size hz
  have up:∀c o,c≠z->h'.get? c=some o->h''.get? c=some o:=λc o c1 q=>sb.extBut _ _ c1 q
  have I':=I.Et (h':=h'') (t':=s.toks) (ch:=[z,TI,TO,i1,i2]) (T:=s.heap.objs.size) (u1:=u1) (u2:=u2) (x:=x) (y:=y)
   (λb o hb e=>by
    simp only[List.mem_cons,List.not_mem_nil,or_false,not_or] at hb
    exact up b o hb.1 (a7 b o hb.1 hb.2.2.1 hb.2.2.2.1 hb.2.2.2.2 e)) hf (Nat.le_refl _) (up _ _ (Nat.ne_of_gt zlt) a5) ru1 ru2
  refine⟨.ref s.heap.objs.size,_,I',rfl,⟨_,x,y,I.fresh,rfl,rfl,λzs hz'=>by rw[I.yL hz' hq1];exact hx,λzs hz'=>by rw[I.yL hz' hq2];exact hy⟩,
   ⟨z2,up _ _ D.TIz (a7 _ _ D.TIz D.TITO D.TIi1 D.TIi2 hTI),⟨_,_,up _ _ D.TOz a2⟩,a3.1.keep λo e=>up _ _ D.i1z e,a4.1.keep λo e=>up _ _ D.i2z e⟩,λb hb=>?_⟩
  have hfb:=(hf b hb).1
  rw[aN]
  ·exact hfb
  ·intro e
   have lt:b<s.heap.objs.size:=by
    simp only[List.mem_cons,List.not_mem_nil,or_false] at hb
    rcases hb with rfl|rfl|rfl|rfl|rfl
    ·exact zlt
    ·exact Heap.lt_size hTI
    ·exact Heap.lt_size hTO
    ·obtain⟨o,e,_⟩:=h1.obj;exact Heap.lt_size e
    ·obtain⟨o,e,_⟩:=h2.obj;exact Heap.lt_size e
   rw[e] at lt
   exact Nat.lt_irrefl _ lt
 done:=by
  intro X hP hw hK hc i pins s σ H E I hf st hg
  subst hP hw hK
  obtain⟨hz,hTI,⟨a,b,hTO⟩,h1,h2⟩:=st
  obtain⟨xs,ys,hq1,hq2,hend⟩:=hg
  obtain⟨its1,rv1,p1⟩:=I.Eh hq1
  obtain⟨its2,rv2,p2⟩:=I.Eh hq2
  have e1:=rv1.length
  have e2:=rv2.length
  refine qp D (λA hh=>tq (isL:=b1) hh i1 l1 D.l1i1 its1.toArray) (λA hh=>tq (isL:=b2) hh i2 l2 D.l2i2 its2.toArray) (I.ok.hd hc) hz hTI hTO ⟨h1,p1⟩ ⟨h2,p2⟩ ?_ λh' hk=>⟨rfl,I.Es (t':=s.toks) (ch:=[z,TI,TO,i1,i2]) (λb o hb e=>?_) hf⟩
  ·rcases hend with q|q
   ·left;simp only[List.getElem?_toArray];rw[List.getElem?_eq_none_iff] at q ⊢;omega
   ·right;simp only[List.getElem?_toArray];rw[List.getElem?_eq_none_iff] at q ⊢;omega
  ·simp only[List.mem_cons,List.not_mem_nil,or_false,not_or] at hb
   exact hk b o hb.1 hb.2.2.1 hb.2.2.2.1 hb.2.2.2.2 e
 self:=λ_ _ _ _ _ st h=>wpAny_pyIter_zip st.1 h
theorem boot_zip:bootBuiltins "zip"=some (.type "zip"):=by decide +kernel
theorem BE {isL:Bool}{l:Addr}{xs:Array Value}:vy (.ref l) (bT isL l) (km isL l xs):=by
 intro prog w A s Q E h q
 cases isL with
 |true=>exact wpAny_pyIter_list (show s.heap.IsList l xs from h) q
 |false=>exact wpAny_pyIter_tuple (show s.heap.IsTuple l xs from h) q
theorem km.push {isL:Bool}{l:Addr}{xs:Array Value}{h:Heap}(q:km isL l xs h)(o:Obj):km isL l xs (h.push o):=by
 cases isL with
 |true=>exact Heap.IsList.push q o
 |false=>obtain⟨ob,e,r⟩:=(show h.IsTuple l xs from q);exact⟨ob,Heap.get?_push_of_some _ e,r⟩
theorem km.lt {isL:Bool}{l:Addr}{xs:Array Value}{h:Heap}(q:km isL l xs h):l<h.objs.size:=by
 cases isL with
 |true=>obtain⟨ob,e,r⟩:=(show h.IsList l xs from q);exact Heap.lt_size e
 |false=>obtain⟨ob,e,r⟩:=(show h.IsTuple l xs from q);exact Heap.lt_size e
theorem FL {isL:Bool}{i l:Addr}{h:Heap}(e:h.get? i=some (bT isL l)):pA isL i l 0 h:=by
 cases isL with
 |true=>exact⟨_,e,rfl,rfl⟩
 |false=>exact⟨_,e,rfl,rfl⟩
theorem yj {prog:Program}{w:World}{A:Around}{E:Value->Shared->Prop}{s:Shared}{Q:Value->Shared->Prop}{b1 b2:Bool}{l1 l2:Addr}{xs ys:Array Value}(h1:km b1 l1 xs s.heap)(h2:km b2 l2 ys s.heap)
  (h:∀h',IsZip h' (s.heap.objs.size+4) (s.heap.objs.size+2) (s.heap.objs.size+3) .none->IsPair h' (s.heap.objs.size+2) (.ref s.heap.objs.size) (.ref (s.heap.objs.size+1)) ->
   IsPair h' (s.heap.objs.size+3) .none .none->pA b1 s.heap.objs.size l1 0 h'->pA b2 (s.heap.objs.size+1) l2 0 h'->h'.objs.size=s.heap.objs.size+5 ->
   (∀c o,s.heap.get? c=some o->h'.get? c=some o)->Q (.ref (s.heap.objs.size+4)) { s with heap:=h' }):wpAny (model prog w) A (call (.type "zip") [.ref l1,.ref l2]) Q E s:=by
 refine callType_new F.called_zip (by decide) (F.typeCall_zip_2 _ _) (F.newCall_zip_2 _ _) (λobj=>F.args_object_init_3 obj _ _) F.entry_zip_new (zL (.ref l1) (.ref l2) (bT b1 l1) (bT b2 l2) (BE (xs:=xs)) (BE (xs:=ys))) ⟨h1,h2.push _,?_⟩
 have z1:(Ko s.heap (bT b1 l1)).objs.size=s.heap.objs.size+1:=Heap.size_push ..
 have z2:(Kp s.heap (bT b1 l1) (bT b2 l2)).objs.size=s.heap.objs.size+2:=by rw[Heap.size_push,z1]
 have z3:(Kq s.heap (bT b1 l1) (bT b2 l2)).objs.size=s.heap.objs.size+3:=by rw[Heap.size_push,z2]
 have z4:(Kr s.heap (bT b1 l1) (bT b2 l2)).objs.size=s.heap.objs.size+4:=by rw[Heap.size_push,z3]
 have z5:(IP s.heap (bT b1 l1) (bT b2 l2)).objs.size=s.heap.objs.size+5:=by rw[Heap.size_push,z4]
 have f1:(bT b1 l1).isFreed=false:=by cases b1<;>rfl
 have f2:(bT b2 l2).isFreed=false:=by cases b2<;>rfl
 have g5:(IP s.heap (bT b1 l1) (bT b2 l2)).get? (Kr s.heap (bT b1 l1) (bT b2 l2)).objs.size=some _:=Heap.get?_push_size _ rfl
 have g4:(IP s.heap (bT b1 l1) (bT b2 l2)).get? (Kq s.heap (bT b1 l1) (bT b2 l2)).objs.size=some _:=Heap.get?_push_of_some _ (Heap.get?_push_size _ rfl)
 have g3:(IP s.heap (bT b1 l1) (bT b2 l2)).get? (Kp s.heap (bT b1 l1) (bT b2 l2)).objs.size=some _:=Heap.get?_push_of_some _ (Heap.get?_push_of_some _ (Heap.get?_push_size _ rfl))
 have g2:(IP s.heap (bT b1 l1) (bT b2 l2)).get? (Ko s.heap (bT b1 l1)).objs.size=some (bT b2 l2):=Heap.get?_push_of_some _ (Heap.get?_push_of_some _ (Heap.get?_push_of_some _ (Heap.get?_push_size _ f2)))
 have g1:(IP s.heap (bT b1 l1) (bT b2 l2)).get? s.heap.objs.size=some (bT b1 l1):=Heap.get?_push_of_some _ (Heap.get?_push_of_some _ (Heap.get?_push_of_some _ (Heap.get?_push_of_some _ (Heap.get?_push_size _ f1))))
 show _/\_
 rw[z2,z3,z4] at g5
 rw[z1,z2] at g3
 rw[z3] at g4
 rw[z1] at g2
 rw[z4]
 exact⟨⟨_,g5,rfl⟩,h _ g5 g3 g4 (FL g1) (FL g2) z5 λc o q=>Heap.get?_push_of_some _ (Heap.get?_push_of_some _ (Heap.get?_push_of_some _ (Heap.get?_push_of_some _ (Heap.get?_push_of_some _ q))))⟩
theorem z_ {n l1 l2:Nat}(h1:l1<n)(h2:l2<n):ZipApart (n+4) (n+2) (n+3) n (n+1) l1 l2:=by
 constructor<;>(show¬(_:Nat)=_)<;>omega
section
variable {X:Cx}{e1 e2:Expr}{ta:TA}{p pos tp:Pos}{elts:List Expr}{c:Nat}
def LA (K:PySem.W.Frag)(ta:TA):TI:=λσ H R=>ta σ H λvs H1=>∃b1 b2 l1 l2 xs ys,vs=[.ref l1,.ref l2]/\vp K b1 H1 l1 xs/\vp K b2 H1 l2 ys/\R (Ku K b1 b2 l1 l2) H1
theorem Hc (hg:Gl X "zip")(hm:X.mg "zip"=none)(ha:PA X [e1,e2] ta)(hs:starEach [e1,e2] X.env=[(false,eval e1 X.env),(false,eval e2 X.env)]:=by rfl)(hs2:starEach [e2] X.env=[(false,eval e2 X.env)]:=by rfl) :
  PI X (.Tuple elts c tp) (.Call (.Name "zip" p) [e1,e2] [] pos) (LA X.K ta):=by
 intro pins s σ H R I h
 refine Call_ (nV I hg hm boot_zip (PyProof.Rows.callWith_type1 (br (ha pos pins s σ H _ I h) λus s1 ⟨vs,H1,I1,r1,q1⟩=>?_) (by rw[hs,hs2]) (by rw[hs2];rfl)))
 obtain⟨b1,b2,l1,l2,xs,ys,e,hq1,hq2,q⟩:=q1
 subst e
 obtain⟨u,w',rfl,z1,z2⟩:=vals2 r1
 cases(show u=Value.ref l1 from z1)
 cases(show w'=Value.ref l2 from z2)
 obtain⟨its1,rv1,p1⟩:=I1.Eh hq1
 obtain⟨its2,rv2,p2⟩:=I1.Eh hq2
 refine yj p1 p2 λh' a1 a2 a3 a4 a5 a6 a7=>wpAny_pyIter_zip a1 ?_
 have I2:Inv X pins σ H1 { s1 with heap:=h' }:=I1.kept (t':=s1.toks) a7
 refine⟨_,[s1.heap.objs.size+4,s1.heap.objs.size+2,s1.heap.objs.size+3,s1.heap.objs.size,s1.heap.objs.size+1],_,_,H1,rfl,I2,Ca (z_ p1.lt p2.lt),⟨a1,a2,⟨_,_,a3⟩,a4,a5⟩,λb hb=>?_,q⟩
 have hb':s1.heap.objs.size<=b:=by
  simp only[List.mem_cons,List.not_mem_nil,or_false] at hb
  rcases hb with rfl|rfl|rfl|rfl|rfl
  ·exact Nat.le_add_right _ _
  ·exact Nat.le_add_right _ _
  ·exact Nat.le_add_right _ _
  ·exact Nat.le_refl _
  ·exact Nat.le_add_right _ _
 exact I1.DG hb' (I1.bg.fresh hb')
end
end L2
namespace DC
open PySem PySem.Spec PyProof.Rows L2
section
variable {X:Cx}{e1 e2:Expr}{ta:AD}{p pos tp:Pos}{elts:List Expr}{c:Nat}
def Hr:D->Option (Bool × List D)
 |.lst xs=>some (true,xs)
 |.tup xs=>some (false,xs)
 |_=>none
def Kz (ta:AD):AD:=λδ Q=>ta δ λds=>∃d e b1 b2 xs ys,ds=[d,e]/\Hr d=some (b1,xs)/\Hr e=some (b2,ys)/\Q (List.zipWith (λx y=>.tup [x,y]) xs ys)
theorem Dv.Eh {K:PySem.W.Frag}{H:Hp}{v:V}{d:D}{b:Bool}{ds:List D}(h:Dv K H v d)(e:Hr d=some (b,ds)):∃l xs,v=.ref l/\vp K b H l xs/\bN K H xs ds:=by
 cases h with
 |lst h1 h2=>cases e;exact⟨_,_,rfl,h1,h2⟩
 |tup h1 h2=>cases e;exact⟨_,_,rfl,h1,h2⟩
 |_=>cases e
theorem hX {K:PySem.W.Frag}{H H':Hp}{b:Bool}{l:Addr}{xs:List V}(s:aJ H H')(h:vp K b H l xs):vp K b H' l xs:=by
 cases b with
 |true=>exact s.seq h
 |false=>exact qN s h
theorem Gb {K:PySem.W.Frag}{H:Hp}{b1 b2:Bool}{l1 l2:Addr}{xs ys:List V}{ds es:List D}(h1:vp K b1 H l1 xs)(h2:vp K b2 H l2 ys)(d1:bN K H xs ds)(d2:bN K H ys es) :
  Fw K (Ku K b1 b2 l1 l2) H (List.zipWith (λx y=>.tup [x,y]) ds es):=by
 have hl:(List.zipWith (λx y=>D.tup [x,y]) ds es).length=min ds.length es.length:=List.length_zipWith
 refine⟨λi H' s' hi=>?_,λH' s'=>⟨xs,ys,hX s' h1,hX s' h2,?_⟩,λi H' x H'' s' hi y=>?_⟩
 ·rw[hl] at hi
  obtain⟨v1,g1,_⟩:=d1.get (List.getElem?_eq_getElem (show i<ds.length by omega))
  obtain⟨v2,g2,_⟩:=d2.get (List.getElem?_eq_getElem (show i<es.length by omega))
  exact⟨xs,ys,v1,v2,hX s' h1,hX s' h2,g1,g2⟩
 ·rw[hl,List.getElem?_eq_none_iff,List.getElem?_eq_none_iff,d1.length,d2.length]
  omega
 ·obtain⟨q,u,v,hn,rfl,rfl,y1,y2⟩:=y
  obtain⟨a1,g1,v1⟩:=d1.A7 (y1 _ (hX s' h1))
  obtain⟨a2,g2,v2⟩:=d2.A7 (y2 _ (hX s' h2))
  have hnH:H q=none:=s'.free hn
  refine⟨af hn,.tup [a1,a2],by rw[List.getElem?_zipWith,g1,g2],upd H q (.tup [u,v]),af hnH,.tup (iz.of aM) (.cons (v1.same (af hnH)) (.cons (v2.same (af hnH)) .nil)),λa o z=>?_,λa o z=>?_⟩
  ·by_cases ha:a=q
   ·rw[ha];exact .inr hn
   ·rw[aN ha] at z;exact .inl z
  ·by_cases ha:a=q
   ·rw[ha] at z ⊢;rw[aM] at z ⊢;exact z
   ·rw[aN ha] at z ⊢;exact s' _ _ z
theorem JJ (hg:Gl X "zip")(hm:X.mg "zip"=none)(ha:nB X [e1,e2] ta)(hs:starEach [e1,e2] X.env=[(false,eval e1 X.env),(false,eval e2 X.env)]:=by rfl)(hs2:starEach [e2] X.env=[(false,eval e2 X.env)]:=by rfl) :
  PId X (.Tuple elts c tp) (.Call (.Name "zip" p) [e1,e2] [] pos) (Kz ta):=by
 refine⟨PI.imp (Hc hg hm ha.pa hs hs2) λσ H R ⟨δ,r,h⟩=>⟨δ,r,ha.mono _ _ _ (λds ⟨d,e,b1,b2,xs,ys,ed,s1,s2,q⟩ vs H1 sm dvs=>?_) h⟩,λδ P P' g h=>ha.mono _ _ _ (λds ⟨d,e,b1,b2,xs,ys,ed,s1,s2,q⟩=>⟨d,e,b1,b2,xs,ys,ed,s1,s2,g _ q⟩) h⟩
 subst ed
 cases dvs with
 |cons a r =>
  cases r with
  |cons b r =>
   cases r
   obtain⟨l1,us,rfl,g1,v1⟩:=a.Eh s1
   obtain⟨l2,ws,rfl,g2,v2⟩:=b.Eh s2
   exact⟨b1,b2,l1,l2,us,ws,rfl,g1,g2,q _ H1 sm (Gb g1 g2 v1 v2)⟩
end
def xS (caps:List Nat)(ti:AD)(tt:TD)(te:ED):ED:=λδ Q=>ti δ λds=>∃outs:List (Option D),outs.length=ds.length /\
 (∀(i:Nat) (d:D) (o:Option D),ds[i]?=some d->outs[i]?=some o->∃x y,d=.tup [x,y]/\tt (some x::some y::iu caps δ) λb=>b=o.isSome/\(b=true->te (some x::some y::iu caps δ) λr=>o=some r))/\ds.length<sizeLine/\Q (.lst (outs.filterMap id))
theorem Gn {r:L2.St}{x y:Option V}:Le (none::none::r) (x::y::r):=⟨rfl,λi v h=>by
 cases i with
 |zero=>cases h
 |succ i =>
  cases i with
  |zero=>cases h
  |succ i=>exact h⟩
theorem vQ {K:PySem.W.Frag}{H:Hp}{σ:L2.St}{δ:SD}(r:bX K H σ δ){x:V}{d:D}(dv:Dv K H x d):bX K H (some x::σ) (some d::δ):=by
 refine⟨by rw[List.length_cons,List.length_cons,r.len],λi e h=>?_⟩
 cases i with
 |zero=>simp at h;subst h;exact⟨x,rfl,dv⟩
 |succ i=>simpa using r.get i e (by simpa using h)
theorem AU {K:PySem.W.Frag}{H:Hp}{σ:L2.St}{δ:SD}(r:bX K H σ δ)(caps:List Nat):bX K H (caps.map λj=>(σ[j]?).getD none) (iu caps δ):=by
 have q:=oz r (Dv.ag) caps
 refine⟨by simpa using q.len,λi d h=>?_⟩
 simpa using q.get (i+1) d (by simpa using h)
theorem yk {K:PySem.W.Frag}{caps:List Nat}{ti:AD}{tt:TD}{te:ED}(mi:kl ti)(mt:fF tt)(me:bO te){σ:L2.St}{H:Hp}{Q:VK}(h:oE K (xS caps ti tt te) σ H Q) :
  rQ 2 caps (λσ H R=>∃ δ,bX K H σ δ/\ti δ λds=>∀J H1,aJ H H1->Fw K J H1 ds->R J H1) (GX K 2 (uh (fK 0) (uh (fK 1) GW))) (qe (oT K tt)) (qb (oE K te)) σ H Q:=by
 obtain⟨δ,r,h⟩:=h
 refine⟨δ,r,mi _ _ _ (λds ⟨outs,hol,each,hlen,q⟩ J H1 s1 it D hD=>?_) h⟩
 refine⟨λi m ys H'=>m=ds.length - i/\i<=ds.length/\∃H0,H0 D=none/\aJ H1 H0/\bN K H0 ys ((outs.take i).filterMap id)/\H'=upd H0 D (.lst ys),⟨ds.length,rfl,Nat.zero_le _,H1,hD,aJ.refl _,.nil,rfl⟩,?_⟩
 rintro i m ys H' ⟨rfl,hle,H0,h0,s0,dys,rfl⟩
 refine⟨aM,?_⟩
 have sU:aJ H1 (upd H0 D (.lst ys)):=s0.trans (af h0)
 by_cases hlt:i<ds.length
 ·refine .inr ⟨it.go i _ sU hlt,λx H'' y=>?_⟩
  obtain⟨s2,d,hd,Hx,sx1,dvx,only,sx⟩:=it.AH i _ x H'' sU hlt y
  have hD2:H'' D=some (.lst ys):=s2 _ _ aM
  have ne1:∀a o,H1 a=some o->a≠D:=λa o z=>ah z hD
  have nex:∀a o,Hx a=some o->a≠D:=λa o z w=>by
   rcases only a o z with z1|z1
   ·exact ne1 a o z1 w
   ·rw[w,aM] at z1;cases z1
  have sd1:aJ H0 (del H'' D):=λa o z=>by
   rw[fq (ah z h0)]
   exact s2 a o (af h0 a o z)
  have sdx:aJ Hx (del H'' D):=λa o z=>by
   rw[fq (nex a o z)]
   exact sx a o z
  obtain⟨o,ho⟩:∃o,outs[i]?=some o:=⟨_,List.getElem?_eq_getElem (show i<outs.length by omega)⟩
  obtain⟨d1,d2,ed,eachd⟩:=each i d o hd ho
  have dvx':=ed ▸ dvx
  cases dvx' with
  |tup g1 g2 =>
   cases g2 with
   | @cons v1 _ _ _ w1 g2 =>
    cases g2 with
    | @cons v2 _ _ _ w2 g2 =>
     cases g2
     have rel:bX K (del H'' D) (some v1::some v2::caps.map λj=>(σ[j]?).getD none) (some d1::some d2::iu caps δ):=vQ (vQ (AU (r.same (s1.trans (s0.trans sd1))) caps) (w2.same sdx)) (w1.same sdx)
     refine⟨_,[v1,v2],rfl,qN sx g1,rfl,v1,[v2],rfl,v2,[],rfl,rfl,Gn,D,ys,hD2,_,rel,mt _ _ _ (λb ⟨eb,hb⟩ H3 s3 h3=>?_) eachd⟩
     have ht:outs.take (i+1)=outs.take i++[o]:=by rw[List.take_succ,ho];rfl
     have s03:aJ H0 H3:=sd1.trans s3
     cases b with
     |false =>
      refine aO ?_
      refine⟨ds.length - (i+1),by omega,rfl,hlt,H3,h3,s0.trans s03,?_,rfl⟩
      have on:o=none:=by cases o with|none=>rfl|some z=>cases eb
      rw[ht,on,List.filterMap_append]
      simpa using dys.same s03
     |true =>
      refine aR ?_
      refine⟨D,ys,aM,?_⟩
      rw[o4 h3]
      refine⟨_,rel.same s3,me _ _ _ (λy ey v H4 s4 dv h4=>⟨aM,?_,ds.length - (i+1),by omega,rfl,hlt,H4,h4,s0.trans (s03.trans s4),?_,m6⟩) (hb rfl)⟩
      ·rw[dys.length]
       exact Nat.lt_of_le_of_lt (Nat.le_trans (List.length_filterMap_le _ _) (List.length_take_le' _ _)) (by rw[hol];exact hlen)
      ·rw[ht,ey,List.filterMap_append]
       exact(dys.same (s03.trans s4)).append (.cons dv .nil)
 ·have e:i=ds.length:=by omega
  subst e
  refine .inl ⟨it.stop _ sU,?_⟩
  rw[<- hol,List.take_length] at dys
  exact q _ _ (s1.trans sU) (.lst (fG.of aM) (dys.same (af h0)))
section
variable {X:Cx}{scope:Scope}{cl:List (Str × Addr)}{x y:Str}{cn:List Str}{caps:List Nat}{elt tg iter:Expr}{ifs:List Expr}{ti:AD}{tt:TD}{te:ED}{pos px py tp:Pos}{c:Nat}
theorem Dc (mi:kl ti):bO (xS caps ti tt te):=λδ P P' g h=>mi _ _ _ (λds ⟨outs,hol,each,hlen,q⟩=>⟨outs,hol,each,hlen,g _ q⟩) h
theorem Im (S:bQ X scope cl [x,y] caps cn)(hc:X.calm=true)(hi:PId X (.Tuple [.Name x px,.Name y py] c tp) iter ti)
  (hg:∀C fp s₂ H₂,PG (ao X scope cl C ([x,y]++cn) fp s₂ H₂) (.Tuple [.Name x px,.Name y py] c tp) (GX X.K 2 (uh (fK 0) (uh (fK 1) GW))))
  (ht:∀C fp s₂ H₂,ql (ao X scope cl C ([x,y]++cn) fp s₂ H₂) ifs tt)(he:∀C fp s₂ H₂,PD (ao X scope cl C ([x,y]++cn) fp s₂ H₂) elt te)(hs:∀x,foldedSetIterable iter X.env x=pure x:=by intro _;rfl) :
  PD X (.ListComp elt [⟨.Tuple [.Name x px,.Name y py] c tp,iter,ifs,0⟩] scope pos) (xS caps ti tt te) :=
 ⟨(tP S hc hi.pi hg (λC fp s₂ H₂=>eF (ht C fp s₂ H₂).IV) (λC fp s₂ H₂=>fc (he C fp s₂ H₂).pe) hs).imp λσ H Q h=>yk hi.mono (ht 0 [] X.s₀ X.H₀).mono (he 0 [] X.s₀ X.H₀).mono h,Dc hi.mono⟩
end
section
variable {K:PySem.W.Frag}{H H':Hp}{μ μ':Mu}{L L':List Addr}
theorem dS.join (g:dS K H μ L)(g':dS K H' μ' L')(z:∀b∈L,H' b=none)(s:aJ (aS H L) (aS H' L')):dS K (bC H' H L) (μ'++μ) (L'++L)/\aS (bC H' H L) (L'++L)=aS H' L':=by
 have nL:∀{b:Addr} {o:HO},H' b=some o->b∉L:=λe hb=>by rw[z _ hb] at e;cases e
 have e:aS (bC H' H L) (L'++L)=aS H' L':=by
  funext b
  by_cases h1:b∈L'
  ·rw[cI (List.mem_append_left _ h1),cI h1]
  ·by_cases h2:b∈L
   ·rw[cI (List.mem_append_right _ h2),bG h1,z b h2]
   ·rw[bG (λq=>(List.mem_append.mp q).elim h1 h2),bG h1,aV h2]
 refine⟨⟨λp hp=>?_,?_,λb hb=>?_,λb hb=>?_⟩,e⟩
 ·rcases List.mem_append.mp hp with hp|hp
  ·obtain⟨h1,h2⟩:=g'.at_ p hp
   refine⟨List.mem_append_left _ h1,?_⟩
   obtain⟨b,m⟩:=p
   cases m with
   |lst ds=>obtain⟨ws,h,d⟩:=h2;exact⟨ws,by rw[aV (nL h)];exact h,by rw[e];exact d⟩
   |ins C gs=>obtain⟨dx,fs,h,h2,h3,d⟩:=h2;exact⟨dx,fs,by rw[aV (nL h)];exact h,by rw[aV (nL h2)];exact h2,List.mem_append_left _ h3,by rw[e];exact d⟩
   |dK kvs=>obtain⟨ws,h,d⟩:=h2;exact⟨ws,by rw[aV (nL h)];exact h,by rw[e];exact d⟩
   |dT kvs=>obtain⟨ws,h,d⟩:=h2;exact⟨ws,by rw[aV (nL h)];exact h,by rw[e];exact d⟩
  ·obtain⟨h1,h2⟩:=g.at_ p hp
   refine⟨List.mem_append_right _ h1,?_⟩
   obtain⟨b,m⟩:=p
   cases m with
   |lst ds=>obtain⟨ws,h,d⟩:=h2;exact⟨ws,by rw[aY h1];exact h,by rw[e];exact bN.same s d⟩
   |ins C gs=>obtain⟨dx,fs,h,h2,h3,d⟩:=h2;exact⟨dx,fs,by rw[aY h1];exact h,by rw[aY h3];exact h2,List.mem_append_right _ h3,by rw[e];exact iy.same s d⟩
   |dK kvs=>obtain⟨ws,h,d⟩:=h2;exact⟨ws,by rw[aY h1];exact h,by rw[e];exact ee.same s d⟩
   |dT kvs=>obtain⟨ws,h,d⟩:=h2;exact⟨ws,by rw[aY h1];exact h,by rw[e];exact vt.same s d⟩
 ·rw[List.map_append,List.nodup_append]
  refine⟨g'.AF,g.AF,λa ha b hb hab=>?_⟩
  obtain⟨p,hp,rfl⟩:=List.mem_map.mp ha
  obtain⟨q,hq,rfl⟩:=List.mem_map.mp hb
  obtain⟨o,ho⟩:=(g'.da _ (g'.at_ p hp).1).there
  rw[show p.1=q.1 from hab,z _ (g.at_ q hq).1] at ho
  cases ho
 ·rcases List.mem_append.mp hb with hb|hb
  ·have w:=g'.da b hb
   cases w with
   |lst xs h=>exact .lst xs (by rw[aV (nL h)];exact h)
   |dK xs h=>exact .dK xs (by rw[aV (nL h)];exact h)
   |ext φ h hc=>exact .ext φ (by rw[aV (nL h)];exact h) hc
   |ins C dx fs h hd=>exact .ins C dx fs (by rw[aV (nL h)];exact h) (List.mem_append_left _ hd)
   |own C c fs h hc hi=>exact .own C c fs (by rw[aV (nL h)];exact h) (List.mem_append_left _ hc) (by rw[aV (nL hi)];exact hi)
  ·have w:=g.da b hb
   cases w with
   |lst xs h=>exact .lst xs (by rw[aY hb];exact h)
   |dK xs h=>exact .dK xs (by rw[aY hb];exact h)
   |ext φ h hc=>exact .ext φ (by rw[aY hb];exact h) hc
   |ins C dx fs h hd=>exact .ins C dx fs (by rw[aY hb];exact h) (List.mem_append_right _ hd)
   |own C c fs h hc hi=>exact .own C c fs (by rw[aY hb];exact h) (List.mem_append_right _ hc) (by rw[aY hc];exact hi)
 ·rcases List.mem_append.mp hb with hb|hb
  ·rcases g'.GB b hb with⟨m,h⟩|⟨c,h⟩
   ·exact .inl ⟨m,List.mem_append_left _ h⟩
   ·exact .inr ⟨c,by rw[aV (nL h)];exact h⟩
  ·rcases g.GB b hb with⟨m,h⟩|⟨c,h⟩
   ·exact .inl ⟨m,List.mem_append_right _ h⟩
   ·exact .inr ⟨c,by rw[aY hb];exact h⟩
end
abbrev EF:=SD->(D->Mu->Prop)->Prop
def kF (K:PySem.W.Frag)(H:Hp)(Q:VK):D->Mu->Prop:=λd μ=>∀v H' L',aJ H (aS H' L')->dS K H' μ L'->Dv K (aS H' L') v d->Q v H'
structure PF (X:Cx) (e:Expr) (t:EF):Prop where
 pe:PE X e (λσ H Q=>∃ δ,bX X.K H σ δ/\t δ (kF X.K H Q))
 mono:∀ δ (P P':D->Mu->Prop),(∀d μ,P d μ->P' d μ)->t δ P->t δ P'
section
variable {P:Program}{w:World}{K:PySem.W.Frag}{mg:Str->Option Value}{base:Heap}
end
section
variable {X:Cx}{o e:Expr}{es:List Expr}{ta:ED}{t:AD}{tf:EF}{j k:Nat}{x m:Str}{ps:List Str}{sd:MJ}{sm:Addr->MJ}{ok:Addr->Prop}{p pos pos' apos:Pos}{i:Nat}
end
inductive nA:List (Str × V)->List DictEntry->Prop
 |nil:nA [] []
 |cons {x:Str} {t:Tok} {v:V} {e:DictEntry} {kvs:List (Str × V)} {es:List DictEntry}:e.key=.str x t->RelV v e.val->nA kvs es->nA ((x,v)::kvs) (e::es)
structure KTab (w:World) (K:PySem.W.Frag) (a:Addr) (kvs:List (Str × V)):Prop where
 ex:∃(es:Array DictEntry) (n:Nat),K.lookup a=some ⟨.type "dict",none,.dict es n,#[]⟩/\PySem.W.KeysLit w.params es.toList/\nA kvs es.toList
 sys:(a == sysModules)=false
theorem nA.has {x:Str}:∀{kvs:List (Str × V)} {es:List DictEntry},nA kvs es->((es.find? λd=>Value.isStrOf x d.key).map (·.val)).isSome=kvs.any λp=>p.1 == x
 |_,_,.nil=>rfl
 |_,_,.cons (x:=y) (e:=e) hk hv r=>by
  have ih:=nA.has (x:=x) r
  rw[List.find?_cons,hk,List.any_cons]
  show(Option.map (·.val) (match (y == x) with|true=>some e|false=>_)).isSome=(y == x||_)
  cases h:(y == x) with
  |true=>rfl
  |false=>exact ih
theorem nA.get {x:Str}{v:V}:∀{kvs:List (Str × V)} {es:List DictEntry},nA kvs es->kvs.lookup x=some v->∃u,(es.find? λd=>Value.isStrOf x d.key).map (·.val)=some u/\RelV v u
 |_,_,.nil,h=>by cases h
 |_,_,.cons (x:=y) (e:=e) hk hv r,h=>by
  rw[List.lookup_cons] at h
  rw[List.find?_cons,hk]
  show ∃u,Option.map (·.val) (match (y == x) with|true=>some e|false=>_)=some u/\RelV v u
  rw[show(y == x)=(x == y) from Bool.beq_comm]
  cases q:(x == y) with
  |true=>rw[q] at h;cases h;exact⟨_,rfl,hv⟩
  |false=>rw[q] at h;exact nA.get r h
section
variable {X:Cx}{a:Addr}{kvs:List (Str × V)}
theorem HI (T:KTab X.w X.K a kvs):gU X (compareOp .In) (λx y H Q=>∃z,x=.str z/\y=.ref a/\Q (.bl (kvs.any λp=>p.1 == z)) H):=by
 intro pins s σ H x y v u Q I rx ry h
 obtain⟨z,rfl,rfl,q⟩:=h
 obtain⟨t,rfl⟩:=(show ∃t,v=Value.str z t from rx)
 cases(show u=Value.ref a from ry)
 obtain⟨es,n,hl,hk,he⟩:=T.ex
 refine wpAny_in_of (strKind_is X.prog X.w z t) T.sys (mapOf_K (prog:=X.prog) I.uE hl hk) ?_
 have e:(findBy Value.isStrOf es z).isSome=kvs.any λp=>p.1 == z:=by
  unfold findBy
  obtain⟨l⟩:=es
  rw[List.find?_toArray]
  exact he.has
 rw[e]
 exact⟨.bl _,H,I.tok _,rfl,q⟩
theorem zU (T:KTab X.w X.K a kvs):gU X (compareOp .NotIn) (λx y H Q=>∃z,x=.str z/\y=.ref a/\Q (.bl (!kvs.any λp=>p.1 == z)) H):=by
 intro pins s σ H x y v u Q I rx ry h
 obtain⟨z,rfl,rfl,q⟩:=h
 obtain⟨t,rfl⟩:=(show ∃t,v=Value.str z t from rx)
 cases(show u=Value.ref a from ry)
 obtain⟨es,n,hl,hk,he⟩:=T.ex
 refine wpAny_notIn_of (strKind_is X.prog X.w z t) T.sys (mapOf_K (prog:=X.prog) I.uE hl hk) ?_
 have e:(findBy Value.isStrOf es z).isSome=kvs.any λp=>p.1 == z:=by
  unfold findBy
  obtain⟨l⟩:=es
  rw[List.find?_toArray]
  exact he.has
 rw[e]
 exact⟨.bl _,H,I.tok _,rfl,q⟩
theorem DO (T:KTab X.w X.K a kvs):Ck X (λx y H Q=>∃z r,x=.ref a/\y=.str z/\kvs.lookup z=some r/\Q r H):=by
 intro value slice pins s σ H x y v u Q I rx ry h hs
 obtain⟨z,r,rfl,rfl,hr,q⟩:=h
 obtain⟨t,rfl⟩:=(show ∃t,u=Value.str z t from ry)
 cases(show v=Value.ref a from rx)
 obtain⟨es,n,hl,hk,he⟩:=T.ex
 have hm:=mapOf_K (prog:=X.prog) (w:=X.w) I.uE hl hk
 obtain⟨b,hb,rb⟩:=he.get hr
 have e:findBy Value.isStrOf es z=some b:=by
  unfold findBy
  obtain⟨l⟩:=es
  rw[List.find?_toArray]
  exact hb
 exact tail_any hm.typeIs slot_dict_getitem.lookup (wpAny_getItem_of (strKind_is X.prog X.w z t) hm e ⟨r,H,I.tok _,rb,q⟩) hs
end
inductive Tb (K:PySem.W.Frag):List (Str × V)->List (Str × D)->Prop
 |nil:Tb K [] []
 |cons {x:Str} {v:V} {d:D} {kvs:List (Str × V)} {tab:List (Str × D)}:(∀H,Dv K H v d)->Tb K kvs tab->Tb K ((x,v)::kvs) ((x,d)::tab)
structure Cm (w:World) (K:PySem.W.Frag) (mg:Str->Option Value) (x:Str) (a:Addr) (tab:List (Str × D)):Prop where
 at_:mg x=some (.ref a)
 ex:∃kvs,KTab w K a kvs/\Tb K kvs tab
theorem Tb.any {K:PySem.W.Frag}{z:Str}:∀{kvs:List (Str × V)} {tab:List (Str × D)},Tb K kvs tab->(kvs.any λp=>p.1 == z)=tab.any λp=>p.1 == z
 |_,_,.nil=>rfl
 |_,_,.cons h r=>by rw[List.any_cons,List.any_cons,Tb.any r]
theorem Tb.look {K:PySem.W.Frag}{z:Str}{d:D}:∀{kvs:List (Str × V)} {tab:List (Str × D)},Tb K kvs tab->tab.lookup z=some d->∃v,kvs.lookup z=some v/\∀H,Dv K H v d
 |_,_,.nil,h=>by cases h
 |_,_,.cons (x:=x) h r,e=>by
  rw[List.lookup_cons] at e ⊢
  cases q:z == x with
  |true=>rw[q] at e;cases e;exact⟨_,rfl,h⟩
  |false=>rw[q] at e;exact Tb.look r e
theorem PD.weak {X:Cx}{e:Expr}{t t':ED}(h:PD X e t)(m:bO t')(f:∀ δ Q,t' δ Q->t δ Q):PD X e t':=⟨h.pe.imp λσ H Q ⟨δ,r,q⟩=>⟨δ,r,f _ _ q⟩,m⟩
theorem m9.weak {X:Cx}{e:Expr}{t t':TD}(h:m9 X e t)(m:fF t')(f:∀ δ Q,t' δ Q->t δ Q):m9 X e t':=⟨PT.imp h.pt λσ H Q ⟨δ,r,q⟩=>⟨δ,r,f _ _ q⟩,m⟩
def II (neg:Bool)(tab:List (Str × D))(te:ED):ED:=λδ Q=>te δ λd=>∃z,d=.str z/\Q (.bl (if neg then !tab.any λp=>p.1 == z else tab.any λp=>p.1 == z))
theorem FR {neg:Bool}{tab:List (Str × D)}{te:ED}(m:bO te):bO (II neg tab te):=λδ P P' g h=>m _ _ _ (λd ⟨z,e,q⟩=>⟨z,e,g _ q⟩) h
def GS (neg:Bool)(a:Addr)(tab:List (Str × D)):F2:=λd e Q=>∃z,d=.str z/\e=.adr a/\Q (.bl (if neg then !tab.any λp=>p.1 == z else tab.any λp=>p.1 == z))
theorem BP {neg:Bool}{a:Addr}{tab:List (Str × D)}:d8 (GS neg a tab):=λd e P P' g ⟨z,e1,e2,q⟩=>⟨z,e1,e2,g _ q⟩
def KI (tab:List (Str × D))(te:ED):ED:=λδ Q=>te δ λd=>∃z r,d=.str z/\tab.lookup z=some r/\Q r
def FE (a:Addr)(tab:List (Str × D)):F2:=λe d Q=>∃z r,e=.adr a/\d=.str z/\tab.lookup z=some r/\Q r
theorem Dg {a:Addr}{tab:List (Str × D)}:d8 (FE a tab):=λd e P P' g ⟨z,r,e1,e2,l,q⟩=>⟨z,r,e1,e2,l,g _ q⟩
section
variable {X:Cx}{a:Addr}{tab:List (Str × D)}{kvs:List (Str × V)}{x:Str}{p pos:Pos}{e:Expr}{te:ED}
theorem Ap (t:Tb X.K kvs tab):gT X.K (λx y H Q=>∃z,x=.str z/\y=.ref a/\Q (.bl (kvs.any λp=>p.1 == z)) H) (GS false a tab):=by
 rintro H v u d e Q hv hu ⟨z,rfl,rfl,q⟩
 cases hv
 cases hu
 exact⟨z,rfl,rfl,by rw[t.any];exact q _ H (aJ.refl _) (.bl _)⟩
theorem ue (t:Tb X.K kvs tab):gT X.K (λx y H Q=>∃z,x=.str z/\y=.ref a/\Q (.bl (!kvs.any λp=>p.1 == z)) H) (GS true a tab):=by
 rintro H v u d e Q hv hu ⟨z,rfl,rfl,q⟩
 cases hv
 cases hu
 exact⟨z,rfl,rfl,by rw[t.any];exact q _ H (aJ.refl _) (.bl _)⟩
theorem yq (t:Tb X.K kvs tab):gT X.K (λx y H Q=>∃z r,x=.ref a/\y=.str z/\kvs.lookup z=some r/\Q r H) (FE a tab):=by
 rintro H v u d e Q hv hu ⟨z,r,rfl,rfl,l,q⟩
 cases hv
 cases hu
 obtain⟨b,hb,db⟩:=t.look l
 exact⟨z,b,rfl,rfl,hb,q _ H (aJ.refl _) (db H)⟩
theorem E_ (T:Cm X.w X.K X.mg x a tab)(hg:Gl X x)(he:PD X e te)(hm:behindInMarks .In (.Name x p)=false:=by rfl)(hd:(x == ("__debug__":Str))=false:=by decide):PD X (.Compare e [.In] [.Name x p] pos) (II false tab te):=by
 obtain⟨kvs,k,t⟩:=T.ex
 exact(pG (HI k) (Ap t) BP he (dD (v:=.ref a) hg T.at_ rfl (λ_=>.adr a) hd) hm).weak (FR he.mono) λδ Q h=>he.mono _ _ _ (λd ⟨z,e1,q⟩=>⟨z,e1,rfl,q⟩) h
theorem CO (T:Cm X.w X.K X.mg x a tab)(hg:Gl X x)(he:PD X e te)(hm:behindInMarks .NotIn (.Name x p)=false:=by rfl)(hd:(x == ("__debug__":Str))=false:=by decide):m9 X (.Compare e [.NotIn] [.Name x p] pos) (bK (II true tab te)):=by
 obtain⟨kvs,k,t⟩:=T.ex
 exact(m5 (zU k) (ue t) BP he (dD (v:=.ref a) hg T.at_ rfl (λ_=>.adr a) hd) hm).weak (BQ (FR he.mono)) λδ Q h=>he.mono _ _ _ (λd ⟨z,e1,q⟩=>⟨z,e1,rfl,q⟩) h
theorem Aa (T:Cm X.w X.K X.mg x a tab)(hg:Gl X x)(he:PD X e te)(hs:rm e)(hd:(x == ("__debug__":Str))=false:=by decide):PD X (.Subscript (.Name x p) e pos) (KI tab te):=by
 obtain⟨kvs,k,t⟩:=T.ex
 have q:=dD (X:=X) (pos:=p) (v:=.ref a) hg T.at_ rfl (λ_=>.adr a) hd
 exact(uQ (t:=oE X.K (vC (.adr a))) (Fc (DO k) q.pe he.pe hs) q.mono he.mono (yq t) Dg).weak (λδ P P' g h=>he.mono _ _ _ (λd ⟨z,r,e,l,q⟩=>⟨z,r,e,l,g _ q⟩) h) λδ Q h=>he.mono _ _ _ (λd ⟨z,r,e1,l,q⟩=>⟨z,r,rfl,e1,l,q⟩) h
end
def Iv (t:AD):EF:=λδ Q=>t δ λds=>ds.length<=sizeLine/\∀a,Q (.adr a) [(a,.lst ds)]
theorem A4 {X:Cx}{es:List Expr}{t:AD}{pos:Pos}(h:nB X es t):PF X (.List es pos) (Iv t):=by
 refine⟨(wt h.pa).imp λσ H Q ⟨δ,r,q⟩=>⟨δ,r,h.mono _ _ _ (λds ⟨hl,k⟩ vs H1 s1 dvs=>⟨by rw[dvs.length];exact hl,λp hp=>?_⟩) q⟩,λδ P P' g q=>h.mono _ _ _ (λds ⟨hl,k⟩=>⟨hl,λa=>g _ _ (k a)⟩) q⟩
 obtain⟨g2,e2⟩:=(dS.nil (K:=X.K) (H:=H1)).zS hp (ds:=ds) (by rw[bu];exact dvs)
 exact k p (.ref p) _ [p] (by rw[e2,bu];exact s1) g2 (.adr p)
def mO (g:D->D)(ds:List D):List (Option D):=ds.map λd=>some (g d)
theorem ph {g:D->D}{ds:List D}:(mO g ds).length=ds.length:=by simp[mO]
theorem u9 {g:D->D}{ds:List D}{i:Nat}{d:D}{o:Option D}(h1:ds[i]?=some d)(h2:(mO g ds)[i]?=some o):d∈ds/\o=some (g d):=by
 unfold mO at h2
 rw[List.getElem?_map,h1] at h2
 exact⟨List.mem_of_getElem? h1,by simpa using h2.symm⟩
theorem nZ {g:D->D}:∀{ds:List D},(mO g ds).filterMap id=ds.map g
 |[]=>rfl
 |d::ds=>by
  have ih:=nZ (g:=g) (ds:=ds)
  unfold mO at ih ⊢
  rw[List.map_cons,List.map_cons,<- ih]
  rfl
section
variable {X:Cx}{e:Expr}{tf:EF}{x:Str}{pos pos':Pos}{i:Nat}
def FQ (i:Nat)(tf:EF):fe:=λE δ μ=>tf δ λd μ'=>((μ'++μ).map (·.1)).Nodup->E.nx (δ.set i (some d)) (μ'++μ)
theorem x_ (hN:X.N.Nodup)(hi:X.N[i]?=some x)(hx:Loc X.env.scope x)(he:PF X e tf)(hs:swapsWith e (some (.Name x pos')) pos.line X.env=pure false:=by rfl)
  (hf:X.fn x=true\/X.env.scope.names.lookup x=some .local:=by first|exact .inl rfl|exact .inr rfl|assumption):rj X (.Assign [.Name x pos'] e pos) (FQ i tf):=by
 refine⟨PS.imp (tT hN hi hx (lu he.pe) hs hf) λD σ H ⟨δ,μ,L,r,g,h⟩=>⟨L,g.da,δ,r,he.mono _ _ _ (λd μ' k v H' L' s' g' dv z=>?_) h⟩,λE E' δ μ l h=>he.mono _ _ _ (λd μ' q n=>l.nx _ _ (q n)) h⟩
 obtain⟨g2,e2⟩:=g.join g' z s'
 refine k g2.AF _ _ (L'++L) (by rw[e2];exact s') ?_ g2
 rw[e2]
 exact(r.same s').set i dv
end
end DC
namespace L2
open PySem PySem.Spec PyProof.Rows
section
variable {X:Cx}{es:List Expr}{t:TA}
def MN (t:TA):TA:=λσ H Q=>∃L,(∀a∈L,dW H L a)/\t σ (aS H L) λvs H4=>(∀b∈L,H4 b=none)->Q vs (bC H4 H L)
theorem HP (ha:PA X es t):PA X es (MN t):=by
 intro pos pins s σ H Q I ⟨L,hL,q⟩
 refine nK I hL λpl I' _ back=>?_
 refine br (ha pos (pins++pl) s σ _ _ I' q) λv s1 ⟨vs,H4,I4,r,k⟩=>?_
 obtain⟨z,J⟩:=back _ _ _ I4
 exact⟨vs,_,J,r,k z⟩
end
end L2
namespace DC
open PySem PySem.Spec PyProof.Rows L2
abbrev Cy:=List D->Mu->(D->Mu->Prop)->Prop
abbrev v3 (sd:Cy):Prop:=∀ds μ (P P':D->Mu->Prop),(∀d μ,P d μ->P' d μ)->sd ds μ P->sd ds μ P'
def ME (K:PySem.W.Frag)(sd:Cy):Sp:=λvs H Q _=>∃ds μ L,bN K (aS H L) vs ds/\dS K H μ L/\sd ds μ (kR K H L Q)
section
variable {P:Program}{w:World}{K:PySem.W.Frag}{mg:Str->Option Value}{base:Heap}
theorem MW {x qual:Str}{st:Stmt}{f:Addr}{fd:FuncData}{N ps:List Str}{k:Nat}{sd:Cy}{t:fe}(F:vx K x qual st f fd)(S:aG N ps (aB st))(len:∀ds μ Q,sd ds μ Q->ds.length=ps.length)
  (hb:∀(cdv:Value) (A:Around) (outer:List Env) (s:Shared) (H:Hp) (E:XK),cA k (A.deeper (envOfC qual (aB st) s.heap.objs.size f cdv))->yW (Bx P w K mg base N qual st f cdv A outer s H E) (bF st) t)
  (hr:∀ds μ Q,sd ds μ Q->t { nx:=λ_ μ'=>Q .ag μ',rt:=Q } (dE N ds) μ):dB P w K mg base oy (k+1) f fd ps (ME K sd):=by
 refine F.ok S (λvs H Q E ⟨ds,μ,L,dvs,g,h⟩=>by rw[dvs.length];exact len ds _ _ h) (λcdv A outer s H vs Q E hroom ⟨ds,μ,L,dvs,g,h⟩=>?_)
 have B:=hb cdv A outer s H E hroom
 refine⟨_,B.ps,dE N ds,μ,L,kY dvs,g,?_⟩
 exact B.mono { nx:=λ_ μ'=>kR K H L Q .ag μ',rt:=kR K H L Q } _ _ _ ⟨λδ μ' q σ H' L' s' r g'=>q _ H' L' s' g' .ag,λd μ' q=>q,λ_ _ q=>q.elim,λ_ _ q=>q.elim⟩ (hr ds μ _ h)
end
structure Ct (P:Program) (w:World) (K:PySem.W.Frag) (mg:Str->Option Value) (base:Heap) (k:Nat) (x:Str) (ps:List Str) (sd:Cy):Prop where
 ex:∃f fd,dB P w K mg base oy k f fd ps (ME K sd)/\mg x=some (.ref f)/\keepIn K (.ref f)=true/\Binds K fd ps []
 ms:v3 sd
section
variable {P:Program}{w:World}{K:PySem.W.Frag}{mg:Str->Option Value}{base:Heap}
theorem Df.K1 {k:Nat}{x:Str}{st:Stmt}{ps N:List Str}{sd:Cy}{t:fe}(d:Df K mg x st ps)(S:aG N ps (aB st))(ms:v3 sd)(len:∀ds μ Q,sd ds μ Q->ds.length=ps.length)
  (hb:∀(f:Addr) (cdv:Value) (A:Around) (outer:List Env) (s:Shared) (H:Hp) (E:XK),cA k (A.deeper (envOfC x (aB st) s.heap.objs.size f cdv))->yW (Bx P w K mg base N x st f cdv A outer s H E) (bF st) t)
  (hr:∀ds μ Q,sd ds μ Q->t { nx:=λ_ μ'=>Q .ag μ',rt:=Q } (dE N ds) μ):Ct P w K mg base (k+1) x ps sd:=by
 obtain⟨f,fd,F,m,b⟩:=d.ex
 exact⟨⟨f,fd,MW F S len (hb f) hr,m,F.kp,b⟩,ms⟩
end
section
variable {X:Cx}{o e:Expr}{es:List Expr}{ta:ED}{t:AD}{j k:Nat}{x y m:Str}{ps:List Str}{sd:Cy}{sm:Addr->Cy}{ok:Addr->Prop}{p pos pos' pos2 apos:Pos}{i:Nat}
def Gr (sd:Cy)(t:AD):fe:=λE δ μ=>t δ λds=>sd ds μ λ_ μ'=>E.nx δ μ'
theorem BV (c:Ct X.prog X.w X.K X.mg X.base j x ps sd)(hr:cA k X.A)(hj:j<=k)(hg:Gl X x)(ha:nB X (e::es) t)(hdb:(x == ("__debug__":Str))=false:=by decide)
  (h1:starEach (e::es) X.env=(false,eval e X.env)::starEach es X.env:=by rfl)(h2:(backTo pos (starEach es X.env)).any (·.1)=false:=by rfl)
  (hs:swapsWith (.Call (.Name x p) (e::es) [] pos) none pos'.line X.env=pure false:=by rfl):rj X (.Expr (.Call (.Name x p) (e::es) [] pos) pos') (Gr sd t):=by
 obtain⟨f,fd,F,m,kp,b⟩:=c.ex
 refine⟨PS.imp (kQ (tO F (hr.mono hj) hg m kp b .nil vI (HP ha.pa) hdb h1 h2) hs) λD σ H ⟨δ,μ,L,r,g,h⟩=>⟨L,g.da,δ,r,ha.mono _ _ _ (λds q vs H1 s1 dvs z=>?_) h⟩,λE E' δ μ l h=>ha.mono _ _ _ (λds q=>c.ms _ _ _ _ (λ_ μ' q=>l.nx _ _ q) q) h⟩
 have e1:aS (bC H1 H L) L=H1:=b0 z
 refine⟨ds,μ,L,by rw[e1,List.append_nil];exact dvs,g.show z s1,c.ms _ _ _ _ (λd μ' k v H' L' s' g' dv=>?_) q⟩
 rw[e1] at s'
 exact k σ H' L' (s1.trans s') (r.same (s1.trans s')) g'
end
end DC
namespace L2
open PySem PySem.Spec PyProof.Rows
section
variable {M:Model}{A:Around}{E:Value->Shared->Prop}{s:Shared}{B:Heap}{env:Env}{outer:List Env}{L e C:Addr}{dx:Option Addr}{Q:Unit->Shared->Prop}
end
section
variable {P:Program}{w:World}{H H':Hp}{h h':Heap}{a d:Addr}{u:HO}
end
section
variable {P:Program}{w:World}{H H':Hp}{h h':Heap}{b:Addr}{u:HO}{fs:List Addr}
end
section
variable {X:Cx}{pins:List (Addr × Obj)}{σ:St}{H:Hp}{s s':Shared}{E:XK}{e:Value}
end
section
variable {X:Cx}{k:Nat}{f C:Addr}{fd:FuncData}{ps:List Str}{sp:Sp}{dvs:List V}{ds:List Value}
end
end L2
namespace DC
open PySem PySem.Spec PyProof.Rows L2
section
variable {K:PySem.W.Frag}{H H':Hp}
end
section
variable {X:Cx}{e:Expr}{es:List Expr}{t:AD}{pos p:Pos}{x:Str}{k:Nat}{f:Addr}{fd:FuncData}{ps:List Str}{sx:ML}{xk:SD->XR}{dvs:List V}{dls:List Value}{dd:List D}
end
section
variable {P:Program}{w:World}{K:PySem.W.Frag}{mg:Str->Option Value}{base:Heap}
end
end DC
namespace L2
open PySem PySem.Spec PyProof.Rows
section
variable {P:Program}{w:World}{H:Hp}{h:Heap}{C:Addr}{fs ex:List Addr}
end
section
variable {X:Cx}{k:Nat}{f C:Addr}{fd:FuncData}{ps:List Str}{sp:Sp}{dvs:List V}{ds:List Value}
end
end L2
namespace DC
open PySem PySem.Spec PyProof.Rows L2
section
variable {X:Cx}{o e:Expr}{es:List Expr}{ta:ED}{t:AD}{pos p apos:Pos}{x m:Str}{j k:Nat}{f C:Addr}{fd:FuncData}{ps:List Str}{sx:MK}{sm:Addr->ML}{ok:Addr->Prop}{xk:SD->XR}{dvs:List V}{dls:List Value}{dd:List D}
end
section
variable {P:Program}{w:World}{K:PySem.W.Frag}{mg:Str->Option Value}{base:Heap}
end
end DC
namespace L2
open PySem PySem.Spec PyProof.Rows
end L2
namespace DC
open PySem PySem.Spec PyProof.Rows L2
section
variable {X:Cx}{scope:Scope}{cl:List (Str × Addr)}{N:List Str}{R:XR}{C:Addr}{fp:List Addr}{pins:List (Addr × Obj)}{σ:L2.St}{H2:Hp}{s s2:Shared}
end
section
variable {X:Cx}{scope:Scope}{cl:List (Str × Addr)}{T cn:List Str}{caps:List Nat}{elt tg iter:Expr}{ifs:List Expr}{wi:TI}{g:TG}{tt:TT}{te:TE}{pos:Pos}{R:XR}
end
section
variable {X:Cx}{scope:Scope}{cl:List (Str × Addr)}{x:Str}{cn:List Str}{caps:List Nat}{elt tg iter:Expr}{ifs:List Expr}{ti:AD}{tt:TD}{te:ED}{pos:Pos}{R:XR}
end
end DC
namespace L2
open PySem PySem.Spec PyProof.Rows
abbrev Cx.vK (X:Cx)(pins:List (Addr × Obj))(E:Value->Shared->Prop):Cx:={ X with pn:=X.pn++pins,xe:=E }
section
variable {X:Cx}{pins:List (Addr × Obj)}{σ:St}{H:Hp}{s:Shared}{A:Around}{E:Value->Shared->Prop}
theorem Inv.vK (I:Inv X pins σ H s):Inv (X.vK pins E) [] σ H s :=
 ⟨⟨I.ok.mod,I.ok.kind,I.ok.glob,I.ok.blt,I.ok.above,I.ok.inj,I.ok.has,I.ok.F9,I.ok.hd,I.ok.frames,I.ok.IW,I.ok.Kc,I.ok.bs,I.ok.Cn,I.ok.wm,I.ok.wG,I.ok.lh,I.ok.Co⟩,I.os,I.bare,I.base,I.loc,I.cell,I.free,I.eW,
  λp hp=>I.pin p (by simpa using hp),I.bg,I.len⟩
theorem Inv.o7 {l:List (Addr × Obj)}(I:Inv (X.vK pins E) l σ H s):Inv X pins σ H s :=
 ⟨⟨I.ok.mod,I.ok.kind,I.ok.glob,I.ok.blt,I.ok.above,I.ok.inj,I.ok.has,I.ok.F9,I.ok.hd,I.ok.frames,I.ok.IW,I.ok.Kc,I.ok.bs,I.ok.Cn,I.ok.wm,I.ok.wG,I.ok.lh,I.ok.Co⟩,I.os,I.bare,I.base,I.loc,I.cell,I.free,I.eW,
  λp hp=>I.pin p (List.mem_append_left _ hp),I.bg,I.len⟩
end
end L2
namespace DC
open PySem PySem.Spec PyProof.Rows L2
section
variable {X:Cx}{st:Stmt}{rest:List Stmt}{t u:kG}
end
end DC
namespace L2
open PySem PySem.Spec PyProof.Rows
section
variable {X:Cx}{k:Nat}{f:Addr}{fd:FuncData}{ps:List Str}{sp:Sp}
end
end L2
namespace DC
open PySem PySem.Spec PyProof.Rows L2
section
variable {P:Program}{w:World}{K:PySem.W.Frag}{mg:Str->Option Value}{base:Heap}
end
section
variable {X:Cx}{e:Expr}{es:List Expr}{t:AD}{pos p:Pos}{x:Str}{j k:Nat}{ps:List Str}{sd:cg}{ea:Addr}
end
end DC
namespace L2
open PySem PySem.Spec PyProof.Rows
section
variable {prog:Program}{w:World}{A:Around}{E:Value->Shared->Prop}{s:Shared}
end
section
variable {prog:Program}{w:World}{A:Around}{E:Value->Shared->Prop}{s:Shared}{K:PySem.W.Frag}{x C:Addr}{ox:Obj}{od:Option Obj}{name:Str}{tk:Tok}
end
section
variable {X:Cx}
end
end L2
namespace DC
open PySem PySem.Spec PyProof.Rows L2
section
variable {X:Cx}{o e:Expr}{es:List Expr}{te to:ED}{t:AD}{pos p p2 apos cpos:Pos}
end
end DC
namespace L2
open PySem PySem.Spec PyProof.Rows
open Builtin Builtin.ObjectAttr
section
variable {prog:Program}{w:World}{A:Around}{E:Value->Shared->Prop}{s:Shared}{K:PySem.W.Frag}{x C:Addr}{R:Result->Shared->Prop}{name:Str}{v:Value}{o:Obj}
end
open DC (Fv Ky)
section
variable {X:Cx}{pins:List (Addr × Obj)}{σ:St}{H:Hp}{s:Shared}{a C d:Addr}{f:Str}{v:V}{u:Value}{Q:Unit->Shared->Prop}{E:Value->Shared->Prop}{A:Around}{fs:List (Str × V)}{p:Array Value->Prop}
end
open DC (Fv Ky)
section
variable {prog:Program}{w:World}{A:Around}{E:Value->Shared->Prop}{h:Heap}{g:Array GenState}{d:Drawn}{t:Nat}{os:OsState}
variable {nm q:Str}{C N:Addr}{bs bm:List Value}{hdct:Bool}{sn:List Str}{sub:List Value}{ab:Bool}{col:Option Bool}{dd:Option Addr}{k0 k1 k2 k3 k5:Option Value}
end
end L2
namespace DC
open PySem PySem.Spec PyProof.Rows L2
section
variable {X:Cx}{x p f:Str}{j:Nat}{pa pv pos pos':Pos}
end
section
variable {P:Program}{w:World}{K:PySem.W.Frag}{mg:Str->Option Value}{base:Heap}
end
section
variable {X:Cx}{e:Expr}{es:List Expr}{t:AD}{pos p:Pos}{x:Str}{j k:Nat}{C:Addr}{fl:List Str}
end
section
variable {X:Cx}{c e:Expr}{es:List Expr}{body:List Stmt}{uc:TD}{te:ED}{tb:kG}{g:E7}{pos tp:Pos}{k:Nat}
end
section
variable {X:Cx}{a b:Expr}{rest:List Expr}{pos:Pos}{ta tb:TE}
end
section
variable {X:Cx}{a b:Expr}{rest:List Expr}{pos:Pos}{ta tb:ED}
end
end DC
namespace L2
open PySem PySem.Spec PyProof.Rows
section
variable {X:Cx}{pins:List (Addr × Obj)}{σ:St}{H:Hp}{s:Shared}{a C d:Addr}{t:Heap->Prop}
end
section
variable {prog:Program}{w:World}{A:Around}{E:Value->Shared->Prop}{s:Shared}{K:PySem.W.Frag}{env:Env}
end
end L2
namespace DC
open PySem PySem.Spec PyProof.Rows L2
section
variable {X:Cx}{e:Expr}{es:List Expr}{t:AD}{pos cpos p:Pos}{x:Str}{j k:Nat}{C:Addr}{fl:List Str}{xk:SD->XR}
end
end DC
namespace L2
open PySem PySem.Spec PyProof.Rows
section
variable {X:Cx}{e1:Expr}{ta:TA}{p pos tp:Pos}{elts:List Expr}{c:Nat}
end
end L2
namespace DC
open PySem PySem.Spec PyProof.Rows L2
section
variable {X:Cx}{e1:Expr}{ta:AD}{p pos tp:Pos}{elts:List Expr}{c:Nat}
end
section
variable {X:Cx}{scope:Scope}{cl:List (Str × Addr)}{x y:Str}{cn:List Str}{caps:List Nat}{elt iter:Expr}{ifs:List Expr}{ti:AD}{tt:TD}{te:ED}{pos px py tp:Pos}{c:Nat}{R:XR}
end
def DR:D->Option Key
 |.int i=>some (.inl i)
 |.str x=>some (.inr x)
 |_=>none
def eD (kvs:List (Key × D))(k:Key):Option D:=(kvs.find? λkv=>decide (kv.1=k)).map (·.2)
def dZ (td ty:ED):ED:=λδ Q=>td δ λd=>ty δ λy=>∃kvs k r,d=.dK kvs/\DR y=some k/\eD kvs k=some r/\Q r
theorem ee.look {K:PySem.W.Frag}{H:Hp}{k:Key}{r:D}:∀{vs:List (Key × V)} {ds:List (Key × D)},ee K H vs ds->eD ds k=some r->∃v,ow vs k=some v/\Dv K H v r
 |_,_,.nil,e=>by cases e
 |_,_,.cons (k:=k') (x:=x) (d:=d) (xs:=xs) (ds:=ds) h t,e=>by
  unfold eD at e
  unfold ow
  rw[List.find?_cons] at e ⊢
  by_cases q:k'=k
  ·simp only[q,decide_true] at e ⊢
   cases e
   exact⟨x,rfl,h⟩
  ·simp only[q,decide_false] at e ⊢
   exact ee.look t e
section
variable {X:Cx}{o i:Expr}{pos:Pos}{td ty:ED}
theorem cH (hu:X.A.units+64<cLine)(ho:PD X o td)(hi:PD X i ty)(hs:Fx i):PD X (.Subscript o i pos) (dZ td ty):=by
 refine⟨(D4 (by omega) ho.pe hi.pe hs).imp λσ H Q ⟨δ,r,h⟩=>⟨δ,r,ho.mono _ _ _ (λd hd v H1 s1 dv=>⟨δ,r.same s1,hi.mono _ _ _ (λy hy u H2 s2 du=>?_) hd⟩) h⟩,λδ P P' g h=>ho.mono _ _ _ (λd h'=>hi.mono _ _ _ (λe ⟨kvs,k,z,h1,h2,h3,h4⟩=>⟨kvs,k,z,h1,h2,h3,g _ h4⟩) h') h⟩
 obtain⟨kvs,k,z,e1,e2,e3,q⟩:=hy
 subst e1
 cases dv with
 |dK g1 g2 =>
  obtain⟨v,ev,dv'⟩:=(g2.same s2).look e3
  refine⟨_,v,rfl,.inl ⟨_,k,kT s2 g1,?_,ev.symm⟩,q v H2 (s1.trans s2) dv'⟩
  cases du<;>cases e2<;>rfl
end
section
variable {X:Cx}{rest:List Stmt}{st:Stmt}{t:fe}
end
section
variable {K:PySem.W.Frag}{H:Hp}{μ:Mu}{L:List Addr}{a:Addr}{vs ys:List (Key × V)}{ds:List (Key × D)}
theorem dS.putK (g:dS K H μ L)(ha:a∈L)(hv:H a=some (.dK vs))(d:ee K (aS H L) ys ds):dS K (upd H a (.dK ys)) (d7 a (.dK ds) μ) L:=by
 have e:aS (upd H a (.dK ys)) L=aS H L:=eX ha
 refine⟨λp hp=>?_,by rw[rP];exact g.AF,λb hb=>?_,λb hb=>?_⟩
 ·obtain⟨q,hq,rfl⟩:=List.mem_map.mp hp
  by_cases hqa:q.1=a
  ·rw[if_pos hqa]
   exact⟨ha,ys,aM,by rw[e];exact d⟩
  ·rw[if_neg hqa]
   obtain⟨h1,h2⟩:=g.at_ q hq
   refine⟨h1,?_⟩
   obtain⟨b,m⟩:=q
   cases m with
   |lst ds=>obtain⟨ws,h,d⟩:=h2;exact⟨ws,by rw[aN hqa];exact h,by rw[e];exact d⟩
   |ins C gs=>obtain⟨dx,fs,h,h2,h3,d⟩:=h2;exact⟨dx,fs,by rw[aN hqa];exact h,by rw[aN (λz=>by rw[z,hv] at h2;cases h2)];exact h2,h3,by rw[e];exact d⟩
   |dK kvs=>obtain⟨ws,h,d⟩:=h2;exact⟨ws,by rw[aN hqa];exact h,by rw[e];exact d⟩
   |dT kvs=>obtain⟨ws,h,d⟩:=h2;exact⟨ws,by rw[aN hqa];exact h,by rw[e];exact d⟩
 ·by_cases hba:b=a
  ·rw[hba];exact .dK ys aM
  ·have w:=g.da b hb
   cases w with
   |lst xs h=>exact .lst xs (by rw[aN hba];exact h)
   |dK xs h=>exact .dK xs (by rw[aN hba];exact h)
   |ext φ h hc=>exact .ext φ (by rw[aN hba];exact h) hc
   |ins C dx fs h hd=>exact .ins C dx fs (by rw[aN hba];exact h) hd
   |own C c fs h hc hi=>exact .own C c fs (by rw[aN hba];exact h) hc (by rw[aN (λz=>by rw[z,hv] at hi;cases hi)];exact hi)
 ·rcases g.GB b hb with⟨m,h⟩|⟨c,h⟩
  ·by_cases hba:b=a
   ·exact .inl ⟨.dK ds,List.mem_map.mpr ⟨_,h,by rw[if_pos hba,hba]⟩⟩
   ·exact .inl ⟨m,List.mem_map.mpr ⟨_,h,if_neg hba⟩⟩
  ·exact .inr ⟨c,by rw[aN (λz=>by rw[z,hv] at h;cases h)];exact h⟩
theorem dS.Je (hn:H a=none)(d:ee K H ys ds):dS K (upd H a (.dK ys)) [(a,.dK ds)] [a]/\aS (upd H a (.dK ys)) [a]=H:=by
 have e:aS (upd H a (.dK ys)) [a]=H:=by
  funext b
  by_cases hb:b=a
  ·rw[hb,cI List.mem_cons_self,hn]
  ·rw[bG (λz=>hb (List.mem_singleton.mp z)),aN hb]
 refine⟨⟨λp hp=>?_,?_,λb hb=>?_,λb hb=>?_⟩,e⟩
 ·rw[List.mem_singleton.mp hp]
  exact⟨List.mem_cons_self,ys,aM,by rw[e];exact d⟩
 ·rw[List.map_cons,List.map_nil];exact List.nodup_cons.mpr ⟨(λh=>nomatch h),List.nodup_nil⟩
 ·rw[List.mem_singleton.mp hb];exact .dK ys aM
 ·rw[List.mem_singleton.mp hb];exact .inl ⟨_,List.mem_cons_self⟩
end
def b7 (kvs:List (Key × D))(k:Key)(v:D):List (Key × D) :=
 if(kvs.any λkv=>decide (kv.1=k))=true then kvs.map (λkv=>if kv.1=k then(kv.1,v) else kv) else kvs++[(k,v)]
section
variable {K:PySem.W.Frag}{H:Hp}
theorem ee.length:∀{vs:List (Key × V)} {ds:List (Key × D)},ee K H vs ds->vs.length=ds.length
 |_,_,.nil=>rfl
 |_,_,.cons _ h=>congrArg (·+1) (ee.length h)
theorem ee.any {k:Key}:∀{vs:List (Key × V)} {ds:List (Key × D)},ee K H vs ds->(vs.any λkv=>decide (kv.1=k))=ds.any λkv=>decide (kv.1=k)
 |_,_,.nil=>rfl
 |_,_,.cons _ h=>by rw[List.any_cons,List.any_cons,ee.any h]
theorem ee.snoc {k:Key}{v:V}{d:D}(hv:Dv K H v d):∀{vs:List (Key × V)} {ds:List (Key × D)},ee K H vs ds->ee K H (vs++[(k,v)]) (ds++[(k,d)])
 |_,_,.nil=>.cons hv .nil
 |_,_,.cons h r=>.cons h (ee.snoc hv r)
theorem ee.we {k:Key}{v:V}{d:D}(hv:Dv K H v d):∀{vs:List (Key × V)} {ds:List (Key × D)},ee K H vs ds->ee K H (vs.map λkv=>if kv.1=k then(kv.1,v) else kv) (ds.map λkv=>if kv.1=k then(kv.1,d) else kv)
 |_,_,.nil=>.nil
 |_,_,.cons (k:=j) (x:=x) (d:=y) h r=>by
  rw[List.map_cons,List.map_cons]
  by_cases e:j=k
  ·rw[if_pos (show((j,x):Key × V).1=k from e),if_pos (show((j,y):Key × D).1=k from e)]
   exact .cons hv (ee.we hv r)
  ·rw[if_neg (show¬((j,x):Key × V).1=k from e),if_neg (show¬((j,y):Key × D).1=k from e)]
   exact .cons h (ee.we hv r)
theorem ee.put {k:Key}{v:V}{d:D}(hv:Dv K H v d){vs:List (Key × V)}{ds:List (Key × D)}(h:ee K H vs ds):ee K H (putK vs k v) (b7 ds k d):=by
 unfold putK b7
 rw[h.any]
 split
 ·exact h.we hv
 ·exact h.snoc hv
theorem Gh {y:V}{d:D}{k:Key}(h:Dv K H y d)(e:DR d=some k):y=kV k:=by cases h<;>cases e<;>rfl
end
section
variable {X:Cx}{e ke:Expr}{te tk:ED}{i:Nat}{x:Str}{p pos pos':Pos}
def sN:EF:=λ_ Q=>∀a,Q (.adr a) [(a,.dK [])]
theorem sO:PF X (.Dict [] [] pos) sN:=by
 refine⟨Bk.imp λσ H Q ⟨δ,r,q⟩ a hn=>?_,λδ P P' g q a=>g _ _ (q a)⟩
 obtain⟨g2,e2⟩:=dS.Je (K:=X.K) (ds:=[]) hn .nil
 exact q a (.ref a) _ [a] (by rw[e2];exact aJ.refl _) g2 (.adr a)
end
theorem rD {K:PySem.W.Frag}{caps:List Nat}{ti:AD}{tt:TD}{te:ED}(mi:kl ti)(mt:fF tt)(me:bO te){σ:L2.St}{δ:SD}{H:Hp}{P:D->Prop}{Q:VK}(r:bX K H σ δ)(h:kC caps ti tt te δ P)
  (fin:∀H0 D ys ds,H0 D=none->aJ H H0->bN K H0 ys ds->P (.lst ds)->Q (.ref D) (upd H0 D (.lst ys))) :
  rQ 1 caps (λσ H R=>∃ δ,bX K H σ δ/\ti δ λds=>∀J H1,aJ H H1->Fw K J H1 ds->R J H1) (fK 0) (qe (oT K tt)) (qb (oE K te)) σ H Q:=by
 refine⟨δ,r,mi _ _ _ (λds ⟨outs,hol,each,hlen,q⟩ J H1 s1 it D hD=>?_) h⟩
 refine⟨λi m ys H'=>m=ds.length - i/\i<=ds.length/\∃H0,H0 D=none/\aJ H1 H0/\bN K H0 ys ((outs.take i).filterMap id)/\H'=upd H0 D (.lst ys),⟨ds.length,rfl,Nat.zero_le _,H1,hD,aJ.refl _,.nil,rfl⟩,?_⟩
 rintro i m ys H' ⟨rfl,hle,H0,h0,s0,dys,rfl⟩
 refine⟨aM,?_⟩
 have sU:aJ H1 (upd H0 D (.lst ys)):=s0.trans (af h0)
 by_cases hlt:i<ds.length
 ·refine .inr ⟨it.go i _ sU hlt,λx H'' y=>?_⟩
  obtain⟨s2,d,hd,Hx,sx1,dvx,only,sx⟩:=it.AH i _ x H'' sU hlt y
  have hD2:H'' D=some (.lst ys):=s2 _ _ aM
  have ne1:∀a o,H1 a=some o->a≠D:=λa o z=>ah z hD
  have nex:∀a o,Hx a=some o->a≠D:=λa o z w=>by
   rcases only a o z with z1|z1
   ·exact ne1 a o z1 w
   ·rw[w,aM] at z1;cases z1
  have sd1:aJ H0 (del H'' D):=λa o z=>by
   rw[fq (ah z h0)]
   exact s2 a o (af h0 a o z)
  have sdx:aJ Hx (del H'' D):=λa o z=>by
   rw[fq (nex a o z)]
   exact sx a o z
  obtain⟨o,ho⟩:∃o,outs[i]?=some o:=⟨_,List.getElem?_eq_getElem (show i<outs.length by omega)⟩
  have rel:bX K (del H'' D) (some x::caps.map λj=>(σ[j]?).getD none) (some d::iu caps δ):=oz (r.same (s1.trans (s0.trans sd1))) (dvx.same sdx) caps
  refine⟨Le.one,D,ys,hD2,_,rel,mt _ _ _ (λb ⟨eb,hb⟩ H3 s3 h3=>?_) (each i d o hd ho)⟩
  have ht:outs.take (i+1)=outs.take i++[o]:=by rw[List.take_succ,ho];rfl
  have s03:aJ H0 H3:=sd1.trans s3
  cases b with
  |false =>
   refine aO ?_
   refine⟨ds.length - (i+1),by omega,rfl,hlt,H3,h3,s0.trans s03,?_,rfl⟩
   have on:o=none:=by cases o with|none=>rfl|some z=>cases eb
   rw[ht,on,List.filterMap_append]
   simpa using dys.same s03
  |true =>
   refine aR ?_
   refine⟨D,ys,aM,?_⟩
   rw[o4 h3]
   refine⟨_,rel.same s3,me _ _ _ (λy ey v H4 s4 dv h4=>⟨aM,?_,ds.length - (i+1),by omega,rfl,hlt,H4,h4,s0.trans (s03.trans s4),?_,m6⟩) (hb rfl)⟩
   ·rw[dys.length]
    exact Nat.lt_of_le_of_lt (Nat.le_trans (List.length_filterMap_le _ _) (List.length_take_le' _ _)) (by rw[hol];exact hlen)
   ·rw[ht,ey,List.filterMap_append]
    exact(dys.same (s03.trans s4)).append (.cons dv .nil)
 ·have e:i=ds.length:=by omega
  subst e
  refine .inl ⟨it.stop _ sU,?_⟩
  rw[<- hol,List.take_length] at dys
  exact fin H0 D ys _ h0 (s1.trans s0) dys q
section
variable {X:Cx}{scope:Scope}{cl:List (Str × Addr)}{x:Str}{cn:List Str}{caps:List Nat}{elt tg iter:Expr}{ifs:List Expr}{ti:AD}{tt:TD}{te:ED}{pos:Pos}
def Gv (i:Nat)(caps:List Nat)(ti:AD)(tt:TD)(te:ED):fe:=λE δ μ=>kC caps ti tt te δ λd=>∃ds,d=.lst ds/\∀a,(∀m,(a,m)∉μ)->E.nx (δ.set i (some (.adr a))) ((a,.lst ds)::μ)
theorem G7 {i:Nat}{y:Str}{py spos:Pos}(hN:X.N.Nodup)(hi':X.N[i]?=some y)(hy:Loc X.env.scope y)(S:bQ X scope cl [x] caps cn)(hc:X.calm=true)(hi:PId X tg iter ti)
  (hg:∀C fp s₂ H₂,PG (ao X scope cl C ([x]++cn) fp s₂ H₂) tg (fK 0))(ht:∀C fp s₂ H₂,ql (ao X scope cl C ([x]++cn) fp s₂ H₂) ifs tt)(he:∀C fp s₂ H₂,PD (ao X scope cl C ([x]++cn) fp s₂ H₂) elt te)
  (hsw:swapsWith (.ListComp elt [⟨tg,iter,ifs,0⟩] scope pos) (some (.Name y py)) spos.line X.env=pure true:=by rfl)(hf:X.fn y=true\/X.env.scope.names.lookup y=some .local:=by first|exact .inl rfl|exact .inr rfl|assumption)
  (hs:∀x,foldedSetIterable iter X.env x=pure x:=by intro _;rfl):rj X (.Assign [.Name y py] (.ListComp elt [⟨tg,iter,ifs,0⟩] scope pos) spos) (Gv i caps ti tt te) :=
 have mt:fF tt:=(ht 0 [] X.s₀ X.H₀).mono
 have me:bO te:=(he 0 [] X.s₀ X.H₀).mono
 ⟨PS.imp (wx (tS hN hi' hy S hc hi.pi hg (λC fp s₂ H₂=>eF (ht C fp s₂ H₂).IV) (λC fp s₂ H₂=>fc (he C fp s₂ H₂).pe) hsw hf hs)) λD σ H ⟨δ,μ,L,r,g,h⟩=>⟨L,g.da,
   rD hi.mono mt me r h λH0 a ys ds hn s0 dvs ⟨ds',ed,k⟩ z=>by
   cases ed
   have haL:a∉L:=λhl=>by have:=z a hl;rw[aM] at this;cases this
   have nb:∀{b:Addr},b∈L->b≠a:=λhb w=>haL (by rw[<- w];exact hb)
   have z1:∀b∈L,H0 b=none:=λb hb=>by have:=z b hb;rwa [aN (nb hb)] at this
   have eS:bC (upd H0 a (.lst ys)) H L=upd (bC H0 H L) a (.lst ys):=by
    funext b
    by_cases hb:b∈L
    ·rw[aY hb,aN (nb hb),aY hb]
    ·rw[aV hb]
     by_cases hba:b=a
     ·rw[hba,aM,aM]
     ·rw[aN hba,aN hba,aV hb]
   have e1:aS (bC H0 H L) L=H0:=b0 z1
   have g1:dS X.K (bC H0 H L) μ L:=g.show z1 s0
   have hn1:bC H0 H L a=none:=by rw[aV haL];exact hn
   obtain⟨g2,e2⟩:=g1.zS hn1 (ys:=ys) (ds:=ds) (by rw[e1];exact dvs)
   rw[eS]
   refine k a (λm hm=>haL (g.at_ _ hm).1) _ _ (a::L) (by rw[e2,e1];exact s0) ?_ g2
   rw[e2,e1]
   exact(r.same s0).set i (.adr a)⟩,
  λE E' δ μ l h=>pq hi.mono _ _ _ (λd ⟨ds,ed,k⟩=>⟨ds,ed,λa ha=>l.nx _ _ (k a ha)⟩) h⟩
end
section
variable {X:Cx}{e ke:Expr}{te tk:ED}{i:Nat}{x:Str}{p pos pos':Pos}
end
theorem boot_dict:bootBuiltins "dict"=some (.type "dict"):=by decide +kernel
section
variable {X:Cx}{o e:Expr}{es:List Expr}{t:AD}{to te:ED}{pos p p1 p2 tp apos cpos:Pos}
end
section
variable {X:Cx}{a b:Expr}{ta tb:ED}{pos:Pos}{k:Nat}
end
end DC
namespace L2
open PySem PySem.Spec PyProof.Rows
open AutoSeq1 (wpAny_loadPart')
section
variable {prog:Program}{w:World}{A:Around}{E:Value->Shared->Prop}{s:Shared}
end
section
variable {X:Cx}{e1:Expr}{ta:TA}{p pos tp:Pos}{elts:List Expr}{c:Nat}
end
end L2
namespace DC
open PySem PySem.Spec PyProof.Rows L2
section
variable {X:Cx}{e1:Expr}{ta:AD}{p pos tp:Pos}{elts:List Expr}{c:Nat}
end
section
variable {P:Program}{w:World}{K:PySem.W.Frag}{mg:Str->Option Value}{base:Heap}
end
section
variable {X:Cx}{scope:Scope}{cl:List (Str × Addr)}{x:Str}{cn:List Str}{caps:List Nat}{elt tg iter:Expr}{ifs:List Expr}{ti:AD}{tt:TD}{te:ED}{pos:Pos}
end
section
variable {X:Cx}{e:Expr}{te:ED}{p p2 pos:Pos}
theorem BD (hg:Gl X "isinstance")(hm:X.mg "isinstance"=none)(hg2:Gl X "dict")(hm2:X.mg "dict"=none)(he:PD X e te)(hs:starEach [e,.Name "dict" p2] X.env=(false,eval e X.env)::starEach [.Name "dict" p2] X.env:=by rfl):PD X (.Call (.Name "isinstance" p) [e,.Name "dict" p2] [] pos) (lQ "dict" te):=(nH he hg hm hg2 hm2 boot_dict (by decide) (by decide) hs).kb he.mono (by decide)
end
def wN:V->Bool
 |.str _=>true
 |_=>false
def Jn (K:PySem.W.Frag):R2:=λx y H Q=>∃p xs q ws,x=.ref q/\iz K H q ws/\y=.ref p/\iz K H p xs/\xs.all wN=true/\Q (.bl false) H
theorem yN:∀{xs:List V} {us:List Value},Vals xs us->xs.all wN=true->∀u∈us,∃b t,u=.str b t
 |_,_,.nil,_=>λu hu=>by cases hu
 |y::xs,u::us,.cons r t,f=>λu' hu=>by
  rw[List.all_cons,Bool.and_eq_true] at f
  rcases List.mem_cons.mp hu with rfl|hu
  ·cases y with
   |str z=>obtain⟨t,rfl⟩:=r;exact⟨z,t,rfl⟩
   |_=>exact absurd (show false=true from f.1) Bool.false_ne_true
  ·exact yN t f.2 u' hu
section
variable {X:Cx}{a b:Expr}{pos:Pos}{ta tb:ED}
theorem HJ (hu:X.A.units+64<cLine):gU X (compareOp .In) (Jn X.K):=by
 intro pins s σ H x y v u Q I rx ry h
 obtain⟨p,xs,q,ws,rfl,hx,rfl,hy,fs,k⟩:=h
 cases ry
 cases rx
 obtain⟨its,r,pl,hz⟩:=I.tuple hy
 obtain⟨its2,r2,tR,hz2⟩:=I.tuple hx
 refine SeqAt.in_tupleAt (λ_=>false) pl (λw hw=>?_) ⟨.bl _,H,I,rfl,?_⟩
 ·obtain⟨b,t,rfl⟩:=yN r fs w (by simpa using hw)
  exact SeqAt.EqAt.str_tuple b t tR (by show X.A.units+1<cLine;omega)
 ·rw[show its.toArray.any (λ_=>false)=false by simp]
  exact k
def A0:F2:=λd e Q=>GR false d e Q\/∃(xs:List D) (ys:List Str),d=.tup xs/\e=.tup (ys.map D.str)/\Q (.bl false)
theorem FT:d8 A0:=λd e P P' f h=>h.elim (λh=>.inl (Dh d e P P' f h)) fun⟨xs,ys,e1,e2,q⟩=>.inr ⟨xs,ys,e1,e2,f _ q⟩
theorem xi {K:PySem.W.Frag}{H:Hp}:∀{vs:List V} {ys:List Str},bN K H vs (ys.map D.str)->vs.all wN=true
 |[],_,_=>rfl
 |v::vs,[],h=>by cases h
 |v::vs,y::ys,h=>by
  cases h with
  |cons a b =>
   rw[List.all_cons,xi b]
   cases a
   rfl
theorem Aq {K:PySem.W.Frag}:gT K (λx y H Q=>(Jm K false x y H Q\/∃i j,x=.str i/\y=.str j/\Q (.bl (!(Builtin.Str.occurrences j i 0 j.length 1).isEmpty)) H)\/Jn K x y H Q) A0:=by
 intro H x y d e Q hx hy h
 rcases h with h|⟨xs,ys,rfl,rfl,q⟩
 ·exact .inl (sH H x y d e Q hx hy h)
 ·cases hx with
  |tup g1 g2 =>
   cases hy with
   |tup g3 g4=>exact .inr ⟨_,_,_,_,rfl,g1,rfl,g3,xi g4,q _ H (aJ.refl _) (.bl _)⟩
end
section
variable {X:Cx}{o e:Expr}{es:List Expr}{t:AD}{to te:ED}{pos p p1 p2 tp apos cpos:Pos}{i:Nat}{x:Str}
end
end DC
namespace L2
open PySem PySem.Spec PyProof.Rows
section
variable {X:Cx}
end
end L2
namespace DC
open PySem PySem.Spec PyProof.Rows L2
section
variable {X:Cx}{a b e:Expr}{es:List Expr}{ta tb te:ED}{t:AD}{pos p p2:Pos}
end
end DC
namespace L2
open PySem PySem.Spec PyProof.Rows
section
variable {X:Cx}
end
end L2
namespace DC
open PySem PySem.Spec PyProof.Rows L2
section
variable {X:Cx}{e:Expr}{es:List Expr}{t:AD}{pos p:Pos}
end
section
variable {X:Cx}{i:Nat}{x:Str}{p pos apos cpos:Pos}
end
theorem Hm {H:Hp}{L:List Addr}{a:Addr}{xs:List V}(hL:∀b∈L,dW H L b)(h:Rd H a (.tup xs)):Rd (aS H L) a (.tup xs):=by
 have nb:a∉L:=λhb=>by
  rcases h with h|⟨o,h⟩
  ·exact(hL a hb).qC.1 _ h
  ·exact(hL a hb).qC.2.1 _ _ h
 unfold Rd
 rw[bG nb]
 exact h
section
variable {X:Cx}{e:Expr}{te:ED}{i:Nat}{x:Str}{p pos apos cpos:Pos}
end
section
variable {uc:TD}{t u r:fe}{te:ED}{E:de}{δ δ':SD}{μ:Mu}
end
section
variable {X:Cx}{body:List Stmt}{t:fe}{h₀:ExceptHandler}{hs:List ExceptHandler}{pos:Pos}
theorem G9 (hb:∀pins E,yW (X.vK pins E) body t):rj X (.Try body (h₀::hs) [] [] pos) t:=by
 refine⟨λpins s σ H D I ⟨δ,μ,L,r,g,q⟩=>?_,(hb [] λ_ _=>True).mono⟩
 refine wpAny_Try_except ?_
 have B:=hb pins (λe s₁=>wpAny (model X.prog X.w) X.A (noteFrame e X.env) (λ_ s₂=>wpAny (model X.prog X.w) X.A (setFlight e none) (λ_ s₃=>wpAny (model X.prog X.w) X.A (handleBy e X.env (h₀::hs)) (SP X pins D) X.xe s₃) X.xe s₂) X.xe s₁)
 refine wpAny_mono (B.ps [] s σ H D I.vK ⟨δ,μ,L,r,g,q⟩) (λf s1 h1=>?_) λe s1 h=>h
 cases f with
 |next =>
  obtain⟨σ',H',I',q⟩:=h1
  exact wpAny_execs_nil ⟨σ',H',I'.o7,q⟩
 |ret w =>
  obtain⟨v,σ',H',I',rv,q⟩:=h1
  exact⟨v,σ',H',I'.o7,rv,q⟩
 |brk =>
  obtain⟨σ',H',I',q⟩:=h1
  exact⟨σ',H',I'.o7,q⟩
 |cont =>
  obtain⟨σ',H',I',q⟩:=h1
  exact⟨σ',H',I'.o7,q⟩
end
section
variable {P:Program}{w:World}{K:PySem.W.Frag}{mg:Str->Option Value}{base:Heap}
theorem dB.sub {cx:yU}{f:Addr}{fd:FuncData}{ps:List Str}{k:Nat}{sp sp':Sp}(F:dB P w K mg base cx k f fd ps sp)(h:∀vs H Q E,sp' vs H Q E->sp vs H Q E):dB P w K mg base cx k f fd ps sp' :=
 ⟨λvs H Q E q=>F.len vs H Q E (h _ _ _ _ q),λA outer s H args us vs Q E hr e0 hb r q=>F.run A outer s H args us vs Q E hr e0 hb r (h _ _ _ _ q)⟩
end
section
variable {X:Cx}{o i:Expr}{pos:Pos}{td ty:ED}
end
section
variable {X:Cx}{e:Expr}{tf:EF}{i:Nat}{x:Str}{p pos apos cpos:Pos}
end
section
variable {X:Cx}{c:Expr}{body:List Stmt}{uc:TD}{tb:fe}{pos:Pos}
end
section
variable {X:Cx}{c a b e:Expr}{es:List Expr}{uc:TD}{ta tb:EF}{t:AD}{pos p:Pos}
end
end DC
namespace L2
open PySem PySem.Spec PyProof.Rows
section
variable {prog:Program}{w:World}{A:Around}{E:Value->Shared->Prop}{s:Shared}
end
section
variable {prog:Program}{w:World}{A:Around}{E:Value->Shared->Prop}{s:Shared}
end
section
variable {X:Cx}
end
end L2
namespace DC
open PySem PySem.Spec PyProof.Rows L2
section
variable {X:Cx}{e:Expr}{te:ED}{p p1 p2 pos:Pos}
end
section
variable {P:Program}{w:World}{K:PySem.W.Frag}{mg:Str->Option Value}{base:Heap}
end
section
variable {X:Cx}{e:Expr}{te:ED}{pos:Pos}
def wZ (te:ED):fe:=λE δ μ=>te (cW μ δ) λ_=>E.nx δ μ
theorem p7 (he:PD X e te)(hs:swapsWith e none pos.line X.env=pure false:=by rfl):rj X (.Expr e pos) (wZ te) :=
 ⟨PS.imp (kQ he.pe hs) λD σ H ⟨δ,μ,L,r,g,h⟩=>⟨_,g.cW r,he.mono _ _ _ (λd q v H1 s1 dv=>q σ H1 L (bS s1) (r.same (bS s1)) (g.on s1)) h⟩,λE E' δ μ l h=>he.mono _ _ _ (λd q=>l.nx _ _ q) h⟩
variable {E:de}{δ δ':SD}{μ:Mu}{uc:TD}{t u r:fe}
end
section
variable {P:Program}{w:World}{K:PySem.W.Frag}{mg:Str->Option Value}{base:Heap}
end
end DC
namespace L2
open PySem PySem.Spec PyProof.Rows
section
variable {X:Cx}
end
end L2
namespace DC
open PySem PySem.Spec PyProof.Rows L2
section
variable {X:Cx}{i:Nat}{x:Str}{e e1 e2 o:Expr}{es:List Expr}{t:AD}{te to:ED}{p pos apos cpos:Pos}
end
section
variable {X:Cx}{scope:Scope}{cl:List (Str × Addr)}{x y z u:Str}{cn:List Str}{caps:List Nat}{elt tg iter:Expr}{ifs:List Expr}{ti:AD}{tt:TD}{te:ED}{pos px py pz pu tp:Pos}{c:Nat}
end
end DC
namespace L2
open PySem PySem.Spec PyProof.Rows
section
variable {X:Cx}{pins:List (Addr × Obj)}{σ:St}{H:Hp}{s:Shared}{a:Addr}{o:Obj}{kvs:List (Key × V)}
end
end L2
namespace DC
open PySem PySem.Spec PyProof.Rows L2
section
variable {X:Cx}{scope:Scope}{cl:List (Str × Addr)}{x y:Str}{caps:List Nat}{cn:List Str}{tg iter elt:Expr}{ifs:List Expr}{ti:AD}{tt:TD}{te:ED}{pos p:Pos}{i:Nat}
end
section
variable {X:Cx}{pins:List (Addr × Obj)}{σ:L2.St}{H:Hp}{s:Shared}{a:Addr}{vs:List (Key × V)}
end
section
variable {X:Cx}{scope:Scope}{cl:List (Str × Addr)}{x y z u:Str}{caps:List Nat}{cn:List Str}{tg iter elt:Expr}{ifs:List Expr}{ti:AD}{tt:TD}{te:ED}{pos p px py pz pu tp:Pos}{c:Nat}{i k:Nat}{v:Str}{pv spos:Pos}
end
section
variable {K:PySem.W.Frag}{H:Hp}{L:List Addr}{μ:Mu}{a:Addr}{u v:HO}
end
section
variable {X:Cx}{tg:Expr}{body:List Stmt}{g:E7}{tb:fe}{pos p:Pos}{i:Nat}{y:Str}
end
theorem bN.sP {K:PySem.W.Frag}{H H':Hp}:∀{vs:List V} {ds:List D},bN K H vs ds->ds.all ft=true->bN K H' vs ds
 |_,_,.nil,_=>.nil
 |_,_,.cons a r,h=>by
  rw[List.all_cons,Bool.and_eq_true] at h
  exact .cons (a.DF h.1) (bN.sP r h.2)
section
variable {X:Cx}{scope:Scope}{cl:List (Str × Addr)}{x y:Str}{caps:List Nat}{cn:List Str}{tg iter elt:Expr}{ifs:List Expr}{ti:AD}{tt:TD}{te:ED}{pos p:Pos}{i k:Nat}{v:Str}{pv spos:Pos}
end
end DC
namespace L2
open PySem PySem.Spec PyProof.Rows
section
variable {X:Cx}
end
end L2
namespace DC
open PySem PySem.Spec PyProof.Rows L2
section
variable {X:Cx}{e:Expr}{es:List Expr}{t:AD}{pos p:Pos}
end
mutual
def b6:D->Bool
 |.tup xs=>iE xs
 |.ag=>true
 |.bl _=>true
 |.int _=>true
 |.str _=>true
 |.lst _=>false
 |.obj _ _=>false
 |.dK _=>false
 |.dT _=>false
 |.adr _=>false
 |.exc _ _ _=>false
def iE:List D->Bool
 |[]=>true
 |d::ds=>b6 d&&iE ds
end
mutual
theorem Dv.yy {K:PySem.W.Frag}{H:Hp}{L:List Addr}(hL:∀b∈L,dW H L b):∀{v:V} {d:D},Dv K H v d->b6 d=true->Dv K (aS H L) v d
 |_,_,.ag,_=>.ag
 |_,_,.bl b,_=>.bl b
 |_,_,.int i,_=>.int i
 |_,_,.str x,_=>.str x
 |_,_,.tup h1 h2,f=>.tup (h1.elim (λh=>.inl (Hm hL h)) .inr) (bN.yy hL h2 (by rw[b6] at f;exact f))
 |_,_,.lst h1 h2,f=>by rw[b6] at f;cases f
 |_,_,.obj h1 h2,f=>by rw[b6] at f;cases f
 |_,_,.dK h1 h2,f=>by rw[b6] at f;cases f
 |_,_,.dT h1 h2,f=>by rw[b6] at f;cases f
 |_,_,.adr a,f=>by rw[b6] at f;cases f
 |_,_,.exc h1 h2 h3,f=>by rw[b6] at f;cases f
theorem bN.yy {K:PySem.W.Frag}{H:Hp}{L:List Addr}(hL:∀b∈L,dW H L b):∀{vs:List V} {ds:List D},bN K H vs ds->iE ds=true->bN K (aS H L) vs ds
 |_,_,.nil,_=>.nil
 |_,_,.cons h r,f=>.cons (Dv.yy hL h (by rw[iE,Bool.and_eq_true] at f;exact f.1)) (bN.yy hL r (by rw[iE,Bool.and_eq_true] at f;exact f.2))
end
section
variable {X:Cx}{e ke:Expr}{te tk:ED}{i:Nat}{x:Str}{p pos pos':Pos}
end
theorem FI {α:Type}(p:α->Bool)(g:α->D):∀l:List α,(l.map λx=>if p x=true then some (g x) else none).filterMap id=(l.filter p).map g
 |[]=>rfl
 |x::l=>by
  have ih:=FI p g l
  cases hp:p x with
  |true=>rw[List.map_cons,List.filter_cons,hp,if_pos rfl,if_pos rfl,List.filterMap_cons,List.map_cons,<- ih];rfl
  |false=>rw[List.map_cons,List.filter_cons,hp,if_neg Bool.false_ne_true,if_neg Bool.false_ne_true,List.filterMap_cons,<- ih];rfl
theorem FH {α:Type}{l:List α}{f:α->D}{h:α->Option D}{i:Nat}{d:D}{o:Option D}(a1:(l.map f)[i]?=some d)(a2:(l.map h)[i]?=some o):∃x∈l,f x=d/\o=h x:=by
 rw[List.getElem?_map] at a1 a2
 cases e:l[i]? with
 |none=>rw[e] at a1;cases a1
 |some x =>
  rw[e] at a1 a2
  exact⟨x,List.mem_of_getElem? e,by simpa using a1,by simpa using a2.symm⟩
def outF {α:Type}(p:α->Bool)(g:α->D)(l:List α):List (Option D):=l.map λx=>if p x=true then some (g x) else none
def zV {α:Type}(g:α->D)(l:List α):List (Option D):=l.map λx=>some (g x)
theorem qH {α:Type}{p:α->Bool}{f g:α->D}{l:List α}:(outF p g l).length=(l.map f).length:=by simp[outF]
theorem Bh {α:Type}{f g:α->D}{l:List α}:(zV g l).length=(l.map f).length:=by simp[zV]
theorem qI {α:Type}{p:α->Bool}{g:α->D}{l:List α}:(outF p g l).filterMap id=(l.filter p).map g:=FI p g l
theorem Bi {α:Type}{g:α->D}{l:List α}:(zV g l).filterMap id=l.map g:=by unfold zV;rw[List.filterMap_map];simp
theorem nq {α:Type}{p:α->Bool}{f g:α->D}{l:List α}{T:D->Option D->Prop}(h:∀x∈l,T (f x) (if p x=true then some (g x) else none)):∀(i:Nat) (d:D) (o:Option D),(l.map f)[i]?=some d->(outF p g l)[i]?=some o->T d o:=λi d o a1 a2=>by
 obtain⟨x,hx,rfl,rfl⟩:=FH a1 a2
 exact h x hx
theorem zW {α:Type}{f g:α->D}{l:List α}{T:D->Option D->Prop}(h:∀x∈l,T (f x) (some (g x))):∀(i:Nat) (d:D) (o:Option D),(l.map f)[i]?=some d->(zV g l)[i]?=some o->T d o:=λi d o a1 a2=>by
 obtain⟨x,hx,rfl,rfl⟩:=FH a1 a2
 exact h x hx
theorem AY {xs:List D}{k:Nat}:cutD xs none (some (k:Int))=xs.take k:=by
 unfold cutD
 rw[HT.yG,HT.B3,List.drop_zero,Nat.sub_zero]
 by_cases h:k<=xs.length
 ·rw[Nat.min_eq_left h]
 ·rw[Nat.min_eq_right (by omega),List.take_length,List.take_of_length_le (by omega)]
structure Lay (k:Nat) (d:D):Prop where
 pl:DC.plain d=true
 cl:(kh d).canLay0=true
 dp:(kh d).depth<=k
theorem xy {x:Str}(h:PyData.strOk x=true):Lay 0 (.str x):=⟨by simp[DC.plain],by rw[kh,PyData.canLay0];exact h,by rw[kh,PyData.depth];decide⟩
theorem sr {k:Nat}:∀{ds:List D},(∀d∈ds,Lay k d)->lz ds=true/\PyData.canLayAll0 (gH ds)=true/\PyData.depthAll (gH ds)<=k
 |[],_=>⟨rfl,rfl,Nat.zero_le _⟩
 |d::ds,h=>by
  obtain⟨h1,h2,h3⟩:=sr (ds:=ds) λe he=>h e (List.mem_cons_of_mem _ he)
  have hd:=h d List.mem_cons_self
  refine⟨?_,?_,?_⟩
  ·rw[lz,hd.pl,h1];rfl
  ·rw[gH,PyData.canLayAll0,hd.cl,h2];rfl
  ·rw[gH,PyData.depthAll];exact Nat.max_le.mpr ⟨hd.dp,h3⟩
theorem DU {k:Nat}{ds:List D}(h:∀d∈ds,Lay k d):Lay (k+1) (.tup ds):=by
 obtain⟨h1,h2,h3⟩:=sr h
 exact⟨by rw[DC.plain];exact h1,by rw[kh,PyData.canLay0];exact h2,by rw[kh,PyData.depth];omega⟩
theorem DT {k:Nat}{ds:List D}(h:∀d∈ds,Lay k d):Lay (k+1) (.lst ds):=by
 obtain⟨h1,h2,h3⟩:=sr h
 exact⟨by rw[DC.plain];exact h1,by rw[kh,PyData.canLay0];exact h2,by rw[kh,PyData.depth];omega⟩
theorem Lay.sh {k:Nat}{d:D}(h:Lay k d)(e:k<=64):SeqAt.shaped (kh d)=true:=by
 unfold SeqAt.shaped
 rw[h.cl,decide_eq_true (Nat.le_trans h.dp e)]
 rfl
theorem mQ {l:List Str}(h:∀x∈l,PyData.strOk x=true):Lay 1 (.lst (l.map D.str)):=DT λd hd=>by
 obtain⟨x,hx,rfl⟩:=List.mem_map.mp hd
 exact xy (h x hx)
theorem ug:∀a b:List Str,PyData.eqvAll (gH (a.map D.str)) (gH (b.map D.str))=decide (a=b)
 |[],[]=>by rw[List.map_nil,gH,PyData.eqvAll];rfl
 |[],y::b=>by rw[List.map_nil,List.map_cons,gH,gH,PyData.eqvAll];rfl
 |x::a,[]=>by rw[List.map_nil,List.map_cons,gH,gH,PyData.eqvAll];rfl
 |x::a,y::b=>by
  rw[List.map_cons,List.map_cons,gH,gH,PyData.eqvAll,ug a b,kh,kh,PyData.eqv]
  by_cases h:x=y
  ·subst h
   by_cases h2:a=b
   ·subst h2;simp
   ·simp[h2]
  ·simp[h]
theorem Ax {neg:Bool}{k:Nat}{ds:List D}{Q:D->Prop}(h:Lay k (.lst ds))(hk:k<=64)(q:Q (.bl (if neg=true then !ds.isEmpty else ds.isEmpty))):yu neg (.lst ds) (.lst []) Q:=by
 have lb:=mQ (l:=[]) λx hx=>nomatch hx
 have e:PyData.eqv (kh (.lst ds)) (kh (.lst []))=ds.isEmpty:=by
  rw[kh,kh,PyData.eqv]
  cases ds with
  |nil=>rw[gH,PyData.eqvAll];rfl
  |cons b bs=>rw[gH,gH,PyData.eqvAll];rfl
 refine⟨h.pl,lb.pl,h.sh hk,lb.sh (by decide),?_⟩
 rw[e]
 exact q
section
variable {X:Cx}{e ke:Expr}{te tk:ED}{i:Nat}{x:Str}{p pos pos':Pos}
end
theorem cO {a:Addr}{m:MD}:∀{μ:Mu} {m0:MD},μ.lookup a=some m0->(d7 a m μ).lookup a=some m
 |[],_,h=>by cases h
 | (b,mb)::μ,m0,h=>by
  unfold d7
  rw[List.map_cons,List.lookup_cons]
  rw[List.lookup_cons] at h
  by_cases e:b=a
  ·subst e;simp
  ·have e':(a == b)=false:=by rw[beq_eq_false_iff_ne];exact λz=>e z.symm
   rw[if_neg e]
   dsimp only
   rw[e'] at h ⊢
   exact cO (μ:=μ) h
theorem ae {a b:Addr}{m:MD}(h:a≠b):∀{μ:Mu},(d7 b m μ).lookup a=μ.lookup a
 |[]=>rfl
 | (c,mc)::μ=>by
  unfold d7
  rw[List.map_cons,List.lookup_cons,List.lookup_cons]
  by_cases e:c=b
  ·subst e
   have e':(a == c)=false:=by rw[beq_eq_false_iff_ne];exact h
   rw[if_pos rfl]
   dsimp only
   rw[e']
   exact ae h (μ:=μ)
  ·rw[if_neg e]
   dsimp only
   split
   ·rfl
   ·exact ae h (μ:=μ)
theorem dJ {a b:Addr}{m:MD}{μ:Mu}(h:a≠b):((b,m)::μ).lookup a=μ.lookup a:=by
 rw[List.lookup_cons]
 have e':(a == b)=false:=by rw[beq_eq_false_iff_ne];exact h
 rw[e']
theorem look_same {b:Addr}{m:MD}{μ:Mu}:((b,m)::μ).lookup b=some m:=by rw[List.lookup_cons];simp
theorem mem_keys {μ:Mu}{a:Addr}{m:MD}(h:μ.lookup a=some m):a∈μ.map (·.1):=List.mem_map.mpr ⟨_,mem_of_lookup h,rfl⟩
section
variable {K:PySem.W.Frag}{H:Hp}{L:List Addr}{μ:Mu}
theorem ee.qi (f:∀(v:V) (d:D),Dv K H v d->Dv K H v (bj μ d)):∀{vs:List (Key × V)} {ds:List (Key × D)},ee K H vs ds->ee K H vs (ds.map λkv=>(kv.1,bj μ kv.2))
 |_,_,.nil=>.nil
 |_,_,.cons h r=>.cons (f _ _ h) (ee.qi f r)
theorem dS.Fs (g:dS K H μ L){v:V}{d:D}(h:Dv K H v d):Dv K H v (bj μ d):=by
 cases h with
 |adr a =>
  show Dv K H (.ref a) (((μ.lookup a).map MD.d).getD (.adr a))
  cases q:μ.lookup a with
  |none=>exact .adr a
  |some m =>
   show Dv K H (.ref a) m.d
   obtain⟨_,ha⟩:=g.at_ _ (mem_of_lookup q)
   cases m with
   |lst ds=>obtain⟨vs,h,d⟩:=ha;exact .lst (fG.of h) (bN.same au d)
   |ins C gs=>obtain⟨dx,fs,h,h2,h3,d⟩:=ha;exact .obj (.of h) (iy.same au d)
   |dK kvs=>obtain⟨ws,h,d⟩:=ha;exact .dK (.of h) (ee.same au d)
   |dT kvs=>obtain⟨ws,h,d⟩:=ha;exact .dT (.of h) (vt.same au d)
 |ag=>exact .ag
 |bl b=>exact .bl b
 |int i=>exact .int i
 |str x=>exact .str x
 |lst h1 h2=>exact .lst h1 h2
 |tup h1 h2=>exact .tup h1 h2
 |obj h1 h2=>exact .obj h1 h2
 |dK h1 h2=>exact .dK h1 h2
 |dT h1 h2=>exact .dT h1 h2
 |exc h1 h2 h3=>exact .exc h1 h2 h3
end
section
variable {X:Cx}{c:Expr}{uc:TD}{t u:fe}{body els:List Stmt}{pos:Pos}
end
section
variable {X:Cx}{e ke:Expr}{tf:EF}{tk:ED}{i:Nat}{x:Str}{p pos pos':Pos}
theorem pd {a:Addr}{m:MD}{μ:Mu}(h:μ.lookup a=some m):∀{μ':Mu},((μ'++μ).map (·.1)).Nodup->(μ'++μ).lookup a=some m
 |[],_=>h
 | (b,mb)::μ',n=>by
  rw[List.cons_append,List.map_cons,List.nodup_cons] at n
  have e:a≠b:=λe=>n.1 (by rw[List.map_append];exact List.mem_append_right _ (e ▸ mem_keys h))
  rw[List.cons_append,dJ e]
  exact pd h n.2
end
section
variable {X:Cx}{e:Expr}{c:Str}{i j:Nat}{x y:Str}{px py p1 p2 sp apos cpos epos pos:Pos}
end
end DC
namespace L2
open PySem PySem.Spec PyProof.Rows
section
variable {X:Cx}
end
end L2
namespace DC
open PySem PySem.Spec PyProof.Rows L2
section
variable {X:Cx}{a b:Expr}{pos:Pos}{ta tb:ED}
end
section
variable {X:Cx}{i:Nat}{x:Str}{e:Expr}{te:ED}{p pos apos cpos:Pos}
end
section
variable {X:Cx}{scope:Scope}{cl:List (Str × Addr)}{x:Str}{caps:List Nat}{cn:List Str}{tg iter elt:Expr}{ifs:List Expr}{ti:AD}{tt:TD}{te:ED}{pos:Pos}{k:Nat}{v:Str}{pv spos:Pos}
end
end DC
namespace L2
open PySem PySem.Spec PyProof.Rows
section
variable {prog:Program}{w:World}{K:Type} [DecidableEq K] {knd:KeyKind prog w K} {A:Around} {E:Value->Shared->Prop} {s:Shared} {o d:Addr} {xs:List (List K × Addr × Value)}
end
end L2
namespace DC
open PySem PySem.Spec PyProof.Rows L2
section
variable {K:PySem.W.Frag}{H:Hp}
end
section
variable {X:Cx}{pins:List (Addr × Obj)}{σ:L2.St}{H:Hp}{s:Shared}{a b:Addr}{xs:XT}{gs:List (List Int × D)}{k:List Int}{A:Around}{E:Value->Shared->Prop}
end
section
variable {K:PySem.W.Frag}{H:Hp}
end
section
variable {X:Cx}{o i e f value:Expr}{pos pos' apos cpos:Pos}
end
section
variable {X:Cx}{o i e f value:Expr}{pos pos' apos cpos p:Pos}{td ty tx te:ED}
end
section
variable {K:PySem.W.Frag}{H:Hp}{μ:Mu}{L:List Addr}{a:Addr}{vs ys:XT}{ds:List (List Int × D)}
end
section
variable {X:Cx}{e ke:Expr}{te tk:ED}{i:Nat}{x:Str}{p pos pos':Pos}
end
end DC
namespace L2
open PySem PySem.Spec PyProof.Rows
section
seal wpAny
variable {prog:Program}{w:World}{A:Around}{E:Value->Shared->Prop}{s:Shared}{p q:Bool}{Q:Value->Shared->Prop}
end
section
variable {X:Cx}
end
end L2
namespace DC
open PySem PySem.Spec PyProof.Rows L2
section
variable {X:Cx}{a b:Expr}{ta tb:ED}{pos:Pos}
end
def tF (kvs:List (Key × D)):List (Key × D):=kvs.foldl (λacc kv=>b7 acc kv.1 kv.2) []
section
variable {X:Cx}{pos p kp:Pos}{k:Str}{j:Nat}{e:Expr}{te:ED}{keys:List (Option Expr)}{values:List Expr}{ts:List (Str × ED)}
theorem ee.merged {K:PySem.W.Frag}{H:Hp}:∀{ws:List (Key × V)} {kvs:List (Key × D)} {vs:List (Key × V)} {ds:List (Key × D)},ee K H ws kvs->ee K H vs ds->ee K H (jC vs ws) (kvs.foldl (λacc kv=>b7 acc kv.1 kv.2) ds)
 |_,_,_,_,.nil,h=>h
 | (k,x)::ws,(_,d)::kvs,vs,ds,.cons hv t,h=>by
  show ee K H (jC (L2.putK vs k x) ws) (kvs.foldl _ (b7 ds k d))
  exact ee.merged t (ee.put hv h)
end
end DC
namespace L2
open PySem PySem.Spec PyProof.Rows
section
seal wpAny
variable {prog:Program}{w:World}{A:Around}{E:Value->Shared->Prop}{s:Shared}
end
end L2
namespace DC
open PySem PySem.Spec PyProof.Rows L2
section
variable {X:Cx}{e:Expr}{es:List Expr}{t:AD}{te:ED}{k:Nat}{tpos apos cpos:Pos}
end
section
variable {X:Cx}{scope:Scope}{cl:List (Str × Addr)}{x y v:Str}{cn:List Str}{caps:List Nat}{elt iter:Expr}{ifs:List Expr}{ti:AD}{tt:TD}{te:ED}{pos px py pv tp spos:Pos}{c k:Nat}
end
section
variable {X:Cx}
seal wpAny
theorem zQ:E5 X "str.startswith" (λx vs H Q=>∃z y,x=.str z/\vs=[.str y]/\Q (.bl (Txt.startswith z y)) H):=by
 intro pins s σ H x vs v us Q I rx rv h
 obtain⟨z,y,rfl,rfl,q⟩:=h
 obtain⟨t,rfl⟩:=rx
 obtain⟨u,rfl,u',rfl⟩:=rv.one
 exact SC.startswith ⟨.bl _,H,I,rfl,q⟩
theorem zO:E5 X "str.lstrip" (λx vs H Q=>∃z y,x=.str z/\vs=[.str y]/\z.length<=sizeLine/\Q (.str (Txt.lstripChars z y)) H):=by
 intro pins s σ H x vs v us Q I rx rv h
 obtain⟨z,y,rfl,rfl,hz,q⟩:=h
 obtain⟨t,rfl⟩:=rx
 obtain⟨u,rfl,u',rfl⟩:=rv.one
 exact SC.lstripChars (λt' k=>⟨.str _,H,I.tok _,⟨t',rfl⟩,q⟩) hz
theorem zP:E5 X "str.rstrip" (λx vs H Q=>∃z y,x=.str z/\vs=[.str y]/\z.length<=sizeLine/\Q (.str (Txt.rstripChars z y)) H):=by
 intro pins s σ H x vs v us Q I rx rv h
 obtain⟨z,y,rfl,rfl,hz,q⟩:=h
 obtain⟨t,rfl⟩:=rx
 obtain⟨u,rfl,u',rfl⟩:=rv.one
 exact SC.rstripChars (λt' k=>⟨.str _,H,I.tok _,⟨t',rfl⟩,q⟩) hz
end
section
variable {X:Cx}{o e:Expr}{es:List Expr}{to:ED}{t:AD}{apos cpos p pos:Pos}
def IZ (ok:Str->Prop)(f:Str->Str->D)(to:ED)(t:AD):ED:=λδ Q=>to δ λz=>∃x,z=.str x/\t δ λds=>∃y,ds=[.str y]/\ok x/\Q (f x y)
theorem Gx {ok:Str->Prop}{f:Str->Str->D}(ho:bO to)(ha:kl t):bO (IZ ok f to t):=λδ P P' g h=>ho _ _ _ (λz ⟨x,e1,q⟩=>⟨x,e1,ha _ _ _ (λds ⟨y,e2,k,q⟩=>⟨y,e2,k,g _ q⟩) q⟩) h
theorem CI {ok:Str->Prop}{f:Str->Str->D}{g:Str->Str->V}(hfg:∀x y H,Dv X.K H (g x y) (f x y))(ho:PD X o to)(ha:nB X (e::es) t){σ:L2.St}{H:Hp}{Q:VK}(h:∃ δ,bX X.K H σ δ/\IZ ok f to t δ (kD X.K H Q)) :
  ∃ δ,bX X.K H σ δ/\to δ (kD X.K H λv H1=>(∃z,v=.str z)/\∃ δ,bX X.K H1 σ δ/\t δ λds=>∀vs H2,aJ H1 H2->bN X.K H2 vs ds->∃z y,v=.str z/\vs=[.str y]/\ok z/\Q (g z y) H2):=by
 obtain⟨δ,r,h⟩:=h
 refine⟨δ,r,ho.mono _ _ _ (λz ⟨x,ez,q⟩ v H1 s1 dv=>?_) h⟩
 subst ez
 cases dv
 refine⟨⟨x,rfl⟩,δ,r.same s1,ha.mono _ _ _ (λds ⟨y,e2,hk,k⟩ vs H2 s2 dvs=>?_) q⟩
 subst e2
 cases dvs with
 |cons a b =>
  cases a
  cases b
  exact⟨x,y,rfl,rfl,hk,k _ _ (s1.trans s2) (hfg _ _ _)⟩
def xn (x y:Str):D:=.bl (Txt.startswith x y)
def xl (x y:Str):D:=.str (Txt.lstripChars x y)
def xm (x y:Str):D:=.str (Txt.rstripChars x y)
def FV (_:Str):Prop:=True
def FW (x:Str):Prop:=x.length<=sizeLine
section
variable (hfew:((backTo cpos (starEach (e::es) X.env)).all (λx=>!x.1)&&(backToKw cpos (keywordEach [] X.env)).all (λx=>x.1.isSome)&&decide ((e::es).length+([]:List Keyword).length+(if([]:List Keyword).isEmpty then 0 else 1)<30))=true)
  (hline:(apos.endLine == cpos.line)=true)(hs:starEach (e::es) X.env=(false,eval e X.env)::starEach es X.env)(hplain:(backTo cpos (starEach es X.env)).any (·.1)=false)
include hfew hline hs hplain
theorem uT (ho:PD X o to)(ha:nB X (e::es) t)(hbase:attributeBase o "startswith" X.env (eval o X.env)=eval o X.env):PD X (.Call (.Attribute o "startswith" apos) (e::es) [] cpos) (IZ FV xn to t):=by
 refine⟨(oV PySem.F.plainAttrs_str PySem.F.slot_str_startswith PySem.F.type_str_startswith zQ ho.pe ha.pa hbase hfew hline hs hplain).imp λσ H Q h=>?_,Gx ho.mono ha.mono⟩
 obtain⟨δ,r,q⟩:=CI (g:=λx y=>.bl (Txt.startswith x y)) (λ_ _ _=>.bl _) ho ha h
 exact⟨δ,r,ho.mono _ _ _ (λd k v H1 s1 dv=>let ⟨⟨z,ez⟩,δ1,r1,k⟩:=k v H1 s1 dv;⟨by subst ez;rfl,δ1,r1,ha.mono _ _ _ (λds k vs H2 s2 dvs=>let ⟨z,y,e1,e2,_,k⟩:=k vs H2 s2 dvs;⟨z,y,e1,e2,k⟩) k⟩) q⟩
theorem Ae (ho:PD X o to)(ha:nB X (e::es) t)(hbase:attributeBase o "lstrip" X.env (eval o X.env)=eval o X.env):PD X (.Call (.Attribute o "lstrip" apos) (e::es) [] cpos) (IZ FW xl to t):=by
 refine⟨(oV PySem.F.plainAttrs_str PySem.F.slot_str_lstrip PySem.F.type_str_lstrip zO ho.pe ha.pa hbase hfew hline hs hplain).imp λσ H Q h=>?_,Gx ho.mono ha.mono⟩
 obtain⟨δ,r,q⟩:=CI (g:=λx y=>.str (Txt.lstripChars x y)) (λ_ _ _=>.str _) ho ha h
 exact⟨δ,r,ho.mono _ _ _ (λd k v H1 s1 dv=>let ⟨⟨z,ez⟩,δ1,r1,k⟩:=k v H1 s1 dv;⟨by subst ez;rfl,δ1,r1,ha.mono _ _ _ (λds k vs H2 s2 dvs=>k vs H2 s2 dvs) k⟩) q⟩
theorem Ag (ho:PD X o to)(ha:nB X (e::es) t)(hbase:attributeBase o "rstrip" X.env (eval o X.env)=eval o X.env):PD X (.Call (.Attribute o "rstrip" apos) (e::es) [] cpos) (IZ FW xm to t):=by
 refine⟨(oV PySem.F.plainAttrs_str PySem.F.slot_str_rstrip PySem.F.type_str_rstrip zP ho.pe ha.pa hbase hfew hline hs hplain).imp λσ H Q h=>?_,Gx ho.mono ha.mono⟩
 obtain⟨δ,r,q⟩:=CI (g:=λx y=>.str (Txt.rstripChars x y)) (λ_ _ _=>.str _) ho ha h
 exact⟨δ,r,ho.mono _ _ _ (λd k v H1 s1 dv=>let ⟨⟨z,ez⟩,δ1,r1,k⟩:=k v H1 s1 dv;⟨by subst ez;rfl,δ1,r1,ha.mono _ _ _ (λds k vs H2 s2 dvs=>k vs H2 s2 dvs) k⟩) q⟩
end
end
section
variable {X:Cx}{e:Expr}{es:List Expr}{t:AD}{p pos:Pos}
seal wpAny
theorem yg:ki X (.type "int") (λxs H Q=>∃x n,xs=[.str x]/\PySem.intText? x=some n/\x.length<=640/\Q (.int n) H):=by
 intro pins s σ H vs us Q I rv h
 obtain⟨x,n,rfl,hn,hl,q⟩:=h
 obtain⟨u,rfl,u',rfl⟩:=rv.one
 exact PySem.W.KIN.call_text hn hl ⟨.int n,H,I.tok _,⟨_,rfl⟩,q⟩
def qU:cg:=λds Q=>∃x n,ds=[.str x]/\PySem.intText? x=some n/\x.length<=640/\Q (.int n)
theorem yr {K:PySem.W.Frag}:o_ K (λxs H Q=>∃x n,xs=[.str x]/\PySem.intText? x=some n/\x.length<=640/\Q (.int n) H) qU:=by
 intro H vs ds Q dvs ⟨x,n,e,h1,h2,q⟩
 subst e
 cases dvs with
 |cons dv r=>cases r;cases dv;exact⟨x,n,rfl,h1,h2,q _ H (aJ.refl _) (.int _)⟩
theorem Gz:b4 qU:=λds P P' g ⟨x,n,e,h1,h2,q⟩=>⟨x,n,e,h1,h2,g _ q⟩
theorem GH (hg:Gl X "int")(hm:X.mg "int"=none)(ha:nB X (e::es) t)(h1:starEach (e::es) X.env=(false,eval e X.env)::starEach es X.env:=by rfl)(h2:(backTo pos (starEach es X.env)).any (·.1)=false:=by rfl):PD X (.Call (.Name "int" p) (e::es) [] pos) (vB qU t):=yl (nr yg hg hm nD ha.pa (he:=h1) (hpl:=h2)) ha.mono yr Gz
end
def lR (μ:Mu)(d:D):D:=match bj μ d with
 |.dK kvs=>.dK (kvs.map λkv=>(kv.1,bj μ kv.2))
 |.lst ds=>.lst (ds.map (bj μ))
 |e=>e
def gr (μ:Mu)(δ:SD):SD:=δ.map (Option.map (lR μ))
section
variable {K:PySem.W.Frag}{H:Hp}{L:List Addr}{μ:Mu}
theorem bN.qi (f:∀(v:V) (d:D),Dv K H v d->Dv K H v (bj μ d)):∀{vs:List V} {ds:List D},bN K H vs ds->bN K H vs (ds.map (bj μ))
 |_,_,.nil=>.nil
 |_,_,.cons h r=>.cons (f _ _ h) (bN.qi f r)
theorem dS.lR (g:dS K H μ L){v:V}{d:D}(h:Dv K (aS H L) v d):Dv K H v (lR μ d):=by
 have h1:=g.view h
 unfold DC.lR
 revert h1
 cases bj μ d with
 |dK kvs =>
  intro h1
  cases h1 with
  |dK q1 q2=>exact .dK q1 (ee.qi (λ_ _ h=>g.Fs h) q2)
 |lst ds =>
  intro h1
  cases h1 with
  |lst q1 q2=>exact .lst q1 (bN.qi (λ_ _ h=>g.Fs h) q2)
 |_=>intro h1;exact h1
theorem dS.gr (g:dS K H μ L){σ:L2.St}{δ:SD}(r:bX K (aS H L) σ δ):bX K H σ (gr μ δ):=by
 refine⟨by unfold DC.gr;rw[List.length_map];exact r.len,λi d h=>?_⟩
 unfold DC.gr at h
 rw[List.getElem?_map] at h
 cases q:δ[i]? with
 |none=>rw[q] at h;cases h
 |some o =>
  rw[q] at h
  cases o with
  |none=>cases h
  |some d' =>
   cases h
   obtain⟨v,hv,dv⟩:=r.get i d' q
   exact⟨v,hv,g.lR dv⟩
end
section
variable {X:Cx}{o e:Expr}{to te:ED}{i:Nat}{x:Str}{p pos pos' apos cpos:Pos}{tf:EF}
def pf (to te:ED):fe:=λE δ μ=>to (cW μ δ) λz=>∃b es,z=.adr b/\μ.lookup b=some (.lst es)/\es.length<sizeLine/\te (cW μ δ) λd=>b6 d=true/\E.nx δ (d7 b (.lst (es++[d])) μ)
theorem p6 (ho:PD X o to)(he:PD X e te)
  (hst:starEach [e] X.env=(false,eval e X.env)::starEach [] X.env:=by rfl)(hline:(apos.endLine == cpos.line)=true:=by rfl)
  (hfew:((backTo cpos (starEach [e] X.env)).all (λx=>!x.1)&&(backToKw cpos (keywordEach [] X.env)).all (λx=>x.1.isSome)&&decide ([e].length+([]:List Keyword).length+(if([]:List Keyword).isEmpty then 0 else 1)<30))=true:=by rfl)
  (hs:swapsWith (.Call (.Attribute o "append" apos) [e] [] cpos) none pos.line X.env=pure false:=by rfl)
  (hb:attributeBase o "append" X.env (eval o X.env)=eval o X.env:=by rfl) :
  rj X (.Expr (.Call (.Attribute o "append" apos) [e] [] cpos) pos) (pf to te):=by
 refine⟨PS.imp (kQ (oV PySem.F.plainAttrs_list PySem.F.slot_list_append PySem.F.type_list_append ng ho.pe (dO he.pe iN hst) hb hfew hline hst) hs) λD σ H ⟨δ,μ,L,r,g,q⟩=>?_,
  λE E' δ μ l q=>ho.mono _ _ _ (λz ⟨b,es,k1,k2,k3,q⟩=>⟨b,es,k1,k2,k3,he.mono _ _ _ (λd ⟨f,k⟩=>⟨f,l.nx _ _ k⟩) q⟩) q⟩
 refine⟨_,g.cW r,ho.mono _ _ _ (λz ⟨a,ds,k1,k2,k3,q⟩ v H0 s0 dv=>?_) q⟩
 subst k1
 cases dv
 have g0:dS X.K H0 μ L:=g.on s0
 have t0:aJ (aS H L) (aS H0 L):=bS s0
 obtain⟨haL,vs,hH,dvs⟩:=g0.at_ _ (mem_of_lookup k2)
 refine⟨.inl ⟨rfl,_,fG.of hH⟩,_,g0.cW (r.same t0),he.mono _ _ _ (λd ⟨f,k⟩ w H1 s1 dw=>?_) q⟩
 have g1:dS X.K H1 μ L:=g0.on s1
 have s2:aJ (aS H0 L) (aS H1 L):=bS s1
 have hH1:H1 a=some (.lst vs):=s1 _ _ hH
 refine⟨a,vs,w,rfl,rfl,hH1,by rw[dvs.length];exact k3,?_⟩
 have g2:=g1.putL haL hH1 (ys:=vs++[w]) (ds:=ds++[d]) ((bN.same s2 dvs).append (.cons (dw.yy g1.da f) .nil))
 have e2:aS (upd H1 a (.lst (vs++[w]))) L=aS H1 L:=eX haL
 exact k σ _ L (by rw[e2];exact t0.trans s2) (by rw[e2];exact r.same (t0.trans s2)) g2
def BM (i:Nat)(tf:EF):fe:=λE δ μ=>∃a ds,δ[i]?=some (some (.adr a))/\μ.lookup a=some (.lst ds)/\tf δ λd μ'=>((μ'++μ).map (·.1)).Nodup->∃b es,d=.adr b/\μ'.lookup b=some (.lst es)/\ds.length+es.length<=sizeLine/\E.nx δ (d7 a (.lst (ds++es)) (μ'++μ))
theorem wj (hi:X.N[i]?=some x)(hv:Cz X.env.scope x)(he:PF X e tf)(hd:(x == ("__debug__":Str))=false:=by decide)(hcd:(x == ("__classdict__":Str))=false:=by decide)
  (hst:starEach [e] X.env=(false,eval e X.env)::starEach [] X.env:=by rfl)(hline:(apos.endLine == cpos.line)=true:=by rfl)
  (hfew:((backTo cpos (starEach [e] X.env)).all (λx=>!x.1)&&(backToKw cpos (keywordEach [] X.env)).all (λx=>x.1.isSome)&&decide ([e].length+([]:List Keyword).length+(if([]:List Keyword).isEmpty then 0 else 1)<30))=true:=by rfl)
  (hs:swapsWith (.Call (.Attribute (.Name x p) "extend" apos) [e] [] cpos) none pos.line X.env=pure false:=by rfl)
  (hb:attributeBase (.Name x p) "extend" X.env (eval (.Name x p) X.env)=eval (.Name x p) X.env:=by rfl) :
  rj X (.Expr (.Call (.Attribute (.Name x p) "extend" apos) [e] [] cpos) pos) (BM i tf):=by
 refine⟨PS.imp (kQ (oV PySem.F.plainAttrs_list PySem.F.slot_list_extend PySem.F.type_list_extend zN (qK hi hv hd hcd) (dO (lu he.pe) iN hst) hb hfew hline hst) hs) λD σ H ⟨δ,μ,L,r,g,q⟩=>?_,
  λE E' δ μ l ⟨a,ds,k1,k2,q⟩=>⟨a,ds,k1,k2,he.mono _ _ _ (λd μ' k n=>let ⟨b,es,e1,e2,e3,k⟩:=k n;⟨b,es,e1,e2,e3,l.nx _ _ k⟩) q⟩⟩
 obtain⟨a,ds,k1,k2,q⟩:=q
 obtain⟨v,hv1,dv⟩:=r.get i _ k1
 cases dv
 obtain⟨haL,vs,hH,dvs⟩:=g.at_ _ (mem_of_lookup k2)
 refine⟨_,hv1,.inl ⟨rfl,_,fG.of hH⟩,L,g.da,δ,r,he.mono _ _ _ (λd μ' k w H' L' s' g' dw z=>?_) q⟩
 obtain⟨g2,e2⟩:=g.join g' z s'
 obtain⟨b,es,ed,hbl,hlen,nx⟩:=k g2.AF
 subst ed
 cases dw
 obtain⟨hbL,ws,hB,dws⟩:=g'.at_ _ (mem_of_lookup hbl)
 have nbL:b∉L:=λhb=>by rw[z b hb] at hB;cases hB
 have hA1:bC H' H L a=some (.lst vs):=by rw[aY haL];exact hH
 have hB1:bC H' H L b=some (.lst ws):=by rw[aV nbL];exact hB
 refine⟨a,b,vs,ws,rfl,rfl,hA1,hB1,by rw[dvs.length,dws.length];exact hlen,?_⟩
 have haL2:a∈L'++L:=List.mem_append_right _ haL
 have g3:=g2.putL haL2 hA1 (ys:=vs++ws) (ds:=ds++es) (by rw[e2];exact(bN.same s' dvs).append dws)
 have e3:aS (upd (bC H' H L) a (.lst (vs++ws))) (L'++L)=aS H' L':=by rw[eX haL2,e2]
 exact nx σ _ (L'++L) (by rw[e3];exact s') (by rw[e3];exact r.same s') g3
def BO (k i:Nat):fe:=λE δ μ=>∃a ds d,δ[i]?=some (some (.adr a))/\μ.lookup a=some (.lst (ds++[d]))/\E.nx (δ.set k (some d)) (d7 a (.lst ds) μ)
theorem bN.last {K:PySem.W.Frag}{H:Hp}:∀{vs:List V} {ds:List D} {d:D},bN K H vs (ds++[d])->∃ws w,vs=ws++[w]/\bN K H ws ds/\Dv K H w d
 |_,[],_,.cons h .nil=>⟨[],_,rfl,.nil,h⟩
 |_,_::_,_,.cons h r=>let ⟨ws,w,e,h1,h2⟩:=bN.last r;⟨_::ws,w,by rw[e];rfl,.cons h h1,h2⟩
theorem Dp {y:Str}{k:Nat}{py:Pos}(hN:X.N.Nodup)(hk:X.N[k]?=some y)(hy:Loc X.env.scope y)(hi:X.N[i]?=some x)(hv:Cz X.env.scope x)(hd:(x == ("__debug__":Str))=false:=by decide)(hcd:(x == ("__classdict__":Str))=false:=by decide)
  (hline:(apos.endLine == cpos.line)=true:=by rfl)(hs:swapsWith (.Call (.Attribute (.Name x p) "pop" apos) [] [] cpos) (some (.Name y py)) pos.line X.env=pure false:=by rfl)
  (hb:attributeBase (.Name x p) "pop" X.env (eval (.Name x p) X.env)=eval (.Name x p) X.env:=by rfl)
  (hf:X.fn y=true\/X.env.scope.names.lookup y=some .local:=by first|exact .inl rfl|exact .inr rfl|assumption) :
  rj X (.Assign [.Name y py] (.Call (.Attribute (.Name x p) "pop" apos) [] [] cpos) pos) (BO k i):=by
 refine⟨PS.imp (tT hN hk hy (HR PySem.F.plainAttrs_list PySem.F.slot_list_pop PySem.F.type_list_pop G_ (qK hi hv hd hcd) hb hline) hs hf) λD σ H ⟨δ,μ,L,r,g,q⟩=>?_,
  λE E' δ μ l ⟨a,ds,d,k1,k2,q⟩=>⟨a,ds,d,k1,k2,l.nx _ _ q⟩⟩
 obtain⟨a,ds,d,k1,k2,q⟩:=q
 obtain⟨v,hv1,dv⟩:=r.get i _ k1
 cases dv
 obtain⟨haL,vs,hH,dvs⟩:=g.at_ _ (mem_of_lookup k2)
 obtain⟨ws,w,ev,dws,dw⟩:=dvs.last
 subst ev
 refine⟨_,hv1,.inl ⟨rfl,_,fG.of hH⟩,a,ws++[w],w,rfl,rfl,hH,by simp,?_⟩
 rw[List.dropLast_concat]
 have e2:aS (upd H a (.lst ws)) L=aS H L:=eX haL
 exact q _ _ L (by rw[e2];exact aJ.refl _) (by rw[e2];exact r.set k dw) (g.putL haL hH dws)
def FP (te:ED):fe:=λE δ μ=>te (gr μ δ) λd=>E.rt d []
theorem x8 (he:PD X e te):rj X (.Return (some e) pos) (FP te) :=
 ⟨PS.imp (w6 he.pe) λD σ H ⟨δ,μ,L,r,g,h⟩=>⟨_,g.gr r,he.mono _ _ _ (λd q v H1 s1 dv=>q v H1 [] (by rw[bu];exact au.trans s1) dS.nil (by rw[bu];exact dv)) h⟩,
  λE E' δ μ l h=>he.mono _ _ _ (λd q=>l.rt _ _ q) h⟩
def Iw (tf:EF):EF:=λδ Q=>tf δ λd μ'=>∀a,(((a,MD.lst [d])::μ').map (·.1)).Nodup->Q (.adr a) ((a,.lst [d])::μ')
theorem GV (he:PF X e tf)(hst:starEach [e] X.env=(false,eval e X.env)::starEach [] X.env:=by rfl):PF X (.List [e] pos) (Iw tf):=by
 refine⟨(wt (dO he.pe iN hst)).imp λσ H Q ⟨δ,r,q⟩=>⟨δ,r,he.mono _ _ _ (λd μ' k v H1 L1 s1 g1 dv=>⟨by show 1<=sizeLine;decide,λa ha=>?_⟩) q⟩,λδ P P' g q=>he.mono _ _ _ (λd μ' k a n=>g _ _ (k a n)) q⟩
 obtain⟨g2,e2⟩:=g1.zS ha (ys:=[v]) (ds:=[d]) (.cons dv .nil)
 exact k a g2.AF (.ref a) _ (a::L1) (by rw[e2];exact s1) g2 (.adr a)
def Az (ta tb:ED):EF:=λδ Q=>ta δ λx=>tb δ λy=>∃xs ys,x=.lst xs/\y=.lst ys/\xs.length+ys.length<=sizeLine/\∀a,Q (.adr a) [(a,.lst (xs++ys))]
theorem A2 {a b:Expr}{ta tb:ED}(ha:PD X a ta)(hb:PD X b tb):PF X (.BinOp a .Add b pos) (Az ta tb):=by
 refine⟨(Fd yC ha.pe hb.pe).imp λσ H Q ⟨δ,r,q⟩=>⟨δ,r,ha.mono _ _ _ (λd q v H1 s1 dv=>⟨δ,r.same s1,hb.mono _ _ _ (λd2 ⟨xs,ys,e1,e2,hz,k⟩ w H2 s2 dw=>?_) q⟩) q⟩,λδ P P' g q=>ha.mono _ _ _ (λd q=>hb.mono _ _ _ (λd2 ⟨xs,ys,e1,e2,hz,k⟩=>⟨xs,ys,e1,e2,hz,λa=>g _ _ (k a)⟩) q) q⟩
 subst e1
 subst e2
 have dv2:=Dv.same s2 dv
 cases dv2 with
 |lst p1 p2 =>
  cases dw with
  |lst p3 p4 =>
   refine⟨_,_,_,_,rfl,rfl,p1,p3,by rw[p2.length,p4.length];exact hz,λl hl=>?_⟩
   obtain⟨g2,e2⟩:=(dS.nil (K:=X.K) (H:=H2)).zS hl (ds:=xs++ys) (by rw[bu];exact p2.append p4)
   exact k l (.ref l) _ [l] (by rw[e2,bu];exact s1.trans s2) g2 (.adr l)
def x5 (i:Nat)(tf:EF):fe:=λE δ μ=>tf (cW μ δ) λd μ'=>∃a ds,d=.adr a/\μ'=[(a,.lst ds)]/\ds.all ft=true/\((∀m,(a,m)∉μ)->E.nx (δ.set i (some (.adr a))) ((a,.lst ds)::μ))
theorem tH (hN:X.N.Nodup)(hi:X.N[i]?=some x)(hx:Loc X.env.scope x)(he:PF X e tf)(hs:swapsWith e (some (.Name x pos')) pos.line X.env=pure false:=by rfl)
  (hf:X.fn x=true\/X.env.scope.names.lookup x=some .local:=by first|exact .inl rfl|exact .inr rfl|assumption):rj X (.Assign [.Name x pos'] e pos) (x5 i tf):=by
 refine⟨PS.imp (tT hN hi hx he.pe hs hf) λD σ H ⟨δ,μ,L,r,g,h⟩=>⟨_,g.cW r,he.mono _ _ _ (λd μ' ⟨a,ds,e1,e2,fl,k⟩ v H1 L1 s1 g1 dv=>?_) h⟩,λE E' δ μ l h=>he.mono _ _ _ (λd μ' ⟨a,ds,e1,e2,fl,k⟩=>⟨a,ds,e1,e2,fl,λn=>l.nx _ _ (k n)⟩) h⟩
 subst e1
 subst e2
 cases dv
 obtain⟨haL,vs,hH,dvs⟩:=g1.at_ _ List.mem_cons_self
 have sF:aJ H H1:=s1.trans au
 have hn:H a=none:=by
  cases q:H a with
  |none=>rfl
  |some o=>have:=s1 _ _ q;rw[cI haL] at this;cases this
 have aL:a∉L:=λhl=>by
  obtain⟨o,q⟩:=(g.da a hl).there
  rw[hn] at q;cases q
 have hu:upd (del H1 a) a (.lst vs)=H1:=by
  funext b
  by_cases hb:b=a
  ·rw[hb,aM];exact hH.symm
  ·rw[aN hb,fq hb]
 have sd:aJ H (del H1 a):=λb o hb=>by
  rw[fq (ah hb hn)]
  exact sF _ _ hb
 have gd:dS X.K (del H1 a) μ L:=g.on sd
 obtain⟨g2,e2⟩:=gd.zS (a:=a) (by exact uX) (ys:=vs) (ds:=ds) (dvs.sP fl)
 rw[hu] at g2 e2
 refine k (λm hm=>aL (g.at_ _ hm).1) _ _ (a::L) (by rw[e2];exact bS sd) ?_ g2
 rw[e2]
 exact(r.same (bS sd)).set i (.adr a)
end
def qo (bs:List Addr):Mu:=bs.map λb=>(b,.lst [])
section
variable {X:Cx}{scope:Scope}{cl:List (Str × Addr)}{x:Str}{cn:List Str}{caps:List Nat}{elt tg iter:Expr}{ifs:List Expr}{ti:AD}{tt:TD}{tf:EF}{pos:Pos}
def GQ (caps:List Nat)(ti:AD)(tt:TD)(tf:EF):EF:=λδ Q=>ti δ λds=>ds.length<sizeLine/\(∀d∈ds,tt (some d::iu caps δ) λb=>b=true/\tf (some d::iu caps δ) λy μ'=>∃b,y=.adr b/\μ'=[(b,.lst [])]) /\
 ∀a (bs:List Addr),bs.length=ds.length->(((a,MD.lst (bs.map D.adr))::qo bs.reverse).map (·.1)).Nodup->Q (.adr a) ((a,.lst (bs.map D.adr))::qo bs.reverse)
theorem xh {K:PySem.W.Frag}{H:Hp}:∀bs:List Addr,bN K H (bs.map V.ref) (bs.map D.adr)
 |[]=>.nil
 |b::bs=>.cons (.adr b) (xh bs)
theorem Iy (S:bQ X scope cl [x] caps cn)(hc:X.calm=true)(hi:PId X tg iter ti)(hg:∀C fp s₂ H₂,PG (ao X scope cl C ([x]++cn) fp s₂ H₂) tg (fK 0))(ht:∀C fp s₂ H₂,ql (ao X scope cl C ([x]++cn) fp s₂ H₂) ifs tt)
  (he:∀C fp s₂ H₂,PF (ao X scope cl C ([x]++cn) fp s₂ H₂) elt tf)(hs:∀x,foldedSetIterable iter X.env x=pure x:=by intro _;rfl):PF X (.ListComp elt [⟨tg,iter,ifs,0⟩] scope pos) (GQ caps ti tt tf):=by
 have mt:fF tt:=(ht 0 [] X.s₀ X.H₀).mono
 have me:=(he 0 [] X.s₀ X.H₀).mono
 refine⟨(tP S hc hi.pi hg (λC fp s₂ H₂=>eF (tt:=oT X.K tt) (ht C fp s₂ H₂).IV) (λC fp s₂ H₂=>fc (lu (te:=λσ H Q=>∃ δ,bX X.K H σ δ/\tf δ (kF X.K H Q)) (he C fp s₂ H₂).pe)) hs).imp λσ H Q ⟨δ,r,h⟩=>?_,λδ P P' g h=>hi.mono _ _ _ (λds ⟨hl,each,k⟩=>⟨hl,each,λa bs e n=>g _ _ (k a bs e n)⟩) h⟩
 refine⟨δ,r,hi.mono _ _ _ (λds ⟨hlen,each,k⟩ J H1 s1 it D hD=>?_) h⟩
 refine⟨λi m ys H'=>m=ds.length - i/\i<=ds.length/\∃H0 L0 bs,H0 D=none/\aJ H1 (aS H0 L0)/\dS X.K H0 (qo bs.reverse) L0/\bs.length=i/\ys=bs.map V.ref/\H'=upd H0 D (.lst ys),⟨ds.length,rfl,Nat.zero_le _,H1,[],[],hD,by rw[bu];exact aJ.refl _,dS.nil,rfl,rfl,rfl⟩,?_⟩
 rintro i m ys H' ⟨rfl,hle,H0,L0,bs,h0,s0,g0,hbs,hys,rfl⟩
 refine⟨aM,?_⟩
 have sU:aJ H1 (upd H0 D (.lst ys)):=(s0.trans au).trans (af h0)
 by_cases hlt:i<ds.length
 ·refine .inr ⟨it.go i _ sU hlt,λx H'' y=>?_⟩
  obtain⟨s2,d,hd,Hx,sx1,dvx,only,sx⟩:=it.AH i _ x H'' sU hlt y
  have hD2:H'' D=some (.lst ys):=s2 _ _ aM
  have nex:∀a o,Hx a=some o->a≠D:=λa o z w=>by
   rcases only a o z with z1|z1
   ·exact ah z1 hD w
   ·rw[w,aM] at z1;cases z1
  have sd1:aJ H0 (del H'' D):=λa o z=>by
   rw[fq (ah z h0)]
   exact s2 a o (af h0 a o z)
  have sdx:aJ Hx (aS (del H'' D) L0):=λa o z=>by
   have nb:a∉L0:=λha=>by
    obtain⟨o',q'⟩:=(g0.da a ha).there
    rcases only a o z with z1|z1
    ·have:=s0 _ _ z1
     rw[cI ha] at this;cases this
    ·rw[aN (nex a o z),q'] at z1;cases z1
   rw[bG nb,fq (nex a o z)]
   exact sx a o z
  have sh:aJ (aS H0 L0) (aS (del H'' D) L0):=bS sd1
  have rel:bX X.K (aS (del H'' D) L0) (some x::caps.map λj=>(σ[j]?).getD none) (some d::iu caps δ):=oz (r.same (s1.trans (s0.trans sh))) (dvx.same sdx) caps
  refine⟨Le.one,D,ys,hD2,_,rel.same au,mt _ _ _ (λb ⟨eb,hb⟩ H3 s3 h3=>?_) (each d (List.mem_of_getElem? hd))⟩
  subst eb
  refine aR ?_
  refine⟨D,ys,aM,?_⟩
  rw[o4 h3]
  have g3:dS X.K H3 (qo bs.reverse) L0:=g0.on (sd1.trans s3)
  have sh3:aJ (aS H0 L0) (aS H3 L0):=bS (sd1.trans s3)
  refine⟨L0,g3.da,_,rel.same (bS s3),me _ _ _ (λy μ' ⟨b,ey,em⟩ v H4 L4 s4 g4 dv z4 h4=>⟨aM,?_,ds.length - (i+1),by omega,rfl,hlt,bC H4 H3 L0,L4++L0,bs++[b],h4,?_,?_,?_,?_,m6⟩) hb⟩
  ·rw[hys,List.length_map,hbs];omega
  ·obtain⟨_,e2⟩:=g3.join g4 z4 s4
   rw[e2]
   exact(s0.trans sh3).trans s4
  ·obtain⟨g5,_⟩:=g3.join g4 z4 s4
   subst em
   rw[List.reverse_append]
   exact g5
  ·rw[List.length_append,hbs];rfl
  ·subst ey
   cases dv
   rw[hys,List.map_append];rfl
 ·have e:i=ds.length:=by omega
  subst e
  refine .inl ⟨it.stop _ sU,?_⟩
  subst hys
  obtain⟨g2,e2⟩:=g0.zS h0 (ys:=bs.map V.ref) (ds:=bs.map DC.D.adr) (xh bs)
  exact k D bs hbs g2.AF (.ref D) _ (D::L0) (by rw[e2];exact s1.trans s0) g2 (.adr D)
end
section
variable {X:Cx}{o e ke:Expr}{to te tk:ED}{pos pos':Pos}
def nY (to tk te:ED):fe:=λE δ μ=>te (gr μ δ) λd=>b6 d=true/\to (cW μ δ) λz=>∃b kvs,z=.adr b/\μ.lookup b=some (.dK kvs)/\kvs.length<sizeLine/\tk (cW μ δ) λy=>∃k,DR y=some k/\E.nx δ (d7 b (.dK (b7 kvs k d)) μ)
theorem jD (hu:X.A.units+64<cLine)(ho:PD X o to)(hk:PD X ke tk)(he:PD X e te)
  (hs:swapsWith e (some (.Subscript o ke pos')) pos.line X.env=pure false:=by rfl):rj X (.Assign [.Subscript o ke pos'] e pos) (nY to tk te):=by
 refine⟨PS.imp (EH (by omega) ho.pe hk.pe he.pe hs) λD σ H ⟨δ,μ,L,r,g,q⟩=>⟨_,g.gr r,he.mono _ _ _ (λd ⟨fl,q⟩ v H1 s1 dv=>?_) q⟩,
  λE E' δ μ l q=>he.mono _ _ _ (λd ⟨fl,q⟩=>⟨fl,ho.mono _ _ _ (λz ⟨b,kvs,k1,k2,k3,q⟩=>⟨b,kvs,k1,k2,k3,hk.mono _ _ _ (λy ⟨k,e1,q⟩=>⟨k,e1,l.nx _ _ q⟩) q⟩) q⟩) q⟩
 have g1:dS X.K H1 μ L:=g.on s1
 have t1:aJ (aS H L) (aS H1 L):=bS s1
 have dvh:=dv.yy g1.da fl
 refine⟨_,g1.cW (r.same t1),ho.mono _ _ _ (λz ⟨b,kvs,k1,k2,k3,q⟩ w H2 s2 dw=>?_) q⟩
 subst k1
 cases dw
 have g2:dS X.K H2 μ L:=g1.on s2
 have t2:aJ (aS H1 L) (aS H2 L):=bS s2
 refine⟨_,g2.cW (r.same (t1.trans t2)),hk.mono _ _ _ (λy ⟨k,ek,q⟩ u H3 s3 du=>?_) q⟩
 have g3:dS X.K H3 μ L:=g2.on s3
 have t3:aJ (aS H2 L) (aS H3 L):=bS s3
 obtain⟨hbL,ws,hH,dvk⟩:=g3.at_ _ (mem_of_lookup k2)
 rw[Gh du ek]
 refine⟨b,_,rfl,AK.k hH (by rw[dvk.length];exact k3),?_⟩
 have e4:aS (upd H3 b (.dK (L2.putK ws k v))) L=aS H3 L:=eX hbL
 have tt:=t1.trans (t2.trans t3)
 exact q σ _ L (by rw[e4];exact tt) (by rw[e4];exact r.same tt) (g3.putK hbL hH (dvk.put (dvh.same (t2.trans t3))))
end
section
variable {X:Cx}{scope:Scope}{cl:List (Str × Addr)}{x:Str}{caps:List Nat}{cn:List Str}{tg iter elt:Expr}{ifs:List Expr}{ti:AD}{tt:TD}{te:ED}{pos:Pos}{k:Nat}{v:Str}{pv spos:Pos}
def JN (k:Nat)(caps:List Nat)(ti:AD)(tt:TD)(te:ED):fe:=λE δ μ=>kC caps ti tt te (gr μ δ) λd=>∃ds,d=.lst ds/\ds.all ft=true/\E.nx (δ.set k (some d)) μ
theorem G8 (hNd:X.N.Nodup)(hk:X.N[k]?=some v)(hl:Loc X.env.scope v)(S:bQ X scope cl [x] caps cn)(hc:X.calm=true)(hi:PId X tg iter ti)(hg:∀C fp s₂ H₂,PG (ao X scope cl C ([x]++cn) fp s₂ H₂) tg (fK 0))(ht:∀C fp s₂ H₂,ql (ao X scope cl C ([x]++cn) fp s₂ H₂) ifs tt)
  (he:∀C fp s₂ H₂,PD (ao X scope cl C ([x]++cn) fp s₂ H₂) elt te)(hsw:swapsWith (.ListComp elt [⟨tg,iter,ifs,0⟩] scope pos) (some (.Name v pv)) spos.line X.env=pure true:=by rfl)(hf:X.fn v=true\/X.env.scope.names.lookup v=some .local:=by first|exact .inl rfl|exact .inr rfl|assumption)
  (hs:∀x,foldedSetIterable iter X.env x=pure x:=by intro _;rfl) :
  rj X (.Assign [.Name v pv] (.ListComp elt [⟨tg,iter,ifs,0⟩] scope pos) spos) (JN k caps ti tt te):=by
 have mt:=(ht 0 [] X.s₀ X.H₀).mono
 have me:=(he 0 [] X.s₀ X.H₀).mono
 have core:PS X (.Assign [.Name v pv] (.ListComp elt [⟨tg,iter,ifs,0⟩] scope pos) spos) (Fi k (rQ 1 caps (λσ H R=>∃ δ,bX X.K H σ δ/\ti δ λds=>∀J H1,aJ H H1->Fw X.K J H1 ds->R J H1) (fK 0) (qe (oT X.K tt)) (qb (oE X.K te)))):=tS hNd hk hl S hc hi.pi hg (λC fp s₂ H₂=>eF (ht C fp s₂ H₂).IV) (λC fp s₂ H₂=>fc (he C fp s₂ H₂).pe) hsw hf hs
 refine⟨PS.imp core λD σ H ⟨δ,μ,L,r,g,h⟩=>?_,λE E' δ μ l h=>pq hi.mono _ _ _ (λd ⟨ds,e,f,q⟩=>⟨ds,e,f,l.nx _ _ q⟩) h⟩
 refine rD hi.mono mt me (g.gr r) h λH0 b ys ds hb s0 dvs ⟨ds',ed,fl,nx⟩=>?_
 cases ed
 have sF:aJ H (upd H0 b (.lst ys)):=s0.trans (af hb)
 have bL:b∉L:=λhbL=>by
  obtain⟨o',q'⟩:=(g.da _ hbL).there
  have:=s0 _ _ q'
  rw[hb] at this
  cases this
 exact nx _ _ L (bS sF) ((r.same (bS sF)).set k (.lst (fG.of (show aS (upd H0 b (.lst ys)) L b=some (.lst ys) by rw[bG bL,aM])) (dvs.sP fl))) (g.on sF)
end
section
def A1 (te:ED):EF:=λδ Q=>te δ λd=>Q d []
theorem A3 {X:Cx}{e:Expr}{te:ED}(he:PD X e te):PF X e (A1 te) :=
 ⟨he.pe.imp λσ H Q ⟨δ,r,q⟩=>⟨δ,r,he.mono _ _ _ (λd k v H1 s1 dv=>k v H1 [] (by rw[bu];exact s1) dS.nil (by rw[bu];exact dv)) q⟩,λδ P P' g q=>he.mono _ _ _ (λd q=>g _ _ q) q⟩
def qJ:List (Str × EF)->SD->(List (Key × D)->Mu->Prop)->Prop
 |[],_,Q=>Q [] []
 | (k,tf)::r,δ,Q=>tf δ λd μ1=>qJ r δ λl μ2=>Q ((.inr k,d)::l) (μ2++μ1)
structure Kb (X:Cx) (pos:Pos) (keys:List (Option Expr)) (values:List Expr) (ts:List (Str × EF)):Prop where
 ex:∃trs,Ie X pos keys values trs/\∀ σ H Q δ L μ,bX X.K (aS H L) σ δ->dS X.K H μ L->qJ ts δ (λkvs μ'=>∀ws H' L',aJ (aS H L) (aS H' L')->dS X.K H' (μ'++μ) L'->(∀b,b∈L->b∈L'/\H' b=H b)->ee X.K (aS H' L') ws kvs->Q (ws.map λkv=>(kV kv.1,kv.2)) H')->t_ trs σ H Q
 mono:∀ δ (P P':List (Key × D)->Mu->Prop),(∀l μ,P l μ->P' l μ)->qJ ts δ P->qJ ts δ P'
variable {X:Cx}{pos p kp:Pos}{k:Str}{j:Nat}{e:Expr}{tf:EF}{keys:List (Option Expr)}{values:List Expr}{ts:List (Str × EF)}
theorem HX:Kb X pos [] [] []:=⟨⟨[],EG,λσ H Q δ L μ r g q=>q [] H L (aJ.refl _) g (λb hb=>⟨hb,rfl⟩) .nil⟩,λδ P P' g h=>g _ _ h⟩
theorem mR (he:PF X e tf)(hr:Kb X pos keys values ts):Kb X pos (some (.Constant (.str k) j kp)::keys) (e::values) ((k,tf)::ts):=by
 obtain⟨trs,h1,h2⟩:=hr.ex
 refine⟨⟨_,Bq Bn (lu he.pe) h1,λσ H Q δ L μ r g q=>?_⟩,λδ P P' g h=>he.mono _ _ _ (λd μ1 q=>hr.mono _ _ _ (λl μ2 q=>g _ _ q) q) h⟩
 refine⟨L,g.da,δ,r,he.mono _ _ _ (λd μ1 q v H1 L1 s1 g1 dv z=>?_) q⟩
 obtain⟨g2,e2⟩:=g.join g1 z s1
 refine h2 σ _ _ δ (L1++L) (μ1++μ) (by rw[e2];exact r.same s1) g2 (hr.mono _ _ _ (λl μ2 q ws H' L' s' g' keep dk=>?_) q)
 rw[e2] at s'
 refine q ((.inr k,v)::ws) H' L' (s1.trans s') (by rw[List.append_assoc];exact g') (λb hb=>?_) (.cons (dv.same s') dk)
 obtain⟨k1,k2⟩:=keep b (List.mem_append_right _ hb)
 exact⟨k1,by rw[k2,aY hb]⟩
def FC (ts:List (Str × EF)):EF:=λδ Q=>qJ ts δ λkvs μ'=>kvs.length<=15/\∀a,(((a,MD.dK (tF kvs))::μ').map (·.1)).Nodup->Q (.adr a) (d7 a (.dK (tF kvs)) (μ'++[(a,.dK [])]))
theorem GU (h:Kb X pos keys values ts)(hall:keys.all (·.isSome)=true)(hl:keys.length=values.length)(h0:keys≠[])(h15:keys.length<=15):PF X (.Dict keys values pos) (FC ts):=by
 obtain⟨trs,h1,h2⟩:=h.ex
 refine⟨(D5 h1 hall hl h0 h15).imp λσ H Q ⟨δ,r,q⟩ p hp=>?_,λδ P P' g q=>h.mono _ _ _ (λl μ ⟨a,b⟩=>⟨a,λx n=>g _ _ (b x n)⟩) q⟩
 obtain⟨g0,e0⟩:=dS.Je (K:=X.K) (ds:=[]) hp .nil
 refine h2 σ _ _ δ [p] [(p,.dK [])] (by rw[e0];exact r) g0 (h.mono _ _ _ (λkvs μ' ⟨hk,q⟩ ws H' L' s' g' keep dk=>?_) q)
 obtain⟨pL,hp'⟩:=keep p List.mem_cons_self
 rw[aM] at hp'
 rw[e0] at s'
 refine⟨hp',ws,rfl,by rw[dk.length];exact hk,?_⟩
 have e4:aS (upd H' p (.dK (jC [] ws))) L'=aS H' L':=eX pL
 have g4:=g'.putK pL hp' (dk.merged .nil)
 refine q p ?_ (.ref p) _ L' (by rw[e4];exact s') g4 (.adr p)
 have n:=g'.AF
 rw[List.map_append] at n
 exact(List.perm_append_comm.nodup_iff).mp n
end
section
variable {X:Cx}{a b:Expr}{ta tb:ED}{pos:Pos}
theorem KD (hu:X.A.units+64<cLine)(ha:PD X a ta)(hb:PD X b tb)(hm:behindInMarks .In b=false):m9 X (.Compare a [.In] [b] pos) (bK (o9 A0 ta tb)):=m5 ((nj.or nk).or (HJ hu)) Aq FT ha hb hm
end
end DC
namespace K14
open PySem PySem.Spec PyProof.Rows L2 DC
theorem iP14:(0:Int)<14:=by decide
theorem iP2:(0:Int)<2:=by decide
theorem iP2147483399:(0:Int)<2147483399:=by decide
theorem iP2147483647:(0:Int)<2147483647:=by decide
theorem iP256:(0:Int)<256:=by decide
theorem iP26:(0:Int)<26:=by decide
theorem iP3:(0:Int)<3:=by decide
theorem iP4:(0:Int)<4:=by decide
theorem iP5:(0:Int)<5:=by decide
theorem iP7:(0:Int)<7:=by decide
theorem iP9:(0:Int)<9:=by decide
theorem zL0:0<=sizeLine:=by decide
theorem zL1:1<=sizeLine:=by decide
theorem zL2:2<=sizeLine:=by decide
theorem zL3:3<=sizeLine:=by decide
theorem zL4:4<=sizeLine:=by decide
theorem zL7:7<=sizeLine:=by decide
def top (i:Nat):Stmt:=PySem.Challenge.pw_runrows_k14_parts_read.main.body.getD i (.Pass ⟨0,0,0,0⟩)
def bM:Stmt->List Stmt
 |.ClassDef _ _ _ b _ _ _ _ _ _ _=>b
 |_=>[]
theorem cL {N P:List Str}{sc:Scope}(a:sc.kind=.function:=by rfl)(b:sc.isCoroutine=false:=by rfl)(c:sc.isGenerator=false:=by rfl)(d:N.Nodup:=by decide +kernel)(e:N.take P.length=P:=by rfl)
  (f:∀x∈P,sc.names.lookup x=some .local\/sc.names.lookup x=some .cell:=by decide +kernel)(g:∀y∈sc.names,y.2≠.free:=by decide +kernel):aG N P sc:=⟨a,b,c,d,e,f,g⟩
abbrev gi:Stmt:=top 13
theorem jW:aG ["text"] ["text"] (aB gi):=cL
abbrev e_:Stmt:=top 14
theorem hW:aG ["text"] ["text"] (aB e_):=cL
abbrev nv:Stmt:=top 15
theorem qP:aG ["thing"] ["thing"] (aB nv):=cL
abbrev nu:Stmt:=top 16
theorem qO:aG ["thing","words"] ["thing"] (aB nu):=cL
abbrev jK:Stmt:=top 17
theorem mr:aG ["thing"] ["thing"] (aB jK):=cL
abbrev l4:Stmt:=top 18
theorem oZ:aG ["thing"] ["thing"] (aB l4):=cL
abbrev iY:Stmt:=top 19
theorem lO:aG ["value"] ["value"] (aB iY):=cL
abbrev jN:Stmt:=top 24
theorem mw:aG ["name"] ["name"] (aB jN):=cL
abbrev iW:Stmt:=top 33
theorem lM:aG ["first"] ["first"] (aB iW):=cL
abbrev iU:Stmt:=top 34
theorem lK:aG ["first"] ["first"] (aB iU):=cL
abbrev jJ:Stmt:=top 41
theorem mq:aG ["told"] ["told"] (aB jJ):=cL
abbrev l6:Stmt:=top 42
theorem og:aG ["told","inner","word"] ["told","inner"] (aB l6):=cL
abbrev l8:Stmt:=top 43
theorem oi:aG ["told","inner","word"] ["told","inner"] (aB l8):=cL
abbrev gn:Stmt:=top 44
theorem jY:aG ["told"] ["told"] (aB gn):=cL
abbrev kW:Stmt:=top 45
theorem qS:aG ["told","inner"] ["told"] (aB kW):=cL
abbrev jM:Stmt:=top 51
theorem mv:aG ["holds"] ["holds"] (aB jM):=cL
abbrev ny:Stmt:=top 52
theorem qQ:aG ["item"] ["item"] (aB ny):=cL
abbrev iV:Stmt:=top 53
theorem lL:aG ["text"] ["text"] (aB iV):=cL
abbrev jO:Stmt:=top 54
theorem mx:aG ["word","figures"] ["word"] (aB jO):=cL
abbrev l9:Stmt:=top 55
theorem oj:aG ["item"] ["item"] (aB l9):=cL
abbrev l0:Stmt:=top 56
theorem oY:aG ["items"] ["items"] (aB l0):=cL
abbrev n0:Stmt:=top 57
theorem qT:aG ["item"] ["item"] (aB n0):=cL
abbrev gj:Stmt:=top 58
theorem jX:aG ["items","many"] ["items"] (aB gj):=cL
abbrev gp:Stmt:=top 59
theorem jZ:aG ["items","many","one","word"] ["items"] (aB gp):=cL
abbrev gC:Stmt:=top 60
theorem iq:aG ["items"] ["items"] (aB gC):=cL
abbrev l7:Stmt:=top 61
theorem oh:aG ["levels","word","bare","core","at","items"] ["levels","word"] (aB l7):=cL
abbrev iX:Stmt:=top 62
theorem lN:aG ["words","levels","word"] ["words"] (aB iX):=cL
abbrev l5:Stmt:=top 63
theorem oa:aG ["words","found"] ["words"] (aB l5):=cL
abbrev nz:Stmt:=top 64
theorem qR:aG ["text"] ["text"] (aB nz):=cL
abbrev gB:Stmt:=top 66
theorem il:aG ["_law_script","_law_k"] ["_law_script","_law_k"] (aB gB):=cL
abbrev iR:Stmt:=top 67
theorem lG:aG ["_law_cell","_law_k","_law_mix"] ["_law_cell","_law_k"] (aB iR):=cL
abbrev iS:Stmt:=top 68
theorem lH:aG ["_law_cell","_law_many","_law_letters","_law_base","_law_k","_law_at","_law_ahead"] ["_law_cell","_law_many"] (aB iS):=cL
abbrev gh:Stmt:=top 69
theorem jV:aG ["_law_mix"] ["_law_mix"] (aB gh):=cL
abbrev iT:Stmt:=top 70
theorem lJ:aG ["_law_mix","_law_kind"] ["_law_mix","_law_kind"] (aB iT):=cL
abbrev gP:Stmt:=top 71
theorem mn:aG ["_law_found","_law_due"] ["_law_found","_law_due"] (aB gP):=cL
abbrev jI:Stmt:=top 72
theorem mm:aG ["_law_cell","_law_names_here","_law_many_in","_law_count","_law_plan_here","_law_k","_law_truths","_law_on"] ["_law_cell"] (aB jI):=cL
abbrev jH:Stmt:=top 73
theorem ml:aG ["_law_cell","_law_plan_here","_law_ready","_law_kind","_law_beat","_law_some"] ["_law_cell","_law_plan_here","_law_ready","_law_kind","_law_beat"] (aB jH):=cL
abbrev fX:Stmt:=top 74
theorem lI:aG ["_law_cell","_law_plan_here","_law_ready","_law_kind","_law_beat","_law_deep","_law_way","_law_mixes","_law_first","_law_often","_law_some","_law_sign","_law_within","_law_one","_law_name","_law_other"] ["_law_cell","_law_plan_here","_law_ready","_law_kind","_law_beat","_law_deep"] (aB fX):=cL
abbrev cu:Stmt:=top 75
theorem gS:aG ["_law_told","_law_word","_law_parts"] ["_law_told"] (aB cu):=cL
abbrev dz:Stmt:=top 76
theorem gG:aG ["_law_value_here"] ["_law_value_here"] (aB dz):=cL
abbrev jL:Stmt:=top 77
theorem B4:aG ["_law_script","_law_k","_law_cell","_law_plan_here","_law_kind","_law_told","_law_text","_law_part"] ["_law_script"] (aB jL):=cL
abbrev cK:Stmt:=(bM (top 26)).getD 0 (.Pass ⟨0,0,0,0⟩)
theorem eU:aG ["self"] ["self"] (aB cK):=cL
abbrev bH:Stmt:=(bM (top 26)).getD 2 (.Pass ⟨0,0,0,0⟩)
theorem md:aG ["self"] ["self"] (aB bH):=cL
abbrev az:Stmt:=(bM (top 26)).getD 3 (.Pass ⟨0,0,0,0⟩)
theorem lE:aG ["self"] ["self"] (aB az):=cL
abbrev aZ:Stmt:=(bM (top 26)).getD 4 (.Pass ⟨0,0,0,0⟩)
theorem fN:aG ["self"] ["self"] (aB aZ):=cL
abbrev eG:Stmt:=(bM (top 27)).getD 0 (.Pass ⟨0,0,0,0⟩)
theorem gQ:aG ["self","value"] ["self","value"] (aB eG):=cL
abbrev fR:Stmt:=(bM (top 27)).getD 2 (.Pass ⟨0,0,0,0⟩)
theorem k_:aG ["self"] ["self"] (aB fR):=cL
abbrev fQ:Stmt:=(bM (top 27)).getD 3 (.Pass ⟨0,0,0,0⟩)
theorem kz:aG ["self"] ["self"] (aB fQ):=cL
abbrev eI:Stmt:=(bM (top 28)).getD 0 (.Pass ⟨0,0,0,0⟩)
theorem gR:aG ["self","name"] ["self","name"] (aB eI):=cL
abbrev fU:Stmt:=(bM (top 28)).getD 4 (.Pass ⟨0,0,0,0⟩)
theorem lC:aG ["self"] ["self"] (aB fU):=cL
abbrev fT:Stmt:=(bM (top 28)).getD 5 (.Pass ⟨0,0,0,0⟩)
theorem lB:aG ["self"] ["self"] (aB fT):=cL
abbrev dt:Stmt:=(bM (top 29)).getD 0 (.Pass ⟨0,0,0,0⟩)
theorem gF:aG ["self","part"] ["self","part"] (aB dt):=cL
abbrev dy:Stmt:=(bM (top 29)).getD 1 (.Pass ⟨0,0,0,0⟩)
theorem ik:aG ["self"] ["self"] (aB dy):=cL
abbrev eT:Stmt:=(bM (top 29)).getD 3 (.Pass ⟨0,0,0,0⟩)
theorem jU:aG ["self"] ["self"] (aB eT):=cL
abbrev eQ:Stmt:=(bM (top 29)).getD 4 (.Pass ⟨0,0,0,0⟩)
theorem jT:aG ["self","part"] ["self"] (aB eQ):=cL
abbrev et:Stmt:=(bM (top 30)).getD 0 (.Pass ⟨0,0,0,0⟩)
theorem hJ:aG ["self","sign","one","other"] ["self","sign","one","other"] (aB et):=cL
abbrev fV:Stmt:=(bM (top 30)).getD 1 (.Pass ⟨0,0,0,0⟩)
theorem lD:aG ["self"] ["self"] (aB fV):=cL
abbrev gM:Stmt:=(bM (top 30)).getD 3 (.Pass ⟨0,0,0,0⟩)
theorem mZ:aG ["self"] ["self"] (aB gM):=cL
abbrev gL:Stmt:=(bM (top 30)).getD 4 (.Pass ⟨0,0,0,0⟩)
theorem mY:aG ["self","one","sign","other"] ["self"] (aB gL):=cL
abbrev dq:Stmt:=(bM (top 31)).getD 0 (.Pass ⟨0,0,0,0⟩)
theorem gE:aG ["self","truth","one","other"] ["self","truth","one","other"] (aB dq):=cL
abbrev dr:Stmt:=(bM (top 31)).getD 1 (.Pass ⟨0,0,0,0⟩)
theorem ig:aG ["self"] ["self"] (aB dr):=cL
abbrev eP:Stmt:=(bM (top 31)).getD 3 (.Pass ⟨0,0,0,0⟩)
theorem jS:aG ["self"] ["self"] (aB eP):=cL
abbrev eO:Stmt:=(bM (top 31)).getD 4 (.Pass ⟨0,0,0,0⟩)
theorem jR:aG ["self","truth","one","other"] ["self"] (aB eO):=cL
abbrev cV:Stmt:=(bM (top 35)).getD 0 (.Pass ⟨0,0,0,0⟩)
theorem gD:aG ["self","part","first"] ["self","part","first"] (aB cV):=cL
abbrev dn:Stmt:=(bM (top 35)).getD 1 (.Pass ⟨0,0,0,0⟩)
theorem ie:aG ["self"] ["self"] (aB dn):=cL
abbrev eN:Stmt:=(bM (top 35)).getD 4 (.Pass ⟨0,0,0,0⟩)
theorem jQ:aG ["self"] ["self"] (aB eN):=cL
abbrev eM:Stmt:=(bM (top 35)).getD 5 (.Pass ⟨0,0,0,0⟩)
theorem jP:aG ["self","part","first"] ["self"] (aB eM):=cL
abbrev gA:Stmt:=(bM (top 36)).getD 0 (.Pass ⟨0,0,0,0⟩)
theorem ij:aG ["self","head","rest"] ["self","head","rest"] (aB gA):=cL
abbrev gK:Stmt:=(bM (top 36)).getD 1 (.Pass ⟨0,0,0,0⟩)
theorem mX:aG ["self"] ["self"] (aB gK):=cL
abbrev iQ:Stmt:=(bM (top 36)).getD 3 (.Pass ⟨0,0,0,0⟩)
theorem oX:aG ["self"] ["self"] (aB iQ):=cL
abbrev iP:Stmt:=(bM (top 36)).getD 4 (.Pass ⟨0,0,0,0⟩)
theorem oW:aG ["self","head","rest"] ["self"] (aB iP):=cL
abbrev eu:Stmt:=(bM (top 37)).getD 0 (.Pass ⟨0,0,0,0⟩)
theorem hV:aG ["self","part","name"] ["self","part","name"] (aB eu):=cL
abbrev fW:Stmt:=(bM (top 37)).getD 1 (.Pass ⟨0,0,0,0⟩)
theorem lF:aG ["self"] ["self"] (aB fW):=cL
abbrev gO:Stmt:=(bM (top 37)).getD 5 (.Pass ⟨0,0,0,0⟩)
theorem mj:aG ["self"] ["self"] (aB gO):=cL
abbrev gN:Stmt:=(bM (top 37)).getD 6 (.Pass ⟨0,0,0,0⟩)
theorem mf:aG ["self","part","name"] ["self"] (aB gN):=cL
abbrev dQ:Stmt:=(bM (top 38)).getD 0 (.Pass ⟨0,0,0,0⟩)
theorem hG:aG ["self","part","name","first"] ["self","part","name","first"] (aB dQ):=cL
abbrev fS:Stmt:=(bM (top 38)).getD 1 (.Pass ⟨0,0,0,0⟩)
theorem lA:aG ["self"] ["self"] (aB fS):=cL
abbrev gJ:Stmt:=(bM (top 38)).getD 5 (.Pass ⟨0,0,0,0⟩)
theorem mW:aG ["self"] ["self"] (aB gJ):=cL
abbrev gI:Stmt:=(bM (top 38)).getD 6 (.Pass ⟨0,0,0,0⟩)
theorem mV:aG ["self","part","name","first"] ["self"] (aB gI):=cL
inductive Pt where
 |given (v:D)|named (n:Str)|turned (p:Pt)|pair (g:Str) (a b:Pt)|choice (t a b:Pt)
 |before (p:Pt) (f:D)|led (h r:Pt)|bx (p:Pt) (n:Str)|held (p:Pt) (n:Str) (f:D)
structure dA where
 given:Addr
 named:Addr
 turned:Addr
 pair:Addr
 choice:Addr
 before:Addr
 led:Addr
 bx:Addr
 held:Addr
def Pt.cls (A:dA):Pt->Addr
 |.given _=>A.given|.named _=>A.named|.turned _=>A.turned|.pair _ _ _=>A.pair|.choice _ _ _=>A.choice
 |.before _ _=>A.before|.led _ _=>A.led|.bx _ _=>A.bx|.held _ _ _=>A.held
def Pt.d (A:dA):Pt->D
 |.given v=>.obj A.given [("value",v)]
 |.named n=>.obj A.named [("name",.str n)]
 |.turned p=>.obj A.turned [("part",p.d A)]
 |.pair g a b=>.obj A.pair [("sign",.str g),("one",a.d A),("other",b.d A)]
 |.choice t a b=>.obj A.choice [("truth",t.d A),("one",a.d A),("other",b.d A)]
 |.before p f=>.obj A.before [("part",p.d A),("first",f)]
 |.led h r=>.obj A.led [("head",h.d A),("rest",r.d A)]
 |.bx p n=>.obj A.bx [("part",p.d A),("name",.str n)]
 |.held p n f=>.obj A.held [("part",p.d A),("name",.str n),("first",f)]
def Pt.depth:Pt->Nat
 |.given _=>1|.named _=>1|.turned p=>p.depth+1|.pair _ a b=>max a.depth b.depth+1|.choice t a b=>max t.depth (max a.depth b.depth)+1
 |.before p _=>p.depth+1|.led h r=>max h.depth r.depth+1|.bx p _=>p.depth+1|.held p _ _=>p.depth+1
def Pt.inner:Pt->List Pt
 |.given _=>[]|.named _=>[]|.turned p=>[p]|.pair _ a b=>[a,b]|.choice t a b=>[t,a,b]
 |.before p _=>[p]|.led h r=>[h,r]|.bx p _=>[p]|.held p _ _=>[p]
def Pt.told:Pt->D
 |.given v=>.tup [.str "given",v]
 |.named n=>.tup [.str "named",.str n]
 |.turned p=>.tup [.str "not",p.told]
 |.pair g a b=>.tup [.str g,a.told,b.told]
 |.choice t a b=>.tup [.str "if",t.told,a.told,b.told]
 |.before p f=>.tup [.str "before",p.told,f]
 |.led h r=>.tup [.str "then",h.told,r.told]
 |.bx p n=>.tup [.str "when",p.told,.str n]
 |.held p n f=>.tup [.str "held",p.told,.str n,f]
structure eZ (K:PySem.W.Frag) (A:dA):Prop where
 nd:[A.given,A.named,A.turned,A.pair,A.choice,A.before,A.led,A.bx,A.held].Nodup
 cl:∀C∈[A.given,A.named,A.turned,A.pair,A.choice,A.before,A.led,A.bx,A.held],uF K C
 i3:∀C∈[A.given,A.named,A.turned,A.pair,A.choice,A.before,A.led,A.bx,A.held],∀f∈(["value","name","part","sign","one","other","truth","first","head","rest"]:List Str),eh K C f
theorem Pt.aW (A:dA)(p:Pt):p.cls A∈[A.given,A.named,A.turned,A.pair,A.choice,A.before,A.led,A.bx,A.held]:=by cases p<;>simp[Pt.cls]
def Pt.ix:Pt->Nat
 |.given _=>0|.named _=>1|.turned _=>2|.pair _ _ _=>3|.choice _ _ _=>4|.before _ _=>5|.led _ _=>6|.bx _ _=>7|.held _ _ _=>8
theorem Pt.at_ (A:dA)(p:Pt):[A.given,A.named,A.turned,A.pair,A.choice,A.before,A.led,A.bx,A.held][p.ix]?=some (p.cls A):=by cases p<;>rfl
theorem BZ {α:Type}:∀{l:List α} {i j:Nat} {x:α},l.Nodup->l[i]?=some x->l[j]?=some x->i=j:=fun{l i j x} nd a b=>by
 have hi:i<l.length:=(List.getElem?_eq_some_iff.mp a).1
 exact(List.getElem?_inj hi nd).mp (a.trans b.symm)
theorem iC {K:PySem.W.Frag}{A:dA}(hA:eZ K A){p q:Pt}(h:p.cls A=q.cls A):p.ix=q.ix:=BZ hA.nd (p.at_ A) (by rw[h];exact q.at_ A)
theorem pW {K:PySem.W.Frag}{A:dA}(hA:eZ K A){p:Pt}(h:p.cls A=A.given):∃v,p=.given v:=by
 have i:=iC hA (q:=.given .ag) h
 cases p with
 |given v=>exact⟨v,rfl⟩
 |_=>exact absurd i (by simp only[Pt.ix];decide)
theorem pX {K:PySem.W.Frag}{A:dA}(hA:eZ K A){p:Pt}(h:p.cls A=A.named):∃n,p=.named n:=by
 have i:=iC hA (q:=.named "") h
 cases p with
 |named n=>exact⟨n,rfl⟩
 |_=>exact absurd i (by simp only[Pt.ix];decide)
theorem nS {K:PySem.W.Frag}{A:dA}(hA:eZ K A){p:Pt}(h:p.cls A=A.turned):∃x,p=.turned x:=by
 have i:=iC hA (q:=.turned (.given .ag)) h
 cases p with
 |turned x=>exact⟨x,rfl⟩
 |_=>exact absurd i (by simp only[Pt.ix];decide)
theorem sj {K:PySem.W.Frag}{A:dA}(hA:eZ K A){p:Pt}(h:p.cls A=A.pair):∃g x y,p=.pair g x y:=by
 have i:=iC hA (q:=.pair "" (.given .ag) (.given .ag)) h
 cases p with
 |pair g x y=>exact⟨g,x,y,rfl⟩
 |_=>exact absurd i (by simp only[Pt.ix];decide)
theorem nR {K:PySem.W.Frag}{A:dA}(hA:eZ K A){p:Pt}(h:p.cls A=A.choice):∃t x y,p=.choice t x y:=by
 have i:=iC hA (q:=.choice (.given .ag) (.given .ag) (.given .ag)) h
 cases p with
 |choice t x y=>exact⟨t,x,y,rfl⟩
 |_=>exact absurd i (by simp only[Pt.ix];decide)
theorem nQ {K:PySem.W.Frag}{A:dA}(hA:eZ K A){p:Pt}(h:p.cls A=A.before):∃x f,p=.before x f:=by
 have i:=iC hA (q:=.before (.given .ag) .ag) h
 cases p with
 |before x f=>exact⟨x,f,rfl⟩
 |_=>exact absurd i (by simp only[Pt.ix];decide)
theorem wO {K:PySem.W.Frag}{A:dA}(hA:eZ K A){p:Pt}(h:p.cls A=A.led):∃x y,p=.led x y:=by
 have i:=iC hA (q:=.led (.given .ag) (.given .ag)) h
 cases p with
 |led x y=>exact⟨x,y,rfl⟩
 |_=>exact absurd i (by simp only[Pt.ix];decide)
theorem wQ {K:PySem.W.Frag}{A:dA}(hA:eZ K A){p:Pt}(h:p.cls A=A.bx):∃x n,p=.bx x n:=by
 have i:=iC hA (q:=.bx (.given .ag) "") h
 cases p with
 |bx x n=>exact⟨x,n,rfl⟩
 |_=>exact absurd i (by simp only[Pt.ix];decide)
theorem sg {K:PySem.W.Frag}{A:dA}(hA:eZ K A){p:Pt}(h:p.cls A=A.held):∃x n f,p=.held x n f:=by
 have i:=iC hA (q:=.held (.given .ag) "" .ag) h
 cases p with
 |held x n f=>exact⟨x,n,f,rfl⟩
 |_=>exact absurd i (by simp only[Pt.ix];decide)
def qW (A:dA)(n:Nat)(g:Pt->D)(C:Addr):cg:=λds Q=>∃p:Pt,ds=[p.d A]/\p.cls A=C/\p.depth<=n/\Q (g p)
theorem mF {A:dA}{n:Nat}{g:Pt->D}{C:Addr}:b4 (qW A n g C):=λds P P' f ⟨p,e,c,h,q⟩=>⟨p,e,c,h,f _ q⟩
theorem rH {A:dA}{n:Nat}{g:Pt->D}{C:Addr}(ds:List D)(Q:D->Prop)(h:qW A n g C ds Q):ds.length=1:=by obtain⟨p,e,_⟩:=h;rw[e];rfl
def zF (A:dA)(C:Addr):Prop:=∃p:Pt,p.cls A=C
def wk (m:Str):Prop:=∀f∈(["value","name","part","sign","one","other","truth","first","head","rest"]:List Str),(m == f)=false
theorem yB (A:dA){m:Str}(h:wk m)(p:Pt):∃gs,p.d A=.obj (p.cls A) gs/\gs.lookup m=none:=by
 have l:∀{f:Str} {d:D} {r:List (Str × D)},f∈(["value","name","part","sign","one","other","truth","first","head","rest"]:List Str)->r.lookup m=none->((f,d)::r).lookup m=none:=λhf hr=>by
  rw[List.lookup_cons,h _ hf]
  exact hr
 cases p<;>refine⟨_,rfl,?_⟩<;>repeat (first|rfl|refine l (by decide) ?_)
theorem aT {K:PySem.W.Frag}{δ:SD}{i:Nat}{C:Addr}{gs:List (Str × D)}{f:Str}{r:D}{Q:D->Prop}(h:δ[i]?=some (some (.obj C gs)))(c:uF K C)(n:eh K C f)(l:gs.lookup f=some r)(q:Q r):Eu K (aF i) f δ Q:=⟨_,h,C,gs,r,rfl,c,n,l,q⟩
theorem c_ {K:PySem.W.Frag}{i:Nat}{f:Str}:bO (Eu K (aF i) f):=λδ P P' g ⟨d,h,C,gs,r,ed,hc,hn,hl,k⟩=>⟨d,h,C,gs,r,ed,hc,hn,hl,g _ k⟩
theorem bP {A:dA}{n:Nat}{g:Pt->D}{m:Str}{ta:ED}{δ:SD}{p:Pt}{Q:D->Prop}(mt:bO ta)(hm:wk m)(h:ta δ λd=>d=p.d A)(hd:p.depth<=n)(q:Q (g p)) :
  rZ (zF A) m (qW A n g) [] ta ak δ Q:=mt _ _ _ (λd e=>by
 obtain⟨gs,e1,e2⟩:=yB A hm p
 exact⟨p.cls A,gs,e.trans e1,e2,⟨p,rfl⟩,p,by rw[List.append_nil,e],rfl,hd,q⟩) h
theorem cQ:wk "told":=by unfold wk;decide +kernel
theorem cP:wk "text":=by unfold wk;decide +kernel
theorem rM:wk "inner":=by unfold wk;decide +kernel
def isVal (d:D):Prop:=(∃b,d=.bl b)\/∃i:Int,d=.int i/\-128<=i/\i<=127
def bA (d:D):Prop:=d=.ag\/isVal d
def yK (A:dA)(n:Nat)(ok:Pt->Prop)(g:Pt->D)(C:Addr):cg:=λds Q=>∃p:Pt,ds=[p.d A]/\p.cls A=C/\p.depth<=n/\ok p/\Q (g p)
theorem tE {A:dA}{n:Nat}{ok:Pt->Prop}{g:Pt->D}{C:Addr}:b4 (yK A n ok g C):=λds P P' f ⟨p,e,c,h,o,q⟩=>⟨p,e,c,h,o,f _ q⟩
theorem Cq {A:dA}{n:Nat}{ok:Pt->Prop}{g:Pt->D}{C:Addr}(ds:List D)(Q:D->Prop)(h:yK A n ok g C ds Q):ds.length=1:=by obtain⟨p,e,_⟩:=h;rw[e];rfl
theorem a_ {A:dA}{n:Nat}{ok:Pt->Prop}{g:Pt->D}{m:Str}{ta:ED}{δ:SD}{p:Pt}{Q:D->Prop}(mt:bO ta)(hm:wk m)(h:ta δ λd=>d=p.d A)(hd:p.depth<=n)(ho:ok p)(q:Q (g p)) :
  rZ (zF A) m (yK A n ok g) [] ta ak δ Q:=mt _ _ _ (λd e=>by
 obtain⟨gs,e1,e2⟩:=yB A hm p
 exact⟨p.cls A,gs,e.trans e1,e2,⟨p,rfl⟩,p,by rw[List.append_nil,e],rfl,hd,ho,q⟩) h
abbrev MQ (P:Program)(w:World)(K:PySem.W.Frag)(mg:Str->Option Value)(base:Heap)(A:dA)(j:Nat)(m:Str)(n:Nat)(ok:Pt->Prop)(g:Pt->D):Prop:=∀C,zF A C->cS P w K mg base j C m (yK A n ok g C) []
section
seal wpAny
variable {P:Program}{w:World}{K:PySem.W.Frag}{mg:Str->Option Value}{base:Heap}{A:dA}{n j:Nat}
abbrev MP (P:Program)(w:World)(K:PySem.W.Frag)(mg:Str->Option Value)(base:Heap)(A:dA)(j:Nat)(m:Str)(n:Nat)(g:Pt->D):Prop:=∀C,zF A C->cS P w K mg base j C m (qW A n g C) []
theorem Pt.cB (p:Pt):0<p.depth:=by cases p<;>simp only[Pt.depth]<;>omega
theorem Dm.never {C:Addr}{m qual:Str}{st:Stmt}{ps:List Str}{sd:cg}(d:Dm K C m qual st ps)(ms:b4 sd)(h:∀ds Q,¬sd ds Q):cS P w K mg base j C m sd []:=by
 obtain⟨f,fd,F,M,c,b⟩:=d.ex
 exact⟨⟨f,fd,ps,[],[],c,M,⟨λvs H Q E ⟨ds,_,q⟩=>(h _ _ q).elim,λA outer s H args us vs Q E _ _ _ _ ⟨ds,_,q⟩=>(h _ _ q).elim⟩,b,.nil,λ_=>.nil⟩,ms⟩
theorem gu {g:Pt->D}{C:Addr}(ds:List D)(Q:D->Prop):¬ qW A 0 g C ds Q:=fun⟨p,_,_,h,_⟩=>absurd p.cB (by omega)
mutual
def Pt.size:Pt->Nat
 |.given _=>1|.named _=>1|.turned p=>p.size+1|.pair _ a b=>a.size+b.size+1|.choice t a b=>t.size+a.size+b.size+1
 |.before p _=>p.size+1|.led h r=>h.size+r.size+1|.bx p _=>p.size+1|.held p _ _=>p.size+1
end
theorem Pt.size_inner (p:Pt):(p.size:Int)=1+(p.inner.map λq=>(q.size:Int)).sum:=by
 cases p<;>simp only[Pt.size,Pt.inner,List.map_cons,List.map_nil,List.sum_cons,List.sum_nil]<;>omega
theorem Pt.uY (p:Pt):(p.depth:Int)=1+qm 0 (p.inner.map λq=>(q.depth:Int)):=by
 cases p<;>simp only[Pt.depth,Pt.inner,List.map_cons,List.map_nil,qm,List.foldl_cons,List.foldl_nil]<;>omega
theorem Pt.mP {p q:Pt}(h:q∈p.inner){n:Nat}(hd:p.depth<=n+1):q.depth<=n:=by
 cases p<;>simp only[Pt.inner,Pt.depth,List.mem_cons,List.not_mem_nil,or_false] at h hd
 case turned=>subst h;omega
 case pair=>rcases h with rfl|rfl<;>omega
 case choice=>rcases h with rfl|rfl|rfl<;>omega
 case before=>subst h;omega
 case led=>rcases h with rfl|rfl<;>omega
 case bx=>subst h;omega
 case held=>subst h;omega
theorem Pt.nP (p:Pt):p.inner.length<=3:=by cases p<;>simp[Pt.inner]
def ei (A:dA)(p:Pt):D:=.tup (p.inner.map (Pt.d A))
theorem vE:wk "size":=by unfold wk;decide +kernel
theorem rL:wk "depth":=by unfold wk;decide +kernel
theorem fM {i:Nat}:bO (aF i):=λδ P P' f ⟨d,hd,k⟩=>⟨d,hd,f d k⟩
theorem uy {A:dA}{g:Pt->D}{ps:List Pt}{i:Nat}{d:D}{o:Option D}(h1:(ps.map (Pt.d A))[i]?=some d)(h2:(ps.map λq=>some (g q))[i]?=some o):∃q∈ps,q.d A=d/\some (g q)=o:=by
 rw[List.getElem?_map] at h1 h2
 cases e:ps[i]? with
 |none=>rw[e] at h1;cases h1
 |some q =>
  rw[e] at h1 h2
  exact⟨q,List.mem_of_getElem? e,by simpa using h1,by simpa using h2⟩
theorem filterMap_some {α β:Type}(f:α->β):∀l:List α,l.filterMap (id∘λq=>some (f q))=l.map f
 |[]=>rfl
 |a::l=>by rw[List.map_cons,<- filterMap_some f l];rfl
theorem size_of (d:∀C,zF A C->Dm K C "size" "Part.size" bH ["self"])(n_sum:mg "sum"=none)(m_inner:MP P w K mg base A j "inner" (n+1) (ei A))(m_size:MP P w K mg base A j "size" n λp=>.int p.size):MP P w K mg base A (j+1) "size" (n+1) λp=>.int p.size:=by
 intro C hC
 refine(d C hC).dC md mF rH (λf cdv A outer s H E hr=>have hu:=hr.units;have hh:=hr.hd;have sc:=md
  (aI (aQ (cF aD (Ip hh (by rfl) n_sum (aA (uS (x:="part") (caps:=[]) (cn:=[]) (cl:=[]) (i8 (by rfl) (by rfl) (by decide +kernel) (by decide +kernel) (by decide +kernel)) rfl (gz (cT m_inner hr (by omega) (dv 0))) (λC fp s₂ H₂=>bY (i:=0) (show(["part"]:List Str).Nodup by decide +kernel) rfl (Or.inl rfl) (.inr rfl)) (λC fp s₂ H₂=>fE) (λC fp s₂ H₂=>(cT m_size hr (by omega) (dv 0)))) aC)))))) ?_
 rintro ds Q ⟨p,rfl,hc,hd,q⟩
 refine bP fM rM ⟨_,rfl,rfl⟩ hd ?_
 refine⟨p.inner.map (Pt.d A),rfl,p.inner.map λq=>some (.int q.size),by simp,λi d o hd' ho=>?_,?_,?_⟩
 ·obtain⟨r,hr,e1,e2⟩:=uy hd' ho
  subst e1 e2
  exact⟨rfl,λ_=>bP fM vE ⟨_,rfl,rfl⟩ (p.mP hr hd) rfl⟩
 ·rw[List.length_map];exact Nat.lt_of_le_of_lt p.nP (by decide)
 ·refine⟨p.inner.map λq=>(q.size:Int),?_,?_⟩
  ·rw[List.filterMap_map,List.map_map]
   congr 2
   exact filterMap_some _ _
  ·have q':Q (.int (p.size:Int)):=q
   rw[Pt.size_inner] at q'
   exact q'
theorem Ai (d:∀C,zF A C->Dm K C "depth" "Part.depth" az ["self"])(n_max:mg "max"=none)(m_inner:MP P w K mg base A j "inner" (n+1) (ei A))(m_depth:MP P w K mg base A j "depth" n λp=>.int p.depth):MP P w K mg base A (j+1) "depth" (n+1) λp=>.int p.depth:=by
 intro C hC
 refine(d C hC).dC lE mF rH (λf cdv A outer s H E hr=>have hu:=hr.units;have hh:=hr.hd;have sc:=lE
  (aI (aQ (cF aD (GO hh (by rfl) n_max (uS (x:="part") (caps:=[]) (cn:=[]) (cl:=[]) (i8 (by rfl) (by rfl) (by decide +kernel) (by decide +kernel) (by decide +kernel)) rfl (gz (cT m_inner hr (by omega) (dv 0))) (λC fp s₂ H₂=>bY (i:=0) (show(["part"]:List Str).Nodup by decide +kernel) rfl (Or.inl rfl) (.inr rfl)) (λC fp s₂ H₂=>fE) (λC fp s₂ H₂=>(cT m_depth hr (by omega) (dv 0)))) aD))))) ?_
 rintro ds Q ⟨p,rfl,hc,hd,q⟩
 refine bP fM rM ⟨_,rfl,rfl⟩ hd ?_
 refine⟨p.inner.map (Pt.d A),rfl,p.inner.map λq=>some (.int q.depth),by simp,λi d o hd' ho=>?_,?_,?_⟩
 ·obtain⟨r,hr,e1,e2⟩:=uy hd' ho
  subst e1 e2
  exact⟨rfl,λ_=>bP fM rL ⟨_,rfl,rfl⟩ (p.mP hr hd) rfl⟩
 ·rw[List.length_map];exact Nat.lt_of_le_of_lt p.nP (by decide)
 ·refine⟨p.inner.map λq=>(q.depth:Int),0,?_,rfl,?_⟩
  ·rw[List.filterMap_map,List.map_map]
   congr 1
   exact filterMap_some _ _
  ·have q':Q (.int (p.depth:Int)):=q
   rw[Pt.uY] at q'
   exact q'
theorem Pt.xt {p q:Pt}(h:q∈p.inner):q.size<=p.size:=by
 cases p<;>simp only[Pt.inner,Pt.size,List.mem_cons,List.not_mem_nil,or_false] at h ⊢
 case turned=>subst h;omega
 case pair=>rcases h with rfl|rfl<;>omega
 case choice=>rcases h with rfl|rfl|rfl<;>omega
 case before=>subst h;omega
 case led=>rcases h with rfl|rfl<;>omega
 case bx=>subst h;omega
 case held=>subst h;omega
structure ri (K:PySem.W.Frag) (A:dA):Prop where
 given:Dm K A.given "inner" "Part.inner" cK ["self"]
 named:Dm K A.named "inner" "Part.inner" cK ["self"]
 turned:Dm K A.turned "inner" "Turned.inner" dy ["self"]
 pair:Dm K A.pair "inner" "Pair.inner" fV ["self"]
 choice:Dm K A.choice "inner" "Choice.inner" dr ["self"]
 before:Dm K A.before "inner" "Before.inner" dn ["self"]
 led:Dm K A.led "inner" "Led.inner" gK ["self"]
 bx:Dm K A.bx "inner" "When.inner" fW ["self"]
 held:Dm K A.held "inner" "Held.inner" fS ["self"]
theorem uz (hA:eZ K A)(d:Dm K A.given "inner" "Part.inner" cK ["self"]):cS P w K mg base (j+1) A.given "inner" (qW A n (ei A) A.given) []:=by
 refine d.dC eU mF rH (λf cdv A outer s H E hr=>have hu:=hr.units;have hh:=hr.hd;have sc:=eU
  (aI (aQ (ay aC)))) ?_
 rintro ds Q ⟨p,rfl,hc,hd,q⟩
 have c:=hA.cl _ (Pt.aW A p)
 have no:=hA.i3 _ (Pt.aW A p)
 obtain⟨v,rfl⟩:=pW hA hc
 exact⟨zL0,q⟩
theorem u0 (hA:eZ K A)(d:Dm K A.named "inner" "Part.inner" cK ["self"]):cS P w K mg base (j+1) A.named "inner" (qW A n (ei A) A.named) []:=by
 refine d.dC eU mF rH (λf cdv A outer s H E hr=>have hu:=hr.units;have hh:=hr.hd;have sc:=eU
  (aI (aQ (ay aC)))) ?_
 rintro ds Q ⟨p,rfl,hc,hd,q⟩
 have c:=hA.cl _ (Pt.aW A p)
 have no:=hA.i3 _ (Pt.aW A p)
 obtain⟨s,rfl⟩:=pX hA hc
 exact⟨zL0,q⟩
theorem se (hA:eZ K A)(d:Dm K A.turned "inner" "Turned.inner" dy ["self"]):cS P w K mg base (j+1) A.turned "inner" (qW A n (ei A) A.turned) []:=by
 refine d.dC ik mF rH (λf cdv A outer s H E hr=>have hu:=hr.units;have hh:=hr.hd;have sc:=ik
  (aI (aQ (ay (aA (aa K rfl (dv 0) (by rfl)) aC))))) ?_
 rintro ds Q ⟨p,rfl,hc,hd,q⟩
 have c:=hA.cl _ (Pt.aW A p)
 have no:=hA.i3 _ (Pt.aW A p)
 obtain⟨x,rfl⟩:=nS hA hc
 exact(aT rfl c (no _ (by decide)) (by kernel_rfl) ⟨zL1,q⟩)
theorem wL (hA:eZ K A)(d:Dm K A.pair "inner" "Pair.inner" fV ["self"]):cS P w K mg base (j+1) A.pair "inner" (qW A n (ei A) A.pair) []:=by
 refine d.dC lD mF rH (λf cdv A outer s H E hr=>have hu:=hr.units;have hh:=hr.hd;have sc:=lD
  (aI (aQ (ay (aA (aa K rfl (dv 0) (by rfl)) (aA (aa K rfl (dv 0) (by rfl)) aC)))))) ?_
 rintro ds Q ⟨p,rfl,hc,hd,q⟩
 have c:=hA.cl _ (Pt.aW A p)
 have no:=hA.i3 _ (Pt.aW A p)
 obtain⟨g,x,y,rfl⟩:=sj hA hc
 exact(aT rfl c (no _ (by decide)) (by kernel_rfl) (aT rfl c (no _ (by decide)) (by kernel_rfl) ⟨zL2,q⟩))
theorem sZ (hA:eZ K A)(d:Dm K A.choice "inner" "Choice.inner" dr ["self"]):cS P w K mg base (j+1) A.choice "inner" (qW A n (ei A) A.choice) []:=by
 refine d.dC ig mF rH (λf cdv A outer s H E hr=>have hu:=hr.units;have hh:=hr.hd;have sc:=ig
  (aI (aQ (ay (aA (aa K rfl (dv 0) (by rfl)) (aA (aa K rfl (dv 0) (by rfl)) (aA (aa K rfl (dv 0) (by rfl)) aC))))))) ?_
 rintro ds Q ⟨p,rfl,hc,hd,q⟩
 have c:=hA.cl _ (Pt.aW A p)
 have no:=hA.i3 _ (Pt.aW A p)
 obtain⟨x,y,z,rfl⟩:=nR hA hc
 exact(aT rfl c (no _ (by decide)) (by kernel_rfl) (aT rfl c (no _ (by decide)) (by kernel_rfl) (aT rfl c (no _ (by decide)) (by kernel_rfl) ⟨zL3,q⟩)))
theorem sY (hA:eZ K A)(d:Dm K A.before "inner" "Before.inner" dn ["self"]):cS P w K mg base (j+1) A.before "inner" (qW A n (ei A) A.before) []:=by
 refine d.dC ie mF rH (λf cdv A outer s H E hr=>have hu:=hr.units;have hh:=hr.hd;have sc:=ie
  (aI (aQ (ay (aA (aa K rfl (dv 0) (by rfl)) aC))))) ?_
 rintro ds Q ⟨p,rfl,hc,hd,q⟩
 have c:=hA.cl _ (Pt.aW A p)
 have no:=hA.i3 _ (Pt.aW A p)
 obtain⟨x,f,rfl⟩:=nQ hA hc
 exact(aT rfl c (no _ (by decide)) (by kernel_rfl) ⟨zL1,q⟩)
theorem zC (hA:eZ K A)(d:Dm K A.led "inner" "Led.inner" gK ["self"]):cS P w K mg base (j+1) A.led "inner" (qW A n (ei A) A.led) []:=by
 refine d.dC mX mF rH (λf cdv A outer s H E hr=>have hu:=hr.units;have hh:=hr.hd;have sc:=mX
  (aI (aQ (ay (aA (aa K rfl (dv 0) (by rfl)) (aA (aa K rfl (dv 0) (by rfl)) aC)))))) ?_
 rintro ds Q ⟨p,rfl,hc,hd,q⟩
 have c:=hA.cl _ (Pt.aW A p)
 have no:=hA.i3 _ (Pt.aW A p)
 obtain⟨x,y,rfl⟩:=wO hA hc
 exact(aT rfl c (no _ (by decide)) (by kernel_rfl) (aT rfl c (no _ (by decide)) (by kernel_rfl) ⟨zL2,q⟩))
theorem zD (hA:eZ K A)(d:Dm K A.bx "inner" "When.inner" fW ["self"]):cS P w K mg base (j+1) A.bx "inner" (qW A n (ei A) A.bx) []:=by
 refine d.dC lF mF rH (λf cdv A outer s H E hr=>have hu:=hr.units;have hh:=hr.hd;have sc:=lF
  (aI (aQ (ay (aA (aa K rfl (dv 0) (by rfl)) aC))))) ?_
 rintro ds Q ⟨p,rfl,hc,hd,q⟩
 have c:=hA.cl _ (Pt.aW A p)
 have no:=hA.i3 _ (Pt.aW A p)
 obtain⟨x,s,rfl⟩:=wQ hA hc
 exact(aT rfl c (no _ (by decide)) (by kernel_rfl) ⟨zL1,q⟩)
theorem wK (hA:eZ K A)(d:Dm K A.held "inner" "Held.inner" fS ["self"]):cS P w K mg base (j+1) A.held "inner" (qW A n (ei A) A.held) []:=by
 refine d.dC lA mF rH (λf cdv A outer s H E hr=>have hu:=hr.units;have hh:=hr.hd;have sc:=lA
  (aI (aQ (ay (aA (aa K rfl (dv 0) (by rfl)) aC))))) ?_
 rintro ds Q ⟨p,rfl,hc,hd,q⟩
 have c:=hA.cl _ (Pt.aW A p)
 have no:=hA.i3 _ (Pt.aW A p)
 obtain⟨x,s,f,rfl⟩:=sg hA hc
 exact(aT rfl c (no _ (by decide)) (by kernel_rfl) ⟨zL1,q⟩)
theorem rE (hA:eZ K A)(d:ri K A)(n:Nat):MP P w K mg base A (j+1) "inner" n (ei A):=λC ⟨p,e⟩=>by
 subst e
 cases p
 ·exact uz hA d.given
 ·exact u0 hA d.named
 ·exact se hA d.turned
 ·exact wL hA d.pair
 ·exact sZ hA d.choice
 ·exact sY hA d.before
 ·exact zC hA d.led
 ·exact zD hA d.bx
 ·exact wK hA d.held
theorem pD {m qual:Str}{st:Stmt}{ps:List Str}{g:Pt->D}(d:∀C,zF A C->Dm K C m qual st ps)(h:∀n j,MP P w K mg base A (j+1) m n g->MP P w K mg base A (j+2) m (n+1) g):∀n,MP P w K mg base A (n+1) m n g
 | 0=>λC hC=>(Dm.never (j:=1) (d C hC) mF gu)
 |n+1=>h n n (pD d h n)
theorem CG (hA:eZ K A)(dI:ri K A)(d:∀C,zF A C->Dm K C "size" "Part.size" bH ["self"])(n_sum:mg "sum"=none)(n:Nat):MP P w K mg base A (n+1) "size" n λp=>.int p.size :=
 pD d (λn j h=>size_of d n_sum (rE (j:=j) hA dI _) h) n
theorem yp (hA:eZ K A)(dI:ri K A)(d:∀C,zF A C->Dm K C "depth" "Part.depth" az ["self"])(n_max:mg "max"=none)(n:Nat):MP P w K mg base A (n+1) "depth" n λp=>.int p.depth :=
 pD d (λn j h=>Ai d n_max (rE (j:=j) hA dI _) h) n
structure GI (mg:Str->Option Value) (x:Str) (i:Int):Prop where
 ex:∃t,mg x=some (.int i t)
def Fj:cg:=λds Q=>∃i:Int,ds=[.int i]/\Q (.bl (decide (-128<=i)&&decide (i<=127)))
def CD:cg:=λds Q=>(∃i:Int,ds=[.int i]/\Q (.bl (decide (-128<=i)&&decide (i<=127))))\/∃b,ds=[.bl b]/\Q (.bl true)
theorem dU:wk "need_bounds":=by unfold wk;decide +kernel
def ni (p:Pt):Prop:=p.depth<=10/\p.size<=40
theorem i6 (d:Df K mg "is_number" jK ["thing"])(n_isinstance:mg "isinstance"=none)(n_bool:mg "bool"=none)(n_int:mg "int"=none)(g1:GI mg "LOWEST" (-128))(g2:GI mg "HIGHEST" 127):bE P w K mg base (j+1) "is_number" ["thing"] Fj:=by
 obtain⟨t1,q_LOWEST⟩:=g1.ex
 obtain⟨t2,q_HIGHEST⟩:=g2.ex
 have r_LOWEST:RelV (.int (-128)) (.int (-128) t1):=⟨_,rfl⟩
 have r_HIGHEST:RelV (.int 127) (.int 127 t2):=⟨_,rfl⟩
 have v_LOWEST:∀H,Dv K H (.int (-128)) (.int (-128)):=λ_=>.int _
 have v_HIGHEST:∀H,Dv K H (.int 127) (.int 127):=λ_=>.int _
 refine d.dC mr (λds P P' g ⟨i,e,q⟩=>⟨i,e,g _ q⟩) (λds Q ⟨d,e,_⟩=>by rw[e];rfl) (λf cdv A outer s H E hr=>have hu:=hr.units;have hh:=hr.hd;have sc:=mr
  (aH (cE (oq.td (w_or (eB (g6 (by rfl) n_isinstance (by rfl) n_bool (dv 0))) (lS (qd (eB (DK (by rfl) n_isinstance (by rfl) n_int (dv 0))))))) (aI (aQ AZ)) ar)
 (aI (aQ (Ad (dD (by rfl) q_LOWEST r_LOWEST v_LOWEST) (dv 0) (dD (by rfl) q_HIGHEST r_HIGHEST v_HIGHEST)))))) ?_
 rintro ds Q ⟨i,rfl,q⟩
 refine⟨_,rfl,false,rfl,_,rfl,aO ⟨_,rfl,true,rfl,_,rfl,aO ⟨_,rfl,_,rfl,?_⟩⟩⟩
 by_cases h:(-128:Int)<=i
 ·rw[decide_eq_true h] at q ⊢
  exact aR q
 ·rw[decide_eq_false h] at q ⊢
  exact aO q
theorem fh (d:Df K mg "is_value" l4 ["thing"])(n_isinstance:mg "isinstance"=none)(n_bool:mg "bool"=none)(i6:bE P w K mg base j "is_number" ["thing"] Fj):bE P w K mg base (j+1) "is_value" ["thing"] CD:=by
 refine d.dC oZ (λds P P' g h=>h.elim (fun⟨i,e,q⟩=>.inl ⟨i,e,g _ q⟩) fun⟨i,e,q⟩=>.inr ⟨i,e,g _ q⟩) (λds Q h=>h.elim (fun⟨d,e,_⟩=>by rw[e];rfl) fun⟨d,e,_⟩=>by rw[e];rfl) (λf cdv A outer s H E hr=>have hu:=hr.units;have hh:=hr.hd;have sc:=oZ
  (aI (aQ (yn (g6 (by rfl) n_isinstance (by rfl) n_bool (dv 0)) (fH (aK i6 hr (by omega) (by rfl) (aA (dv 0) aC))))))) ?_
 rintro ds Q (⟨i,rfl,q⟩|⟨b,rfl,q⟩)
 ·exact⟨_,rfl,false,rfl,_,rfl,aO ⟨_,rfl,i,rfl,q⟩⟩
 ·exact⟨_,rfl,true,rfl,_,rfl,aR q⟩
theorem ye (d:∀C,zF A C->Dm K C "need_bounds" "Part.need_bounds" aZ ["self"])(m_depth:MP P w K mg base A j "depth" n λp=>.int p.depth)(m_size:MP P w K mg base A j "size" n λp=>.int p.size)(g1:GI mg "DEEPEST" 10)(g2:GI mg "LARGEST" 40) :
  MQ P w K mg base A (j+1) "need_bounds" n ni λ_=>.ag:=by
 obtain⟨t1,q_DEEPEST⟩:=g1.ex
 obtain⟨t2,q_LARGEST⟩:=g2.ex
 have r_DEEPEST:RelV (.int 10) (.int 10 t1):=⟨_,rfl⟩
 have r_LARGEST:RelV (.int 40) (.int 40 t2):=⟨_,rfl⟩
 have v_DEEPEST:∀H,Dv K H (.int 10) (.int 10):=λ_=>.int _
 have v_LARGEST:∀H,Dv K H (.int 40) (.int 40):=λ_=>.int _
 intro C hC
 refine(d C hC).dC fN tE Cq (λf cdv A outer s H E hr=>have hu:=hr.units;have hh:=hr.hd;have sc:=fN
  (aI (cE (oq.td (w_or (H_ (cT m_depth hr (by omega) (dv 0)) (dD (by rfl) q_DEEPEST r_DEEPEST v_DEEPEST)) (lS (H_ (cT m_size hr (by omega) (dv 0)) (dD (by rfl) q_LARGEST r_LARGEST v_LARGEST))))) (aI kU) ar))) ?_
 rintro ds Q ⟨p,rfl,hc,hd,ho,q⟩
 obtain⟨h1,h2⟩:=ho
 have e1:decide ((10:Int)<p.depth)=false:=decide_eq_false (by omega)
 have e2:decide ((40:Int)<p.size)=false:=decide_eq_false (by omega)
 refine bP (p:=p) fM rL ⟨_,rfl,rfl⟩ hd ⟨_,rfl,?_⟩
 show if decide ((10:Int)<p.depth)=true then _ else _
 rw[e1]
 refine aO (bP (p:=p) fM vE ⟨_,rfl,rfl⟩ hd ⟨_,rfl,?_⟩)
 show if decide ((40:Int)<p.size)=true then _ else _
 rw[e2]
 exact aO q
theorem wI (hc:uF K A.given)(hn:eh K A.given "value")(d:Di K mg "Given" A.given "Given.__init__" eG ["self","value"] [])(fh:bE P w K mg base j "is_value" ["thing"] CD) :
  qk P w K mg base (j+1) "Given" A.given (λds Q=>∃v,ds=[v]/\isVal v/\Q [("value",v)]) []:=by
 refine d.Dn gQ (λds P P' g ⟨v,e,h,q⟩=>⟨v,e,h,g _ q⟩) (λds Q ⟨v,e,_⟩=>by rw[e];rfl) (λf cdv A outer s H E hr=>have hu:=hr.units;have hh:=hr.hd;have sc:=gQ
  (bU (lq (cE (qd (eB (aK fh hr (by omega) (by rfl) (aA (dv 1) aC)))) (aI kU) ar))
 (bU (cU K rfl rfl (Or.inl rfl) (dv 1))
 FK))) ?_
 rintro a ds Q ⟨v,rfl,hv,q⟩
 rcases hv with⟨b,rfl⟩|⟨i,rfl,h1,h2⟩
 ·exact⟨_,rfl,.inr ⟨b,rfl,_,rfl,⟨_,rfl,rfl,hc,hn,(by decide),q⟩⟩⟩
 ·refine⟨_,rfl,.inl ⟨i,rfl,true,by simp[Er,h1,h2],⟨_,rfl,rfl,hc,hn,(by decide),q⟩⟩⟩
def tW:cg:=λds Q=>∃f,ds=[f]/\bA f/\Q .ag
theorem mT (f:Str)(d:D):∀gs:FD,(putD f d gs).length<=gs.length+1
 |[]=>Nat.le_refl _
 | (g,e)::r=>by
  unfold putD
  split
  ·exact Nat.le_succ _
  ·exact Nat.succ_le_succ (mT f d r)
theorem vL:([]:FD).length<1000:=by decide
theorem vM {f:Str}{d:D}:(putD f d []).length<1000:=Nat.lt_of_le_of_lt (mT f d []) (by decide)
theorem tR {f g:Str}{d e:D}:(putD f d (putD g e [])).length<1000:=Nat.lt_of_le_of_lt (Nat.le_trans (mT f d _) (Nat.succ_le_succ (mT g e []))) (by decide)
theorem ux (hA:eZ K A)(d:Di K mg "Turned" A.turned "Turned.__init__" dt ["self","part"] [])(m_need_bounds:MQ P w K mg base A j "need_bounds" n ni λ_=>.ag) :
  qk P w K mg base (j+1) "Turned" A.turned (λds Q=>∃p:Pt,ds=[p.d A]/\(Pt.turned p).depth<=n/\ni (.turned p)/\Q [("part",p.d A)]) []:=by
 have hc:=hA.cl A.turned (by simp)
 have hn:=hA.i3 A.turned (by simp)
 refine d.Dn gF (λds P P' g ⟨v,e,h,o,q⟩=>⟨v,e,h,o,g _ q⟩) (λds Q ⟨v,e,_⟩=>by rw[e];rfl) (λf cdv A outer s H E hr=>have hu:=hr.units;have hh:=hr.hd;have sc:=gF
  (bU (cU K rfl rfl (Or.inl rfl) (dv 1))
 (lr (aI (bZ (cT m_need_bounds hr (by omega) (dv 0))))))) ?_
 rintro a ds Q ⟨p,rfl,hd,ho,q⟩
 exact⟨_,rfl,rfl,hc,hn _ (by decide),(by first|exact vL|exact vM|exact tR),rfl,a_ (p:=.turned p) fM dU ⟨_,rfl,rfl⟩ hd ho q⟩
theorem uw (hA:eZ K A)(d:Di K mg "Choice" A.choice "Choice.__init__" dq ["self","truth","one","other"] [])(m_need_bounds:MQ P w K mg base A j "need_bounds" n ni λ_=>.ag) :
  qk P w K mg base (j+1) "Choice" A.choice (λds Q=>∃t x y:Pt,ds=[t.d A,x.d A,y.d A]/\(Pt.choice t x y).depth<=n/\ni (.choice t x y)/\Q [("truth",t.d A),("one",x.d A),("other",y.d A)]) []:=by
 have hc:=hA.cl A.choice (by simp)
 have hn:=hA.i3 A.choice (by simp)
 refine d.Dn gE (λds P P' g ⟨t,v,u,e,h,o,q⟩=>⟨t,v,u,e,h,o,g _ q⟩) (λds Q ⟨t,v,u,e,_⟩=>by rw[e];rfl) (λf cdv A outer s H E hr=>have hu:=hr.units;have hh:=hr.hd;have sc:=gE
  (bU (cU K rfl rfl (Or.inl rfl) (dv 1))
 (bU (cU K rfl rfl (Or.inl rfl) (dv 2))
 (bU (cU K rfl rfl (Or.inl rfl) (dv 3))
 (lr (aI (bZ (cT m_need_bounds hr (by omega) (dv 0))))))))) ?_
 rintro a ds Q ⟨t,x,y,rfl,hd,ho,q⟩
 exact⟨_,rfl,rfl,hc,hn _ (by decide),(by first|exact vL|exact vM|exact tR),_,rfl,rfl,hc,hn _ (by decide),(by first|exact vL|exact vM|exact tR),_,rfl,rfl,hc,hn _ (by decide),(by first|exact vL|exact vM|exact tR),rfl,a_ (p:=.choice t x y) fM dU ⟨_,rfl,rfl⟩ hd ho q⟩
theorem BB (hA:eZ K A)(d:Di K mg "Led" A.led "Led.__init__" gA ["self","head","rest"] [])(m_need_bounds:MQ P w K mg base A j "need_bounds" n ni λ_=>.ag) :
  qk P w K mg base (j+1) "Led" A.led (λds Q=>∃x y:Pt,ds=[x.d A,y.d A]/\(Pt.led x y).depth<=n/\ni (.led x y)/\Q [("head",x.d A),("rest",y.d A)]) []:=by
 have hc:=hA.cl A.led (by simp)
 have hn:=hA.i3 A.led (by simp)
 refine d.Dn ij (λds P P' g ⟨v,u,e,h,o,q⟩=>⟨v,u,e,h,o,g _ q⟩) (λds Q ⟨v,u,e,_⟩=>by rw[e];rfl) (λf cdv A outer s H E hr=>have hu:=hr.units;have hh:=hr.hd;have sc:=ij
  (bU (cU K rfl rfl (Or.inl rfl) (dv 1))
 (bU (cU K rfl rfl (Or.inl rfl) (dv 2))
 (lr (aI (bZ (cT m_need_bounds hr (by omega) (dv 0)))))))) ?_
 rintro a ds Q ⟨x,y,rfl,hd,ho,q⟩
 exact⟨_,rfl,rfl,hc,hn _ (by decide),(by first|exact vL|exact vM|exact tR),_,rfl,rfl,hc,hn _ (by decide),(by first|exact vL|exact vM|exact tR),rfl,a_ (p:=.led x y) fM dU ⟨_,rfl,rfl⟩ hd ho q⟩
theorem dg (d:Df K mg "need_first" iW ["first"])(fh:bE P w K mg base j "is_value" ["thing"] CD):bE P w K mg base (j+1) "need_first" ["first"] tW:=by
 refine d.dC lM (λds P P' g ⟨f,e,h,q⟩=>⟨f,e,h,g _ q⟩) (λds Q ⟨f,e,_⟩=>by rw[e];rfl) (λf cdv A outer s H E hr=>have hu:=hr.units;have hh:=hr.hd;have sc:=lM
  (aI (cE (oq.td (w_and (yP (dv 0) pI) (mD (qd (eB (aK fh hr (by omega) (by rfl) (aA (dv 0) aC))))))) (aI kU) ar))) ?_
 rintro ds Q ⟨f,rfl,hf,q⟩
 rcases hf with rfl|⟨b,rfl⟩|⟨i,rfl,h1,h2⟩
 ·exact⟨_,rfl,_,rfl,q⟩
 ·exact⟨_,rfl,_,rfl,_,rfl,.inr ⟨b,rfl,_,rfl,q⟩⟩
 ·exact⟨_,rfl,_,rfl,_,rfl,.inl ⟨i,rfl,true,by simp[Er,h1,h2],q⟩⟩
theorem uv (hA:eZ K A)(d:Di K mg "Before" A.before "Before.__init__" cV ["self","part","first"] [])(dg:bE P w K mg base j "need_first" ["first"] tW)(m_need_bounds:MQ P w K mg base A j "need_bounds" n ni λ_=>.ag) :
  qk P w K mg base (j+1) "Before" A.before (λds Q=>∃(p:Pt) (f:D),ds=[p.d A,f]/\bA f/\(Pt.before p f).depth<=n/\ni (.before p f)/\Q [("part",p.d A),("first",f)]) []:=by
 have hc:=hA.cl A.before (by simp)
 have hn:=hA.i3 A.before (by simp)
 refine d.Dn gD (λds P P' g ⟨v,u,e,k,h,o,q⟩=>⟨v,u,e,k,h,o,g _ q⟩) (λds Q ⟨v,u,e,_⟩=>by rw[e];rfl) (λf cdv A outer s H E hr=>have hu:=hr.units;have hh:=hr.hd;have sc:=gD
  (bU (lq (bZ (aK dg hr (by omega) (by rfl) (aA (dv 2) aC))))
 (bU (cU K rfl rfl (Or.inl rfl) (dv 1))
 (bU (cU K rfl rfl (Or.inl rfl) (dv 2))
 (lr (aI (bZ (cT m_need_bounds hr (by omega) (dv 0))))))))) ?_
 rintro a ds Q ⟨p,f,rfl,hf,hd,ho,q⟩
 exact⟨_,rfl,_,rfl,hf,_,rfl,rfl,hc,hn _ (by decide),(by first|exact vL|exact vM|exact tR),_,rfl,rfl,hc,hn _ (by decide),(by first|exact vL|exact vM|exact tR),rfl,a_ (p:=.before p f) fM dU ⟨_,rfl,rfl⟩ hd ho q⟩
theorem sW (n:Str)(l:List Str):inD (.str n) (l.map D.str)=l.contains n:=by
 unfold inD
 rw[List.any_map,List.contains_eq_any_beq]
 congr 1
 funext x
 show(x == n)=(n == x)
 exact Bool.beq_comm
theorem kJ (l:List Str):(l.map D.str).all ft=true:=by
 rw[List.all_eq_true]
 intro d hd
 obtain⟨x,_,rfl⟩:=List.mem_map.mp hd
 rfl
def eL:Str:="abcdefghijklmnopqrstuvwxyz"
def signs (x:Str):List Str:=x.cps.toList.map λc=>⟨#[c]⟩
def Ga (c:Str):Bool:=fB c eL
def iG (x:Str):Bool:=decide ((0:Int)<(x.length:Int))&&(signs x).all Ga
def di (x:Str):Bool:=decide ((x.length:Int)<=8)&&iG x
def fL:List Str:=["module","in","out","row","use","end","number","truth","on","yes","no","not","and","or","if","before","then","when","held"]
def kE (x:Str):Bool:=di x&&!fL.contains x
def dot:Str:="."
def eY (x:Str):Bool:=if decide (((Txt.split x dot).length:Int)=1)=true then kE x else decide (((Txt.split x dot).length:Int)<=4)&&(Txt.split x dot).all di
structure GD (K:PySem.W.Frag) (mg:Str->Option Value) (x:Str) (d:D):Prop where
 ex:∃v u,mg x=some u/\RelV v u/\∀H,Dv K H v d
def AG (g:Str->D):cg:=λds Q=>∃x:Str,ds=[.str x]/\x.length<=100000/\Q (g x)
theorem Kk {g:Str->D}:b4 (AG g):=λds P P' f ⟨x,e,h,q⟩=>⟨x,e,h,f _ q⟩
theorem Kj {g:Str->D}(ds:List D)(Q:D->Prop)(h:AG g ds Q):ds.length=1:=by obtain⟨x,e,_⟩:=h;rw[e];rfl
theorem str_len {x:Str}(h:x.length<=100000):x.length<=sizeLine:=Nat.le_trans h (by decide)
theorem mJ {Q:D->Prop}{a b:Bool}(e:a=b)(q:Q (.bl a)):Q (.bl b):=e ▸ q
theorem wW:∀{l:List Nat} {a:Nat},a∈l->a<=l.sum
 |b::l,a,h=>by
  rw[List.sum_cons]
  rcases List.mem_cons.mp h with rfl|h
  ·exact Nat.le_add_right _ _
  ·exact Nat.le_trans (wW h) (Nat.le_add_left _ _)
def K8:D->D
 |.str z=>.bl (Ga z)
 |_=>.ag
def JA:D->D
 |.str z=>.bl (di z)
 |_=>.ag
theorem dG (d:Df K mg "has_letters" gi ["text"])(n_len:mg "len"=none)(n_all:mg "all"=none)(gl:GD K mg "LETTERS" (.str eL)):bE P w K mg base (j+1) "has_letters" ["text"] (AG λx=>.bl (iG x)):=by
 obtain⟨y_LETTERS,u_LETTERS,q_LETTERS,r_LETTERS,v_LETTERS⟩:=gl.ex
 refine d.dC jW Kk Kj (λf cdv A outer s H E hr=>have hu:=hr.units;have hh:=hr.hd;have sc:=jW
  (aI (aQ (kn (GG (cZ (by rfl) n_len (aA (dv 0) aC)) aD) (fH (uP hh (by rfl) n_all (aA (uS (x:="sign") (caps:=[]) (cn:=[]) (cl:=[]) (i8 (by rfl) (by rfl) (by decide +kernel) (by decide +kernel) (by decide +kernel)) rfl (gz (dv 0)) (λC fp s₂ H₂=>bY (i:=0) (show(["sign"]:List Str).Nodup by decide +kernel) rfl (Or.inl rfl) (.inr rfl)) (λC fp s₂ H₂=>fE) (λC fp s₂ H₂=>(Il (dv 0) (dD (by rfl) q_LETTERS r_LETTERS v_LETTERS) (by rfl)))) aC))))))) ?_
 rintro ds Q ⟨x,rfl,hx,q⟩
 refine⟨_,rfl,_,_,rfl,if_pos (str_len hx),_,rfl,?_⟩
 cases h:decide ((0:Int)<(x.length:Int)) with
 |false =>
  have e:iG x=false:=by unfold iG;rw[h];rfl
  exact aO (mJ e q)
 |true =>
  have e:iG x=((signs x).map Ga).all id:=by unfold iG;rw[h,List.all_map];rfl
  refine aR ⟨_,rfl,_,rfl,mO K8 (x.cps.toList.map λc=>.str ⟨#[c]⟩),ph,λi d o h1 h2=>?_,?_,?_⟩
  ·obtain⟨hd,rfl⟩:=u9 h1 h2
   obtain⟨c,_,rfl⟩:=List.mem_map.mp hd
   exact⟨rfl,λ_=>⟨_,rfl,_,rfl,rfl⟩⟩
  ·rw[List.length_map,Array.length_toList]
   exact Nat.lt_of_le_of_lt hx (by decide)
  ·rw[nZ]
   refine⟨(signs x).map Ga,?_,mJ e q⟩
   unfold signs
   rw[List.map_map,List.map_map,List.map_map]
   rfl
theorem cM (d:Df K mg "has_word_form" e_ ["text"])(n_len:mg "len"=none)(g:GI mg "LONGEST_WORD" 8)(dG:bE P w K mg base j "has_letters" ["text"] (AG λx=>.bl (iG x))) :
  bE P w K mg base (j+1) "has_word_form" ["text"] (AG λx=>.bl (di x)):=by
 obtain⟨t1,q_LONGEST_WORD⟩:=g.ex
 have r_LONGEST_WORD:RelV (.int 8) (.int 8 t1):=⟨_,rfl⟩
 have v_LONGEST_WORD:∀H,Dv K H (.int 8) (.int 8):=λ_=>.int _
 refine d.dC hW Kk Kj (λf cdv A outer s H E hr=>have hu:=hr.units;have hh:=hr.hd;have sc:=hW
  (aI (aQ (kn (GL (cZ (by rfl) n_len (aA (dv 0) aC)) (dD (by rfl) q_LONGEST_WORD r_LONGEST_WORD v_LONGEST_WORD)) (fH (aK dG hr (by omega) (by rfl) (aA (dv 0) aC))))))) ?_
 rintro ds Q ⟨x,rfl,hx,q⟩
 refine⟨_,rfl,_,_,rfl,if_pos (str_len hx),_,rfl,?_⟩
 cases h:decide ((x.length:Int)<=8) with
 |false =>
  have e:di x=false:=by unfold di;rw[h];rfl
  exact aO (mJ e q)
 |true =>
  have e:di x=iG x:=by unfold di;rw[h];rfl
  exact aR ⟨_,rfl,x,rfl,hx,mJ e q⟩
theorem nF (d:Df K mg "is_word" nv ["thing"])(gk:GD K mg "KEPT_WORDS" (.tup (fL.map D.str)))(cM:bE P w K mg base j "has_word_form" ["text"] (AG λx=>.bl (di x))) :
  bE P w K mg base (j+1) "is_word" ["thing"] (AG λx=>.bl (kE x)):=by
 obtain⟨y_KEPT_WORDS,u_KEPT_WORDS,q_KEPT_WORDS,r_KEPT_WORDS,v_KEPT_WORDS⟩:=gk.ex
 refine d.dC qP Kk Kj (λf cdv A outer s H E hr=>have hu:=hr.units;have hh:=hr.hd;have sc:=qP
  (aI (aQ (kn (aK cM hr (by omega) (by rfl) (aA (dv 0) aC)) (fH (xY (dv 0) (dD (by rfl) q_KEPT_WORDS r_KEPT_WORDS v_KEPT_WORDS) (by rfl))))))) ?_
 rintro ds Q ⟨x,rfl,hx,q⟩
 refine⟨_,rfl,x,rfl,hx,_,rfl,?_⟩
 cases h:di x with
 |false =>
  have e:kE x=false:=by unfold kE;rw[h];rfl
  exact aO (mJ e q)
 |true =>
  have e:kE x=!inD (.str x) (fL.map D.str):=by unfold kE;rw[h,sW];rfl
  exact aR ⟨_,rfl,rfl,kJ _,mJ e q⟩
theorem nE (d:Df K mg "is_name" nu ["thing"])(n_len:mg "len"=none)(n_all:mg "all"=none)(g:GI mg "MOST_WORDS" 4)(nF:bE P w K mg base j "is_word" ["thing"] (AG λx=>.bl (kE x)))
  (cM:bE P w K mg base j "has_word_form" ["text"] (AG λx=>.bl (di x))):bE P w K mg base (j+1) "is_name" ["thing"] (AG λx=>.bl (eY x)):=by
 obtain⟨t1,q_MOST_WORDS⟩:=g.ex
 have r_MOST_WORDS:RelV (.int 4) (.int 4 t1):=⟨_,rfl⟩
 have v_MOST_WORDS:∀H,Dv K H (.int 4) (.int 4):=λ_=>.int _
 refine d.dC qO Kk Kj (λf cdv A outer s H E hr=>have hu:=hr.units;have hh:=hr.hd;have sc:=qO
  (aH (aq (i:=1) sc.nd rfl (Or.inl rfl) (sE (dv 0) (aA aP aC)))
 (aH (cE (dF hu (cZ (by rfl) n_len (aA (dv 1) aC)) aD) (aI (aQ (aK nF hr (by omega) (by rfl) (aA (dv 0) aC)))) ar)
 (aI (aQ (kn (GL (cZ (by rfl) n_len (aA (dv 1) aC)) (dD (by rfl) q_MOST_WORDS r_MOST_WORDS v_MOST_WORDS)) (fH (uP hh (by rfl) n_all (aA (uS (x:="word") (caps:=[]) (cn:=[]) (cl:=[]) (i8 (by rfl) (by rfl) (by decide +kernel) (by decide +kernel) (by decide +kernel)) rfl (gz (dv 1)) (λC fp s₂ H₂=>bY (i:=0) (show(["word"]:List Str).Nodup by decide +kernel) rfl (Or.inl rfl) (.inr rfl)) (λC fp s₂ H₂=>fE) (λC fp s₂ H₂=>(aK cM hr (by omega) (by rfl) (aA (dv 0) aC)))) aC))))))))) ?_
 rintro ds Q ⟨x,rfl,hx,q⟩
 have hs:=split_le x dot
 refine⟨_,rfl,⟨x,rfl⟩,x,dot,rfl,rfl,rfl,Nat.le_trans (Nat.add_le_add_right hx 2) (by decide),?_⟩
 refine⟨_,rfl,_,_,rfl,rfl,_,rfl,?_⟩
 show if decide ((((Txt.split x dot).map D.str).length:Int)=1)=true then _ else _
 rw[List.length_map]
 cases h:decide (((Txt.split x dot).length:Int)=1) with
 |true =>
  have e:eY x=kE x:=by unfold eY;rw[h];rfl
  exact aR ⟨_,rfl,x,rfl,hx,mJ e q⟩
 |false =>
  refine aO ⟨_,rfl,_,_,rfl,rfl,_,rfl,?_⟩
  show if decide ((((Txt.split x dot).map D.str).length:Int)<=4)=true then _ else _
  rw[List.length_map]
  cases h2:decide (((Txt.split x dot).length:Int)<=4) with
  |false =>
   have e:eY x=false:=by unfold eY;rw[h,h2];rfl
   exact aO (mJ e q)
  |true =>
   have e:eY x=((Txt.split x dot).map di).all id:=by unfold eY;rw[h,h2,List.all_map];rfl
   refine aR ⟨_,rfl,_,rfl,mO JA ((Txt.split x dot).map D.str),ph,λi d o h1 h2=>?_,?_,?_⟩
   ·obtain⟨hd,rfl⟩:=u9 h1 h2
    obtain⟨c,hc,rfl⟩:=List.mem_map.mp hd
    refine⟨rfl,λ_=>⟨_,rfl,c,rfl,?_,rfl⟩⟩
    have hw:=split_weight x dot (by decide)
    have hc2:c.length∈(Txt.split x dot).map (·.length):=List.mem_map.mpr ⟨c,hc,rfl⟩
    have:=wW hc2
    have hp:=split_pos x dot
    omega
   ·rw[List.length_map]
    exact Nat.lt_of_le_of_lt hs (Nat.lt_of_le_of_lt (Nat.add_le_add_right hx 2) (by decide))
   ·rw[nZ]
    refine⟨(Txt.split x dot).map di,?_,mJ e q⟩
    rw[List.map_map,List.map_map]
    rfl
def EX:cg:=λds Q=>∃x:Str,ds=[.str x]/\x.length<=100000/\eY x=true/\Q .ag
theorem cY (d:Df K mg "need_name" jN ["name"])(nE:bE P w K mg base j "is_name" ["thing"] (AG λx=>.bl (eY x))):bE P w K mg base (j+1) "need_name" ["name"] EX:=by
 refine d.dC mw (λds P P' f ⟨x,e,h,z,q⟩=>⟨x,e,h,z,f _ q⟩) (λds Q ⟨x,e,_⟩=>by rw[e];rfl) (λf cdv A outer s H E hr=>have hu:=hr.units;have hh:=hr.hd;have sc:=mw
  (aI (cE (qd (eB (aK nE hr (by omega) (by rfl) (aA (dv 0) aC)))) (aI kU) ar))) ?_
 rintro ds Q ⟨x,rfl,hx,hn,q⟩
 exact⟨_,rfl,x,rfl,hx,true,congrArg some hn,aO q⟩
def nn:D:=.tup [.str "number",.str "number"]
def nt:D:=.tup [.str "number",.str "truth"]
def tt:D:=.tup [.str "truth",.str "truth"]
def iZ:List (Str × D):=[("+",nn),("-",nn),("*",nn),("=",.tup [.ag,.str "truth"]),("<",nt),("<=",nt),("and",tt),("or",tt)]
def dY:List Str:=["+","-","*","=","<","<=","and","or"]
theorem Eb {g:Str}(h:g∈dY):(if true=true then !iZ.any λp=>p.1 == g else iZ.any λp=>p.1 == g)=false:=by
 simp only[dY,List.mem_cons,List.not_mem_nil,or_false] at h
 rcases h with rfl|rfl|rfl|rfl|rfl|rfl|rfl|rfl<;>decide +kernel
def d6 (x:Str):Prop:=eY x=true/\x.length<=100/\PyData.strOk x=true
theorem wJ (hA:eZ K A)(d:Di K mg "Named" A.named "Named.__init__" eI ["self","name"] [])(cY:bE P w K mg base j "need_name" ["name"] EX) :
  qk P w K mg base (j+1) "Named" A.named (λds Q=>∃x:Str,ds=[.str x]/\d6 x/\Q [("name",.str x)]) []:=by
 have hc:=hA.cl A.named (by simp)
 have hn:=hA.i3 A.named (by simp)
 refine d.Dn gR (λds P P' g ⟨v,e,h,q⟩=>⟨v,e,h,g _ q⟩) (λds Q ⟨v,e,_⟩=>by rw[e];rfl) (λf cdv A outer s H E hr=>have hu:=hr.units;have hh:=hr.hd;have sc:=gR
  (bU (lq (bZ (aK cY hr (by omega) (by rfl) (aA (dv 1) aC))))
 (bU (cU K rfl rfl (Or.inl rfl) (dv 1))
 FK))) ?_
 rintro a ds Q ⟨x,rfl,⟨h1,h2,h3⟩,q⟩
 exact⟨_,rfl,x,rfl,Nat.le_trans h2 (by decide),h1,_,rfl,rfl,hc,hn _ (by decide),(by first|exact vL|exact vM|exact tR),q⟩
theorem zB (hA:eZ K A)(d:Di K mg "When" A.bx "When.__init__" eu ["self","part","name"] [])(cY:bE P w K mg base j "need_name" ["name"] EX)(m_need_bounds:MQ P w K mg base A j "need_bounds" n ni λ_=>.ag) :
  qk P w K mg base (j+1) "When" A.bx (λds Q=>∃(p:Pt) (x:Str),ds=[p.d A,.str x]/\d6 x/\(Pt.bx p x).depth<=n/\ni (.bx p x)/\Q [("part",p.d A),("name",.str x)]) []:=by
 have hc:=hA.cl A.bx (by simp)
 have hn:=hA.i3 A.bx (by simp)
 refine d.Dn hV (λds P P' g ⟨v,u,e,k,h,o,q⟩=>⟨v,u,e,k,h,o,g _ q⟩) (λds Q ⟨v,u,e,_⟩=>by rw[e];rfl) (λf cdv A outer s H E hr=>have hu:=hr.units;have hh:=hr.hd;have sc:=hV
  (bU (lq (bZ (aK cY hr (by omega) (by rfl) (aA (dv 2) aC))))
 (bU (cU K rfl rfl (Or.inl rfl) (dv 1))
 (bU (cU K rfl rfl (Or.inl rfl) (dv 2))
 (lr (aI (bZ (cT m_need_bounds hr (by omega) (dv 0))))))))) ?_
 rintro a ds Q ⟨p,x,rfl,⟨h1,h2,h3⟩,hd,ho,q⟩
 exact⟨_,rfl,x,rfl,Nat.le_trans h2 (by decide),h1,_,rfl,rfl,hc,hn _ (by decide),(by first|exact vL|exact vM|exact tR),_,rfl,rfl,hc,hn _ (by decide),(by first|exact vL|exact vM|exact tR),rfl,a_ (p:=.bx p x) fM dU ⟨_,rfl,rfl⟩ hd ho q⟩
theorem y_ (hA:eZ K A)(d:Di K mg "Held" A.held "Held.__init__" dQ ["self","part","name","first"] [])(cY:bE P w K mg base j "need_name" ["name"] EX)(dg:bE P w K mg base j "need_first" ["first"] tW)
  (m_need_bounds:MQ P w K mg base A j "need_bounds" n ni λ_=>.ag) :
  qk P w K mg base (j+1) "Held" A.held (λds Q=>∃(p:Pt) (x:Str) (f:D),ds=[p.d A,.str x,f]/\d6 x/\bA f/\(Pt.held p x f).depth<=n/\ni (.held p x f)/\Q [("part",p.d A),("name",.str x),("first",f)]) []:=by
 have hc:=hA.cl A.held (by simp)
 have hn:=hA.i3 A.held (by simp)
 refine d.Dn hG (λds P P' g ⟨v,u,f,e,k,l,h,o,q⟩=>⟨v,u,f,e,k,l,h,o,g _ q⟩) (λds Q ⟨v,u,f,e,_⟩=>by rw[e];rfl) (λf cdv A outer s H E hr=>have hu:=hr.units;have hh:=hr.hd;have sc:=hG
  (bU (lq (bZ (aK cY hr (by omega) (by rfl) (aA (dv 2) aC))))
 (bU (lq (bZ (aK dg hr (by omega) (by rfl) (aA (dv 3) aC))))
 (bU (cU K rfl rfl (Or.inl rfl) (dv 1))
 (bU (cU K rfl rfl (Or.inl rfl) (dv 2))
 (bU (cU K rfl rfl (Or.inl rfl) (dv 3))
 (lr (aI (bZ (cT m_need_bounds hr (by omega) (dv 0))))))))))) ?_
 rintro a ds Q ⟨p,x,f,rfl,⟨h1,h2,h3⟩,hf,hd,ho,q⟩
 exact⟨_,rfl,x,rfl,Nat.le_trans h2 (by decide),h1,_,rfl,_,rfl,hf,_,rfl,rfl,hc,hn _ (by decide),(by first|exact vL|exact vM|exact tR),_,rfl,rfl,hc,hn _ (by decide),(by first|exact vL|exact vM|exact tR),_,rfl,rfl,hc,hn _ (by decide),(by first|exact vL|exact vM|exact tR),rfl,a_ (p:=.held p x f) fM dU ⟨_,rfl,rfl⟩ hd ho q⟩
theorem zA {sa:Addr}(hA:eZ K A)(d:Di K mg "Pair" A.pair "Pair.__init__" et ["self","sign","one","other"] [])(kd_SIGNS:Cm w K mg "SIGNS" sa iZ)(m_need_bounds:MQ P w K mg base A j "need_bounds" n ni λ_=>.ag) :
  qk P w K mg base (j+1) "Pair" A.pair (λds Q=>∃(g:Str) (x y:Pt),ds=[.str g,x.d A,y.d A]/\g∈dY/\(Pt.pair g x y).depth<=n/\ni (.pair g x y)/\Q [("sign",.str g),("one",x.d A),("other",y.d A)]) []:=by
 have hc:=hA.cl A.pair (by simp)
 have hn:=hA.i3 A.pair (by simp)
 refine d.Dn hJ (λds P P' g ⟨v,u,f,e,k,h,o,q⟩=>⟨v,u,f,e,k,h,o,g _ q⟩) (λds Q ⟨v,u,f,e,_⟩=>by rw[e];rfl) (λf cdv A outer s H E hr=>have hu:=hr.units;have hh:=hr.hd;have sc:=hJ
  (bU (lq (cE (CO kd_SIGNS (by rfl) (dv 1)) (aI kU) ar))
 (bU (cU K rfl rfl (Or.inl rfl) (dv 1))
 (bU (cU K rfl rfl (Or.inl rfl) (dv 2))
 (bU (cU K rfl rfl (Or.inl rfl) (dv 3))
 (lr (aI (bZ (cT m_need_bounds hr (by omega) (dv 0)))))))))) ?_
 rintro a ds Q ⟨g,x,y,rfl,hg,hd,ho,q⟩
 exact⟨_,rfl,g,rfl,false,congrArg D.bl (Eb hg),aO ⟨_,rfl,rfl,hc,hn _ (by decide),(by first|exact vL|exact vM|exact tR),_,rfl,rfl,hc,hn _ (by decide),(by first|exact vL|exact vM|exact tR),_,rfl,rfl,hc,hn _ (by decide),(by first|exact vL|exact vM|exact tR),rfl,a_ (p:=.pair g x y) fM dU ⟨_,rfl,rfl⟩ hd ho q⟩⟩
def sh (a b:Int):D:=.tup [.int a,.int b]
def my:List (Str × D):=[("given",sh 2 0),("named",sh 2 0),("not",sh 2 1),("if",sh 4 3),("before",sh 3 1),("then",sh 3 2),("when",sh 3 1),("held",sh 4 1)]
def Pt.ok:Pt->Prop
 |.given v=>isVal v
 |.named s=>d6 s
 |.turned p=>p.ok
 |.pair g a b=>g∈dY/\a.ok/\b.ok
 |.choice t a b=>t.ok/\a.ok/\b.ok
 |.before p f=>p.ok/\bA f
 |.led h r=>h.ok/\r.ok
 |.bx p s=>p.ok/\d6 s
 |.held p s f=>p.ok/\d6 s/\bA f
def Pt.pU:Pt->Bool
 |.pair _ _ _=>true
 |_=>false
def Pt.isPlain:Pt->Bool
 |.given _=>true|.named _=>true|.turned _=>true|.choice _ _ _=>true|_=>false
theorem Pt.FX {p q:Pt}(h:q∈p.inner)(o:p.ok):q.ok:=by
 cases p<;>simp only[Pt.inner,Pt.ok,List.mem_cons,List.not_mem_nil,or_false] at h o
 case turned=>subst h;exact o
 case pair=>rcases h with rfl|rfl<;>simp only[o]
 case choice=>rcases h with rfl|rfl|rfl<;>simp only[o]
 case before=>subst h;exact o.1
 case led=>rcases h with rfl|rfl<;>simp only[o]
 case bx=>subst h;exact o.1
 case held=>subst h;exact o.1
def tX (ok:Pt->Prop)(g:Pt->D):cg:=λds Q=>∃p:Pt,ds=[p.told]/\ok p/\Q (g p)
theorem JS {ok:Pt->Prop}{g:Pt->D}:b4 (tX ok g):=λds P P' f ⟨p,e,h,q⟩=>⟨p,e,h,f _ q⟩
theorem JM {ok:Pt->Prop}{g:Pt->D}(ds:List D)(Q:D->Prop)(h:tX ok g ds Q):ds.length=1:=by obtain⟨x,e,_⟩:=h;rw[e];rfl
def xA (A:dA)(n:Nat)(b:Bool):cg:=λds Q=>∃p:Pt,ds=[p.told,.lst (p.inner.map (Pt.d A))]/\p.pU=false/\p.isPlain=b/\p.ok/\ni p/\p.depth<=n/\Q (p.d A)
def zg (A:dA)(n:Nat):cg:=λds Q=>∃p:Pt,ds=[p.told]/\p.depth<=n/\p.ok/\ni p/\Q (p.d A)
theorem LJ {A:dA}{n:Nat}:b4 (zg A n):=λds P P' f ⟨p,e,h,o,b,q⟩=>⟨p,e,h,o,b,f _ q⟩
theorem JP {A:dA}{n:Nat}{b:Bool}:b4 (xA A n b):=λds P P' f ⟨p,e,h,o,b,i,d,q⟩=>⟨p,e,h,o,b,i,d,f _ q⟩
theorem BY {g:Str}(h:g∈dY):(if false=true then !my.any λp=>p.1 == g else my.any λp=>p.1 == g)=false:=by
 simp only[dY,List.mem_cons,List.not_mem_nil,or_false] at h
 rcases h with rfl|rfl|rfl|rfl|rfl|rfl|rfl|rfl<;>decide +kernel
theorem eV {sa:Addr}(d:Df K mg "has_shape" jJ ["told"])(n_len:mg "len"=none)(kd_SHAPES:Cm w K mg "SHAPES" sa my):bE P w K mg base (j+1) "has_shape" ["told"] (tX Pt.ok λp=>.bl (!p.pU)):=by
 refine d.dC mq JS JM (λf cdv A outer s H E hr=>have hu:=hr.units;have hh:=hr.hd;have sc:=mq
  (aI (aQ (kn (E_ kd_SHAPES (by rfl) (aj (dv 0) aD (λ_ _=>rfl))) (fH (iD hu (cZ (by rfl) n_len (aA (dv 0) aC)) (aj (Aa kd_SHAPES (by rfl) (aj (dv 0) aD (λ_ _=>rfl)) (λ_ _=>rfl)) aD (λ_ _=>rfl)))))))) ?_
 rintro ds Q ⟨p,rfl,ho,q⟩
 cases p with
 |given v=>exact⟨_,rfl,_,rfl,"given",rfl,true,congrArg D.bl (by decide +kernel),aR ⟨_,rfl,_,_,rfl,rfl,_,rfl,_,rfl,"given",sh 2 0,rfl,(by kernel_rfl),_,rfl,q⟩⟩
 |named s=>exact⟨_,rfl,_,rfl,"named",rfl,true,congrArg D.bl (by decide +kernel),aR ⟨_,rfl,_,_,rfl,rfl,_,rfl,_,rfl,"named",sh 2 0,rfl,(by kernel_rfl),_,rfl,q⟩⟩
 |turned x=>exact⟨_,rfl,_,rfl,"not",rfl,true,congrArg D.bl (by decide +kernel),aR ⟨_,rfl,_,_,rfl,rfl,_,rfl,_,rfl,"not",sh 2 1,rfl,(by kernel_rfl),_,rfl,q⟩⟩
 |pair g x y=>exact⟨_,rfl,_,rfl,g,rfl,false,congrArg D.bl (BY ho.1),aO q⟩
 |choice x y z=>exact⟨_,rfl,_,rfl,"if",rfl,true,congrArg D.bl (by decide +kernel),aR ⟨_,rfl,_,_,rfl,rfl,_,rfl,_,rfl,"if",sh 4 3,rfl,(by kernel_rfl),_,rfl,q⟩⟩
 |before x f=>exact⟨_,rfl,_,rfl,"before",rfl,true,congrArg D.bl (by decide +kernel),aR ⟨_,rfl,_,_,rfl,rfl,_,rfl,_,rfl,"before",sh 3 1,rfl,(by kernel_rfl),_,rfl,q⟩⟩
 |led x y=>exact⟨_,rfl,_,rfl,"then",rfl,true,congrArg D.bl (by decide +kernel),aR ⟨_,rfl,_,_,rfl,rfl,_,rfl,_,rfl,"then",sh 3 2,rfl,(by kernel_rfl),_,rfl,q⟩⟩
 |bx x s=>exact⟨_,rfl,_,rfl,"when",rfl,true,congrArg D.bl (by decide +kernel),aR ⟨_,rfl,_,_,rfl,rfl,_,rfl,_,rfl,"when",sh 3 1,rfl,(by kernel_rfl),_,rfl,q⟩⟩
 |held x s f=>exact⟨_,rfl,_,rfl,"held",rfl,true,congrArg D.bl (by decide +kernel),aR ⟨_,rfl,_,_,rfl,rfl,_,rfl,_,rfl,"held",sh 4 1,rfl,(by kernel_rfl),_,rfl,q⟩⟩
theorem lX (d:Df K mg "plain_by" l6 ["told","inner"])
  {i:Nat}(hi:i+1<=j)
  (k_Given_1:qk P w K mg base i "Given" A.given (λds Q=>∃v,ds=[v]/\isVal v/\Q [("value",v)]) [])
  (k_Named_1:qk P w K mg base i "Named" A.named (λds Q=>∃x:Str,ds=[.str x]/\d6 x/\Q [("name",.str x)]) [])
  (k_Turned_1:qk P w K mg base i "Turned" A.turned (λds Q=>∃p:Pt,ds=[p.d A]/\(Pt.turned p).depth<=n/\ni (.turned p)/\Q [("part",p.d A)]) [])
  (k_Choice_3:qk P w K mg base i "Choice" A.choice (λds Q=>∃t x y:Pt,ds=[t.d A,x.d A,y.d A]/\(Pt.choice t x y).depth<=n/\ni (.choice t x y)/\Q [("truth",t.d A),("one",x.d A),("other",y.d A)]) [])
  : bE P w K mg base (j+1) "plain_by" ["told","inner"] (xA A n true):=by
 refine d.dC og JP (λds Q ⟨x,e,_⟩=>by rw[e];rfl) (λf cdv A outer s H E hr=>have hu:=hr.units;have hh:=hr.hd;have sc:=og
  (aH (aq (i:=2) sc.nd rfl (Or.inl rfl) (aj (dv 0) aD (λ_ _=>rfl)))
 (aH (cE (dF hu (dv 2) aP) (aI (aQ (sD k_Given_1 hr (by omega) (by rfl) (aA (aj (dv 0) aD (λ_ _=>rfl)) aC)))) ar)
 (aH (cE (dF hu (dv 2) aP) (aI (aQ (sD k_Named_1 hr (by omega) (by rfl) (aA (aj (dv 0) aD (λ_ _=>rfl)) aC)))) ar)
 (aH (cE (dF hu (dv 2) aP) (aI (aQ (sD k_Turned_1 hr (by omega) (by rfl) (aA (aj (dv 1) aD (λ_ _=>rfl)) aC)))) ar)
 (aI (aQ (sD k_Choice_3 hr (by omega) (by rfl) (aA (aj (dv 1) aD (λ_ _=>rfl)) (aA (aj (dv 1) aD (λ_ _=>rfl)) (aA (aj (dv 1) aD (λ_ _=>rfl)) aC))))))))))) ?_
 rintro ds Q ⟨p,rfl,hp,hl,ho,hb,hd,q⟩
 cases p with
 |given v=>exact⟨_,rfl,_,rfl,⟨_,rfl,true,congrArg D.bl (by decide +kernel),aR ⟨_,rfl,_,rfl,v,rfl,ho,q⟩⟩⟩
 |named s=>exact⟨_,rfl,_,rfl,⟨_,rfl,false,congrArg D.bl (by decide +kernel),aO ⟨_,rfl,true,congrArg D.bl (by decide +kernel),aR ⟨_,rfl,_,rfl,s,rfl,ho,q⟩⟩⟩⟩
 |turned x=>exact⟨_,rfl,_,rfl,⟨_,rfl,false,congrArg D.bl (by decide +kernel),aO ⟨_,rfl,false,congrArg D.bl (by decide +kernel),aO ⟨_,rfl,true,congrArg D.bl (by decide +kernel),aR ⟨_,rfl,_,rfl,x,rfl,hd,hb,q⟩⟩⟩⟩⟩
 |pair g x y=>cases hp
 |choice x y z=>exact⟨_,rfl,_,rfl,⟨_,rfl,false,congrArg D.bl (by decide +kernel),aO ⟨_,rfl,false,congrArg D.bl (by decide +kernel),aO ⟨_,rfl,false,congrArg D.bl (by decide +kernel),aO ⟨_,rfl,_,rfl,_,rfl,_,rfl,_,rfl,_,rfl,x,y,z,rfl,hd,hb,q⟩⟩⟩⟩⟩
 |before x f=>cases hl
 |led x y=>cases hl
 |bx x s=>cases hl
 |held x s f=>cases hl
theorem lY (d:Df K mg "timed_by" l8 ["told","inner"])
  {i:Nat}(hi:i+1<=j)
  (k_Before_2:qk P w K mg base i "Before" A.before (λds Q=>∃(p:Pt) (f:D),ds=[p.d A,f]/\bA f/\(Pt.before p f).depth<=n/\ni (.before p f)/\Q [("part",p.d A),("first",f)]) [])
  (k_Led_2:qk P w K mg base i "Led" A.led (λds Q=>∃x y:Pt,ds=[x.d A,y.d A]/\(Pt.led x y).depth<=n/\ni (.led x y)/\Q [("head",x.d A),("rest",y.d A)]) [])
  (k_When_2:qk P w K mg base i "When" A.bx (λds Q=>∃(p:Pt) (x:Str),ds=[p.d A,.str x]/\d6 x/\(Pt.bx p x).depth<=n/\ni (.bx p x)/\Q [("part",p.d A),("name",.str x)]) [])
  (k_Held_3:qk P w K mg base i "Held" A.held (λds Q=>∃(p:Pt) (x:Str) (f:D),ds=[p.d A,.str x,f]/\d6 x/\bA f/\(Pt.held p x f).depth<=n/\ni (.held p x f)/\Q [("part",p.d A),("name",.str x),("first",f)]) [])
  : bE P w K mg base (j+1) "timed_by" ["told","inner"] (xA A n false):=by
 refine d.dC oi JP (λds Q ⟨x,e,_⟩=>by rw[e];rfl) (λf cdv A outer s H E hr=>have hu:=hr.units;have hh:=hr.hd;have sc:=oi
  (aH (aq (i:=2) sc.nd rfl (Or.inl rfl) (aj (dv 0) aD (λ_ _=>rfl)))
 (aH (cE (dF hu (dv 2) aP) (aI (aQ (sD k_Before_2 hr (by omega) (by rfl) (aA (aj (dv 1) aD (λ_ _=>rfl)) (aA (aj (dv 0) aD (λ_ _=>rfl)) aC))))) ar)
 (aH (cE (dF hu (dv 2) aP) (aI (aQ (sD k_Led_2 hr (by omega) (by rfl) (aA (aj (dv 1) aD (λ_ _=>rfl)) (aA (aj (dv 1) aD (λ_ _=>rfl)) aC))))) ar)
 (aH (cE (dF hu (dv 2) aP) (aI (aQ (sD k_When_2 hr (by omega) (by rfl) (aA (aj (dv 1) aD (λ_ _=>rfl)) (aA (aj (dv 0) aD (λ_ _=>rfl)) aC))))) ar)
 (aI (aQ (sD k_Held_3 hr (by omega) (by rfl) (aA (aj (dv 1) aD (λ_ _=>rfl)) (aA (aj (dv 0) aD (λ_ _=>rfl)) (aA (aj (dv 0) aD (λ_ _=>rfl)) aC))))))))))) ?_
 rintro ds Q ⟨p,rfl,hp,hl,ho,hb,hd,q⟩
 cases p with
 |given v=>cases hl
 |named s=>cases hl
 |turned x=>cases hl
 |pair g x y=>cases hp
 |choice x y z=>cases hl
 |before x f=>exact⟨_,rfl,_,rfl,⟨_,rfl,true,congrArg D.bl (by decide +kernel),aR ⟨_,rfl,_,rfl,_,rfl,_,rfl,x,f,rfl,ho.2,hd,hb,q⟩⟩⟩
 |led x y=>exact⟨_,rfl,_,rfl,⟨_,rfl,false,congrArg D.bl (by decide +kernel),aO ⟨_,rfl,true,congrArg D.bl (by decide +kernel),aR ⟨_,rfl,_,rfl,_,rfl,_,rfl,x,y,rfl,hd,hb,q⟩⟩⟩⟩
 |bx x s=>exact⟨_,rfl,_,rfl,⟨_,rfl,false,congrArg D.bl (by decide +kernel),aO ⟨_,rfl,false,congrArg D.bl (by decide +kernel),aO ⟨_,rfl,true,congrArg D.bl (by decide +kernel),aR ⟨_,rfl,_,rfl,_,rfl,_,rfl,x,s,rfl,ho.2,hd,hb,q⟩⟩⟩⟩⟩
 |held x s f=>exact⟨_,rfl,_,rfl,⟨_,rfl,false,congrArg D.bl (by decide +kernel),aO ⟨_,rfl,false,congrArg D.bl (by decide +kernel),aO ⟨_,rfl,false,congrArg D.bl (by decide +kernel),aO ⟨_,rfl,_,rfl,_,rfl,_,rfl,_,rfl,_,rfl,x,s,f,rfl,ho.2.1,ho.2.2,hd,hb,q⟩⟩⟩⟩⟩
theorem J0 (x:D)(xs:List D):HT.cq (x::xs).length 0 (some 1)=1:=by
 rw[show(1:Int)=((1:Nat):Int) from rfl,HT.yG,List.length_cons]
 omega
theorem gg {x:D}{xs:List D}{R:Prop}:¬ (HT.cq (x::xs).length 0 (some 1)=0/\R):=λz=>by
 rw[J0] at z
 exact absurd z.1 (by decide)
theorem iK (p:Pt):(p.inner.map λq=>some (q.d A)).length=(p.inner.map Pt.told).length:=by simp
theorem fO {caps:List Nat}{δ:SD}(p:Pt)(hd:p.depth<=n+1)(ho:p.ok)(hb:ni p)(i:Nat)(d:D)(o:Option D)(h1:(p.inner.map Pt.told)[i]?=some d)(h2:(p.inner.map λq=>some (q.d A))[i]?=some o) :
  IF (some d::iu caps δ) λb=>b=o.isSome/\(b=true->bD (zg A n) (aE (aF 0) ak) (some d::iu caps δ) λy=>o=some y):=by
 rw[List.getElem?_map] at h1 h2
 cases e:p.inner[i]? with
 |none=>rw[e] at h1;cases h1
 |some r =>
  rw[e] at h1 h2
  cases h1
  cases h2
  have hr:=List.mem_of_getElem? e
  have hs:=Pt.xt hr
  have hp:=p.mP hr (n:=p.depth - 1) (by omega)
  exact⟨rfl,λ_=>⟨_,rfl,r,rfl,p.mP hr hd,Pt.FX hr ho,⟨by have:=hb.1;omega,Nat.le_trans hs hb.2⟩,rfl⟩⟩
theorem of_lt (p:Pt):(p.inner.map Pt.told).length<sizeLine:=by rw[List.length_map];exact Nat.lt_of_le_of_lt p.nP (by decide)
theorem iL (p:Pt):(p.inner.map λq=>some (q.d A)).filterMap id=p.inner.map (Pt.d A):=by rw[List.filterMap_map,filterMap_some]
theorem gX {sa:Addr}(d:Df K mg "many_within" gn ["told"])(kd_SHAPES:Cm w K mg "SHAPES" sa my)(eV:bE P w K mg base j "has_shape" ["told"] (tX Pt.ok λp=>.bl (!p.pU))):bE P w K mg base (j+1) "many_within" ["told"] (tX Pt.ok λp=>.int p.inner.length):=by
 refine d.dC jY JS JM (λf cdv A outer s H E hr=>have hu:=hr.units;have hh:=hr.hd;have sc:=jY
  (aI (aQ (Ab (eB (aK eV hr (by omega) (by rfl) (aA (dv 0) aC))) (aj (Aa kd_SHAPES (by rfl) (aj (dv 0) aD (λ_ _=>rfl)) (λ_ _=>rfl)) aD (λ_ _=>rfl)) aD)))) ?_
 rintro ds Q ⟨p,rfl,ho,q⟩
 cases p with
 |given v=>exact⟨_,rfl,.given v,rfl,ho,_,rfl,aR ⟨_,rfl,_,rfl,"given",sh 2 0,rfl,(by kernel_rfl),_,rfl,q⟩⟩
 |named s=>exact⟨_,rfl,.named s,rfl,ho,_,rfl,aR ⟨_,rfl,_,rfl,"named",sh 2 0,rfl,(by kernel_rfl),_,rfl,q⟩⟩
 |turned x=>exact⟨_,rfl,.turned x,rfl,ho,_,rfl,aR ⟨_,rfl,_,rfl,"not",sh 2 1,rfl,(by kernel_rfl),_,rfl,q⟩⟩
 |pair g x y=>exact⟨_,rfl,.pair g x y,rfl,ho,_,rfl,aO q⟩
 |choice x y z=>exact⟨_,rfl,.choice x y z,rfl,ho,_,rfl,aR ⟨_,rfl,_,rfl,"if",sh 4 3,rfl,(by kernel_rfl),_,rfl,q⟩⟩
 |before x f=>exact⟨_,rfl,.before x f,rfl,ho,_,rfl,aR ⟨_,rfl,_,rfl,"before",sh 3 1,rfl,(by kernel_rfl),_,rfl,q⟩⟩
 |led x y=>exact⟨_,rfl,.led x y,rfl,ho,_,rfl,aR ⟨_,rfl,_,rfl,"then",sh 3 2,rfl,(by kernel_rfl),_,rfl,q⟩⟩
 |bx x s=>exact⟨_,rfl,.bx x s,rfl,ho,_,rfl,aR ⟨_,rfl,_,rfl,"when",sh 3 1,rfl,(by kernel_rfl),_,rfl,q⟩⟩
 |held x s f=>exact⟨_,rfl,.held x s f,rfl,ho,_,rfl,aR ⟨_,rfl,_,rfl,"held",sh 4 1,rfl,(by kernel_rfl),_,rfl,q⟩⟩
theorem zX {i m N:Nat}(hi:i+1<=j)(hN:n<=N)(d:Df K mg "part_of" kW ["told"])(gX:bE P w K mg base j "many_within" ["told"] (tX Pt.ok λp=>.int p.inner.length))(eV:bE P w K mg base j "has_shape" ["told"] (tX Pt.ok λp=>.bl (!p.pU)))
  (c_part_of:bE P w K mg base j "part_of" ["told"] (zg A m))(hm:n<=m+1)
  (lX:bE P w K mg base j "plain_by" ["told","inner"] (xA A N true))(lY:bE P w K mg base j "timed_by" ["told","inner"] (xA A N false))
  (k_Pair_3:qk P w K mg base i "Pair" A.pair (λds Q=>∃(g:Str) (x y:Pt),ds=[.str g,x.d A,y.d A]/\g∈dY/\(Pt.pair g x y).depth<=N/\ni (.pair g x y)/\Q [("sign",.str g),("one",x.d A),("other",y.d A)]) [])
  : bE P w K mg base (j+1) "part_of" ["told"] (zg A n):=by
 refine d.dC qS LJ (λds Q ⟨x,e,_⟩=>by rw[e];rfl) (λf cdv A outer s H E hr=>have hu:=hr.units;have hh:=hr.hd;have sc:=qS
  (aH (EV (i:=1) sc.nd rfl (Or.inl rfl) (x:="one") (caps:=[]) (cn:=[]) (cl:=[]) (i8 (by rfl) (by rfl) (by decide +kernel) (by decide +kernel) (by decide +kernel)) rfl (gz (eK (dv 0) (fz aD) (fz (cF aD (aK gX hr (by omega) (by rfl) (aA (dv 0) aC)))))) (λC fp s₂ H₂=>bY (i:=0) (show(["one"]:List Str).Nodup by decide +kernel) rfl (Or.inl rfl) (.inr rfl)) (λC fp s₂ H₂=>fE) (λC fp s₂ H₂=>(aK c_part_of hr (by omega) (by rfl) (aA (dv 0) aC))))
 (aH (cE (qd (eB (aK eV hr (by omega) (by rfl) (aA (dv 0) aC)))) (aI (aQ (sD k_Pair_3 hr (by omega) (by rfl) (aA (aj (dv 0) aD (λ_ _=>rfl)) (aA (aj (dv 1) aD (λ_ _=>rfl)) (aA (aj (dv 1) aD (λ_ _=>rfl)) aC)))))) ar)
 (aH (cE (xH (aj (dv 0) aD (λ_ _=>rfl)) (ay (lV (by rfl))) (by rfl)) (aI (aQ (aK lX hr (by omega) (by rfl) (aA (dv 0) (aA (dv 1) aC))))) ar)
 (aI (aQ (aK lY hr (by omega) (by rfl) (aA (dv 0) (aA (dv 1) aC))))))))) ?_
 rintro ds Q ⟨p,rfl,hd,ho,hb,q⟩
 have hdm:p.depth<=m+1:=Nat.le_trans hd hm
 have hdN:p.depth<=N:=Nat.le_trans hd hN
 cases p with
 |given v =>
  refine⟨_,rfl,_,rfl,_,rfl,.given v,rfl,ho,_,rfl,gg,(Pt.given v).inner.map Pt.told,rfl,_,iK (.given v),fO (.given v) hdm ho hb,of_lt (.given v),?_⟩
  rw[iL]
  exact⟨_,rfl,.given v,rfl,ho,_,rfl,aO ⟨_,rfl,_,rfl,(by decide),rfl,(by decide),true,congrArg D.bl (by decide +kernel),aR ⟨_,rfl,_,rfl,.given v,rfl,rfl,rfl,ho,hb,hdN,q⟩⟩⟩
 |named s =>
  refine⟨_,rfl,_,rfl,_,rfl,.named s,rfl,ho,_,rfl,gg,(Pt.named s).inner.map Pt.told,rfl,_,iK (.named s),fO (.named s) hdm ho hb,of_lt (.named s),?_⟩
  rw[iL]
  exact⟨_,rfl,.named s,rfl,ho,_,rfl,aO ⟨_,rfl,_,rfl,(by decide),rfl,(by decide),true,congrArg D.bl (by decide +kernel),aR ⟨_,rfl,_,rfl,.named s,rfl,rfl,rfl,ho,hb,hdN,q⟩⟩⟩
 |turned x =>
  refine⟨_,rfl,_,rfl,_,rfl,.turned x,rfl,ho,_,rfl,gg,(Pt.turned x).inner.map Pt.told,rfl,_,iK (.turned x),fO (.turned x) hdm ho hb,of_lt (.turned x),?_⟩
  rw[iL]
  exact⟨_,rfl,.turned x,rfl,ho,_,rfl,aO ⟨_,rfl,_,rfl,(by decide),rfl,(by decide),true,congrArg D.bl (by decide +kernel),aR ⟨_,rfl,_,rfl,.turned x,rfl,rfl,rfl,ho,hb,hdN,q⟩⟩⟩
 |pair g x y =>
  refine⟨_,rfl,_,rfl,_,rfl,.pair g x y,rfl,ho,_,rfl,gg,(Pt.pair g x y).inner.map Pt.told,rfl,_,iK (.pair g x y),fO (.pair g x y) hdm ho hb,of_lt (.pair g x y),?_⟩
  rw[iL]
  exact⟨_,rfl,.pair g x y,rfl,ho,_,rfl,aR ⟨_,rfl,_,rfl,_,rfl,_,rfl,_,rfl,_,rfl,g,x,y,rfl,ho.1,hdN,hb,q⟩⟩
 |choice x y z =>
  refine⟨_,rfl,_,rfl,_,rfl,.choice x y z,rfl,ho,_,rfl,gg,(Pt.choice x y z).inner.map Pt.told,rfl,_,iK (.choice x y z),fO (.choice x y z) hdm ho hb,of_lt (.choice x y z),?_⟩
  rw[iL]
  exact⟨_,rfl,.choice x y z,rfl,ho,_,rfl,aO ⟨_,rfl,_,rfl,(by decide),rfl,(by decide),true,congrArg D.bl (by decide +kernel),aR ⟨_,rfl,_,rfl,.choice x y z,rfl,rfl,rfl,ho,hb,hdN,q⟩⟩⟩
 |before x f =>
  refine⟨_,rfl,_,rfl,_,rfl,.before x f,rfl,ho,_,rfl,gg,(Pt.before x f).inner.map Pt.told,rfl,_,iK (.before x f),fO (.before x f) hdm ho hb,of_lt (.before x f),?_⟩
  rw[iL]
  exact⟨_,rfl,.before x f,rfl,ho,_,rfl,aO ⟨_,rfl,_,rfl,(by decide),rfl,(by decide),false,congrArg D.bl (by decide +kernel),aO ⟨_,rfl,_,rfl,.before x f,rfl,rfl,rfl,ho,hb,hdN,q⟩⟩⟩
 |led x y =>
  refine⟨_,rfl,_,rfl,_,rfl,.led x y,rfl,ho,_,rfl,gg,(Pt.led x y).inner.map Pt.told,rfl,_,iK (.led x y),fO (.led x y) hdm ho hb,of_lt (.led x y),?_⟩
  rw[iL]
  exact⟨_,rfl,.led x y,rfl,ho,_,rfl,aO ⟨_,rfl,_,rfl,(by decide),rfl,(by decide),false,congrArg D.bl (by decide +kernel),aO ⟨_,rfl,_,rfl,.led x y,rfl,rfl,rfl,ho,hb,hdN,q⟩⟩⟩
 |bx x s =>
  refine⟨_,rfl,_,rfl,_,rfl,.bx x s,rfl,ho,_,rfl,gg,(Pt.bx x s).inner.map Pt.told,rfl,_,iK (.bx x s),fO (.bx x s) hdm ho hb,of_lt (.bx x s),?_⟩
  rw[iL]
  exact⟨_,rfl,.bx x s,rfl,ho,_,rfl,aO ⟨_,rfl,_,rfl,(by decide),rfl,(by decide),false,congrArg D.bl (by decide +kernel),aO ⟨_,rfl,_,rfl,.bx x s,rfl,rfl,rfl,ho,hb,hdN,q⟩⟩⟩
 |held x s f =>
  refine⟨_,rfl,_,rfl,_,rfl,.held x s f,rfl,ho,_,rfl,gg,(Pt.held x s f).inner.map Pt.told,rfl,_,iK (.held x s f),fO (.held x s f) hdm ho hb,of_lt (.held x s f),?_⟩
  rw[iL]
  exact⟨_,rfl,.held x s f,rfl,ho,_,rfl,aO ⟨_,rfl,_,rfl,(by decide),rfl,(by decide),false,congrArg D.bl (by decide +kernel),aO ⟨_,rfl,_,rfl,.held x s f,rfl,rfl,rfl,ho,hb,hdN,q⟩⟩⟩
theorem fY {x y:Str}(h:x.cps.toList=y.cps.toList):x=y:=by
 obtain⟨⟨a⟩⟩:=x
 obtain⟨⟨b⟩⟩:=y
 have:a=b:=h
 rw[this]
theorem av (x y:Str):(x++y).cps.toList=x.cps.toList++y.cps.toList:=by
 show(x.cps++y.cps).toList=_
 exact Array.toList_append
theorem ck (x:Str):x.length=x.cps.toList.length:=by
 show x.cps.size=_
 exact Array.length_toList.symm
theorem bp (x y:Str):(x++y).length=x.length+y.length:=by rw[ck,av,List.length_append,<- ck,<- ck]
theorem AX {c:Nat}:∀{a b r s:List Nat},c∉a->c∉b->a++c::r=b++c::s->a=b/\r=s
 |[],[],r,s,_,_,h=>⟨rfl,by simpa using h⟩
 |[],y::b,r,s,_,hb,h=>by
  have:c=y:=by simpa using (List.cons.inj h).1
  exact(hb (by rw[this];exact List.mem_cons_self)).elim
 |x::a,[],r,s,ha,_,h=>by
  have:x=c:=by simpa using (List.cons.inj h).1
  exact(ha (by rw[this];exact List.mem_cons_self)).elim
 |x::a,y::b,r,s,ha,hb,h=>by
  obtain⟨e1,e2⟩:=List.cons.inj h
  obtain⟨e3,e4⟩:=AX (λm=>ha (List.mem_cons_of_mem _ m)) (λm=>hb (List.mem_cons_of_mem _ m)) e2
  exact⟨by rw[e1,e3],e4⟩
def jl (c:Nat):List (List Nat)->List Nat
 |[]=>[]
 |[a]=>a
 |a::b::r=>a++c::jl c (b::r)
theorem kP (c:Nat):∀ws:List Str,(Str.join ⟨#[c]⟩ ws).cps.toList=jl c (ws.map λw=>w.cps.toList)
 |[]=>rfl
 |[x]=>rfl
 |x::y::r=>by
  have ih:=kP c (y::r)
  show(x++⟨#[c]⟩++Str.join ⟨#[c]⟩ (y::r)).cps.toList=_
  rw[av,av,ih]
  simp[jl]
theorem BG (c:Nat):∀ws vs:List (List Nat),ws≠[]->vs≠[]->(∀w∈ws,c∉w)->(∀v∈vs,c∉v)->jl c ws=jl c vs->ws=vs
 |[],_,h,_,_,_,_=>absurd rfl h
 |_::_,[],_,h,_,_,_=>absurd rfl h
 |[a],[b],_,_,_,_,h=>by rw[show a=b from h]
 |[a],b::b2::s,_,_,fa,_,h=>by
  have e:a=b++c::jl c (b2::s):=h
  exact(fa a List.mem_cons_self (by rw[e];simp)).elim
 |a::a2::r,[b],_,_,_,fb,h=>by
  have e:a++c::jl c (a2::r)=b:=h
  exact(fb b List.mem_cons_self (by rw[<- e];simp)).elim
 |a::a2::r,b::b2::s,_,_,fa,fb,h=>by
  obtain⟨e1,e2⟩:=AX (fa a List.mem_cons_self) (fb b List.mem_cons_self) (show a++c::jl c (a2::r)=b++c::jl c (b2::s) from h)
  rw[e1,BG c (a2::r) (b2::s) (by simp) (by simp) (λw m=>fa w (List.mem_cons_of_mem _ m)) (λw m=>fb w (List.mem_cons_of_mem _ m)) e2]
theorem m4 (c:Nat)(ws:List Str)(hne:ws≠[])(free:∀w∈ws,c∉w.cps.toList):Txt.split (Str.join ⟨#[c]⟩ ws) ⟨#[c]⟩=ws:=by
 have j:=StrLaws.join_split (Str.join ⟨#[c]⟩ ws) ⟨#[c]⟩
 have f:=StrLaws.split_free (Str.join ⟨#[c]⟩ ws) c
 have p:=split_pos (Str.join ⟨#[c]⟩ ws) ⟨#[c]⟩
 generalize Txt.split (Str.join ⟨#[c]⟩ ws) ⟨#[c]⟩=vs at j f p ⊢
 have e:jl c (vs.map λw=>w.cps.toList)=jl c (ws.map λw=>w.cps.toList):=by rw[<- kP,<- kP,j]
 have hv:vs≠[]:=λz=>by rw[z] at p;simp at p
 have q:=BG c _ _ (by simpa using hv) (by simpa using hne) (λw m=>?_) (λw m=>?_) e
 ·exact(List.map_inj_right λx y h=>fY h).mp q
 ·obtain⟨x,hx,rfl⟩:=List.mem_map.mp m;exact f x hx
 ·obtain⟨x,hx,rfl⟩:=List.mem_map.mp m;exact free x hx
theorem zh {x:Str}{l u:Option Int}{c:Nat}(h:c∈(Txt.slice x l u).cps.toList):c∈x.cps.toList:=by
 unfold Txt.slice at h
 split at h
 ·exact h
 ·obtain⟨i,_,hi⟩:=List.mem_filterMap.mp (show c∈List.filterMap (x.cps[·]?) _ from by simpa using h)
  rw[<- Array.getElem?_toList] at hi
  exact List.mem_of_getElem? hi
theorem rT {x:Str}{l u:Option Int}:(Txt.slice x l u).length<=(Builtin.Str.strSliceIndices l u 1 x.length).length:=by
 unfold Txt.slice
 split
 ·rename_i h
  have h2:(Builtin.Str.strSliceIndices l u 1 x.length).length=x.length:=by simpa using h
  exact Nat.le_of_eq h2.symm
 ·show(List.filterMap _ _).toArray.size<=_
  rw[List.size_toArray]
  exact List.length_filterMap_le _ _
theorem DH:∀n:Fin 7,∀a:Fin 7,(Builtin.Str.strSliceIndices none (some (a.val:Int)) 1 n.val).length+(Builtin.Str.strSliceIndices (some (a.val:Int)) none 1 n.val).length<=n.val:=by decide +kernel
theorem zi {x:Str}{a:Int}(hx:x.length<=6)(h0:0<=a)(h1:a<7):(Txt.slice x none (some a)).length+(Txt.slice x (some a) none).length<=x.length:=by
 have q:=DH ⟨x.length,by omega⟩ ⟨a.toNat,by omega⟩
 rw[show((⟨a.toNat,by omega⟩:Fin 7).val:Int)=a from Int.toNat_of_nonneg h0] at q
 have h2:=rT (x:=x) (l:=none) (u:=some a)
 have h3:=rT (x:=x) (l:=some a) (u:=none)
 have q':(Builtin.Str.strSliceIndices none (some a) 1 x.length).length+(Builtin.Str.strSliceIndices (some a) none 1 x.length).length<=x.length:=q
 omega
theorem eC {α:Type}{xs:List α}{i:Int}(h0:0<=i)(h1:i<xs.length):∃r,r∈xs/\L2.m_ xs i=some r:=by
 unfold L2.m_ L2.DM
 rw[if_pos h0,if_pos h1]
 have h:i.toNat<xs.length:=by omega
 exact⟨xs[i.toNat],List.getElem_mem h,by simp[List.getElem?_eq_getElem h]⟩
theorem kH {α:Type}{xs:List α}{i:Nat}{x:α}(h:xs[i]?=some x):L2.m_ xs (i:Int)=some x:=by
 unfold L2.m_ L2.DM
 have hl:i<xs.length:=(List.getElem?_eq_some_iff.mp h).1
 rw[if_pos (by omega),if_pos (by omega),Int.toNat_natCast]
 exact h
def low (x:Str):Prop:=∀c∈x.cps.toList,97<=c/\c<=122
def qG:List Nat:=[99,103,106,107,112,113,118,120,122]
theorem DX {c:Nat}(h1:97<=c)(h2:c<=122):Ga ⟨#[c]⟩=true:=by
 have all:∀k:Fin 26,Ga ⟨#[97+k.val]⟩=true:=by decide +kernel
 have q:=all ⟨c - 97,by omega⟩
 have e:97+(c - 97)=c:=by omega
 rw[show(97+(⟨c - 97,by omega⟩:Fin 26).val)=c from e] at q
 exact q
theorem DY {x:Str}(h:low x)(h0:0<x.length):iG x=true:=by
 unfold iG
 rw[decide_eq_true (by omega),Bool.true_and,List.all_eq_true]
 intro s hs
 unfold signs at hs
 obtain⟨c,hc,rfl⟩:=List.mem_map.mp hs
 exact DX (h c hc).1 (h c hc).2
theorem BL {x:Str}(h:low x)(h0:0<x.length)(h8:x.length<=8):di x=true:=by
 unfold di
 rw[DY h h0,decide_eq_true (by omega)]
 rfl
theorem tB {x:Str}(h:low x):46∉x.cps.toList:=λm=>by have:=h 46 m;omega
theorem s_ {x y:Str}(h:low x)(g:low y):low (x++y):=λc hc=>by
 rw[av] at hc
 exact(List.mem_append.mp hc).elim (h c) (g c)
theorem x2 {c:Nat}(h:97<=c/\c<=122):low ⟨#[c]⟩:=λd hd=>by
 have:d=c:=by simpa using hd
 rw[this];exact h
theorem rK {x:Str}{l u:Option Int}(h:low x):low (Txt.slice x l u):=λc hc=>h c (zh hc)
theorem Du {c:Nat}(h:c∈qG):97<=c/\c<=122:=by
 have all:∀c∈qG,97<=c/\c<=122:=by decide
 exact all c h
theorem DQ {x:Str}{c:Nat}(hc:c∈x.cps.toList)(hz:c∈qG):fL.contains x=false:=by
 have all:∀y∈fL,∀c∈qG,c∉y.cps.toList:=by decide +kernel
 rw[Bool.eq_false_iff]
 intro h
 exact all x (List.contains_iff_mem.mp h) c hz hc
theorem sI:dot=⟨#[46]⟩:=by decide +kernel
theorem zR {x:Str}(hf:46∉x.cps.toList)(hw:kE x=true):eY x=true:=by
 have e:Txt.split x dot=[x]:=by
  rw[sI]
  exact m4 46 [x] (by simp) (by simpa using hf)
 unfold eY
 rw[e]
 exact hw
theorem qA {ws:List Str}(h1:2<=ws.length)(h2:ws.length<=4)(hf:∀w∈ws,di w=true/\46∉w.cps.toList):eY (Str.join ⟨#[46]⟩ ws)=true:=by
 have e:Txt.split (Str.join ⟨#[46]⟩ ws) dot=ws:=by
  rw[sI]
  exact m4 46 ws (λz=>by rw[z] at h1;simp at h1) λw m=>(hf w m).2
 unfold eY
 rw[e,decide_eq_false (by omega),if_neg Bool.false_ne_true,decide_eq_true (by omega),Bool.true_and,List.all_eq_true]
 exact λw m=>(hf w m).1
theorem CJ {x:Str}(h:∀c∈x.cps.toList,c<0x110000):PyData.strOk x=true:=by
 unfold PyData.strOk
 rw[<- Array.all_toList,List.all_eq_true]
 exact λc hc=>decide_eq_true (h c hc)
theorem Gp {x:Str}(h:low x):∀c∈x.cps.toList,c<0x110000:=λc hc=>by have:=h c hc;omega
def nm (ahead b:Str)(a:Int)(c:Nat):Str:=ahead++Txt.slice b none (some a)++⟨#[c]⟩++Txt.slice b (some a) none
theorem Dr {ahead b:Str}{a:Int}{c:Nat}(ha:ahead∈(["","","row.","a.in."]:List Str))(hb:b.length<=6)(lb:low b)(h0:0<=a)(h1:a<7)(hc:c∈qG) :
  d6 (nm ahead b a c):=by
 have hs:=zi hb h0 h1
 let wd:Str:=Txt.slice b none (some a)++⟨#[c]⟩++Txt.slice b (some a) none
 have lw:low wd:=s_ (s_ (rK lb) (x2 (Du hc))) (rK lb)
 have cw:c∈wd.cps.toList:=by
  show c∈(Txt.slice b none (some a)++⟨#[c]⟩++Txt.slice b (some a) none).cps.toList
  rw[av,av]
  simp
 have nw:wd.length=(Txt.slice b none (some a)).length+1+(Txt.slice b (some a) none).length:=by
  show(Txt.slice b none (some a)++⟨#[c]⟩++Txt.slice b (some a) none).length=_
  rw[bp,bp]
  rfl
 have fw:di wd=true:=BL lw (by omega) (by omega)
 have hnm:nm ahead b a c=ahead++wd:=fY (by
  show(ahead++Txt.slice b none (some a)++⟨#[c]⟩++Txt.slice b (some a) none).cps.toList=(ahead++(Txt.slice b none (some a)++⟨#[c]⟩++Txt.slice b (some a) none)).cps.toList
  simp only[av,List.append_assoc])
 rw[hnm]
 clear_value wd
 have hl:(ahead++wd).length<=100:=by
  have:ahead.length<=5:=by
   have all:∀y∈(["","","row.","a.in."]:List Str),y.length<=5:=by decide +kernel
   exact all _ ha
  rw[bp]
  omega
 refine⟨?_,hl,?_⟩
 ·have ha':=ha
  simp only[List.mem_cons,List.not_mem_nil,or_false] at ha'
  have e0:("":Str)++wd=wd:=fY (by rw[av];rfl)
  have one:eY wd=true:=zR (tB lw) (by unfold kE;rw[fw,DQ cw hc];rfl)
  rcases ha' with rfl|rfl|rfl|rfl
  ·rw[e0];exact one
  ·rw[e0];exact one
  ·have e:("row.":Str)++wd=Str.join ⟨#[46]⟩ ["row",wd]:=fY (by
    show _=(("row":Str)++⟨#[46]⟩++wd).cps.toList
    rw[av,av,av]
    rfl)
   rw[e]
   refine qA (by simp) (by simp) λw m=>?_
   simp only[List.mem_cons,List.not_mem_nil,or_false] at m
   rcases m with rfl|rfl
   ·exact⟨by decide +kernel,by decide +kernel⟩
   ·exact⟨fw,tB lw⟩
  ·have e:("a.in.":Str)++wd=Str.join ⟨#[46]⟩ ["a","in",wd]:=fY (by
    show _=(("a":Str)++⟨#[46]⟩++(("in":Str)++⟨#[46]⟩++wd)).cps.toList
    rw[av,av,av,av,av]
    rfl)
   rw[e]
   refine qA (by simp) (by simp) λw m=>?_
   simp only[List.mem_cons,List.not_mem_nil,or_false] at m
   rcases m with rfl|rfl|rfl
   ·exact⟨by decide +kernel,by decide +kernel⟩
   ·exact⟨by decide +kernel,by decide +kernel⟩
   ·exact⟨fw,tB lw⟩
 ·refine CJ λd hd=>?_
  rw[av] at hd
  rcases List.mem_append.mp hd with h|h
  ·have all:∀y∈(["","","row.","a.in."]:List Str),∀d∈y.cps.toList,d<0x110000:=by decide +kernel
   exact all _ ha d h
  ·exact Gp lw d h
def wg (c k:Int):Int:=(c+7919*k+11)*48271%2147483647
def mixed (c k:Int):Int:=(wg c k*wg c k+40692*wg c k)%2147483399
theorem Dl (c k:Int):0<=wg c k/\wg c k<2147483647:=⟨Int.emod_nonneg _ (by decide),Int.emod_lt_of_pos _ (by decide)⟩
def d_:cg:=λds Q=>∃c k:Int,ds=[.int c,.int k]/\Q (.int (mixed c k))
theorem JQ:b4 d_:=λds P P' f ⟨c,k,e,q⟩=>⟨c,k,e,f _ q⟩
def B5:cg:=λds Q=>∃(ns:List Int) (k:Nat),ds=[.lst (ns.map D.int),.int (k:Int)]/\k<=10/\∀c:Int,Q (.int c)
def B9:cg:=λds Q=>∃m:Int,ds=[.int m]/\∀i:Int,-128<=i->i<=127->Q (.int i)
def qX:cg:=λds Q=>∃(m:Int) (k:Str),ds=[.int m,.str k]/\∀v:D,isVal v->Q v
def yJ:cg:=λds Q=>∃(c:Int) (m:Nat),ds=[.int c,.int (m:Int)]/\1<=m/\m<=9/\∀l:List Str,l.length=m->(∀x∈l,d6 x)->Q (.lst (l.map D.str))
theorem cd {i j:Int}(h:0<j)(h2:j<1073741824):Ft i j:=⟨h,h2⟩
theorem cD (a:Int){b:Int}(h:0<b):0<=a%b:=Int.emod_nonneg _ (by omega)
theorem cC (a:Int){b:Int}(h:0<b):a%b<b:=Int.emod_lt_of_pos _ h
def L7 (ahead b:Str)(a:Int):D->D
 |.int i=>.str (nm ahead b a (((L2.m_ qG i)).getD 0))
 |_=>.ag
theorem C1 (d:Df K mg "_law_mixed" iR ["_law_cell","_law_k"]):bE P w K mg base (j+1) "_law_mixed" ["_law_cell","_law_k"] d_:=by
 refine d.dC lG JQ (λds Q ⟨c,k,e,_⟩=>by rw[e];rfl) (λf cdv A outer s H E hr=>have hu:=hr.units;have hh:=hr.hd;have sc:=lG
  (aH (aq (i:=2) sc.nd rfl (Or.inl rfl) (b5 (pH (cF (cF (dv 0) (pH aD (dv 1))) aD) aD) aD))
 (aI (aQ (b5 (cF (pH (dv 2) (dv 2)) (pH aD (dv 2))) aD))))) ?_
 rintro ds Q ⟨c,k,rfl,q⟩
 have hb:=Dl c k
 refine⟨_,rfl,_,rfl,rh.ok (.inl ⟨by decide,by decide⟩),rh.ok (.inr ⟨by decide,by decide⟩),iP2147483647,?_⟩
 exact⟨_,rfl,_,rfl,rh.ok (i:=wg c k) (j:=wg c k) (.inl ⟨by omega,by omega⟩),_,rfl,rh.ok (.inl ⟨by decide,by decide⟩),iP2147483399,q⟩
seal mixed
theorem F5 (d:Df K mg "_law_cell_at" gB ["_law_script","_law_k"])(n_len:mg "len"=none):bE P w K mg base (j+1) "_law_cell_at" ["_law_script","_law_k"] B5:=by
 refine d.dC il (λds P P' f ⟨c,k,e,h,q⟩=>⟨c,k,e,h,λc=>f _ (q c)⟩) (λds Q ⟨c,k,e,_⟩=>by rw[e];rfl) (λf cdv A outer s H E hr=>have hu:=hr.units;have hh:=hr.hd;have sc:=il
  (aH (cE (IA (dv 1) (cZ (by rfl) n_len (aA (dv 0) aC))) (aI (aQ (aj (dv 0) (dv 1) (λ_ _=>rfl)))) ar)
 (aI (aQ (pH (pH (cF (dv 1) aD) (cF (dv 1) aD)) aD))))) ?_
 rintro ds Q ⟨ns,k,rfl,hk,q⟩
 refine⟨_,rfl,_,rfl,_,_,rfl,rfl,_,rfl,?_⟩
 show if decide ((k:Int)<((ns.map D.int).length:Int))=true then _ else _
 rw[List.length_map]
 cases h:decide ((k:Int)<(ns.length:Int)) with
 |true =>
  have hk':k<ns.length:=by have:=of_decide_eq_true h;omega
  exact aR ⟨_,rfl,_,rfl,.int ns[k],kH (by rw[List.getElem?_map,List.getElem?_eq_getElem hk'];rfl),q _⟩
 |false =>
  exact aO ⟨_,rfl,_,rfl,rh.ok (i:=(k:Int)+3) (.inl ⟨by omega,by omega⟩),rh.ok (.inr ⟨by decide,by decide⟩),q _⟩
theorem AN (d:Df K mg "_law_number" gh ["_law_mix"]):bE P w K mg base (j+1) "_law_number" ["_law_mix"] B9:=by
 refine d.dC jV (λds P P' f ⟨c,e,q⟩=>⟨c,e,λi h1 h2=>f _ (q i h1 h2)⟩) (λds Q ⟨c,e,_⟩=>by rw[e];rfl) (λf cdv A outer s H E hr=>have hu:=hr.units;have hh:=hr.hd;have sc:=jV
  (aI (aQ (aj (fk (aA (fm (b5 (cG (dv 0) aD) aD) aD) (aA (fm (b5 (cG (dv 0) aD) aD) aD) (aA (aj (fk (lV (by rfl))) (b5 (cG (dv 0) aD) aD) (λ_ _=>rfl)) (aA (b5 (cG (dv 0) aD) aD) aC))))) (b5 (dv 0) aD) (λ_ _=>rfl))))) ?_
 rintro ds Q ⟨m,rfl,q⟩
 obtain⟨r,hr,er⟩:=eC (xs:=[D.int (-128),.int 127,.int 0,.int 1]) (cD (m / 8) iP4) (cC (m / 8) iP4)
 obtain⟨s,hs,es⟩:=eC (xs:=[D.int (m / 8%256 - 128),.int (m / 8%5 - 2),r,.int (m / 8%9)]) (cD m iP4) (cC m iP4)
 refine⟨_,rfl,cd (by decide) (by decide),iP256,_,rfl,cd (by decide) (by decide),iP5,zL4,_,rfl,cd (by decide) (by decide),iP4,r,er,_,rfl,cd (by decide) (by decide),iP9,zL4,_,rfl,iP4,s,es,?_⟩
 have ha:=cD (m / 8) iP256
 have hb:=cC (m / 8) iP256
 have hc:=cD (m / 8) iP5
 have hd:=cC (m / 8) iP5
 have he:=cD (m / 8) iP9
 have hf:=cC (m / 8) iP9
 simp only[List.mem_cons,List.not_mem_nil,or_false] at hr hs
 rcases hs with rfl|rfl|rfl|rfl
 ·exact q _ (by omega) (by omega)
 ·exact q _ (by omega) (by omega)
 ·rcases hr with rfl|rfl|rfl|rfl<;>exact q _ (by decide) (by decide)
 ·exact q _ (by omega) (by omega)
theorem C5 (d:Df K mg "_law_value" iT ["_law_mix","_law_kind"])(c__law_number:bE P w K mg base j "_law_number" ["_law_mix"] B9):bE P w K mg base (j+1) "_law_value" ["_law_mix","_law_kind"] qX:=by
 refine d.dC lJ (λds P P' f ⟨c,k,e,q⟩=>⟨c,k,e,λi h1=>f _ (q i h1)⟩) (λds Q ⟨c,k,e,_⟩=>by rw[e];rfl) (λf cdv A outer s H E hr=>have hu:=hr.units;have hh:=hr.hd;have sc:=lJ
  (aH (cE (dF hu (dv 1) aP) (aI (aQ (iD hu (b5 (cG (dv 0) aD) aD) aD))) ar)
 (aI (aQ (aK c__law_number hr (by omega) (by rfl) (aA (cG (dv 0) aD) aC)))))) ?_
 rintro ds Q ⟨m,k,rfl,q⟩
 refine⟨_,rfl,_,rfl,?_⟩
 cases h:decide (k="truth") with
 |true=>exact aR ⟨_,rfl,cd (by decide) (by decide),iP2,q _ (.inl ⟨_,rfl⟩)⟩
 |false=>exact aO ⟨_,rfl,cd (by decide) (by decide),_,rfl,λi h1 h2=>q _ (.inr ⟨i,rfl,h1,h2⟩)⟩
theorem C2 (d:Df K mg "_law_names" iS ["_law_cell","_law_many"])(n_range:mg "range"=none)(c__law_mixed:bE P w K mg base j "_law_mixed" ["_law_cell","_law_k"] d_):bE P w K mg base (j+1) "_law_names" ["_law_cell","_law_many"] yJ:=by
 refine d.dC lH (λds P P' f ⟨c,k,e,h1,h2,q⟩=>⟨c,k,e,h1,h2,λl h3 h4=>f _ (q l h3 h4)⟩) (λds Q ⟨c,k,e,_⟩=>by rw[e];rfl) (λf cdv A outer s H E hr=>have hu:=hr.units;have hh:=hr.hd;have sc:=lH
  (aH (aq (i:=2) sc.nd rfl (Or.inl rfl) aP)
 (aH (aq (i:=3) sc.nd rfl (Or.inr rfl) aP)
 (aH (Jv PassesOwn.never rfl (fu (by rfl) n_range (aA (b5 (dv 0) aD) aC)) (pQ (i:=4) sc.nd rfl (Or.inl rfl)) (aI (aq (i:=3) sc.nd rfl (Or.inr rfl) (cF (dv 3) (aj (dv 2) (b5 (cG (aK c__law_mixed hr (by omega) (by rfl) (aA (dv 0) (aA (cF aD (dv 4)) aC))) aD) aD) (λ_ _=>rfl))))))
 (aH (aq (i:=5) sc.nd rfl (Or.inr rfl) (b5 (cG (aK c__law_mixed hr (by omega) (by rfl) (aA (dv 0) (aA aD aC))) aD) aD))
 (aH (aq (i:=6) sc.nd rfl (Or.inr rfl) (aj (fk (lV (by rfl))) (b5 (cG (aK c__law_mixed hr (by omega) (by rfl) (aA (dv 0) (aA aD aC))) aD) aD) (λ_ _=>rfl)))
 (aI (aQ (uS (x:="_law_k") (caps:=[3,6,5]) (cn:=["_law_base","_law_ahead","_law_at"]) (cl:=[("_law_base",s.heap.objs.size+1),("_law_at",s.heap.objs.size+2),("_law_ahead",s.heap.objs.size+3)]) (uL (by rfl) (by rfl) (by decide +kernel) (mM ["_law_base","_law_at","_law_ahead"] rfl (by decide +kernel)) (by decide +kernel) (bz (by rfl) (bz (by rfl) (bz (by rfl) gv))) (.cons ⟨rfl,.inl rfl,rfl⟩ (.cons ⟨rfl,.inl rfl,rfl⟩ (.cons ⟨rfl,.inl rfl,rfl⟩ .nil)))) rfl (fu (by rfl) n_range (aA (dv 1) aC)) (λC fp s₂ H₂=>bY (i:=0) (show(["_law_k","_law_base","_law_ahead","_law_at"]:List Str).Nodup by decide +kernel) rfl (Or.inl rfl) (.inr rfl)) (λC fp s₂ H₂=>fE) (λC fp s₂ H₂=>(cF (cF (cF (dv 2) (eK (dv 1) iJ (fz (dv 3)))) (aj aP (dv 0) (λ_ _=>rfl))) (eK (dv 1) (fz (dv 3)) iJ)))))))))))) ?_
 rintro ds Q ⟨c,m,rfl,hm1,hm9,q⟩
 have h7:=cD c iP7
 have h8:=cC c iP7
 refine⟨_,rfl,iP7,_,rfl,(by show -(2 ^ 62:Int)<=c%7;omega),(by show c%7<(2 ^ 62:Int);omega),λi δ=>∃(b:Str) (k:Option D),δ=[some (.int c),some (.int (m:Int)),some (.str eL),some (.str b),k,none,none]/\b.length<=i/\low b/\i<=6,?_,?_,?_⟩
 ·exact⟨"",none,rfl,(by decide +kernel),(λc hc=>by cases hc),(by decide)⟩
 ·rintro i dd δ hd ⟨b,k,rfl,hb,lb,hi⟩
  have hlt:i<(c%7).toNat:=by
   have:=(List.getElem?_eq_some_iff.mp hd).1
   simpa using this
  have hdd:D.int (0+(i:Int))=dd:=by
   rw[List.getElem?_map,List.getElem?_range hlt] at hd
   simpa using hd
  subst hdd
  have e26:eL.cps.toList.length=26:=by decide +kernel
  have h26:=cC (mixed c (20+(0+(i:Int))) / 31) iP26
  obtain⟨x,hx,ex⟩:=eC (xs:=eL.cps.toList) (cD (mixed c (20+(0+(i:Int))) / 31) iP26) (by rw[e26];exact h26)
  have lx:97<=x/\x<=122:=by
   have all:∀x∈eL.cps.toList,97<=x/\x<=122:=by decide +kernel
   exact all x hx
  refine⟨_,rfl,_,rfl,_,rfl,_,rfl,_,_,rfl,cd (by decide) (by decide),iP26,(by decide +kernel),x,ex,?_,?_⟩
  ·show b.length+1<=sizeLine
   exact Nat.le_trans (show b.length+1<=7 by omega) (by decide)
  ·refine⟨b++⟨#[x]⟩,_,rfl,?_,s_ lb (x2 lx),by omega⟩
   rw[bp]
   exact Nat.add_le_add_right hb 1
 ·rintro δ ⟨b,k,rfl,hb,lb,hi⟩
  have hb6:b.length<=6:=Nat.le_trans hb hi
  refine⟨_,rfl,_,_,rfl,cd (by decide) (by decide),iP7,?_⟩
  have a0:=cD (mixed c 30 / 7) iP7
  have a1:=cC (mixed c 30 / 7) iP7
  obtain⟨y,hy,ey⟩:=eC (xs:=[D.str "",.str "",.str "row.",.str "a.in."]) (cD (mixed c 31 / 7) iP4) (cC (mixed c 31 / 7) iP4)
  have hz:∃z,y=.str z/\z∈(["","","row.","a.in."]:List Str):=by
   simp only[List.mem_cons,List.not_mem_nil,or_false] at hy
   rcases hy with rfl|rfl|rfl|rfl
   ·exact⟨_,rfl,by simp⟩
   ·exact⟨_,rfl,by simp⟩
   ·exact⟨_,rfl,by simp⟩
   ·exact⟨_,rfl,by simp⟩
  obtain⟨z,rfl,hz⟩:=hz
  refine⟨zL4,_,rfl,_,_,rfl,cd (by decide) (by decide),iP4,_,ey,?_⟩
  have bg:∀i:Nat,i<m->∃x,L2.m_ qG (0+(i:Int))=some x/\x∈qG:=λi hi=>by
   obtain⟨x,h1,h2⟩:=eC (xs:=qG) (i:=0+(i:Int)) (by omega) (by show 0+(i:Int)<9;omega)
   exact⟨x,h2,h1⟩
  refine⟨_,rfl,_,rfl,(by show -(2 ^ 62:Int)<=(m:Int);omega),(by show(m:Int)<(2 ^ 62:Int);omega),mO (L7 z b (mixed c 30 / 7%7)) ((List.range (m:Int).toNat).map λi:Nat=>.int (0+(i:Int))),ph,λi0 d o g1 g2=>?_,?_,?_⟩
  ·obtain⟨hd,rfl⟩:=u9 g1 g2
   obtain⟨i,hi,rfl⟩:=List.mem_map.mp hd
   have hi':i<m:=by simpa using hi
   obtain⟨x,e1,h1⟩:=bg i hi'
   have hs:∀l u:Option Int,(Txt.slice b l u).length<=6:=λl u=>Nat.le_trans (Txt.slice_le b l u) hb6
   have hz5:z.length<=5:=by
    have all:∀y∈(["","","row.","a.in."]:List Str),y.length<=5:=by decide +kernel
    exact all _ hz
   have hsb:b.length<=sizeLine:=Nat.le_trans hb6 (by decide)
   have l1:z.length+(Txt.slice b none (some (mixed c 30 / 7%7))).length<=sizeLine:=Nat.le_trans (Nat.add_le_add hz5 (hs _ _)) (by decide)
   have l2:(z++Txt.slice b none (some (mixed c 30 / 7%7))).length+1<=sizeLine:=by
    rw[bp]
    exact Nat.le_trans (Nat.add_le_add_right (Nat.add_le_add hz5 (hs _ _)) 1) (by decide)
   have l3:(z++Txt.slice b none (some (mixed c 30 / 7%7))++(⟨#[x]⟩:Str)).length+(Txt.slice b (some (mixed c 30 / 7%7)) none).length<=sizeLine:=by
    rw[bp,bp]
    exact Nat.le_trans (Nat.add_le_add (Nat.add_le_add_right (Nat.add_le_add hz5 (hs _ _)) 1) (hs _ _)) (by decide)
   refine⟨rfl,λ_=>⟨_,rfl,_,rfl,_,rfl,_,rfl,hsb,l1,_,rfl,(by decide +kernel),x,e1,l2,_,rfl,_,rfl,_,rfl,hsb,l3,?_⟩⟩
   show some (D.str (nm z b (mixed c 30 / 7%7) ((L2.m_ qG (0+(i:Int))).getD 0)))=some (D.str (nm z b (mixed c 30 / 7%7) x))
   rw[e1]
   rfl
  ·rw[List.length_map,List.length_range]
   exact Nat.lt_of_le_of_lt (show(m:Int).toNat<=9 by omega) (by decide)
  ·rw[nZ]
   have e:(((List.range (m:Int).toNat).map λi:Nat=>D.int (0+(i:Int))).map (L7 z b (mixed c 30 / 7%7)))=((List.range m).map λi:Nat=>nm z b (mixed c 30 / 7%7) ((L2.m_ qG (0+(i:Int))).getD 0)).map D.str:=by
    rw[Int.toNat_natCast,List.map_map,List.map_map]
    rfl
   rw[e]
   refine q _ (by simp) λx hx=>?_
   obtain⟨i,hi,rfl⟩:=List.mem_map.mp hx
   obtain⟨y,e1,h1⟩:=bg i (by simpa using hi)
   rw[e1]
   exact Dr hz hb6 lb a0 a1 h1
theorem xM (hA:eZ K A)(d:Dm K A.given "told" "Given.told" fR ["self"]):cS P w K mg base (j+1) A.given "told" (qW A (n+1) Pt.told A.given) []:=by
 refine d.dC k_ mF rH (λf cdv A outer s H E hr=>have hu:=hr.units;have hh:=hr.hd;have sc:=k_
  (aI (aQ (ay (aA aP (aA (aa K rfl (dv 0) (by rfl)) aC)))))) ?_
 rintro ds Q ⟨p,rfl,hc,hd,q⟩
 have c:=hA.cl _ (Pt.aW A p)
 have no:=hA.i3 _ (Pt.aW A p)
 obtain⟨v,rfl⟩:=pW hA hc
 exact aT rfl c (no _ (by decide)) (by kernel_rfl) ⟨zL2,q⟩
theorem vj (hA:eZ K A)(d:Dm K A.turned "told" "Turned.told" eT ["self"])(m_told:MP P w K mg base A j "told" n Pt.told):cS P w K mg base (j+1) A.turned "told" (qW A (n+1) Pt.told A.turned) []:=by
 refine d.dC jU mF rH (λf cdv A outer s H E hr=>have hu:=hr.units;have hh:=hr.hd;have sc:=jU
  (aI (aQ (ay (aA aP (aA (cT m_told hr (by omega) (aa K rfl (dv 0) (by rfl))) aC)))))) ?_
 rintro ds Q ⟨p,rfl,hc,hd,q⟩
 have c:=hA.cl _ (Pt.aW A p)
 have no:=hA.i3 _ (Pt.aW A p)
 obtain⟨a,rfl⟩:=nS hA hc
 exact bP c_ cQ (aT rfl c (no _ (by decide)) (by kernel_rfl) rfl) (by simp only[Pt.depth] at hd;omega) ⟨zL2,q⟩
theorem zu (hA:eZ K A)(d:Dm K A.pair "told" "Pair.told" gM ["self"])(m_told:MP P w K mg base A j "told" n Pt.told):cS P w K mg base (j+1) A.pair "told" (qW A (n+1) Pt.told A.pair) []:=by
 refine d.dC mZ mF rH (λf cdv A outer s H E hr=>have hu:=hr.units;have hh:=hr.hd;have sc:=mZ
  (aI (aQ (ay (aA (aa K rfl (dv 0) (by rfl)) (aA (cT m_told hr (by omega) (aa K rfl (dv 0) (by rfl))) (aA (cT m_told hr (by omega) (aa K rfl (dv 0) (by rfl))) aC))))))) ?_
 rintro ds Q ⟨p,rfl,hc,hd,q⟩
 have c:=hA.cl _ (Pt.aW A p)
 have no:=hA.i3 _ (Pt.aW A p)
 obtain⟨g,a,b,rfl⟩:=sj hA hc
 simp only[Pt.depth] at hd
 exact aT rfl c (no _ (by decide)) (by kernel_rfl) (bP c_ cQ (aT rfl c (no _ (by decide)) (by kernel_rfl) rfl) (by omega)
  (bP c_ cQ (aT rfl c (no _ (by decide)) (by kernel_rfl) rfl) (by omega) ⟨zL3,q⟩))
theorem xN (hA:eZ K A)(d:Dm K A.named "told" "Named.told" fU ["self"]):cS P w K mg base (j+1) A.named "told" (qW A (n+1) Pt.told A.named) []:=by
 refine d.dC lC mF rH (λf cdv A outer s H E hr=>have hu:=hr.units;have hh:=hr.hd;have sc:=lC
  (aI (aQ (ay (aA aP (aA (aa K rfl (dv 0) (by rfl)) aC)))))) ?_
 rintro ds Q ⟨p,rfl,hc,hd,q⟩
 have c:=hA.cl _ (Pt.aW A p)
 have no:=hA.i3 _ (Pt.aW A p)
 obtain⟨s,rfl⟩:=pX hA hc
 simp only[Pt.depth] at hd
 exact(aT rfl c (no _ (by decide)) (by kernel_rfl) ⟨zL2,q⟩)
theorem vi (hA:eZ K A)(d:Dm K A.choice "told" "Choice.told" eP ["self"])(m_told:MP P w K mg base A j "told" n Pt.told):cS P w K mg base (j+1) A.choice "told" (qW A (n+1) Pt.told A.choice) []:=by
 refine d.dC jS mF rH (λf cdv A outer s H E hr=>have hu:=hr.units;have hh:=hr.hd;have sc:=jS
  (aI (aQ (ay (aA aP (aA (cT m_told hr (by omega) (aa K rfl (dv 0) (by rfl))) (aA (cT m_told hr (by omega) (aa K rfl (dv 0) (by rfl))) (aA (cT m_told hr (by omega) (aa K rfl (dv 0) (by rfl))) aC)))))))) ?_
 rintro ds Q ⟨p,rfl,hc,hd,q⟩
 have c:=hA.cl _ (Pt.aW A p)
 have no:=hA.i3 _ (Pt.aW A p)
 obtain⟨x,y,z,rfl⟩:=nR hA hc
 simp only[Pt.depth] at hd
 exact(bP c_ cQ (aT rfl c (no _ (by decide)) (by kernel_rfl) rfl) (by omega) (bP c_ cQ (aT rfl c (no _ (by decide)) (by kernel_rfl) rfl) (by omega) (bP c_ cQ (aT rfl c (no _ (by decide)) (by kernel_rfl) rfl) (by omega) ⟨zL4,q⟩)))
theorem vh (hA:eZ K A)(d:Dm K A.before "told" "Before.told" eN ["self"])(m_told:MP P w K mg base A j "told" n Pt.told):cS P w K mg base (j+1) A.before "told" (qW A (n+1) Pt.told A.before) []:=by
 refine d.dC jQ mF rH (λf cdv A outer s H E hr=>have hu:=hr.units;have hh:=hr.hd;have sc:=jQ
  (aI (aQ (ay (aA aP (aA (cT m_told hr (by omega) (aa K rfl (dv 0) (by rfl))) (aA (aa K rfl (dv 0) (by rfl)) aC))))))) ?_
 rintro ds Q ⟨p,rfl,hc,hd,q⟩
 have c:=hA.cl _ (Pt.aW A p)
 have no:=hA.i3 _ (Pt.aW A p)
 obtain⟨a,f,rfl⟩:=nQ hA hc
 simp only[Pt.depth] at hd
 exact(bP c_ cQ (aT rfl c (no _ (by decide)) (by kernel_rfl) rfl) (by omega) (aT rfl c (no _ (by decide)) (by kernel_rfl) ⟨zL3,q⟩))
theorem CY (hA:eZ K A)(d:Dm K A.led "told" "Led.told" iQ ["self"])(m_told:MP P w K mg base A j "told" n Pt.told):cS P w K mg base (j+1) A.led "told" (qW A (n+1) Pt.told A.led) []:=by
 refine d.dC oX mF rH (λf cdv A outer s H E hr=>have hu:=hr.units;have hh:=hr.hd;have sc:=oX
  (aI (aQ (ay (aA aP (aA (cT m_told hr (by omega) (aa K rfl (dv 0) (by rfl))) (aA (cT m_told hr (by omega) (aa K rfl (dv 0) (by rfl))) aC))))))) ?_
 rintro ds Q ⟨p,rfl,hc,hd,q⟩
 have c:=hA.cl _ (Pt.aW A p)
 have no:=hA.i3 _ (Pt.aW A p)
 obtain⟨x,y,rfl⟩:=wO hA hc
 simp only[Pt.depth] at hd
 exact(bP c_ cQ (aT rfl c (no _ (by decide)) (by kernel_rfl) rfl) (by omega) (bP c_ cQ (aT rfl c (no _ (by decide)) (by kernel_rfl) rfl) (by omega) ⟨zL3,q⟩))
theorem CZ (hA:eZ K A)(d:Dm K A.bx "told" "When.told" gO ["self"])(m_told:MP P w K mg base A j "told" n Pt.told):cS P w K mg base (j+1) A.bx "told" (qW A (n+1) Pt.told A.bx) []:=by
 refine d.dC mj mF rH (λf cdv A outer s H E hr=>have hu:=hr.units;have hh:=hr.hd;have sc:=mj
  (aI (aQ (ay (aA aP (aA (cT m_told hr (by omega) (aa K rfl (dv 0) (by rfl))) (aA (aa K rfl (dv 0) (by rfl)) aC))))))) ?_
 rintro ds Q ⟨p,rfl,hc,hd,q⟩
 have c:=hA.cl _ (Pt.aW A p)
 have no:=hA.i3 _ (Pt.aW A p)
 obtain⟨a,s,rfl⟩:=wQ hA hc
 simp only[Pt.depth] at hd
 exact(bP c_ cQ (aT rfl c (no _ (by decide)) (by kernel_rfl) rfl) (by omega) (aT rfl c (no _ (by decide)) (by kernel_rfl) ⟨zL3,q⟩))
theorem zt (hA:eZ K A)(d:Dm K A.held "told" "Held.told" gJ ["self"])(m_told:MP P w K mg base A j "told" n Pt.told):cS P w K mg base (j+1) A.held "told" (qW A (n+1) Pt.told A.held) []:=by
 refine d.dC mW mF rH (λf cdv A outer s H E hr=>have hu:=hr.units;have hh:=hr.hd;have sc:=mW
  (aI (aQ (ay (aA aP (aA (cT m_told hr (by omega) (aa K rfl (dv 0) (by rfl))) (aA (aa K rfl (dv 0) (by rfl)) (aA (aa K rfl (dv 0) (by rfl)) aC)))))))) ?_
 rintro ds Q ⟨p,rfl,hc,hd,q⟩
 have c:=hA.cl _ (Pt.aW A p)
 have no:=hA.i3 _ (Pt.aW A p)
 obtain⟨a,s,f,rfl⟩:=sg hA hc
 simp only[Pt.depth] at hd
 exact(bP c_ cQ (aT rfl c (no _ (by decide)) (by kernel_rfl) rfl) (by omega) (aT rfl c (no _ (by decide)) (by kernel_rfl) (aT rfl c (no _ (by decide)) (by kernel_rfl) ⟨zL4,q⟩)))
structure E2 (K:PySem.W.Frag) (A:dA):Prop where
 given:Dm K A.given "told" "Given.told" fR ["self"]
 named:Dm K A.named "told" "Named.told" fU ["self"]
 turned:Dm K A.turned "told" "Turned.told" eT ["self"]
 pair:Dm K A.pair "told" "Pair.told" gM ["self"]
 choice:Dm K A.choice "told" "Choice.told" eP ["self"]
 before:Dm K A.before "told" "Before.told" eN ["self"]
 led:Dm K A.led "told" "Led.told" iQ ["self"]
 bx:Dm K A.bx "told" "When.told" gO ["self"]
 held:Dm K A.held "told" "Held.told" gJ ["self"]
theorem vg (hA:eZ K A)(d:E2 K A):∀n,MP P w K mg base A n "told" n Pt.told
 | 0=>λC ⟨p,e⟩=>by
  subst e
  cases p
  ·exact Dm.never d.given mF gu
  ·exact Dm.never d.named mF gu
  ·exact Dm.never d.turned mF gu
  ·exact Dm.never d.pair mF gu
  ·exact Dm.never d.choice mF gu
  ·exact Dm.never d.before mF gu
  ·exact Dm.never d.led mF gu
  ·exact Dm.never d.bx mF gu
  ·exact Dm.never d.held mF gu
 |n+1=>λC ⟨p,e⟩=>by
  have ih:=vg hA d n
  subst e
  cases p
  ·exact xM hA d.given
  ·exact xN hA d.named
  ·exact vj hA d.turned ih
  ·exact zu hA d.pair ih
  ·exact vi hA d.choice ih
  ·exact vh hA d.before ih
  ·exact CY hA d.led ih
  ·exact CZ hA d.bx ih
  ·exact zt hA d.held ih
def bI:D->Str
 |.bl true=>"yes"
 |.bl false=>"no"
 |.int i=>toString i
 |_=>""
def dX:D->Str
 |.ag=>""
 |d=>(" ":Str)++bI d
theorem rV {i:Int}(h1:-128<=i)(h2:i<=127):i.natAbs.log2<1920:=Nat.lt_of_le_of_lt (Nat.log2_le_self _) (by omega)
def vW:cg:=λds Q=>∃d,ds=[d]/\isVal d/\Q (.str (bI d))
def EW:cg:=λds Q=>∃d,ds=[d]/\bA d/\(bI d).length<=100/\Q (.str (dX d))
theorem dh (d:Df K mg "value_text" iY ["value"])(n_isinstance:mg "isinstance"=none)(n_bool:mg "bool"=none)(n_str:mg "str"=none):bE P w K mg base (j+1) "value_text" ["value"] vW:=by
 refine d.dC lO (λds P P' g ⟨d,e,h,q⟩=>⟨d,e,h,g _ q⟩) (λds Q ⟨d,e,_⟩=>by rw[e];rfl) (λf cdv A outer s H E hr=>have hu:=hr.units;have hh:=hr.hd;have sc:=lO
  (aH (cE (eB (g6 (by rfl) n_isinstance (by rfl) n_bool (dv 0))) (aI (aQ (Ab (eB (dv 0)) aP aP))) ar)
 (aI (aQ (uU (by rfl) n_str (aA (dv 0) aC)))))) ?_
 rintro ds Q ⟨d,rfl,hv,q⟩
 rcases hv with⟨b,rfl⟩|⟨i,rfl,h1,h2⟩
 ·refine⟨_,rfl,true,rfl,_,rfl,aR ⟨_,rfl,b,rfl,?_⟩⟩
  cases b
  ·exact aO q
  ·exact aR q
 ·exact⟨_,rfl,false,rfl,_,rfl,aO ⟨_,rfl,i,rfl,rV h1 h2,q⟩⟩
theorem df (d:Df K mg "first_text" iU ["first"])(dh:bE P w K mg base j "value_text" ["value"] vW):bE P w K mg base (j+1) "first_text" ["first"] EW:=by
 refine d.dC lK (λds P P' g ⟨d,e,h,z,q⟩=>⟨d,e,h,z,g _ q⟩) (λds Q ⟨d,e,_⟩=>by rw[e];rfl) (λf cdv A outer s H E hr=>have hu:=hr.units;have hh:=hr.hd;have sc:=lK
  (aI (aQ (Ab (Lm (dv 0) pI) aP (cF aP (aK dh hr (by omega) (by rfl) (aA (dv 0) aC))))))) ?_
 rintro ds Q ⟨d,rfl,hv,hz,q⟩
 rcases hv with rfl|hv
 ·exact⟨_,rfl,true,rfl,aR q⟩
 ·have hb:(" ":Str).length+(bI d).length<=sizeLine:=Nat.le_trans (Nat.add_le_add_left hz _) (by decide)
  rcases hv with⟨b,rfl⟩|⟨i,rfl,h1,h2⟩
  ·exact⟨_,rfl,false,rfl,aO ⟨_,rfl,_,rfl,.inl ⟨b,rfl⟩,hb,q⟩⟩
  ·exact⟨_,rfl,false,rfl,aO ⟨_,rfl,_,rfl,.inr ⟨i,rfl,h1,h2⟩,hb,q⟩⟩
def Pt.text:Pt->Str
 |.given v=>bI v
 |.named n=>n
 |.turned p=>Str.empty++"(not "++p.text++")"
 |.pair g a b=>Str.empty++"("++a.text++" "++g++" "++b.text++")"
 |.choice t a b=>Str.empty++"(if "++t.text++" "++a.text++" "++b.text++")"
 |.before p f=>Str.empty++"(before "++p.text++dX f++")"
 |.led h r=>Str.empty++"("++h.text++" then "++r.text++")"
 |.bx p n=>Str.empty++"("++p.text++" when "++n++")"
 |.held p n f=>Str.empty++"("++p.text++" held "++n++dX f++")"
def Pt.nJ:Pt->Prop
 |.given v=>isVal v
 |.named _=>True
 |.turned p=>p.nJ
 |.pair _ a b=>a.nJ/\b.nJ
 |.choice t a b=>t.nJ/\a.nJ/\b.nJ
 |.before p f=>p.nJ/\bA f/\(bI f).length<=100
 |.led h r=>h.nJ/\r.nJ
 |.bx p _=>p.nJ
 |.held p _ f=>p.nJ/\bA f/\(bI f).length<=100
def tK (p:Pt):Prop:=p.nJ/\p.text.length<=100000
abbrev d9 (p:Pt):D:=.str p.text
theorem kc {te:ED}{t:JD}{δ:SD}{out y:Str}{Q:Str->Prop}(m:bO te)(h:te δ λd=>d=.str y)(hz:(out++y).length<=sizeLine)(q:t δ (out++y) Q):FN te t δ out Q:=m _ _ _ (λd e=>⟨y,e,hz,q⟩) h
theorem gZ {d:D}:bO (vC d):=λδ P P' f k=>f d k
theorem kg {i:Nat}:bO (Lr (aF i)):=λδ P P' f h=>fM _ _ _ (λd k=>k.elim (fun⟨y,e,z,q⟩=>.inl ⟨y,e,z,f _ q⟩) fun⟨y,e,z,q⟩=>.inr ⟨y,e,z,f _ q⟩) h
theorem fJ {δ:SD}{i:Nat}{y:Str}(h:δ[i]?=some (some (.str y)))(hz:y.length<=sizeLine):Lr (aF i) δ λd=>d=.str y:=⟨_,h,.inl ⟨y,rfl,hz,rfl⟩⟩
theorem iH:200000<=sizeLine:=by decide
theorem vf (hA:eZ K A)(d:Dm K A.turned "text" "Turned.text" eQ ["self"])(m_text:MQ P w K mg base A j "text" n tK d9):cS P w K mg base (j+1) A.turned "text" (yK A (n+1) tK d9 A.turned) []:=by
 refine d.dC jT tE Cq (λf cdv A outer s H E hr=>have hu:=hr.units;have hh:=hr.hd;have sc:=jT
  (aH (aq (i:=1) sc.nd rfl (Or.inl rfl) (cT m_text hr (by omega) (aa K rfl (dv 0) (by rfl))))
 (aI (aQ (fj (aw aP (aw (ka (dv 1)) (aw aP pY)))))))) ?_
 rintro ds Q ⟨p,rfl,hc,hd,ho,q⟩
 have c:=hA.cl _ (Pt.aW A p)
 have no:=hA.i3 _ (Pt.aW A p)
 obtain⟨a,rfl⟩:=nS hA hc
 obtain⟨hf,hl⟩:=ho
 have hl':=hl
 simp only[Pt.text,strLen_append] at hl'
 simp only[Pt.depth] at hd
 have hs:=iH
 refine a_ (p:=a) c_ cP (aT rfl c (no _ (by decide)) (by kernel_rfl) rfl) (by omega) ⟨hf,by omega⟩ ?_
 refine kc gZ rfl (by simp only[strLen_append];omega) (kc kg (fJ rfl (by omega)) (by simp only[strLen_append];omega) (kc gZ rfl (by simp only[strLen_append];omega) ⟨by simp only[strLen_append];omega,q⟩))
theorem zq (hA:eZ K A)(d:Dm K A.pair "text" "Pair.text" gL ["self"])(m_text:MQ P w K mg base A j "text" n tK d9):cS P w K mg base (j+1) A.pair "text" (yK A (n+1) tK d9 A.pair) []:=by
 refine d.dC mY tE Cq (λf cdv A outer s H E hr=>have hu:=hr.units;have hh:=hr.hd;have sc:=mY
  (aH (aq (i:=1) sc.nd rfl (Or.inl rfl) (cT m_text hr (by omega) (aa K rfl (dv 0) (by rfl))))
 (aH (aq (i:=2) sc.nd rfl (Or.inl rfl) (aa K rfl (dv 0) (by rfl)))
 (aH (aq (i:=3) sc.nd rfl (Or.inl rfl) (cT m_text hr (by omega) (aa K rfl (dv 0) (by rfl))))
 (aI (aQ (fj (aw aP (aw (ka (dv 1)) (aw aP (aw (ka (dv 2)) (aw aP (aw (ka (dv 3)) (aw aP pY)))))))))))))) ?_
 rintro ds Q ⟨p,rfl,hc,hd,ho,q⟩
 have c:=hA.cl _ (Pt.aW A p)
 have no:=hA.i3 _ (Pt.aW A p)
 obtain⟨g,a,b,rfl⟩:=sj hA hc
 obtain⟨⟨ha,hb⟩,hl⟩:=ho
 have hl':=hl
 simp only[Pt.text,strLen_append] at hl'
 simp only[Pt.depth] at hd
 have hs:=iH
 exact(a_ (p:=a) c_ cP (aT rfl c (no _ (by decide)) (by kernel_rfl) rfl) (by omega) ⟨ha,by omega⟩ (aT rfl c (no _ (by decide)) (by kernel_rfl) (a_ (p:=b) c_ cP (aT rfl c (no _ (by decide)) (by kernel_rfl) rfl) (by omega) ⟨hb,by omega⟩ (kc gZ rfl (by simp only[strLen_append];omega) (kc kg (fJ rfl (by omega)) (by simp only[strLen_append];omega) (kc gZ rfl (by simp only[strLen_append];omega) (kc kg (fJ rfl (by omega)) (by simp only[strLen_append];omega) (kc gZ rfl (by simp only[strLen_append];omega) (kc kg (fJ rfl (by omega)) (by simp only[strLen_append];omega) (kc gZ rfl (by simp only[strLen_append];omega) ⟨by simp only[strLen_append];omega,q⟩))))))))))
theorem ve (hA:eZ K A)(d:Dm K A.choice "text" "Choice.text" eO ["self"])(m_text:MQ P w K mg base A j "text" n tK d9):cS P w K mg base (j+1) A.choice "text" (yK A (n+1) tK d9 A.choice) []:=by
 refine d.dC jR tE Cq (λf cdv A outer s H E hr=>have hu:=hr.units;have hh:=hr.hd;have sc:=jR
  (aH (aq (i:=1) sc.nd rfl (Or.inl rfl) (cT m_text hr (by omega) (aa K rfl (dv 0) (by rfl))))
 (aH (aq (i:=2) sc.nd rfl (Or.inl rfl) (cT m_text hr (by omega) (aa K rfl (dv 0) (by rfl))))
 (aH (aq (i:=3) sc.nd rfl (Or.inl rfl) (cT m_text hr (by omega) (aa K rfl (dv 0) (by rfl))))
 (aI (aQ (fj (aw aP (aw (ka (dv 1)) (aw aP (aw (ka (dv 2)) (aw aP (aw (ka (dv 3)) (aw aP pY)))))))))))))) ?_
 rintro ds Q ⟨p,rfl,hc,hd,ho,q⟩
 have c:=hA.cl _ (Pt.aW A p)
 have no:=hA.i3 _ (Pt.aW A p)
 obtain⟨t,a,b,rfl⟩:=nR hA hc
 obtain⟨⟨ht,ha,hb⟩,hl⟩:=ho
 have hl':=hl
 simp only[Pt.text,strLen_append] at hl'
 simp only[Pt.depth] at hd
 have hs:=iH
 exact(a_ (p:=t) c_ cP (aT rfl c (no _ (by decide)) (by kernel_rfl) rfl) (by omega) ⟨ht,by omega⟩ (a_ (p:=a) c_ cP (aT rfl c (no _ (by decide)) (by kernel_rfl) rfl) (by omega) ⟨ha,by omega⟩ (a_ (p:=b) c_ cP (aT rfl c (no _ (by decide)) (by kernel_rfl) rfl) (by omega) ⟨hb,by omega⟩ (kc gZ rfl (by simp only[strLen_append];omega) (kc kg (fJ rfl (by omega)) (by simp only[strLen_append];omega) (kc gZ rfl (by simp only[strLen_append];omega) (kc kg (fJ rfl (by omega)) (by simp only[strLen_append];omega) (kc gZ rfl (by simp only[strLen_append];omega) (kc kg (fJ rfl (by omega)) (by simp only[strLen_append];omega) (kc gZ rfl (by simp only[strLen_append];omega) ⟨by simp only[strLen_append];omega,q⟩))))))))))
theorem vd (hA:eZ K A)(d:Dm K A.before "text" "Before.text" eM ["self"])(df:bE P w K mg base j "first_text" ["first"] EW)(m_text:MQ P w K mg base A j "text" n tK d9):cS P w K mg base (j+1) A.before "text" (yK A (n+1) tK d9 A.before) []:=by
 refine d.dC jP tE Cq (λf cdv A outer s H E hr=>have hu:=hr.units;have hh:=hr.hd;have sc:=jP
  (aH (aq (i:=1) sc.nd rfl (Or.inl rfl) (cT m_text hr (by omega) (aa K rfl (dv 0) (by rfl))))
 (aH (aq (i:=2) sc.nd rfl (Or.inl rfl) (aK df hr (by omega) (by rfl) (aA (aa K rfl (dv 0) (by rfl)) aC)))
 (aI (aQ (fj (aw aP (aw (ka (dv 1)) (aw (ka (dv 2)) (aw aP pY)))))))))) ?_
 rintro ds Q ⟨p,rfl,hc,hd,ho,q⟩
 have c:=hA.cl _ (Pt.aW A p)
 have no:=hA.i3 _ (Pt.aW A p)
 obtain⟨a,f,rfl⟩:=nQ hA hc
 obtain⟨⟨ha,h1,h2⟩,hl⟩:=ho
 have hl':=hl
 simp only[Pt.text,strLen_append] at hl'
 simp only[Pt.depth] at hd
 have hs:=iH
 exact(a_ (p:=a) c_ cP (aT rfl c (no _ (by decide)) (by kernel_rfl) rfl) (by omega) ⟨ha,by omega⟩ (aT rfl c (no _ (by decide)) (by kernel_rfl) ⟨_,rfl,h1,h2,(kc gZ rfl (by simp only[strLen_append];omega) (kc kg (fJ rfl (by omega)) (by simp only[strLen_append];omega) (kc kg (fJ rfl (by omega)) (by simp only[strLen_append];omega) (kc gZ rfl (by simp only[strLen_append];omega) ⟨by simp only[strLen_append];omega,q⟩))))⟩))
theorem CT (hA:eZ K A)(d:Dm K A.led "text" "Led.text" iP ["self"])(m_text:MQ P w K mg base A j "text" n tK d9):cS P w K mg base (j+1) A.led "text" (yK A (n+1) tK d9 A.led) []:=by
 refine d.dC oW tE Cq (λf cdv A outer s H E hr=>have hu:=hr.units;have hh:=hr.hd;have sc:=oW
  (aH (aq (i:=1) sc.nd rfl (Or.inl rfl) (cT m_text hr (by omega) (aa K rfl (dv 0) (by rfl))))
 (aH (aq (i:=2) sc.nd rfl (Or.inl rfl) (cT m_text hr (by omega) (aa K rfl (dv 0) (by rfl))))
 (aI (aQ (fj (aw aP (aw (ka (dv 1)) (aw aP (aw (ka (dv 2)) (aw aP pY))))))))))) ?_
 rintro ds Q ⟨p,rfl,hc,hd,ho,q⟩
 have c:=hA.cl _ (Pt.aW A p)
 have no:=hA.i3 _ (Pt.aW A p)
 obtain⟨a,b,rfl⟩:=wO hA hc
 obtain⟨⟨ha,hb⟩,hl⟩:=ho
 have hl':=hl
 simp only[Pt.text,strLen_append] at hl'
 simp only[Pt.depth] at hd
 have hs:=iH
 exact(a_ (p:=a) c_ cP (aT rfl c (no _ (by decide)) (by kernel_rfl) rfl) (by omega) ⟨ha,by omega⟩ (a_ (p:=b) c_ cP (aT rfl c (no _ (by decide)) (by kernel_rfl) rfl) (by omega) ⟨hb,by omega⟩ (kc gZ rfl (by simp only[strLen_append];omega) (kc kg (fJ rfl (by omega)) (by simp only[strLen_append];omega) (kc gZ rfl (by simp only[strLen_append];omega) (kc kg (fJ rfl (by omega)) (by simp only[strLen_append];omega) (kc gZ rfl (by simp only[strLen_append];omega) ⟨by simp only[strLen_append];omega,q⟩)))))))
theorem CU (hA:eZ K A)(d:Dm K A.bx "text" "When.text" gN ["self"])(m_text:MQ P w K mg base A j "text" n tK d9):cS P w K mg base (j+1) A.bx "text" (yK A (n+1) tK d9 A.bx) []:=by
 refine d.dC mf tE Cq (λf cdv A outer s H E hr=>have hu:=hr.units;have hh:=hr.hd;have sc:=mf
  (aH (aq (i:=1) sc.nd rfl (Or.inl rfl) (cT m_text hr (by omega) (aa K rfl (dv 0) (by rfl))))
 (aH (aq (i:=2) sc.nd rfl (Or.inl rfl) (aa K rfl (dv 0) (by rfl)))
 (aI (aQ (fj (aw aP (aw (ka (dv 1)) (aw aP (aw (ka (dv 2)) (aw aP pY))))))))))) ?_
 rintro ds Q ⟨p,rfl,hc,hd,ho,q⟩
 have c:=hA.cl _ (Pt.aW A p)
 have no:=hA.i3 _ (Pt.aW A p)
 obtain⟨a,s,rfl⟩:=wQ hA hc
 obtain⟨ha,hl⟩:=ho
 have hl':=hl
 simp only[Pt.text,strLen_append] at hl'
 simp only[Pt.depth] at hd
 have hs:=iH
 exact(a_ (p:=a) c_ cP (aT rfl c (no _ (by decide)) (by kernel_rfl) rfl) (by omega) ⟨ha,by omega⟩ (aT rfl c (no _ (by decide)) (by kernel_rfl) (kc gZ rfl (by simp only[strLen_append];omega) (kc kg (fJ rfl (by omega)) (by simp only[strLen_append];omega) (kc gZ rfl (by simp only[strLen_append];omega) (kc kg (fJ rfl (by omega)) (by simp only[strLen_append];omega) (kc gZ rfl (by simp only[strLen_append];omega) ⟨by simp only[strLen_append];omega,q⟩)))))))
theorem zo (hA:eZ K A)(d:Dm K A.held "text" "Held.text" gI ["self"])(df:bE P w K mg base j "first_text" ["first"] EW)(m_text:MQ P w K mg base A j "text" n tK d9):cS P w K mg base (j+1) A.held "text" (yK A (n+1) tK d9 A.held) []:=by
 refine d.dC mV tE Cq (λf cdv A outer s H E hr=>have hu:=hr.units;have hh:=hr.hd;have sc:=mV
  (aH (aq (i:=1) sc.nd rfl (Or.inl rfl) (cT m_text hr (by omega) (aa K rfl (dv 0) (by rfl))))
 (aH (aq (i:=2) sc.nd rfl (Or.inl rfl) (aa K rfl (dv 0) (by rfl)))
 (aH (aq (i:=3) sc.nd rfl (Or.inl rfl) (aK df hr (by omega) (by rfl) (aA (aa K rfl (dv 0) (by rfl)) aC)))
 (aI (aQ (fj (aw aP (aw (ka (dv 1)) (aw aP (aw (ka (dv 2)) (aw (ka (dv 3)) (aw aP pY))))))))))))) ?_
 rintro ds Q ⟨p,rfl,hc,hd,ho,q⟩
 have c:=hA.cl _ (Pt.aW A p)
 have no:=hA.i3 _ (Pt.aW A p)
 obtain⟨a,s,f,rfl⟩:=sg hA hc
 obtain⟨⟨ha,h1,h2⟩,hl⟩:=ho
 have hl':=hl
 simp only[Pt.text,strLen_append] at hl'
 simp only[Pt.depth] at hd
 have hs:=iH
 exact(a_ (p:=a) c_ cP (aT rfl c (no _ (by decide)) (by kernel_rfl) rfl) (by omega) ⟨ha,by omega⟩ (aT rfl c (no _ (by decide)) (by kernel_rfl) (aT rfl c (no _ (by decide)) (by kernel_rfl) ⟨_,rfl,h1,h2,(kc gZ rfl (by simp only[strLen_append];omega) (kc kg (fJ rfl (by omega)) (by simp only[strLen_append];omega) (kc gZ rfl (by simp only[strLen_append];omega) (kc kg (fJ rfl (by omega)) (by simp only[strLen_append];omega) (kc kg (fJ rfl (by omega)) (by simp only[strLen_append];omega) (kc gZ rfl (by simp only[strLen_append];omega) ⟨by simp only[strLen_append];omega,q⟩))))))⟩)))
theorem xJ (hA:eZ K A)(d:Dm K A.given "text" "Given.text" fQ ["self"])(dh:bE P w K mg base j "value_text" ["value"] vW):cS P w K mg base (j+1) A.given "text" (yK A (n+1) tK d9 A.given) []:=by
 refine d.dC kz tE Cq (λf cdv A outer s H E hr=>have hu:=hr.units;have hh:=hr.hd;have sc:=kz
  (aI (aQ (aK dh hr (by omega) (by rfl) (aA (aa K rfl (dv 0) (by rfl)) aC))))) ?_
 rintro ds Q ⟨p,rfl,hc,hd,ho,q⟩
 have c:=hA.cl _ (Pt.aW A p)
 have no:=hA.i3 _ (Pt.aW A p)
 obtain⟨v,rfl⟩:=pW hA hc
 exact aT rfl c (no _ (by decide)) (by kernel_rfl) ⟨_,rfl,ho.1,q⟩
theorem xK (hA:eZ K A)(d:Dm K A.named "text" "Named.text" fT ["self"]):cS P w K mg base (j+1) A.named "text" (yK A (n+1) tK d9 A.named) []:=by
 refine d.dC lB tE Cq (λf cdv A outer s H E hr=>have hu:=hr.units;have hh:=hr.hd;have sc:=lB
  (aI (aQ (aa K rfl (dv 0) (by rfl))))) ?_
 rintro ds Q ⟨p,rfl,hc,hd,ho,q⟩
 have c:=hA.cl _ (Pt.aW A p)
 have no:=hA.i3 _ (Pt.aW A p)
 obtain⟨s,rfl⟩:=pX hA hc
 exact aT rfl c (no _ (by decide)) (by kernel_rfl) q
structure E1 (K:PySem.W.Frag) (A:dA):Prop where
 given:Dm K A.given "text" "Given.text" fQ ["self"]
 named:Dm K A.named "text" "Named.text" fT ["self"]
 turned:Dm K A.turned "text" "Turned.text" eQ ["self"]
 pair:Dm K A.pair "text" "Pair.text" gL ["self"]
 choice:Dm K A.choice "text" "Choice.text" eO ["self"]
 before:Dm K A.before "text" "Before.text" eM ["self"]
 led:Dm K A.led "text" "Led.text" iP ["self"]
 bx:Dm K A.bx "text" "When.text" gN ["self"]
 held:Dm K A.held "text" "Held.text" gI ["self"]
theorem ic {ok:Pt->Prop}{g:Pt->D}{C:Addr}(ds:List D)(Q:D->Prop):¬ yK A 0 ok g C ds Q:=fun⟨p,_,_,h,_⟩=>absurd p.cB (by omega)
theorem va (hA:eZ K A)(d:E1 K A)(cv:bE P w K mg base 1 "value_text" ["value"] vW)(cf:bE P w K mg base 2 "first_text" ["first"] EW):∀n,MQ P w K mg base A (n+2) "text" n tK d9
 | 0=>λC ⟨p,e⟩=>by
  subst e
  cases p
  ·exact Dm.never d.given tE ic
  ·exact Dm.never d.named tE ic
  ·exact Dm.never d.turned tE ic
  ·exact Dm.never d.pair tE ic
  ·exact Dm.never d.choice tE ic
  ·exact Dm.never d.before tE ic
  ·exact Dm.never d.led tE ic
  ·exact Dm.never d.bx tE ic
  ·exact Dm.never d.held tE ic
 |n+1=>λC ⟨p,e⟩=>by
  have ih:=va hA d cv cf n
  have cv':=cv.up (show 1<=n+2 by omega)
  have cf':=cf.up (show 2<=n+2 by omega)
  subst e
  cases p
  ·exact xJ hA d.given cv'
  ·exact xK hA d.named
  ·exact vf hA d.turned ih
  ·exact zq hA d.pair ih
  ·exact ve hA d.choice ih
  ·exact vd hA d.before cf' ih
  ·exact CT hA d.led ih
  ·exact CU hA d.bx ih
  ·exact zo hA d.held cf' ih
structure Tk where
 o:Nat
 core:Str
 c:Nat
def Tk.l (t:Tk):List Nat:=List.replicate t.o 40++(t.core.cps.toList++List.replicate t.c 41)
def Tk.word (t:Tk):Str:=⟨t.l.toArray⟩
def cX (w:Str):List Tk:=[⟨0,w,0⟩]
def xO:List Tk->List Tk
 |[]=>[]
 |t::r=>⟨t.o+1,t.core,t.c⟩::r
def oF:List Tk->List Tk
 |[]=>[]
 |[t]=>[⟨t.o,t.core,t.c+1⟩]
 |t::u::r=>t::oF (u::r)
def wrap (ts:List Tk):List Tk:=xO (oF ts)
def zr:D->List Tk
 |.ag=>[]
 |d=>cX (bI d)
def Pt.toks:Pt->List Tk
 |.given v=>cX (bI v)
 |.named n=>cX n
 |.turned p=>wrap (cX "not"++p.toks)
 |.pair g a b=>wrap (a.toks++(cX g++b.toks))
 |.choice t a b=>wrap (cX "if"++(t.toks++(a.toks++b.toks)))
 |.before p f=>wrap (cX "before"++p.toks++zr f)
 |.led h r=>wrap (h.toks++(cX "then"++r.toks))
 |.bx p n=>wrap (p.toks++(cX "when"++cX n))
 |.held p n f=>wrap (p.toks++(cX "held"++cX n)++zr f)
theorem o8:∀{ts:List Tk},ts≠[]->oF ts≠[]
 |[],h=>absurd rfl h
 |[_],_=>by simp[oF]
 |_::_::_,_=>by simp[oF]
theorem ib {ts:List Tk}(h:ts≠[]):wrap ts≠[]:=by
 have:=o8 h
 unfold wrap
 cases q:oF ts with
 |nil=>exact absurd q this
 |cons t r=>simp[xO]
theorem dj {w:Str}{ts:List Tk}:cX w++ts≠[]:=by simp[cX]
theorem bB:∀p:Pt,p.toks≠[]
 |.given _=>by simp[Pt.toks,cX]
 |.named _=>by simp[Pt.toks,cX]
 |.turned _=>ib dj
 |.pair _ a _=>ib λh=>bB a (List.append_eq_nil_iff.mp h).1
 |.choice _ _ _=>ib dj
 |.before _ _=>ib (by rw[List.append_assoc];exact dj)
 |.led a _=>ib λh=>bB a (List.append_eq_nil_iff.mp h).1
 |.bx a _=>ib λh=>bB a (List.append_eq_nil_iff.mp h).1
 |.held a _ _=>ib λh=>bB a (List.append_eq_nil_iff.mp (List.append_eq_nil_iff.mp h).1).1
def tl (ts:List Tk):List Nat:=jl 32 (ts.map Tk.l)
theorem wR (c:Nat):∀{xs ys:List (List Nat)},xs≠[]->ys≠[]->jl c (xs++ys)=jl c xs++c::jl c ys
 |[],_,h,_=>absurd rfl h
 |[x],y::ys,_,_=>by simp[jl]
 |x::x'::xs,ys,_,hy=>by
  have:=wR c (xs:=x'::xs) (by simp) hy
  simp only[List.cons_append] at this ⊢
  rw[jl,this,jl]
  simp
theorem d4 {xs ys:List Tk}(h:xs≠[])(g:ys≠[]):tl (xs++ys)=tl xs++32::tl ys:=by
 unfold tl
 rw[List.map_append]
 exact wR 32 (by simpa using h) (by simpa using g)
theorem o6 (c:Nat)(x y:List Nat)(r:List (List Nat)):jl c (x::y::r)=x++c::jl c (y::r):=by rw[jl]
theorem CV:∀{ts:List Tk},ts≠[]->tl (oF ts)=tl ts++[41]
 |[],h=>absurd rfl h
 |[t],_=>by simp[oF,tl,jl,Tk.l,List.replicate_succ']
 |t::u::r,_=>by
  have h:=CV (ts:=u::r) (by simp)
  have ne:oF (u::r)≠[]:=o8 (by simp)
  show tl (t::oF (u::r))=_
  cases q:oF (u::r) with
  |nil=>exact absurd q ne
  |cons v s =>
   rw[q] at h
   unfold tl at h ⊢
   simp only[List.map_cons] at h ⊢
   rw[o6,o6,h]
   simp
theorem IC:∀{ts:List Tk},ts≠[]->tl (xO ts)=40::tl ts
 |[],h=>absurd rfl h
 |[t],_=>by simp[xO,tl,jl,Tk.l,List.replicate_succ]
 |t::u::r,_=>by
  unfold tl xO
  simp only[List.map_cons]
  rw[o6,o6]
  simp[Tk.l,List.replicate_succ]
theorem ia {ts:List Tk}(h:ts≠[]):tl (wrap ts)=40::(tl ts++[41]):=by
 unfold wrap
 rw[IC (o8 h),CV h]
theorem fD (w:Str):tl (cX w)=w.cps.toList:=by simp[cX,tl,jl,Tk.l]
theorem CW {ts:List Tk}(h:ts≠[])(f:D):tl (ts++zr f)=tl ts++(dX f).cps.toList:=by
 have two:∀d:D,tl (ts++cX (bI d))=tl ts++((" ":Str)++bI d).cps.toList:=λd=>by
  rw[d4 h (by simp[cX]),fD,av]
  rfl
 cases f with
 |ag=>show tl (ts++[])=tl ts++("":Str).cps.toList;rw[List.append_nil];exact(List.append_nil _).symm
 |_=>exact two _
theorem cz:∀p:Pt,p.text.cps.toList=tl p.toks
 |.given v=>by rw[Pt.toks,fD];rfl
 |.named n=>by rw[Pt.toks,fD];rfl
 |.turned p=>by
  have h:=cz p
  rw[Pt.toks,ia dj,d4 (by simp[cX]) (bB p),fD,<- h,Pt.text]
  simp only[av]
  rfl
 |.pair g a b=>by
  have h1:=cz a
  have h2:=cz b
  rw[Pt.toks,ia (λh=>bB a (List.append_eq_nil_iff.mp h).1),d4 (bB a) dj,d4 (by simp[cX]) (bB b),fD,<- h1,<- h2,Pt.text]
  simp only[av,List.append_assoc,List.cons_append,List.nil_append]
  rfl
 |.choice t a b=>by
  have h0:=cz t
  have h1:=cz a
  have h2:=cz b
  rw[Pt.toks,ia dj,d4 (by simp[cX]) (λh=>bB t (List.append_eq_nil_iff.mp h).1),d4 (bB t) (λh=>bB a (List.append_eq_nil_iff.mp h).1),d4 (bB a) (bB b),fD,<- h0,<- h1,<- h2,Pt.text]
  simp only[av,List.append_assoc,List.cons_append,List.nil_append]
  rfl
 |.before p f=>by
  have h:=cz p
  rw[Pt.toks,ia (by rw[List.append_assoc];exact dj),CW dj,d4 (by simp[cX]) (bB p),fD,<- h,Pt.text]
  simp only[av,List.append_assoc,List.cons_append,List.nil_append]
  rfl
 |.led a b=>by
  have h1:=cz a
  have h2:=cz b
  rw[Pt.toks,ia (λh=>bB a (List.append_eq_nil_iff.mp h).1),d4 (bB a) dj,d4 (by simp[cX]) (bB b),fD,<- h1,<- h2,Pt.text]
  simp only[av,List.append_assoc,List.cons_append,List.nil_append]
  rfl
 |.bx a n=>by
  have h1:=cz a
  rw[Pt.toks,ia (λh=>bB a (List.append_eq_nil_iff.mp h).1),d4 (bB a) dj,d4 (by simp[cX]) (by simp[cX]),fD,fD,<- h1,Pt.text]
  simp only[av,List.append_assoc,List.cons_append,List.nil_append]
  rfl
 |.held a n f=>by
  have h1:=cz a
  have hn:a.toks++(cX "held"++cX n)≠[]:=λh=>bB a (List.append_eq_nil_iff.mp h).1
  rw[Pt.toks,ia (λh=>hn (List.append_eq_nil_iff.mp h).1),CW hn,d4 (bB a) dj,d4 (by simp[cX]) (by simp[cX]),fD,fD,<- h1,Pt.text]
  simp only[av,List.append_assoc,List.cons_append,List.nil_append]
  rfl
def Pt.leaf:Pt->Bool
 |.given _=>true
 |.named _=>true
 |_=>false
def Pt.item:Pt->D
 |.given v=>.str (bI v)
 |.named n=>.str n
 |p=>p.told
def yv:D->List D
 |.ag=>[]
 |d=>[.str (bI d)]
def Pt.items:Pt->List D
 |.turned p=>[.str "not",p.item]
 |.pair g a b=>[a.item,.str g,b.item]
 |.choice t a b=>[.str "if",t.item,a.item,b.item]
 |.before p f=>[.str "before",p.item]++yv f
 |.led h r=>[h.item,.str "then",r.item]
 |.bx p n=>[p.item,.str "when",.str n]
 |.held p n f=>[p.item,.str "held",.str n]++yv f
 |_=>[]
abbrev mE:=List (List D)
def IQ (S S':mE):Prop:=∃(rest:mE) (l:List D) (p:Pt),S=rest++[l,p.items]/\p.leaf=false/\p.ok/\l.length<=10/\S'=rest++[l++[p.told]]
def yV:Nat->mE->mE->Prop
 | 0,S,S'=>S=S'
 |n+1,S,S'=>∃S1,IQ S S1/\yV n S1 S'
theorem uJ:∀{n:Nat} {S S1 S2:mE},yV n S S1->IQ S1 S2->yV (n+1) S S2
 | 0,_,_,S2,h,g=>by cases h;exact⟨S2,g,rfl⟩
 |n+1,_,_,_,⟨S3,h1,h2⟩,g=>⟨S3,h1,uJ h2 g⟩
def L3 (t:Tk)(S S':mE):Prop:=∃(R:mE) (l:List D),S++List.replicate t.o []=R++[l]/\R.length<=20/\l.length<=10/\yV t.c (R++[l++[.str t.core]]) S'
def Run:List Tk->mE->mE->Prop
 |[],S,S'=>S=S'
 |t::ts,S,S'=>∃S1,L3 t S S1/\Run ts S1 S'
theorem b9:∀{xs ys:List Tk} {S S1 S2:mE},Run xs S S1->Run ys S1 S2->Run (xs++ys) S S2
 |[],_,_,_,_,h,g=>by cases h;exact g
 |_::_,_,_,_,_,⟨S3,h1,h2⟩,g=>⟨S3,h1,b9 h2 g⟩
theorem ET:∀{ts:List Tk} {S S':mE},ts≠[]->Run ts (S++[[]]) S'->Run (xO ts) S S'
 |[],_,_,h,_=>absurd rfl h
 |t::r,S,S',_,⟨S1,⟨R,l,e,h1,h2,h3⟩,g⟩=>⟨S1,⟨R,l,by
   rw[<- e]
   show S++List.replicate (t.o+1) []=_
   rw[List.replicate_succ,List.append_assoc,List.singleton_append],h1,h2,h3⟩,g⟩
theorem yE:∀{ts:List Tk} {S S1 S2:mE},ts≠[]->Run ts S S1->IQ S1 S2->Run (oF ts) S S2
 |[],_,_,_,h,_,_=>absurd rfl h
 |[t],S,S1,S2,_,⟨S3,⟨R,l,e,h1,h2,h3⟩,g⟩,c=>by
  cases g
  exact⟨S2,⟨R,l,e,h1,h2,uJ h3 c⟩,rfl⟩
 |t::u::r,_,_,_,_,⟨S3,h1,h2⟩,c=>⟨S3,h1,yE (by simp) h2 c⟩
theorem f_ {ts:List Tk}{S S1 S2:mE}(h:ts≠[])(g:Run ts (S++[[]]) S1)(c:IQ S1 S2):Run (wrap ts) S S2:=by
 refine ET (o8 h) (yE h g c)
theorem dP {w:Str}{R:mE}{l:List D}(h1:R.length<=20)(h2:l.length<=10):Run (cX w) (R++[l]) (R++[l++[.str w]]):=⟨_,⟨R,l,by simp,h1,h2,rfl⟩,rfl⟩
theorem yF {f:D}{R:mE}{l:List D}(h1:R.length<=20)(h2:l.length<=10):Run (zr f) (R++[l]) (R++[l++yv f]):=by
 cases f with
 |ag=>show Run [] _ _;unfold Run;simp[yv]
 |_=>exact dP h1 h2
theorem lZ {R:mE}{l:List D}{p:Pt}(h:p.leaf=false)(ok:p.ok)(hl:l.length<=10){S:mE}(e:S=(R++[l])++[p.items]):IQ S (R++[l++[p.told]]):=⟨R,l,p,by rw[e];simp,h,ok,hl,rfl⟩
theorem wX {R:mE}{l:List D}:(R++[l]).length=R.length+1:=by simp
theorem cR:∀p:Pt,p.ok->∀(R:mE) (l:List D),R.length+p.depth<=21->l.length<=5->Run p.toks (R++[l]) (R++[l++[p.item]])
 |.given v,_,R,l,h,hl=>dP (by simp only[Pt.depth] at h;omega) (by omega)
 |.named n,_,R,l,h,hl=>dP (by simp only[Pt.depth] at h;omega) (by omega)
 |.turned p,ok,R,l,h,hl=>by
  have dp:=p.cB
  simp only[Pt.depth] at h
  have:=wX (R:=R) (l:=l)
  refine f_ dj (b9 (dP (by omega) (by simp)) (cR p ok _ _ (by omega) (by simp))) (lZ rfl ok (by omega) rfl)
 |.pair g a b,ok,R,l,h,hl=>by
  have dp:=a.cB
  simp only[Pt.depth] at h
  have:=wX (R:=R) (l:=l)
  refine f_ (λh=>bB a (List.append_eq_nil_iff.mp h).1) (b9 (cR a ok.2.1 _ _ (by omega) (by simp)) (b9 (dP (by omega) (by simp)) (cR b ok.2.2 _ _ (by omega) (by simp)))) (lZ rfl ok (by omega) rfl)
 |.choice t a b,ok,R,l,h,hl=>by
  have dp:=t.cB
  simp only[Pt.depth] at h
  have:=wX (R:=R) (l:=l)
  refine f_ dj (b9 (dP (by omega) (by simp)) (b9 (cR t ok.1 _ _ (by omega) (by simp)) (b9 (cR a ok.2.1 _ _ (by omega) (by simp)) (cR b ok.2.2 _ _ (by omega) (by simp))))) (lZ rfl ok (by omega) rfl)
 |.before p f,ok,R,l,h,hl=>by
  have dp:=p.cB
  simp only[Pt.depth] at h
  have:=wX (R:=R) (l:=l)
  refine f_ (by rw[List.append_assoc];exact dj) (b9 (b9 (dP (by omega) (by simp)) (cR p ok.1 _ _ (by omega) (by simp))) (yF (by omega) (by simp))) (lZ rfl ok (by omega) rfl)
 |.led a b,ok,R,l,h,hl=>by
  have dp:=a.cB
  simp only[Pt.depth] at h
  have:=wX (R:=R) (l:=l)
  refine f_ (λh=>bB a (List.append_eq_nil_iff.mp h).1) (b9 (cR a ok.1 _ _ (by omega) (by simp)) (b9 (dP (by omega) (by simp)) (cR b ok.2 _ _ (by omega) (by simp)))) (lZ rfl ok (by omega) rfl)
 |.bx p n,ok,R,l,h,hl=>by
  have dp:=p.cB
  simp only[Pt.depth] at h
  have:=wX (R:=R) (l:=l)
  refine f_ (λh=>bB p (List.append_eq_nil_iff.mp h).1) (b9 (cR p ok.1 _ _ (by omega) (by simp)) (b9 (dP (by omega) (by simp)) (dP (by omega) (by simp)))) (lZ rfl ok (by omega) rfl)
 |.held p n f,ok,R,l,h,hl=>by
  have dp:=p.cB
  simp only[Pt.depth] at h
  have:=wX (R:=R) (l:=l)
  refine f_ (λh=>bB p (List.append_eq_nil_iff.mp (List.append_eq_nil_iff.mp h).1).1) (b9 (b9 (cR p ok.1 _ _ (by omega) (by simp)) (b9 (dP (by omega) (by simp)) (dP (by omega) (by simp)))) (yF (by omega) (by simp))) (lZ rfl ok (by omega) rfl)
theorem CS {p:Nat->Bool}:∀{n c:Nat} {r:List Nat},p c=true->(∀x,r.head?=some x->p x=false)->((List.replicate n c++r).takeWhile p)=List.replicate n c
 | 0,c,[],_,_=>rfl
 | 0,c,x::r,_,h=>by
  have:=h x rfl
  simp[this]
 |n+1,c,r,hc,h=>by
  rw[List.replicate_succ,List.cons_append,List.takeWhile_cons,hc]
  simp only[if_true]
  rw[CS hc h]
theorem xr (c x:Nat):(⟨#[c]⟩:Str).cps.contains x=(x == c):=by rw[Bool.eq_iff_iff];simp
theorem Ej (x:Str)(i j:Nat):(Builtin.Str.strSub x i j).cps.toList=(x.cps.toList.drop i).take (j - i):=by
 show(x.cps.extract i j).toList=_
 simp
theorem strip_eq (A9:Nat->Bool)(l r:Bool)(x:Str):(Txt.stripBy A9 l r x).cps.toList=(x.cps.toList.drop (stripLo A9 l x)).take (stripHi A9 r x (stripLo A9 l x) - stripLo A9 l x):=by
 unfold Txt.stripBy
 split
 ·rename_i h
  unfold stripSame at h
  rw[Bool.and_eq_true,beq_iff_eq,beq_iff_eq] at h
  rw[h.2,h.1,List.drop_zero,Nat.sub_zero,ck,List.take_length]
 ·exact Ej _ _ _
def gw (w:Str):Prop:=w.cps.toList≠[]/\∀c∈w.cps.toList,c≠32/\c≠40/\c≠41
theorem oH (t:Tk):t.word.cps.toList=t.l:=by unfold Tk.word;simp
def Tk.bare (t:Tk):Str:=⟨(t.core.cps.toList++List.replicate t.c 41).toArray⟩
theorem pC (t:Tk):t.bare.cps.toList=t.core.cps.toList++List.replicate t.c 41:=by unfold Tk.bare;simp
theorem u7 {t:Tk}(g:gw t.core):Txt.lstripChars t.word ⟨#[40]⟩=t.bare:=by
 apply fY
 unfold Txt.lstripChars
 rw[strip_eq,pC,oH]
 have e:(t.l.takeWhile (⟨#[40]⟩:Str).cps.contains).length=t.o:=by
  unfold Tk.l
  rw[CS (by simp) (λx hx=>?_),List.length_replicate]
  cases q:t.core.cps.toList with
  |nil=>exact absurd q g.1
  |cons y r =>
   rw[q] at hx
   obtain rfl:y=x:=by simpa using hx
   have:=(g.2 y (by rw[q];exact List.mem_cons_self)).2.1
   rw[xr]
   simpa using this
 have lo:stripLo (⟨#[40]⟩:Str).cps.contains true t.word=t.o:=by
  unfold stripLo
  rw[if_pos rfl,oH,e]
 have hi:stripHi (⟨#[40]⟩:Str).cps.contains false t.word t.o=t.word.length:=if_neg (by simp)
 rw[lo,hi,ck,oH]
 unfold Tk.l
 rw[List.drop_left' (by simp),List.take_of_length_le]
 simp
theorem vR {t:Tk}(g:gw t.core):Txt.rstripChars t.bare ⟨#[41]⟩=t.core:=by
 apply fY
 unfold Txt.rstripChars
 have lo:stripLo (⟨#[41]⟩:Str).cps.contains false t.bare=0:=if_neg (by simp)
 have e:(t.bare.cps.toList.reverse.takeWhile (⟨#[41]⟩:Str).cps.contains).length=t.c:=by
  rw[pC,List.reverse_append,List.reverse_replicate,CS (by simp) (λx hx=>?_),List.length_replicate]
  have hm:x∈t.core.cps.toList:=by
   rw[List.head?_reverse] at hx
   exact List.mem_of_getLast? hx
  have:=(g.2 x hm).2.2
  rw[xr]
  simpa using this
 have hi:stripHi (⟨#[41]⟩:Str).cps.contains true t.bare 0=t.bare.length - t.c:=by
  unfold stripHi
  rw[if_pos rfl,List.drop_zero,e]
 rw[strip_eq,lo,hi,List.drop_zero,Nat.sub_zero,ck,pC]
 simp only[List.length_append,List.length_replicate,Nat.add_sub_cancel]
 exact List.take_left' rfl
theorem nW (t:Tk):(t.word.length:Int) - (t.bare.length:Int)=(t.o:Int):=by
 rw[ck,ck,oH,pC]
 unfold Tk.l
 simp only[List.length_append,List.length_replicate]
 omega
theorem nX (t:Tk):(t.bare.length:Int) - (t.core.length:Int)=(t.c:Int):=by
 rw[ck,ck,pC]
 simp only[List.length_append,List.length_replicate]
 omega
def Pt.word:Pt->Str
 |.given _=>"given"|.named _=>"named"|.turned _=>"not"|.pair g _ _=>g|.choice _ _ _=>"if"
 |.before _ _=>"before"|.led _ _=>"then"|.bx _ _=>"when"|.held _ _ _=>"held"
def Pt.rest:Pt->List D
 |.given v=>[v]|.named s=>[.str s]|.turned p=>[p.told]|.pair _ a b=>[a.told,b.told]|.choice t a b=>[t.told,a.told,b.told]
 |.before p f=>[p.told,f]|.led h r=>[h.told,r.told]|.bx p s=>[p.told,.str s]|.held p s f=>[p.told,.str s,f]
theorem Pt.Ep (p:Pt):p.told=.tup (.str p.word::p.rest):=by cases p<;>rfl
def IE:D->Bool
 |.tup _=>true
 |_=>false
theorem DL {d:D}(h:(oQ d).isSome=true):kb "tuple" d=some (IE d):=by
 cases d<;>first|rfl|cases h
theorem K2 (x:D)(xs:List D):HT.cq (x::xs).length 0 (some 1)=1/\DC.cutD (x::xs) (some 1) none=xs:=by
 have e:HT.cq (x::xs).length 0 (some 1)=1:=J0 x xs
 refine⟨e,?_⟩
 unfold DC.cutD
 rw[e]
 show List.take ((x::xs).length - 1) xs=xs
 rw[List.length_cons,Nat.add_sub_cancel,List.take_length]
theorem Cf {v:D}(h:isVal v):(oQ v).isSome=true/\IE v=false:=by rcases h with⟨b,rfl⟩|⟨i,rfl,_⟩<;>exact⟨rfl,rfl⟩
theorem pO {v:D}(h:bA v):(oQ v).isSome=true/\IE v=false:=by
 rcases h with rfl|h
 ·exact⟨rfl,rfl⟩
 ·exact Cf h
def qq (n:Nat)(ok:Pt->Prop)(g:Pt->D):cg:=λds Q=>∃p:Pt,ds=[p.told]/\p.depth<=n/\ok p/\Q (g p)
theorem LK {n:Nat}{ok:Pt->Prop}{g:Pt->D}:b4 (qq n ok g):=λds P P' f ⟨p,e,d,h,q⟩=>⟨p,e,d,h,f _ q⟩
theorem LF {n:Nat}{ok:Pt->Prop}{g:Pt->D}(ds:List D)(Q:D->Prop)(h:qq n ok g ds Q):ds.length=1:=by obtain⟨x,e,_⟩:=h;rw[e];rfl
theorem Ey {ok:Pt->Prop}{g:Pt->D}(ds:List D)(Q:D->Prop):¬ qq 0 ok g ds Q:=fun⟨p,_,h,_⟩=>absurd p.cB (by omega)
def Sh (n:Nat)(x:Str):Prop:=x.length<=n
theorem oG {v:D}(h:isVal v):(bI v).length<=10:=by
 rcases h with⟨b,rfl⟩|⟨i,rfl,h1,h2⟩
 ·cases b<;>decide +kernel
 ·have all:∀k:Fin 256,(toString ((k.val:Int) - 128):Str).length<=10:=by decide +kernel
  have q:=all ⟨(i+128).toNat,by omega⟩
  have e:(((i+128).toNat:Nat):Int) - 128=i:=by omega
  show(toString i:Str).length<=10
  rw[show(((⟨(i+128).toNat,by omega⟩:Fin 256).val:Int) - 128)=i from e] at q
  exact q
theorem oO {v:D}(h:bA v):(bI v).length<=10:=by
 rcases h with rfl|h
 ·decide +kernel
 ·exact oG h
theorem mK {v:D}(h:bA v):(dX v).length<=20:=by
 rcases h with rfl|h
 ·decide +kernel
 ·have e:dX v=(" ":Str)++bI v:=by rcases h with⟨b,rfl⟩|⟨i,rfl,_⟩<;>rfl
  rw[e,bp]
  have:=oG h
  have h1:(" ":Str).length=1:=by decide +kernel
  omega
theorem xE {g:Str}(h:g∈dY):g.length<=3:=by
 have all:∀g∈dY,g.length<=3:=by decide +kernel
 exact all g h
theorem wY:Str.empty.length=0/\("(not ":Str).length=5/\(")":Str).length=1/\("(":Str).length=1/\(" ":Str).length=1/\("(if ":Str).length=4/\("(before ":Str).length=8/\(" then ":Str).length=6/\(" when ":Str).length=6/\(" held ":Str).length=6:=by decide +kernel
theorem Pt.cy:∀p:Pt,p.ok->p.text.length<=200*p.size
 |.given v,h=>by have:=oG h;simp only[Pt.text,Pt.size];omega
 |.named s,h=>by have:=h.2.1;simp only[Pt.text,Pt.size];omega
 |.turned p,h=>by have:=p.cy h;obtain⟨e0,e1,e2,e3,e4,e5,e6,e7,e8,e9⟩:=wY;simp only[Pt.text,Pt.size,bp];omega
 |.pair g x y,h=>by have:=x.cy h.2.1;have:=y.cy h.2.2;have:=xE h.1;obtain⟨e0,e1,e2,e3,e4,e5,e6,e7,e8,e9⟩:=wY;simp only[Pt.text,Pt.size,bp];omega
 |.choice x y z,h=>by have:=x.cy h.1;have:=y.cy h.2.1;have:=z.cy h.2.2;obtain⟨e0,e1,e2,e3,e4,e5,e6,e7,e8,e9⟩:=wY;simp only[Pt.text,Pt.size,bp];omega
 |.before p f,h=>by have:=p.cy h.1;have:=mK h.2;obtain⟨e0,e1,e2,e3,e4,e5,e6,e7,e8,e9⟩:=wY;simp only[Pt.text,Pt.size,bp];omega
 |.led x y,h=>by have:=x.cy h.1;have:=y.cy h.2;obtain⟨e0,e1,e2,e3,e4,e5,e6,e7,e8,e9⟩:=wY;simp only[Pt.text,Pt.size,bp];omega
 |.bx p s,h=>by have:=p.cy h.1;have:=h.2.2.1;obtain⟨e0,e1,e2,e3,e4,e5,e6,e7,e8,e9⟩:=wY;simp only[Pt.text,Pt.size,bp];omega
 |.held p s f,h=>by have:=p.cy h.1;have:=h.2.1.2.1;have:=mK h.2.2;obtain⟨e0,e1,e2,e3,e4,e5,e6,e7,e8,e9⟩:=wY;simp only[Pt.text,Pt.size,bp];omega
theorem Pt.dM:∀p:Pt,p.ok->p.nJ
 |.given v,h=>h
 |.named s,h=>trivial
 |.turned p,h=>p.dM h
 |.pair g x y,h=>⟨x.dM h.2.1,y.dM h.2.2⟩
 |.choice x y z,h=>⟨x.dM h.1,y.dM h.2.1,z.dM h.2.2⟩
 |.before p f,h=>⟨p.dM h.1,h.2,Nat.le_trans (oO h.2) (by decide)⟩
 |.led x y,h=>⟨x.dM h.1,y.dM h.2⟩
 |.bx p s,h=>p.dM h.1
 |.held p s f,h=>⟨p.dM h.1,h.2.2,Nat.le_trans (oO h.2.2) (by decide)⟩
def rN (p:Pt):Prop:=p.ok/\p.size<=40
theorem rN.t {p:Pt}(h:rN p):tK p:=⟨p.dM h.1,by have:=p.cy h.1;have:=h.2;omega⟩
theorem rN.in {p q:Pt}(h:rN p)(m:q∈p.inner):rN q:=⟨Pt.FX m h.1,Nat.le_trans (Pt.xt m) h.2⟩
theorem rN.sh {p:Pt}(h:rN p):Sh 8000 p.text:=by have:=p.cy h.1;have:=h.2;unfold Sh;omega
theorem DI {c:Nat}(h:Ga ⟨#[c]⟩=true):97<=c/\c<=122:=by
 obtain⟨i,h1,h2⟩:=(StrLaws.found_iff eL ⟨#[c]⟩).mp h
 have h1':i<26:=by
  have e:eL.length=26:=by decide +kernel
  have e2:(⟨#[c]⟩:Str).length=1:=rfl
  omega
 have all:∀k:Fin 26,eL.cps.extract k.val (k.val+1)=#[97+k.val]:=by decide +kernel
 have q:=all ⟨i,h1'⟩
 unfold Builtin.Str.subAt at h2
 rw[beq_iff_eq] at h2
 have:(#[97+i]:Array Nat)=#[c]:=q.symm.trans h2
 have:97+i=c:=by simpa using this
 omega
theorem DV {x:Str}(h:iG x=true):low x/\x.cps.toList≠[]:=by
 unfold iG at h
 rw[Bool.and_eq_true,List.all_eq_true,decide_eq_true_eq] at h
 refine⟨λc hc=>DI (h.2 _ (List.mem_map.mpr ⟨c,hc,rfl⟩)),λe=>?_⟩
 have:=h.1
 rw[ck,e] at this
 simp at this
theorem wU:∀x∈fL,46∉x.cps.toList:=by decide +kernel
structure Cv (x:Str):Prop where
 chars:∀c∈x.cps.toList,c=46\/97<=c/\c<=122
 words:(Txt.split x dot).all iG=true
 kept:fL.contains x=false
 first:∃c r,x.cps.toList=c::r/\97<=c/\c<=122
theorem BI {c d:Nat}:∀{ws:List (List Nat)},d∈jl c ws->d=c\/∃w∈ws,d∈w
 |[],h=>by cases h
 |[w],h=>.inr ⟨w,List.mem_cons_self,h⟩
 |w::v::r,h=>by
  rw[jl,List.mem_append,List.mem_cons] at h
  rcases h with h|h|h
  ·exact .inr ⟨w,List.mem_cons_self,h⟩
  ·exact .inl h
  ·rcases BI h with h|⟨u,hu,h⟩
   ·exact .inl h
   ·exact .inr ⟨u,List.mem_cons_of_mem _ hu,h⟩
theorem yA {x:Str}(h:eY x=true):Cv x:=by
 have j:=StrLaws.join_split x dot
 have jj:x.cps.toList=jl 46 ((Txt.split x dot).map λw=>w.cps.toList):=by rw[<- kP,<- sI,j]
 have p:=split_pos x dot
 have both:(Txt.split x dot).all iG=true/\fL.contains x=false:=by
  unfold eY at h
  by_cases e:((Txt.split x dot).length:Int)=1
  ·rw[if_pos (decide_eq_true e)] at h
   have e1:(Txt.split x dot).length=1:=by omega
   obtain⟨y,ey⟩:=List.length_eq_one_iff.mp e1
   rw[ey] at j ⊢
   have hy:y=x:=j
   subst hy
   unfold kE di at h
   simp only[Bool.and_eq_true,Bool.not_eq_true'] at h
   exact⟨by simp[h.1.2],h.2⟩
  ·rw[if_neg (by simpa using e),Bool.and_eq_true] at h
   refine⟨List.all_eq_true.mpr λw hw=>?_,?_⟩
   ·have:=List.all_eq_true.mp h.2 w hw
    unfold di at this
    rw[Bool.and_eq_true] at this
    exact this.2
   ·cases q:fL.contains x with
    |false=>rfl
    |true =>
     exfalso
     have hm:x∈fL:=by simpa using q
     have s:=m4 46 [x] (by simp) (λw hw=>by rw[List.mem_singleton.mp hw];exact wU x hm)
     rw[show Str.join ⟨#[46]⟩ [x]=x from rfl,<- sI] at s
     rw[s] at e
     exact e rfl
 have low_w:∀w∈Txt.split x dot,low w/\w.cps.toList≠[]:=λw hw=>DV (List.all_eq_true.mp both.1 w hw)
 refine⟨λc hc=>?_,both.1,both.2,?_⟩
 ·rw[jj] at hc
  rcases BI hc with h|⟨w,hw,h⟩
  ·exact .inl h
  ·obtain⟨v,hv,rfl⟩:=List.mem_map.mp hw
   exact .inr ((low_w v hv).1 c h)
 ·cases q:Txt.split x dot with
  |nil=>rw[q] at p;simp at p
  |cons w r =>
   have:=low_w w (by rw[q];exact List.mem_cons_self)
   cases qc:w.cps.toList with
   |nil=>exact absurd qc this.2
   |cons c t =>
    have lc:=this.1 c (by rw[qc];exact List.mem_cons_self)
    rw[q] at jj
    cases r with
    |nil=>exact⟨c,t,by rw[jj];simpa [jl] using qc,lc⟩
    |cons v s=>exact⟨c,t++46::jl 46 ((v::s).map λw=>w.cps.toList),by rw[jj];simp[jl,qc],lc⟩
theorem Cv.good {x:Str}(h:Cv x):gw x:=by
 obtain⟨c,r,e,_⟩:=h.first
 exact⟨by rw[e];simp,λc hc=>by have:=h.chars c hc;omega⟩
theorem BX {x:Str}(h:Cv x){l:List Str}(hl:∀y∈l,y∈fL):l.contains x=false:=by
 cases q:l.contains x with
 |false=>rfl
 |true =>
  have hm:x∈fL:=hl x (by simpa using q)
  have:=h.kept
  rw[List.contains_iff_mem.mpr hm] at this
  cases this
def HC (w:Str)(i:Int):Bool :=
 let neg:=Txt.startswith w "-"
 let f:=if neg then Txt.slice w (some 1) none else w
 decide (1<=f.length/\f.length<=3)&&(signs f).all (λs=>fB s "0123456789")&&(w == "0"||!(Txt.startswith f "0"))&&decide (intText? w=some i)&&decide (w.length<=10)
  && !(["yes","no"]:List Str).contains w&&fB (⟨#[w.cps.toList.headD 0]⟩) "-0123456789"&&!w.cps.toList.isEmpty&&w.cps.toList.all (λc=>c != 32&&c != 40&&c != 41)&&!(["not","if","before"]:List Str).contains w
theorem Ds:∀k:Fin 256,HC (toString ((k.val:Int) - 128)) ((k.val:Int) - 128)=true:=by decide +kernel
theorem HD {i:Int}(h1:-128<=i)(h2:i<=127):HC (toString i) i=true:=by
 have q:=Ds ⟨(i+128).toNat,by omega⟩
 rw[show(((⟨(i+128).toNat,by omega⟩:Fin 256).val:Int) - 128)=i by show(((i+128).toNat:Nat):Int) - 128=i;omega] at q
 exact q
structure Ic (w:Str) (i:Int) (f:Str):Prop where
 f1:1<=f.length
 f3:f.length<=3
 MM:((signs f).all λs=>fB s "0123456789")=true
 zero:(w == "0")=true\/Txt.startswith f "0"=false
 num:intText? w=some i
 len:w.length<=10
 yes:(["yes","no"]:List Str).contains w=false
 first:∃c r,w.cps.toList=c::r/\fB ⟨#[c]⟩ "-0123456789"=true
 good:gw w
 head:(["not","if","before"]:List Str).contains w=false
theorem g9 {i:Int}(h1:-128<=i)(h2:i<=127):Ic (toString i) i (if Txt.startswith (toString i) "-"=true then Txt.slice (toString i) (some 1) none else toString i):=by
 have h:=HD h1 h2
 generalize (toString i:Str)=w at h ⊢
 unfold HC at h
 simp only[Bool.and_eq_true,decide_eq_true_eq,Bool.not_eq_true',Bool.or_eq_true] at h
 obtain⟨⟨⟨⟨⟨⟨⟨⟨⟨a1,a2⟩,a3⟩,a4⟩,a5⟩,a6⟩,a7⟩,a8⟩,a9⟩,b1⟩:=h
 have fst:∃c r,w.cps.toList=c::r:=by
  cases q:w.cps.toList with
  |nil=>rw[q] at a8;cases a8
  |cons c r=>exact⟨c,r,rfl⟩
 obtain⟨c,r,e⟩:=fst
 refine⟨a1.1,a1.2,a2,a3,a4,a5,a6,⟨c,r,e,?_⟩,⟨by rw[e];simp,λx hx=>?_⟩,b1⟩
 ·rw[e] at a7
  exact a7
 ·have:=List.all_eq_true.mp a9 x hx
  simpa [and_assoc] using this
def d0:cg:=λds Q=>ds=[.bl true]/\Q .ag
def xC:cg:=λds Q=>∃x:Str,ds=[.str x]/\d6 x/\Q (.str x)
def K6 (f:Str):Bool:=(signs f).all λs=>fB s "0123456789"
def B6:cg:=λds Q=>∃f:Str,ds=[.str f]/\1<=f.length/\f.length<=3/\K6 f=true/\Q (.bl true)
def B8:cg:=λds Q=>∃i:Int,ds=[.str (toString i)]/\-128<=i/\i<=127/\Q (.int i)
def tZ:cg:=λds Q=>∃v:D,ds=[.str (bI v)]/\isVal v/\Q v
def xB:cg:=λds Q=>∃f:D,ds=[.lst (yv f)]/\bA f/\Q f
def tY:cg:=λds Q=>∃p:Pt,ds=[p.item]/\p.ok/\Q p.told
def Pt.lj:Pt->Bool
 |.turned _=>true
 |.choice _ _ _=>true
 |.before _ _=>true
 |_=>false
def dR (ok:Pt->Prop):cg:=λds Q=>∃p:Pt,ds=[.lst p.items]/\p.leaf=false/\ok p/\p.ok/\Q p.told
theorem tD {ok:Pt->Prop}:b4 (dR ok):=λds P P' f ⟨p,e,h,o,k,q⟩=>⟨p,e,h,o,k,f _ q⟩
theorem sq {ok:Pt->Prop}(ds:List D)(Q:D->Prop)(h:dR ok ds Q):ds.length=1:=by obtain⟨x,e,_⟩:=h;rw[e];rfl
def K7:D->D
 |.str z=>.bl (fB z "0123456789")
 |_=>.ag
def JB:D->D
 |.str z=>.bl (iG z)
 |_=>.ag
theorem all_true {l:List Bool}(h:l.all id=true){Q:D->Prop}(q:Q (.bl true)):Q (.bl (l.all id)):=by rw[h];exact q
theorem aU (d:Df K mg "need_form" jM ["holds"]):bE P w K mg base (j+1) "need_form" ["holds"] d0:=by
 refine d.dC mv (λds P P' f ⟨e,q⟩=>⟨e,f _ q⟩) (λds Q ⟨e,_⟩=>by rw[e];rfl) (λf cdv A outer s H E hr=>have hu:=hr.units;have hh:=hr.hd;have sc:=mv
  (aI (cE (qd (eB (dv 0))) (aI kU) ar))) ?_
 rintro ds Q ⟨rfl,q⟩
 exact⟨_,rfl,true,rfl,aO q⟩
theorem fZ (d:Df K mg "name_by" ny ["item"])(n_isinstance:mg "isinstance"=none)(n_str:mg "str"=none)(n_all:mg "all"=none)(gk:GD K mg "KEPT_WORDS" (.tup (fL.map D.str)))(aU:bE P w K mg base j "need_form" ["holds"] d0)
  (dG:bE P w K mg base j "has_letters" ["text"] (AG λx=>.bl (iG x))):bE P w K mg base (j+1) "name_by" ["item"] xC:=by
 obtain⟨y_KEPT_WORDS,u_KEPT_WORDS,q_KEPT_WORDS,r_KEPT_WORDS,v_KEPT_WORDS⟩:=gk.ex
 refine d.dC qQ (λds P P' f ⟨x,e,h,q⟩=>⟨x,e,h,f _ q⟩) (λds Q ⟨x,e,_⟩=>by rw[e];rfl) (λf cdv A outer s H E hr=>have hu:=hr.units;have hh:=hr.hd;have sc:=qQ
  (aH (bZ (aK aU hr (by omega) (by rfl) (aA (kn (xv (by rfl) n_isinstance (by rfl) n_str (dv 0)) (fH (xY (dv 0) (dD (by rfl) q_KEPT_WORDS r_KEPT_WORDS v_KEPT_WORDS) (by rfl)))) aC)))
 (aH (bZ (aK aU hr (by omega) (by rfl) (aA (uP hh (by rfl) n_all (aA (uS (x:="word") (caps:=[]) (cn:=[]) (cl:=[]) (i8 (by rfl) (by rfl) (by decide +kernel) (by decide +kernel) (by decide +kernel)) rfl (gz (sE (dv 0) (aA aP aC))) (λC fp s₂ H₂=>bY (i:=0) (show(["word"]:List Str).Nodup by decide +kernel) rfl (Or.inl rfl) (.inr rfl)) (λC fp s₂ H₂=>fE) (λC fp s₂ H₂=>(aK dG hr (by omega) (by rfl) (aA (dv 0) aC)))) aC)) aC)))
 (aI (aQ (dv 0)))))) ?_
 rintro ds Q ⟨x,rfl,ok,q⟩
 have o:=yA ok.1
 have hx:x.length<=100000:=Nat.le_trans ok.2.1 (by decide)
 refine⟨_,rfl,true,rfl,true,rfl,aR ⟨_,rfl,rfl,kJ _,?_,?_⟩⟩
 ·rw[sW,o.kept];rfl
 refine⟨_,rfl,⟨x,rfl⟩,x,dot,rfl,rfl,rfl,Nat.le_trans (Nat.add_le_add_right hx 2) (by decide),_,rfl,mO JB ((Txt.split x dot).map D.str),ph,λi d o h1 h2=>?_,?_,?_⟩
 ·obtain⟨hd,rfl⟩:=u9 h1 h2
  obtain⟨c,hc,rfl⟩:=List.mem_map.mp hd
  refine⟨rfl,λ_=>⟨_,rfl,c,rfl,?_,rfl⟩⟩
  have hw:=split_weight x dot (by decide)
  have hc2:c.length∈(Txt.split x dot).map (·.length):=List.mem_map.mpr ⟨c,hc,rfl⟩
  have:=wW hc2
  have hp:=split_pos x dot
  omega
 ·rw[List.length_map]
  exact Nat.lt_of_le_of_lt (split_le x dot) (Nat.lt_of_le_of_lt (Nat.add_le_add_right hx 2) (by decide))
 ·rw[nZ]
  refine⟨(Txt.split x dot).map iG,?_,?_,?_⟩
  ·rw[List.map_map,List.map_map]
   rfl
  ·rw[List.all_map,show(id∘iG)=iG from rfl,o.words]
  ·exact⟨_,rfl,q⟩
theorem iA (d:Df K mg "is_figures" iV ["text"])(n_len:mg "len"=none)(n_all:mg "all"=none)(gm:GI mg "MOST_FIGURES" 3)(gf:GD K mg "FIGURES" (.str "0123456789")):bE P w K mg base (j+1) "is_figures" ["text"] B6:=by
 obtain⟨t1,q_MOST_FIGURES⟩:=gm.ex
 have r_MOST_FIGURES:RelV (.int 3) (.int 3 t1):=⟨_,rfl⟩
 have v_MOST_FIGURES:∀H,Dv K H (.int 3) (.int 3):=λ_=>.int _
 obtain⟨y_FIGURES,u_FIGURES,q_FIGURES,r_FIGURES,v_FIGURES⟩:=gf.ex
 refine d.dC lL (λds P P' f ⟨x,e,h,h2,h3,q⟩=>⟨x,e,h,h2,h3,f _ q⟩) (λds Q ⟨x,e,_⟩=>by rw[e];rfl) (λf cdv A outer s H E hr=>have hu:=hr.units;have hh:=hr.hd;have sc:=lL
  (aI (aQ (kn (Ad aD (cZ (by rfl) n_len (aA (dv 0) aC)) (dD (by rfl) q_MOST_FIGURES r_MOST_FIGURES v_MOST_FIGURES)) (fH (uP hh (by rfl) n_all (aA (uS (x:="sign") (caps:=[]) (cn:=[]) (cl:=[]) (i8 (by rfl) (by rfl) (by decide +kernel) (by decide +kernel) (by decide +kernel)) rfl (gz (dv 0)) (λC fp s₂ H₂=>bY (i:=0) (show(["sign"]:List Str).Nodup by decide +kernel) rfl (Or.inl rfl) (.inr rfl)) (λC fp s₂ H₂=>fE) (λC fp s₂ H₂=>(Il (dv 0) (dD (by rfl) q_FIGURES r_FIGURES v_FIGURES) (by rfl)))) aC))))))) ?_
 rintro ds Q ⟨x,rfl,h1,h2,h3,q⟩
 have hx:x.length<=sizeLine:=Nat.le_trans h2 (by decide)
 refine⟨_,rfl,_,_,rfl,if_pos hx,true,congrArg D.bl (decide_eq_true (by omega)),aR ⟨true,congrArg D.bl (decide_eq_true (by omega)),aR ⟨_,rfl,_,rfl,mO K7 (x.cps.toList.map λc=>.str ⟨#[c]⟩),ph,λi d o h1 h2=>?_,?_,?_⟩⟩⟩
 ·obtain⟨hd,rfl⟩:=u9 h1 h2
  obtain⟨c,_,rfl⟩:=List.mem_map.mp hd
  exact⟨rfl,λ_=>⟨_,rfl,_,rfl,rfl⟩⟩
 ·rw[List.length_map,Array.length_toList]
  exact Nat.lt_of_le_of_lt h2 (by decide)
 ·rw[nZ]
  refine⟨(signs x).map λs=>fB s "0123456789",?_,?_⟩
  ·unfold signs
   rw[List.map_map,List.map_map,List.map_map]
   rfl
  ·refine all_true ?_ q
   rw[List.all_map]
   exact h3
theorem qB {x:Str}{l:List Str}(h:l.contains x=false):inD (.str x) (l.map D.str)=false:=by rw[sW,h]
theorem i7 (d:Df K mg "number_by" jO ["word"])(n_int:mg "int"=none)(aU:bE P w K mg base j "need_form" ["holds"] d0)(iA:bE P w K mg base j "is_figures" ["text"] B6):bE P w K mg base (j+1) "number_by" ["word"] B8:=by
 refine d.dC mx (λds P P' f ⟨x,e,h,h2,q⟩=>⟨x,e,h,h2,f _ q⟩) (λds Q ⟨x,e,_⟩=>by rw[e];rfl) (λf cdv A outer s H E hr=>have hu:=hr.units;have hh:=hr.hd;have sc:=mx
  (aH (aq (i:=1) sc.nd rfl (Or.inl rfl) (Ab (eB (uT (by rfl) (by rfl) (by rfl) (by rfl) (dv 0) (aA aP aC) (by rfl))) (eK (dv 0) (fz aD) iJ) (dv 0)))
 (aH (bZ (aK aU hr (by omega) (by rfl) (aA (aK iA hr (by omega) (by rfl) (aA (dv 1) aC)) aC)))
 (aH (bZ (aK aU hr (by omega) (by rfl) (aA (yn (iD hu (dv 0) aP) (fH (Io (uT (by rfl) (by rfl) (by rfl) (by rfl) (dv 1) (aA aP aC) (by rfl))))) aC)))
 (aI (aQ (GH (by rfl) n_int (aA (dv 0) aC)))))))) ?_
 rintro ds Q ⟨i,rfl,h1,h2,q⟩
 have F:=g9 h1 h2
 generalize (toString i:Str)=w at F ⊢
 have hw:w.length<=sizeLine:=Nat.le_trans F.len (by decide)
 have tail:∀f:Str,Ic w i f->∀ δ:SD,δ[0]?=some (some (.str w))->δ[1]?=some (some (.str f)) ->
   fP (Bw (bD d0 (aE (bD B6 (aE (aF 1) ak)) ak))) (fP (Bw (bD d0 (aE (Ls (vEq (aF 0) (vC (.str "0"))) (KQ (IZ FV xn (aF 1) (aE (vC (.str "0")) ak)))) ak))) (mU (vB qU (aE (aF 0) ak)))) { nx:=λ_=>Q .ag,rt:=Q } δ:=by
  intro f F δ e0 e1
  refine⟨_,e1,f,rfl,F.f1,F.f3,F.MM,rfl,?_⟩
  refine⟨_,e0,?_⟩
  show ∃b,D.bl (decide (w="0"))=.bl b/\_
  refine⟨_,rfl,?_⟩
  have fin:d0 [.bl true] λ_=>vB qU (aE (aF 0) ak) δ Q:=⟨rfl,_,e0,w,i,rfl,F.num,Nat.le_trans F.len (by decide),q⟩
  cases hz:decide (w="0") with
  |true=>exact aR fin
  |false =>
   refine aO ⟨_,e1,f,rfl,"0",rfl,trivial,false,?_,fin⟩
   rcases F.zero with z|z
   ·rw[beq_iff_eq.mp z] at hz
    exact absurd hz (by decide)
   ·exact congrArg D.bl z
 refine⟨_,rfl,w,rfl,"-",rfl,trivial,Txt.startswith w "-",rfl,?_⟩
 cases hn:Txt.startswith w "-" with
 |true =>
  rw[hn,if_pos rfl] at F
  exact aR ⟨_,rfl,1,rfl,hw,tail _ F _ rfl rfl⟩
 |false =>
  rw[hn,if_neg (by decide)] at F
  exact aO ⟨_,rfl,tail _ F _ rfl rfl⟩
theorem fi (d:Df K mg "value_by" l9 ["item"])(n_isinstance:mg "isinstance"=none)(n_str:mg "str"=none)(aU:bE P w K mg base j "need_form" ["holds"] d0)(i7:bE P w K mg base j "number_by" ["word"] B8):bE P w K mg base (j+1) "value_by" ["item"] tZ:=by
 refine d.dC oj (λds P P' f ⟨x,e,h,q⟩=>⟨x,e,h,f _ q⟩) (λds Q ⟨x,e,_⟩=>by rw[e];rfl) (λf cdv A outer s H E hr=>have hu:=hr.units;have hh:=hr.hd;have sc:=oj
  (aH (bZ (aK aU hr (by omega) (by rfl) (aA (xv (by rfl) n_isinstance (by rfl) n_str (dv 0)) aC)))
 (aH (cE (xH (dv 0) (ay (lV (by rfl))) (by rfl)) (aI (aQ (iD hu (dv 0) aP))) ar)
 (aI (aQ (aK i7 hr (by omega) (by rfl) (aA (dv 0) aC))))))) ?_
 rintro ds Q ⟨v,rfl,hv,q⟩
 refine⟨_,rfl,true,rfl,rfl,?_⟩
 rcases hv with⟨b,rfl⟩|⟨i,rfl,h1,h2⟩
 ·cases b with
  |true=>exact⟨_,rfl,⟨by decide,rfl,by decide,true,congrArg D.bl (by decide +kernel),aR ⟨_,rfl,q⟩⟩⟩
  |false=>exact⟨_,rfl,⟨by decide,rfl,by decide,true,congrArg D.bl (by decide +kernel),aR ⟨_,rfl,q⟩⟩⟩
 ·have F:=g9 h1 h2
  exact⟨_,rfl,⟨by decide,rfl,by decide,false,congrArg D.bl (qB F.yes),aO ⟨_,rfl,i,rfl,h1,h2,q⟩⟩⟩
theorem fg (d:Df K mg "first_by" l0 ["items"])(n_len:mg "len"=none)(fi:bE P w K mg base j "value_by" ["item"] tZ):bE P w K mg base (j+1) "first_by" ["items"] xB:=by
 refine d.dC oY (λds P P' f ⟨x,e,h,q⟩=>⟨x,e,h,f _ q⟩) (λds Q ⟨x,e,_⟩=>by rw[e];rfl) (λf cdv A outer s H E hr=>have hu:=hr.units;have hh:=hr.hd;have sc:=oY
  (aI (aQ (Ab (H_ (cZ (by rfl) n_len (aA (dv 0) aC)) aD) (aK fi hr (by omega) (by rfl) (aA (aj (dv 0) aD (λ_ _=>rfl)) aC)) pI)))) ?_
 rintro ds Q ⟨v,rfl,hv,q⟩
 rcases hv with rfl|hv
 ·exact⟨_,rfl,_,_,rfl,rfl,false,rfl,aO q⟩
 ·have e:yv v=[.str (bI v)]:=by rcases hv with⟨b,rfl⟩|⟨i,rfl,_⟩<;>rfl
  rw[e]
  exact⟨_,rfl,_,_,rfl,rfl,true,rfl,aR ⟨_,rfl,_,rfl,v,rfl,hv,q⟩⟩
theorem bq (d:Df K mg "told_by" n0 ["item"])(n_isinstance:mg "isinstance"=none)(n_tuple:mg "tuple"=none)(gb:GD K mg "NUMBER_BEGINS" (.str "-0123456789"))(fi:bE P w K mg base j "value_by" ["item"] tZ)(fZ:bE P w K mg base j "name_by" ["item"] xC) :
  bE P w K mg base (j+1) "told_by" ["item"] tY:=by
 obtain⟨y_NUMBER_BEGINS,u_NUMBER_BEGINS,q_NUMBER_BEGINS,r_NUMBER_BEGINS,v_NUMBER_BEGINS⟩:=gb.ex
 refine d.dC qT (λds P P' f ⟨x,e,h,q⟩=>⟨x,e,h,f _ q⟩) (λds Q ⟨x,e,_⟩=>by rw[e];rfl) (λf cdv A outer s H E hr=>have hu:=hr.units;have hh:=hr.hd;have sc:=qT
  (aH (cE (eB (kO (by rfl) n_isinstance (by rfl) n_tuple (dv 0))) (aI (aQ (dv 0))) ar)
 (aH (cE (oq.td (w_or (xH (dv 0) (ay (lV (by rfl))) (by rfl)) (lS (xH (aj (dv 0) aD (λ_ _=>rfl)) (dD (by rfl) q_NUMBER_BEGINS r_NUMBER_BEGINS v_NUMBER_BEGINS) (by rfl))))) (aI (aQ (ay (aA aP (aA (aK fi hr (by omega) (by rfl) (aA (dv 0) aC)) aC))))) ar)
 (aI (aQ (ay (aA aP (aA (aK fZ hr (by omega) (by rfl) (aA (dv 0) aC)) aC)))))))) ?_
 rintro ds Q ⟨p,rfl,ok,q⟩
 cases p with
 |given v =>
  have hv:isVal v:=ok
  have fin:gq (aE (vC (.str "given")) (aE (bD tZ (aE (aF 0) ak)) ak)) [some (.str (bI v))] Q:=⟨_,rfl,v,rfl,hv,zL2,q⟩
  refine⟨_,rfl,false,rfl,false,rfl,aO ?_⟩
  rcases hv with⟨b,rfl⟩|⟨i,rfl,h1,h2⟩
  ·cases b with
   |true=>exact⟨_,rfl,by decide,rfl,by decide,true,congrArg D.bl (by decide +kernel),aR (aR fin)⟩
   |false=>exact⟨_,rfl,by decide,rfl,by decide,true,congrArg D.bl (by decide +kernel),aR (aR fin)⟩
  ·have F:=g9 h1 h2
   obtain⟨c,r,e1,e2⟩:=F.first
   refine⟨_,rfl,by decide,rfl,by decide,false,congrArg D.bl (qB F.yes),aO ⟨_,rfl,Nat.le_trans F.len (by decide),c,?_,_,rfl,true,congrArg D.bl e2,aR fin⟩⟩
   show m_ ((toString i:Str).cps.toList) 0=some c
   rw[e1];exact kH (i:=0) rfl
 |named x =>
  have o:=yA ok.1
  obtain⟨c,r,e1,l1,l2⟩:=o.first
  have hx:x.length<=sizeLine:=Nat.le_trans ok.2.1 (by decide)
  have e2:fB ⟨#[c]⟩ "-0123456789"=false:=by
   have all:∀k:Fin 26,fB ⟨#[97+k.val]⟩ "-0123456789"=false:=by decide +kernel
   have q:=all ⟨c - 97,by omega⟩
   rw[show(97+(⟨c - 97,by omega⟩:Fin 26).val)=c by show 97+(c - 97)=c;omega] at q
   exact q
  refine⟨_,rfl,false,rfl,false,rfl,aO ⟨_,rfl,by decide,rfl,by decide,false,congrArg D.bl (qB (BX (l:=["yes","no"]) o (by decide))),aO ⟨_,rfl,hx,c,?_,_,rfl,false,congrArg D.bl e2,aO ?_⟩⟩⟩
  ·show m_ x.cps.toList 0=some c
   rw[e1];exact kH (i:=0) rfl
  ·exact⟨_,rfl,x,rfl,ok,zL2,q⟩
 |turned x=>exact⟨_,rfl,true,rfl,true,rfl,aR ⟨_,rfl,q⟩⟩
 |pair g x y=>exact⟨_,rfl,true,rfl,true,rfl,aR ⟨_,rfl,q⟩⟩
 |choice t x y=>exact⟨_,rfl,true,rfl,true,rfl,aR ⟨_,rfl,q⟩⟩
 |before x f=>exact⟨_,rfl,true,rfl,true,rfl,aR ⟨_,rfl,q⟩⟩
 |led x y=>exact⟨_,rfl,true,rfl,true,rfl,aR ⟨_,rfl,q⟩⟩
 |bx x s=>exact⟨_,rfl,true,rfl,true,rfl,aR ⟨_,rfl,q⟩⟩
 |held x s f=>exact⟨_,rfl,true,rfl,true,rfl,aR ⟨_,rfl,q⟩⟩
theorem zH {p:Pt}(ok:p.ok):A0 p.item (.tup (([("not":Str),"if","before"]:List Str).map D.str)) λd=>d=.bl false:=by
 cases p with
 |given v =>
  refine .inl ⟨rfl,by decide,congrArg D.bl ?_⟩
  rcases(show isVal v from ok) with⟨b,rfl⟩|⟨i,rfl,h1,h2⟩
  ·cases b<;>decide +kernel
  ·exact qB (g9 h1 h2).head
 |named x=>exact .inl ⟨rfl,by decide,congrArg D.bl (qB (BX (l:=["not","if","before"]) (yA ok.1) (by decide)))⟩
 |_=>exact .inr ⟨_,_,rfl,rfl,rfl⟩
theorem Ec {g:Str}(h:g∈dY):decide (g="held")=false/\decide (g="when")=false/\decide (g="then")=false/\(if false=true then !iZ.any λp=>p.1 == g else iZ.any λp=>p.1 == g)=true:=by
 have all:∀g∈dY,decide (g="held")=false/\decide (g="when")=false/\decide (g="then")=false/\(if false=true then !iZ.any λp=>p.1 == g else iZ.any λp=>p.1 == g)=true:=by decide +kernel
 exact all g h
theorem gW (d:Df K mg "headed_told" gj ["items"])(n_len:mg "len"=none)(aU:bE P w K mg base j "need_form" ["holds"] d0)(bq:bE P w K mg base j "told_by" ["item"] tY)(fg:bE P w K mg base j "first_by" ["items"] xB) :
  bE P w K mg base (j+1) "headed_told" ["items"] (dR λp=>p.lj=true):=by
 refine d.dC jX tD sq (λf cdv A outer s H E hr=>have hu:=hr.units;have hh:=hr.hd;have sc:=jX
  (aH (aq (i:=1) sc.nd rfl (Or.inl rfl) (cZ (by rfl) n_len (aA (dv 0) aC)))
 (aH (cE (dF hu (aj (dv 0) aD (λ_ _=>rfl)) aP) (aH (bZ (aK aU hr (by omega) (by rfl) (aA (yn (iD hu (dv 1) aD) (fH (iD hu (dv 1) aD))) aC)))
 (aI (aQ (ay (aA aP (aA (aK bq hr (by omega) (by rfl) (aA (aj (dv 0) aD (λ_ _=>rfl)) aC)) (aA (aK fg hr (by omega) (by rfl) (aA (eK (dv 0) (fz aD) iJ) aC)) aC))))))) ar)
 (aH (cE (dF hu (aj (dv 0) aD (λ_ _=>rfl)) aP) (aH (bZ (aK aU hr (by omega) (by rfl) (aA (iD hu (dv 1) aD) aC)))
 (aI (aQ (ay (aA aP (aA (aK bq hr (by omega) (by rfl) (aA (aj (dv 0) aD (λ_ _=>rfl)) aC)) aC)))))) ar)
 (aH (bZ (aK aU hr (by omega) (by rfl) (aA (iD hu (dv 1) aD) aC)))
 (aI (aQ (ay (aA aP (aA (aK bq hr (by omega) (by rfl) (aA (aj (dv 0) aD (λ_ _=>rfl)) aC)) (aA (aK bq hr (by omega) (by rfl) (aA (aj (dv 0) aD (λ_ _=>rfl)) aC)) (aA (aK bq hr (by omega) (by rfl) (aA (aj (dv 0) aD (λ_ _=>rfl)) aC)) aC)))))))))))) ?_
 rintro ds Q ⟨p,rfl,lf,hd,ok,q⟩
 cases p with
 |turned x =>
  exact⟨_,rfl,_,_,rfl,rfl,_,rfl,_,rfl,false,rfl,aO ⟨_,rfl,_,rfl,true,rfl,aR ⟨_,rfl,rfl,_,rfl,_,rfl,x,rfl,ok,zL2,q⟩⟩⟩
 |choice t x y =>
  exact⟨_,rfl,_,_,rfl,rfl,_,rfl,_,rfl,false,rfl,aO ⟨_,rfl,_,rfl,false,rfl,aO ⟨_,rfl,rfl,_,rfl,_,rfl,t,rfl,ok.1,_,rfl,_,rfl,x,rfl,ok.2.1,_,rfl,_,rfl,y,rfl,ok.2.2,zL4,q⟩⟩⟩
 |before x f =>
  obtain⟨ox,of⟩:=ok
  rcases of with rfl|⟨b,rfl⟩|⟨i,rfl,h1,h2⟩
  ·exact⟨_,rfl,_,_,rfl,rfl,_,rfl,_,rfl,true,rfl,aR ⟨_,rfl,true,rfl,aR ⟨rfl,_,rfl,_,rfl,x,rfl,ox,_,rfl,2,rfl,.ag,rfl,.inl rfl,zL3,q⟩⟩⟩
  ·exact⟨_,rfl,_,_,rfl,rfl,_,rfl,_,rfl,true,rfl,aR ⟨_,rfl,false,rfl,aO ⟨_,rfl,rfl,_,rfl,_,rfl,x,rfl,ox,_,rfl,2,rfl,.bl b,rfl,.inr (.inl ⟨b,rfl⟩),zL3,q⟩⟩⟩
  ·exact⟨_,rfl,_,_,rfl,rfl,_,rfl,_,rfl,true,rfl,aR ⟨_,rfl,false,rfl,aO ⟨_,rfl,rfl,_,rfl,_,rfl,x,rfl,ox,_,rfl,2,rfl,.int i,rfl,.inr (.inr ⟨i,rfl,h1,h2⟩),zL3,q⟩⟩⟩
 |_=>cases hd
theorem gY {sa:Addr}(d:Df K mg "middle_told" gp ["items"])(n_len:mg "len"=none)(kd_SIGNS:Cm w K mg "SIGNS" sa iZ)(aU:bE P w K mg base j "need_form" ["holds"] d0)(bq:bE P w K mg base j "told_by" ["item"] tY)(fg:bE P w K mg base j "first_by" ["items"] xB)
  (fZ:bE P w K mg base j "name_by" ["item"] xC):bE P w K mg base (j+1) "middle_told" ["items"] (dR λp=>p.lj=false):=by
 refine d.dC jZ tD sq (λf cdv A outer s H E hr=>have hu:=hr.units;have hh:=hr.hd;have sc:=jZ
  (aH (aq (i:=1) sc.nd rfl (Or.inl rfl) (cZ (by rfl) n_len (aA (dv 0) aC)))
 (aH (bZ (aK aU hr (by omega) (by rfl) (aA (yn (iD hu (dv 1) aD) (fH (iD hu (dv 1) aD))) aC)))
 (aH (aq (i:=2) sc.nd rfl (Or.inl rfl) (aK bq hr (by omega) (by rfl) (aA (aj (dv 0) aD (λ_ _=>rfl)) aC)))
 (aH (aq (i:=3) sc.nd rfl (Or.inl rfl) (aj (dv 0) aD (λ_ _=>rfl)))
 (aH (cE (dF hu (dv 3) aP) (aI (aQ (ay (aA aP (aA (dv 2) (aA (aK fZ hr (by omega) (by rfl) (aA (aj (dv 0) aD (λ_ _=>rfl)) aC)) (aA (aK fg hr (by omega) (by rfl) (aA (eK (dv 0) (fz aD) iJ) aC)) aC))))))) ar)
 (aH (bZ (aK aU hr (by omega) (by rfl) (aA (iD hu (dv 1) aD) aC)))
 (aH (cE (dF hu (dv 3) aP) (aI (aQ (ay (aA aP (aA (dv 2) (aA (aK fZ hr (by omega) (by rfl) (aA (aj (dv 0) aD (λ_ _=>rfl)) aC)) aC)))))) ar)
 (aH (bZ (aK aU hr (by omega) (by rfl) (aA (yn (iD hu (dv 3) aP) (fH (E_ kd_SIGNS (by rfl) (dv 3)))) aC)))
 (aI (aQ (ay (aA (dv 3) (aA (dv 2) (aA (aK bq hr (by omega) (by rfl) (aA (aj (dv 0) aD (λ_ _=>rfl)) aC)) aC))))))))))))))) ?_
 rintro ds Q ⟨p,rfl,lf,hd,ok,q⟩
 cases p with
 |given=>cases lf
 |named=>cases lf
 |pair g x y =>
  obtain⟨s1,s2,s3,s4⟩:=Ec ok.1
  exact⟨_,rfl,_,_,rfl,rfl,_,rfl,true,rfl,aR ⟨rfl,_,rfl,_,rfl,x,rfl,ok.2.1,_,rfl,_,rfl,_,rfl,false,congrArg D.bl s1,aO ⟨_,rfl,rfl,_,rfl,false,congrArg D.bl s2,aO ⟨_,rfl,false,congrArg D.bl s3,aO ⟨_,rfl,g,rfl,congrArg (λb=>[D.bl b]) s4,_,rfl,_,rfl,_,rfl,_,rfl,y,rfl,ok.2.2,zL3,q⟩⟩⟩⟩⟩
 |led x y =>
  exact⟨_,rfl,_,_,rfl,rfl,_,rfl,true,rfl,aR ⟨rfl,_,rfl,_,rfl,x,rfl,ok.1,_,rfl,_,rfl,_,rfl,false,rfl,aO ⟨_,rfl,rfl,_,rfl,false,rfl,aO ⟨_,rfl,true,rfl,aR ⟨rfl,_,rfl,_,rfl,_,rfl,_,rfl,y,rfl,ok.2,zL3,q⟩⟩⟩⟩⟩
 |bx x s =>
  exact⟨_,rfl,_,_,rfl,rfl,_,rfl,true,rfl,aR ⟨rfl,_,rfl,_,rfl,x,rfl,ok.1,_,rfl,_,rfl,_,rfl,false,rfl,aO ⟨_,rfl,rfl,_,rfl,true,rfl,aR ⟨_,rfl,_,rfl,_,rfl,s,rfl,ok.2,zL3,q⟩⟩⟩⟩
 |held x s f =>
  obtain⟨ox,os,of⟩:=ok
  rcases of with rfl|⟨b,rfl⟩|⟨i,rfl,h1,h2⟩
  ·exact⟨_,rfl,_,_,rfl,rfl,_,rfl,true,rfl,aR ⟨rfl,_,rfl,_,rfl,x,rfl,ox,_,rfl,_,rfl,_,rfl,true,rfl,aR ⟨_,rfl,_,rfl,_,rfl,s,rfl,os,_,rfl,3,rfl,.ag,rfl,.inl rfl,zL4,q⟩⟩⟩
  ·exact⟨_,rfl,_,_,rfl,rfl,_,rfl,false,rfl,aO ⟨_,rfl,rfl,_,rfl,_,rfl,x,rfl,ox,_,rfl,_,rfl,_,rfl,true,rfl,aR ⟨_,rfl,_,rfl,_,rfl,s,rfl,os,_,rfl,3,rfl,.bl b,rfl,.inr (.inl ⟨b,rfl⟩),zL4,q⟩⟩⟩
  ·exact⟨_,rfl,_,_,rfl,rfl,_,rfl,false,rfl,aO ⟨_,rfl,rfl,_,rfl,_,rfl,x,rfl,ox,_,rfl,_,rfl,_,rfl,true,rfl,aR ⟨_,rfl,_,rfl,_,rfl,s,rfl,os,_,rfl,3,rfl,.int i,rfl,.inr (.inr ⟨i,rfl,h1,h2⟩),zL4,q⟩⟩⟩
 |_=>cases hd
theorem ff (d:Df K mg "bracket_told" gC ["items"])(gW:bE P w K mg base j "headed_told" ["items"] (dR λp=>p.lj=true))(gY:bE P w K mg base j "middle_told" ["items"] (dR λp=>p.lj=false)) :
  bE P w K mg base (j+1) "bracket_told" ["items"] (dR λ_=>True):=by
 refine d.dC iq tD sq (λf cdv A outer s H E hr=>have hu:=hr.units;have hh:=hr.hd;have sc:=iq
  (aH (cE (KD hu (aj (dv 0) aD (λ_ _=>rfl)) (ay (lV (by rfl))) (by rfl)) (aI (aQ (aK gW hr (by omega) (by rfl) (aA (dv 0) aC)))) ar)
 (aI (aQ (aK gY hr (by omega) (by rfl) (aA (dv 0) aC)))))) ?_
 rintro ds Q ⟨p,rfl,lf,_,ok,q⟩
 have mid:∀(x:Pt) (l:List D),p.items=x.item::l->p.lj=false->x.ok->fP (Cr (bK (o9 A0 (iw (aF 0) (vC (.int 0))) (gq (mG (([("not":Str),"if","before"]:List Str).map D.str))))) (mU (bD (dR λp=>p.lj=true) (aE (aF 0) ak))) jF) (mU (bD (dR λp=>p.lj=false) (aE (aF 0) ak))) { nx:=λ_=>Q .ag,rt:=Q } [some (.lst p.items)]:=by
  intro x l e h ox
  refine⟨_,rfl,?_⟩
  refine⟨x.item,by rw[e];exact kH (i:=0) rfl,zL3,FT _ _ _ _ (λd ed=>⟨false,ed,aO ⟨_,rfl,p,rfl,lf,h,ok,q⟩⟩) (zH ox)⟩
 cases p with
 |given=>cases lf
 |named=>cases lf
 |turned x=>exact⟨_,rfl,_,rfl,zL3,.inl ⟨rfl,by decide,true,rfl,aR ⟨_,rfl,_,rfl,rfl,rfl,ok,q⟩⟩⟩
 |choice t x y=>exact⟨_,rfl,_,rfl,zL3,.inl ⟨rfl,by decide,true,rfl,aR ⟨_,rfl,_,rfl,rfl,rfl,ok,q⟩⟩⟩
 |before x f=>exact⟨_,rfl,.str "before",kH (i:=0) rfl,zL3,.inl ⟨rfl,by decide,true,rfl,aR ⟨_,rfl,.before x f,rfl,rfl,rfl,ok,q⟩⟩⟩
 |pair g x y=>exact mid x _ rfl rfl ok.2.1
 |led x y=>exact mid x _ rfl rfl ok.1
 |bx x s=>exact mid x _ rfl rfl ok.1
 |held x s f=>exact mid x _ rfl rfl ok.1
structure Lv (a:Addr) (bs:List Addr) (S:mE) (μ:Mu):Prop where
 top:μ.lookup a=some (.lst (bs.map D.adr))
 len:bs.length=S.length
 at_:∀(i:Nat) (b:Addr) (l:List D),bs[i]?=some b->S[i]?=some l->μ.lookup b=some (.lst l)
 nd:(a::bs).Nodup
theorem rJ {b:Addr}{μ:Mu}:∀{bs:List Addr},b∈bs->(qo bs++μ).lookup b=some (.lst [])
 |[],h=>by cases h
 |c::bs,h=>by
  show((c,MD.lst [])::(qo bs++μ)).lookup b=_
  by_cases e:b=c
  ·rw[e];exact look_same
  ·rw[dJ e]
   exact rJ ((List.mem_cons.mp h).resolve_left e)
theorem zT (bs:List Addr):(qo bs).map (·.1)=bs:=by
 unfold qo
 rw[List.map_map]
 exact List.map_id' _
theorem Lv.ne {a:Addr}{bs:List Addr}{S:mE}{μ:Mu}(v:Lv a bs S μ){b:Addr}(h:b∈bs):b≠a:=λe=>(List.nodup_cons.mp v.nd).1 (e ▸ h)
theorem Lv.JL {a:Addr}{bs:List Addr}{S:mE}{μ:Mu}(v:Lv a bs S μ){b:Addr}(h:b∈a::bs):b∈μ.map (·.1):=by
 rcases List.mem_cons.mp h with h|h
 ·rw[h];exact mem_keys v.top
 ·obtain⟨i,hi,e⟩:=List.getElem_of_mem h
  have hs:i<S.length:=v.len ▸ hi
  exact mem_keys (v.at_ i b _ (by rw[List.getElem?_eq_getElem hi,e]) (List.getElem?_eq_getElem hs))
theorem Lv.grow {a c:Addr}{bs bs':List Addr}{S:mE}{μ:Mu}(v:Lv a bs S μ){n:Nat}(hn:bs'.length=n)(m:MD)(nd:((((c,m)::qo bs'.reverse)++μ).map (·.1)).Nodup) :
  Lv a (bs++bs') (S++List.replicate n []) (d7 a (.lst (bs.map D.adr++bs'.map D.adr)) (((c,m)::qo bs'.reverse)++μ)):=by
 have nd0:=nd
 rw[List.cons_append,List.map_cons,List.nodup_cons,List.map_append,zT] at nd
 obtain⟨nc,nn⟩:=nd
 have nn':=List.nodup_append.mp nn
 have dis:∀x∈bs',x∉a::bs:=λx hx hx2=>nn'.2.2 x (List.mem_reverse.mpr hx) x (v.JL hx2) rfl
 have ca:a≠c:=λe=>nc (by show c∈_;rw[<- e];exact List.mem_append_right _ (mem_keys v.top))
 refine⟨?_,by rw[List.length_append,List.length_append,List.length_replicate,v.len,hn],λi b l hb hl=>?_,?_⟩
 ·rw[cO (pd v.top nd0),List.map_append]
 ·by_cases hi:i<bs.length
  ·rw[List.getElem?_append_left hi] at hb
   rw[List.getElem?_append_left (by rw[<- v.len];exact hi)] at hl
   rw[ae (v.ne (List.mem_of_getElem? hb))]
   exact pd (v.at_ i b l hb hl) nd0
  ·rw[List.getElem?_append_right (by omega)] at hb
   rw[List.getElem?_append_right (by rw[<- v.len];omega)] at hl
   have hm:=List.mem_of_getElem? hb
   have el:l=[]:=List.eq_of_mem_replicate (List.mem_of_getElem? hl)
   have ba:b≠a:=λe=>dis b hm (by rw[e];exact List.mem_cons_self)
   have bc:b≠c:=λe=>nc (by show c∈_;rw[<- e];exact List.mem_append_left _ (List.mem_reverse.mpr hm))
   rw[ae ba,List.cons_append,dJ bc,el]
   exact rJ (List.mem_reverse.mpr hm)
 ·rw[List.nodup_cons,List.mem_append]
  have v2:=List.nodup_cons.mp v.nd
  refine⟨λh=>h.elim v2.1 λh=>dis a h List.mem_cons_self,List.nodup_append.mpr ⟨v2.2,((List.reverse_perm _).nodup_iff.mp nn'.1),λx hx y hy e=>dis y hy (by rw[<- e];exact List.mem_cons_of_mem _ hx)⟩⟩
theorem Lv.last {a:Addr}{bs:List Addr}{R:mE}{l:List D}{μ:Mu}(v:Lv a bs (R++[l]) μ):∃cs b,bs=cs++[b]/\cs.length=R.length/\μ.lookup b=some (.lst l)/\b≠a:=by
 have h:=v.len
 rw[List.length_append,List.length_singleton] at h
 have hne:bs≠[]:=λe=>by rw[e] at h;simp at h
 refine⟨bs.dropLast,bs.getLast hne,(List.dropLast_concat_getLast hne).symm,by rw[List.length_dropLast];omega,v.at_ R.length _ l ?_ (by simp),v.ne (List.getLast_mem hne)⟩
 rw[List.getLast_eq_getElem,<- List.getElem?_eq_getElem]
 congr 1
 omega
theorem Lv.put {a b:Addr}{cs:List Addr}{R:mE}{l l':List D}{μ:Mu}(v:Lv a (cs++[b]) (R++[l]) μ):Lv a (cs++[b]) (R++[l']) (d7 b (.lst l') μ):=by
 have hc:cs.length=R.length:=by have:=v.len;simpa using this
 have hb:μ.lookup b=some (.lst l):=v.at_ R.length b l (by rw[<- hc];simp) (by simp)
 have ba:a≠b:=(v.ne (by simp)).symm
 refine⟨by rw[ae ba];exact v.top,by simp[hc],λi x y hx hy=>?_,v.nd⟩
 by_cases hi:i<R.length
 ·rw[List.getElem?_append_left (by omega)] at hx
  rw[List.getElem?_append_left hi] at hy
  have n2:=(List.nodup_append.mp (List.nodup_cons.mp v.nd).2).2.2
  have xb:x≠b:=n2 x (List.mem_of_getElem? hx) b (by simp)
  rw[ae xb]
  exact v.at_ i x y (by rw[List.getElem?_append_left (by omega)];exact hx) (by rw[List.getElem?_append_left hi];exact hy)
 ·have hi2:i=R.length:=by
   have:=(List.getElem?_eq_some_iff.mp hy).1
   rw[List.length_append,List.length_singleton] at this
   omega
  subst hi2
  have ex:x=b:=by rw[<- hc] at hx;simpa using hx.symm
  have ey:y=l':=by simpa using hy.symm
  subst ex ey
  exact cO hb
theorem Lv.pop {a b:Addr}{cs:List Addr}{R:mE}{l:List D}{μ:Mu}(v:Lv a (cs++[b]) (R++[l]) μ):Lv a cs R (d7 a (.lst (cs.map D.adr)) μ):=by
 have hc:cs.length=R.length:=by have:=v.len;simpa using this
 have nd:=List.nodup_cons.mp v.nd
 refine⟨cO v.top,hc,λi x y hx hy=>?_,List.nodup_cons.mpr ⟨λh=>nd.1 (List.mem_append_left _ h),(List.nodup_append.mp nd.2).1⟩⟩
 have h1:=(List.getElem?_eq_some_iff.mp hx).1
 rw[ae (v.ne (List.mem_append_left _ (List.mem_of_getElem? hx)))]
 exact v.at_ i x y (by rw[List.getElem?_append_left h1];exact hx) (by rw[List.getElem?_append_left (by omega)];exact hy)
theorem rp {α:Type}(xs:List α)(x:α):m_ (xs++[x]) (-1)=some x:=by
 have h:DM (xs++[x]).length (-1)=some xs.length:=by
  unfold DM
  rw[if_neg (by omega),if_pos (by rw[List.length_append,List.length_singleton];omega)]
  congr 1
  rw[List.length_append,List.length_singleton]
  omega
 unfold m_
 rw[h]
 simp
theorem Kh {α:Type}{P:α->Prop}{x y:α}(hx:P x)(hy:P y):∀z∈[x,y],P z:=λz hz=>by
 rcases List.mem_cons.mp hz with rfl|hz
 ·exact hx
 ·rw[List.mem_singleton.mp hz];exact hy
theorem IU {α:Type}{P:α->Prop}{x y w:α}(hx:P x)(hy:P y)(hw:P w):∀z∈[x,y,w],P z:=λz hz=>by
 rcases List.mem_cons.mp hz with rfl|hz
 ·exact hx
 ·exact Kh hy hw z hz
theorem uW {v:D}(h:isVal v):b6 v=true:=by
 rcases h with⟨b,rfl⟩|⟨i,rfl,_⟩<;>rw[b6]
theorem pJ {v:D}(h:bA v):b6 v=true:=by
 rcases h with rfl|h
 ·rw[b6]
 ·exact uW h
theorem bV (x:Str):b6 (.str x)=true:=by rw[b6]
theorem uV:∀{ds:List D},(∀d∈ds,b6 d=true)->iE ds=true
 |[],_=>by rw[iE]
 |d::ds,h=>by
  rw[iE,h d List.mem_cons_self,uV λe he=>h e (List.mem_cons_of_mem _ he)]
  rfl
theorem dH {ds:List D}(h:∀d∈ds,b6 d=true):b6 (.tup ds)=true:=by rw[b6];exact uV h
theorem Pt.deep:∀{p:Pt},p.ok->b6 p.told=true
 |.given v,h=>dH (Kh (bV _) (uW h))
 |.named n,h=>dH (Kh (bV _) (bV _))
 |.turned p,h=>dH (Kh (bV _) (Pt.deep (p:=p) h))
 |.pair g a b,h=>dH (IU (bV _) (Pt.deep (p:=a) h.2.1) (Pt.deep (p:=b) h.2.2))
 |.choice t a b,h=>dH λd hd=>by
  rcases List.mem_cons.mp hd with rfl|hd
  ·exact bV _
  ·exact IU (P:=λd=>b6 d=true) (Pt.deep (p:=t) h.1) (Pt.deep (p:=a) h.2.1) (Pt.deep (p:=b) h.2.2) d hd
 |.before p f,h=>dH (IU (bV _) (Pt.deep (p:=p) h.1) (pJ h.2))
 |.led a b,h=>dH (IU (bV _) (Pt.deep (p:=a) h.1) (Pt.deep (p:=b) h.2))
 |.bx p n,h=>dH (IU (bV _) (Pt.deep (p:=p) h.1) (bV _))
 |.held p n f,h=>dH λd hd=>by
  rcases List.mem_cons.mp hd with rfl|hd
  ·exact bV _
  ·exact IU (P:=λd=>b6 d=true) (Pt.deep (p:=p) h.1) (bV _) (pJ h.2.2) d hd
def CA:Cy:=λds μ Q=>∃(a:Addr) (bs:List Addr) (S S':mE) (t:Tk),ds=[.adr a,.str t.word]/\Lv a bs S μ/\L3 t S S'/\gw t.core/\t.word.length<=10000/\∀bs' μ',Lv a bs' S' μ'->Q .ag μ'
theorem JR:v3 CA:=λds μ P P' f ⟨a,bs,S,S',t,e,v,h,g,l,q⟩=>⟨a,bs,S,S',t,e,v,h,g,l,λbs' μ' v'=>f _ _ (q bs' μ' v')⟩
theorem C8 {x:Str}(g:gw x):decide (x="")=false:=by
 refine decide_eq_false λe=>g.1 ?_
 rw[e];rfl
theorem h_ {a:Addr}{bs:List Addr}{S:mE}{μ:Mu}(v:Lv a bs S μ):bj μ (.adr a)=.lst (bs.map D.adr):=by
 show((μ.lookup a).map MD.d).getD (.adr a)=_
 rw[v.top];rfl
theorem b_ {b:Addr}{l:List D}{μ:Mu}(h:μ.lookup b=some (.lst l)):bj μ (.adr b)=.lst l:=by
 show((μ.lookup b).map MD.d).getD (.adr b)=_
 rw[h];rfl
theorem Iz {t:Tk}(g:gw t.core):xl t.word "("=.str t.bare:=congrArg D.str (u7 g)
theorem I_ {t:Tk}(g:gw t.core):xm t.bare ")"=.str t.core:=congrArg D.str (vR g)
def EM:fe:=Gs (rn (aE (mC (vB lP (aE (aF 2) ak)) (vB lP (aE (aF 3) ak))) ak)) (hName 4)
 (jA (wZ (bD d0 (aE (KJ (vB lP (aE (aF 0) ak)) (vC (D.int 1))) ak))) (jA (BO 5 0) (pf (iw (aF 0) (vk (vC (D.int 1)))) (bD (dR λ_=>True) (aE (aF 5) ak)))))
abbrev Kl (a:Addr)(t:Tk)(x y:Option D):SD:=[some (.adr a),some (.str t.word),some (.str t.bare),some (.str t.core),x,y]
theorem Bu {a:Addr}{t:Tk}{x y:Option D}{bs:List Addr}{S1 S2:mE}{μ:Mu}{E:de}(v:Lv a bs S1 μ)(c:IQ S1 S2)(q:∀y' bs' μ',Lv a bs' S2 μ'->E.nx (Kl a t x y') μ') :
  jA (wZ (bD d0 (aE (KJ (vB lP (aE (aF 0) ak)) (vC (D.int 1))) ak))) (jA (BO 5 0) (pf (iw (aF 0) (vk (vC (D.int 1)))) (bD (dR λ_=>True) (aE (aF 5) ak)))) E (Kl a t x y) μ:=by
 obtain⟨rest,l,p,eS,lf,ok,hl,e2⟩:=c
 have eS':S1=(rest++[l])++[p.items]:=by rw[eS];simp
 rw[eS'] at v
 obtain⟨cs,b,eb,hcs,hb,ba⟩:=v.last
 subst eb
 have v1:=v.pop
 obtain⟨cs2,b2,eb2,hcs2,hb2,ba2⟩:=v1.last
 refine⟨_,rfl,_,((cs++[b]).length:Int),rfl,by rw[h_ v];show some _=some _;rw[List.length_map],?_⟩
 refine⟨?_,?_⟩
 ·show[D.bl (decide ((1:Int)<((cs++[b]).length:Int)))]=[.bl true]
  rw[decide_eq_true (by rw[List.length_append,hcs,List.length_append,List.length_singleton,List.length_singleton];omega)]
 refine⟨a,cs.map D.adr,.adr b,rfl,by rw[v.top,List.map_append];rfl,?_⟩
 refine⟨_,rfl,?_⟩
 rw[h_ v1]
 have hb':(d7 a (.lst (cs.map D.adr)) μ).lookup b=some (.lst p.items):=by rw[ae ba];exact hb
 refine⟨1,rfl,.adr b2,by rw[eb2,List.map_append];exact rp _ _,b2,l,rfl,hb2,Nat.lt_of_le_of_lt hl (by decide),?_⟩
 refine⟨_,rfl,p,by rw[<- b_ hb'],lf,trivial,ok,Pt.deep ok,?_⟩
 rw[e2] at q
 subst eb2
 exact q _ _ _ v1.put
theorem Bv {a:Addr}{t:Tk}{x y:Option D}{bs:List Addr}{S1 S':mE}{μ:Mu}{E:de}(h1:t.bare.length<=10000)(v:Lv a bs S1 μ)(c:yV t.c S1 S')(q:∀ δ' bs' μ',Lv a bs' S' μ'->E.nx δ' μ'):EM E (Kl a t x y) μ:=by
 have d2:=nX t
 have hb:t.bare.length<=sizeLine:=Nat.le_trans h1 (by decide)
 have hc:t.core.length<=sizeLine:=by omega
 refine⟨_,rfl,_,_,rfl,if_pos hb,_,rfl,_,_,rfl,if_pos hc,(t.c:Int),by show[D.int ((t.bare.length:Int) - (t.core.length:Int))]=[.int (t.c:Int)];rw[d2],by omega,by omega,?_⟩
 refine⟨λi δ' μ'=>∃x y bs S1,δ'=Kl a t x y/\Lv a bs S1 μ'/\yV (t.c - i) S1 S',⟨x,y,bs,S1,rfl,v,c⟩,?_,?_⟩
 ·rintro i d δ' μ' hd ⟨x,y,bs,S1,rfl,v,c⟩
  have hi:i<t.c:=by
   have:=(List.getElem?_eq_some_iff.mp hd).1
   simpa using this
  obtain⟨k,ek⟩:∃k,t.c - i=k+1:=⟨t.c - i - 1,by omega⟩
  rw[ek] at c
  obtain⟨S2,c1,c2⟩:=c
  exact Bu (x:=some d) (y:=y) v c1 λy' bs' μ' v'=>⟨some d,y',bs',S2,rfl,v',by rw[show t.c - (i+1)=k by omega];exact c2⟩
 ·rintro δ' μ' ⟨x,y,bs,S1,rfl,v,c⟩
  have e:t.c - ((List.range (t.c:Int).toNat).map λi:Nat=>D.int (0+(i:Int))).length=0:=by simp
  rw[e] at c
  cases c
  exact q _ _ _ v
theorem v8 (d:Df K mg "put_word" l7 ["levels","word"])(n_len:mg "len"=none)(n_range:mg "range"=none)(gd:GI mg "DEEPEST_BRACKETS" 20)(aU:bE P w K mg base j "need_form" ["holds"] d0)(ff:bE P w K mg base j "bracket_told" ["items"] (dR λ_=>True)) :
  Ct P w K mg base (j+1) "put_word" ["levels","word"] CA:=by
 obtain⟨t1,q_DEEPEST_BRACKETS⟩:=gd.ex
 have r_DEEPEST_BRACKETS:RelV (.int 20) (.int 20 t1):=⟨_,rfl⟩
 have v_DEEPEST_BRACKETS:∀H,Dv K H (.int 20) (.int 20):=λ_=>.int _
 refine d.K1 oh JR (λds μ Q ⟨a,bs,S,S',t,e,_⟩=>by rw[e];rfl) (λf cdv A outer s H E hr=>have hu:=hr.units;have hh:=hr.hd;have sc:=oh
  (ai (cp (aq (i:=2) sc.nd rfl (Or.inl rfl) (Ae (by rfl) (by rfl) (by rfl) (by rfl) (dv 1) (aA aP aC) (by rfl))))
 (ai (cp (aq (i:=3) sc.nd rfl (Or.inl rfl) (Ag (by rfl) (by rfl) (by rfl) (by rfl) (dv 2) (aA aP aC) (by rfl))))
 (ai (wj (i:=0) rfl (Or.inl rfl) (Iy (x:="at") (caps:=[]) (cn:=[]) (cl:=[]) (i8 (by rfl) (by rfl) (by decide +kernel) (by decide +kernel) (by decide +kernel)) rfl (fu (by rfl) n_range (aA (fm (cZ (by rfl) n_len (aA (dv 1) aC)) (cZ (by rfl) n_len (aA (dv 2) aC))) aC)) (λC fp s₂ H₂=>bY (i:=0) (show(["at"]:List Str).Nodup by decide +kernel) rfl (Or.inl rfl) (.inr rfl)) (λC fp s₂ H₂=>fE) (λC fp s₂ H₂=>(A4 aC))))
 (ai (p7 (aK aU hr (by omega) (by rfl) (aA (kn (K3 hu (dv 3) aP) (fH (GL (fm (cZ (by rfl) n_len (aA (dv 0) aC)) aD) (dD (by rfl) q_DEEPEST_BRACKETS r_DEEPEST_BRACKETS v_DEEPEST_BRACKETS)))) aC)))
 (ai (p6 (aj (dv 0) (oN aD) (λ_ _=>rfl)) (dv 3))
 (cJ (tG PassesOwn.never rfl (fu (by rfl) n_range (aA (fm (cZ (by rfl) n_len (aA (dv 2) aC)) (cZ (by rfl) n_len (aA (dv 3) aC))) aC)) (pQ (i:=4) sc.nd rfl (Or.inl rfl)) (ai (p7 (aK aU hr (by omega) (by rfl) (aA (GG (cZ (by rfl) n_len (aA (dv 0) aC)) aD) aC)))
 (ai (Dp (k:=5) (i:=0) sc.nd rfl (Or.inl rfl) rfl (Or.inl rfl))
 (cJ (p6 (aj (dv 0) (oN aD) (λ_ _=>rfl)) (aK ff hr (by omega) (by rfl) (aA (dv 5) aC)))))))))))))) ?_
 rintro ds μ Q ⟨a,bs,S,S',t,rfl,v,⟨R,l,eR,hR,hl,hc⟩,g,hw,q⟩
 have hw2:t.word.length<=sizeLine:=Nat.le_trans hw (by decide)
 have hb2:t.bare.length<=t.word.length:=by have:=nW t;omega
 have hc2:t.core.length<=t.bare.length:=by have:=nX t;omega
 have ho:t.o<=10000:=by have:=nW t;omega
 have hcc:t.c<=10000:=by have:=nX t;omega
 refine⟨_,rfl,t.word,rfl,"(",rfl,hw2,?_⟩
 rw[Iz g]
 refine⟨_,rfl,t.bare,rfl,")",rfl,Nat.le_trans hb2 hw2,?_⟩
 rw[I_ g]
 refine⟨a,bs.map D.adr,rfl,v.top,?_⟩
 have d1:=nW t
 refine⟨_,rfl,_,_,rfl,if_pos hw2,_,rfl,_,_,rfl,if_pos (Nat.le_trans hb2 hw2),(t.o:Int),by show[D.int ((t.word.length:Int) - (t.bare.length:Int))]=[.int (t.o:Int)];rw[d1],by omega,by omega,?_⟩
 refine⟨?_,λd hd=>⟨rfl,zL0,λb=>⟨b,rfl,rfl⟩⟩,λc bs' hbs nd0 nd=>?_⟩
 ·rw[List.length_map,List.length_range];exact Nat.lt_of_le_of_lt (show(t.o:Int).toNat<=10000 by omega) (by decide)
 have hbs':bs'.length=t.o:=by rw[hbs];simp
 have v1:=v.grow hbs' _ nd
 rw[eR] at v1
 have len1:=v1.len
 refine⟨c,bs'.map D.adr,rfl,look_same,?_,?_⟩
 ·rw[List.length_map,List.length_map,<- List.length_append,len1,List.length_append,List.length_singleton];exact Nat.le_trans (Nat.add_le_add_right hR 1) (by decide)
 refine⟨_,rfl,true,?_,aR ?_⟩
 ·show D.bl (!decide (t.core=""))=.bl true
  rw[C8 g];rfl
 refine⟨_,rfl,_,((bs++bs').length:Int),rfl,by rw[h_ v1];show some _=some _;rw[List.length_map],?_,?_⟩
 ·show[D.bl (decide (((bs++bs').length:Int) - 1<=20))]=[.bl true]
  rw[decide_eq_true (by rw[len1,List.length_append,List.length_singleton];omega)]
 obtain⟨cs,b,eb,hcs,hb,ba⟩:=v1.last
 refine⟨_,rfl,?_⟩
 rw[h_ v1]
 refine⟨1,rfl,.adr b,by rw[eb,List.map_append];exact rp _ _,b,l,rfl,hb,Nat.lt_of_le_of_lt hl (by decide),?_⟩
 refine⟨_,rfl,bV _,?_⟩
 rw[eb] at v1
 exact Bv (Nat.le_trans hb2 hw) v1.put hc λδ' bs' μ' v'=>q bs' μ' v'
theorem uK:∀{ts:List Tk} {t:Tk},t∈oF ts->∃u∈ts,t.core=u.core
 |[],t,h=>by cases h
 |[u],t,h=>⟨u,List.mem_cons_self,by rw[List.mem_singleton.mp h]⟩
 |u::v::r,t,h=>by
  rcases List.mem_cons.mp h with h|h
  ·exact⟨u,List.mem_cons_self,by rw[h]⟩
  ·obtain⟨x,hx,e⟩:=uK h
   exact⟨x,List.mem_cons_of_mem _ hx,e⟩
theorem Bg:∀{ts:List Tk} {t:Tk},t∈xO ts->∃u∈ts,t.core=u.core
 |[],t,h=>by cases h
 |u::r,t,h=>by
  rcases List.mem_cons.mp h with h|h
  ·exact⟨u,List.mem_cons_self,by rw[h]⟩
  ·exact⟨t,List.mem_cons_of_mem _ h,rfl⟩
def ku (ts:List Tk):Prop:=∀t∈ts,gw t.core
theorem eE {ts:List Tk}(h:ku ts):ku (wrap ts):=λt ht=>by
 obtain⟨u,hu,e⟩:=Bg ht
 obtain⟨v,hv,e2⟩:=uK hu
 rw[e,e2];exact h v hv
theorem bh {xs ys:List Tk}(h:ku xs)(g:ku ys):ku (xs++ys):=λt ht=>(List.mem_append.mp ht).elim (h t) (g t)
theorem i9 {w:Str}(h:gw w):ku (cX w):=λt ht=>by rw[List.mem_singleton.mp ht];exact h
def xq (w:Str):Bool:=!w.cps.toList.isEmpty&&w.cps.toList.all λc=>c != 32&&c != 40&&c != 41
theorem sT {w:Str}(h:xq w=true):gw w:=by
 unfold xq at h
 rw[Bool.and_eq_true] at h
 refine⟨λe=>by rw[e] at h;exact absurd h.1 (by decide),λx hx=>?_⟩
 have:=List.all_eq_true.mp h.2 x hx
 simpa [and_assoc] using this
theorem uq {v:D}(h:isVal v):gw (bI v):=by
 rcases h with⟨b,rfl⟩|⟨i,rfl,h1,h2⟩
 ·cases b<;>exact sT (by decide +kernel)
 ·exact(g9 h1 h2).good
theorem uo {f:D}(h:bA f):ku (zr f):=by
 rcases h with rfl|h
 ·intro t ht;cases ht
 ·have e:zr f=cX (bI f):=by rcases h with⟨b,rfl⟩|⟨i,rfl,_⟩<;>rfl
  rw[e];exact i9 (uq h)
theorem yw {g:Str}(h:g∈dY):gw g:=by
 have all:∀g∈dY,xq g=true:=by decide +kernel
 exact sT (all g h)
theorem gx {w:Str}(h:xq w=true:=by decide +kernel):ku (cX w):=i9 (sT h)
theorem sS {x:Str}(h:d6 x):ku (cX x):=i9 (yA h.1).good
theorem bf:∀p:Pt,p.ok->ku p.toks
 |.given v,h=>i9 (uq h)
 |.named n,h=>sS h
 |.turned p,h=>eE (bh gx (bf p h))
 |.pair g a b,h=>eE (bh (bf a h.2.1) (bh (i9 (yw h.1)) (bf b h.2.2)))
 |.choice t a b,h=>eE (bh gx (bh (bf t h.1) (bh (bf a h.2.1) (bf b h.2.2))))
 |.before p f,h=>eE (bh (bh gx (bf p h.1)) (uo h.2))
 |.led a b,h=>eE (bh (bf a h.1) (bh gx (bf b h.2)))
 |.bx p n,h=>eE (bh (bf p h.1) (bh gx (sS h.2)))
 |.held p n f,h=>eE (bh (bh (bf p h.1) (bh gx (sS h.2.1))) (uo h.2.2))
theorem BH {c:Nat}:∀{ws:List (List Nat)} {w:List Nat},w∈ws->w.length<=(jl c ws).length
 |[],_,h=>by cases h
 |[v],w,h=>by rw[List.mem_singleton.mp h];exact Nat.le_refl _
 |v::u::r,w,h=>by
  rw[jl,List.length_append,List.length_cons]
  rcases List.mem_cons.mp h with h|h
  ·rw[h];omega
  ·have:=BH (c:=c) h
   omega
theorem Ci {p:Pt}{t:Tk}(h:t∈p.toks):t.word.length<=p.text.length:=by
 rw[ck,ck,cz,oH]
 exact BH (List.mem_map.mpr ⟨t,h,rfl⟩)
theorem zp (p:Pt):p.text=Str.join ⟨#[32]⟩ (p.toks.map Tk.word):=by
 apply fY
 rw[kP,cz,List.map_map]
 unfold tl
 congr 1
theorem xG {p:Pt}(ok:p.ok):Txt.split p.text " "=p.toks.map Tk.word:=by
 rw[zp]
 refine m4 32 _ (by simpa using bB p) λw hw=>?_
 obtain⟨t,ht,rfl⟩:=List.mem_map.mp hw
 rw[oH]
 intro h
 unfold Tk.l at h
 rcases List.mem_append.mp h with h|h
 ·exact absurd (List.eq_of_mem_replicate h) (by decide)
 ·rcases List.mem_append.mp h with h|h
  ·exact(bf p ok t ht).2 32 h |>.1 rfl
  ·exact absurd (List.eq_of_mem_replicate h) (by decide)
def L_ (p:Pt):Prop:=p.ok/\ni p/\p.text.length<=8000
def kX (g:Pt->D):cg:=λds Q=>∃p:Pt,ds=[.lst ((p.toks.map Tk.word).map D.str)]/\L_ p/\Q (g p)
theorem x6 {g:Pt->D}:b4 (kX g):=λds P P' f ⟨p,e,h,q⟩=>⟨p,e,h,f _ q⟩
theorem xx {g:Pt->D}(ds:List D)(Q:D->Prop)(h:kX g ds Q):ds.length=1:=by obtain⟨x,e,_⟩:=h;rw[e];rfl
def vV (A:dA):cg:=λds Q=>∃p:Pt,ds=[.str p.text]/\L_ p/\Q (p.d A)
theorem iB (d:Df K mg "parts_told" iX ["words"])(n_len:mg "len"=none)(aU:bE P w K mg base j "need_form" ["holds"] d0)(bq:bE P w K mg base j "told_by" ["item"] tY)(cs_put_word:Ct P w K mg base j "put_word" ["levels","word"] CA) :
  bE P w K mg base (j+1) "parts_told" ["words"] (kX λp=>.lst [p.told]):=by
 refine d.F_ lN x6 xx (λf cdv A outer s H E hr=>have hu:=hr.units;have hh:=hr.hd;have sc:=lN
  (ai (x_ (i:=1) sc.nd rfl (Or.inl rfl) (GV (A4 aC)))
 (ai (tG PassesOwn.never rfl (gz (dv 0)) (pQ (i:=2) sc.nd rfl (Or.inl rfl)) (cJ (BV cs_put_word hr (by omega) (by rfl) (aA (dv 1) (aA (dv 2) aC)))))
 (ai (p7 (aK aU hr (by omega) (by rfl) (aA (iD hu (cZ (by rfl) n_len (aA (dv 1) aC)) aD) aC)))
 (cJ (x8 (uS (x:="item") (caps:=[]) (cn:=[]) (cl:=[]) (i8 (by rfl) (by rfl) (by decide +kernel) (by decide +kernel) (by decide +kernel)) rfl (gz (aj (dv 1) aD (λ_ _=>rfl))) (λC fp s₂ H₂=>bY (i:=0) (show(["item"]:List Str).Nodup by decide +kernel) rfl (Or.inl rfl) (.inr rfl)) (λC fp s₂ H₂=>fE) (λC fp s₂ H₂=>(aK bq hr (by omega) (by rfl) (aA (dv 0) aC)))))))))) ?_
 rintro ds Q ⟨p,rfl,⟨ok,ob,hl⟩,q⟩
 have run:Run p.toks ([]++[[]]) ([]++[[]++[p.item]]):=cR p ok [] [] (by have:=ob.1;show 0+p.depth<=21;omega) (by simp)
 refine⟨zL0,λb a nd nd2=>?_⟩
 have ab:a≠b:=by
  rw[List.map_cons,List.nodup_cons] at nd
  exact λe=>nd.1 (by rw[e];exact List.mem_cons_self)
 have v0:Lv a [b] ([]++[[]]) [(a,.lst [.adr b]),(b,.lst [])]:=by
  refine⟨look_same,rfl,λi x l h1 h2=>?_,List.nodup_cons.mpr ⟨λh=>ab (List.mem_singleton.mp h),List.nodup_cons.mpr ⟨λh=>(nomatch h),List.nodup_nil⟩⟩⟩
  have hi:i=0:=by
   have:=(List.getElem?_eq_some_iff.mp h1).1
   simpa using this
  subst hi
  have e1:b=x:=by simpa using h1
  have e2:[]=l:=by simpa using h2
  subst e1 e2
  rw[dJ ab.symm];exact look_same
 refine⟨_,rfl,_,rfl,λi δ' μ'=>∃x bs S,δ'=[some (.lst ((p.toks.map Tk.word).map D.str)),some (.adr a),x]/\Lv a bs S μ'/\Run (p.toks.drop i) S ([]++[[]++[p.item]]),⟨none,[b],_,rfl,v0,run⟩,?_,?_⟩
 ·rintro i d δ' μ' hd ⟨x,bs,S,rfl,v,r⟩
  rw[List.map_map,List.getElem?_map] at hd
  cases ht:p.toks[i]? with
  |none=>rw[ht] at hd;cases hd
  |some t =>
   rw[ht] at hd
   cases hd
   have hi:=(List.getElem?_eq_some_iff.mp ht)
   rw[List.drop_eq_getElem_cons hi.1,hi.2] at r
   obtain⟨S1,s1,r1⟩:=r
   have tm:=List.mem_of_getElem? ht
   exact⟨_,rfl,_,rfl,a,bs,S,S1,t,rfl,v,s1,bf p ok t tm,Nat.le_trans (Ci tm) (Nat.le_trans hl (by decide)),λbs' μ' v'=>⟨_,bs',S1,rfl,v',r1⟩⟩
 ·rintro δ' μ' ⟨x,bs,S,rfl,v,r⟩
  rw[List.length_map,List.length_map,List.drop_length] at r
  cases r
  obtain⟨cs,c,eb,hcs,hb,_⟩:=v.last
  have ecs:cs=[]:=List.length_eq_zero_iff.mp hcs
  subst ecs
  subst eb
  have vw:lR μ' (.adr a)=.lst [.lst [p.item]]:=by
   unfold lR
   rw[h_ v]
   show D.lst [bj μ' (.adr c)]=_
   rw[b_ hb]
   rfl
  refine⟨_,rfl,_,(1:Int),rfl,by rw[h_ v];rfl,rfl,?_⟩
  refine⟨_,rfl,?_⟩
  rw[vw]
  refine⟨_,rfl,_,rfl,[some p.told],rfl,λi d o h1 h2=>?_,(show 1<sizeLine by decide),q⟩
  have hi:i=0:=by
   have:=(List.getElem?_eq_some_iff.mp h1).1
   simpa using this
  subst hi
  have e1:p.item=d:=by simpa using h1
  have e2:some p.told=o:=by simpa using h2
  subst e1 e2
  exact⟨rfl,λ_=>⟨_,rfl,p,rfl,ok,rfl⟩⟩
theorem lW (d:Df K mg "one_told" l5 ["words"])(n_len:mg "len"=none)(aU:bE P w K mg base j "need_form" ["holds"] d0)(iB:bE P w K mg base j "parts_told" ["words"] (kX λp=>.lst [p.told])) :
  bE P w K mg base (j+1) "one_told" ["words"] (kX λp=>p.told):=by
 refine d.dC oa x6 xx (λf cdv A outer s H E hr=>have hu:=hr.units;have hh:=hr.hd;have sc:=oa
  (aH (aq (i:=1) sc.nd rfl (Or.inl rfl) (aK iB hr (by omega) (by rfl) (aA (dv 0) aC)))
 (aH (bZ (aK aU hr (by omega) (by rfl) (aA (iD hu (cZ (by rfl) n_len (aA (dv 1) aC)) aD) aC)))
 (aI (aQ (aj (dv 1) aD (λ_ _=>rfl))))))) ?_
 rintro ds Q ⟨p,rfl,ok,q⟩
 exact⟨_,rfl,p,rfl,ok,_,rfl,_,_,rfl,rfl,rfl,_,rfl,_,rfl,q⟩
theorem nG {i:Nat}(d:Df K mg "part_by" nz ["text"])(lW:bE P w K mg base j "one_told" ["words"] (kX λp=>p.told))(c_part_of:bE P w K mg base j "part_of" ["told"] (zg A 10)) :
  bE P w K mg base (j+1) "part_by" ["text"] (vV A):=by
 refine d.dC qR (λds P P' f ⟨p,e,h,q⟩=>⟨p,e,h,f _ q⟩) (λds Q ⟨p,e,_⟩=>by rw[e];rfl) (λf cdv A outer s H E hr=>have hu:=hr.units;have hh:=hr.hd;have sc:=qR
  (aI (aQ (aK c_part_of hr (by omega) (by rfl) (aA (aK lW hr (by omega) (by rfl) (aA (sE (dv 0) (aA aP aC)) aC)) aC))))) ?_
 rintro ds Q ⟨p,rfl,ok,q⟩
 refine⟨_,rfl,⟨_,rfl⟩,p.text," ",rfl,rfl,by decide,Nat.le_trans (Nat.add_le_add_right ok.2.2 2) (by decide),?_⟩
 exact⟨p,by rw[xG ok.1],ok,p,rfl,ok.2.1.1,ok.1,ok.2.1,q⟩
def Hu:Nat->D->Prop
 |_,.ag=>True
 |_,.bl _=>True
 |_,.int _=>True
 |_,.str _=>True
 |n+1,.lst xs=>xs.length<1000/\∀x∈xs,Hu n x
 |n+1,.tup xs=>xs.length<1000/\∀x∈xs,Hu n x
 |_,_=>False
theorem xF {v:D}{n:Nat}(h:bA v):Hu n v:=by
 rcases h with rfl|⟨b,rfl⟩|⟨i,rfl,_⟩<;>cases n<;>trivial
theorem fA {s:Str}{n:Nat}:Hu n (.str s):=by cases n<;>trivial
theorem Ee:∀(p:Pt) (n:Nat),p.ok->p.depth<=n->Hu n p.told:=by
 intro p
 induction p with
 |given v=>intro n ho hd;cases n with
  |zero=>simp only[Pt.depth] at hd;omega
  |succ n=>exact⟨(by decide:2<1000),λx hx=>by simp only[List.mem_cons,List.not_mem_nil,or_false] at hx;rcases hx with rfl|rfl;exact fA;exact xF (.inr ho)⟩
 |named s=>intro n ho hd;cases n with
  |zero=>simp only[Pt.depth] at hd;omega
  |succ n=>exact⟨(by decide:2<1000),λx hx=>by simp only[List.mem_cons,List.not_mem_nil,or_false] at hx;rcases hx with rfl|rfl;exact fA;exact fA⟩
 |turned a iha=>intro n ho hd;cases n with
  |zero=>simp only[Pt.depth] at hd;omega
  |succ n=>exact⟨(by decide:2<1000),λx hx=>by simp only[List.mem_cons,List.not_mem_nil,or_false] at hx;simp only[Pt.depth] at hd;rcases hx with rfl|rfl;exact fA;exact iha n ho (by omega)⟩
 |pair g a b iha ihb=>intro n ho hd;cases n with
  |zero=>simp only[Pt.depth] at hd;omega
  |succ n=>exact⟨(by decide:3<1000),λx hx=>by simp only[List.mem_cons,List.not_mem_nil,or_false] at hx;simp only[Pt.depth] at hd;rcases hx with rfl|rfl|rfl;exact fA;exact iha n ho.2.1 (by omega);exact ihb n ho.2.2 (by omega)⟩
 |choice t a b iht iha ihb=>intro n ho hd;cases n with
  |zero=>simp only[Pt.depth] at hd;omega
  |succ n=>exact⟨(by decide:4<1000),λx hx=>by simp only[List.mem_cons,List.not_mem_nil,or_false] at hx;simp only[Pt.depth] at hd;rcases hx with rfl|rfl|rfl|rfl;exact fA;exact iht n ho.1 (by omega);exact iha n ho.2.1 (by omega);exact ihb n ho.2.2 (by omega)⟩
 |before a f iha=>intro n ho hd;cases n with
  |zero=>simp only[Pt.depth] at hd;omega
  |succ n=>exact⟨(by decide:3<1000),λx hx=>by simp only[List.mem_cons,List.not_mem_nil,or_false] at hx;simp only[Pt.depth] at hd;rcases hx with rfl|rfl|rfl;exact fA;exact iha n ho.1 (by omega);exact xF ho.2⟩
 |led a b iha ihb=>intro n ho hd;cases n with
  |zero=>simp only[Pt.depth] at hd;omega
  |succ n=>exact⟨(by decide:3<1000),λx hx=>by simp only[List.mem_cons,List.not_mem_nil,or_false] at hx;simp only[Pt.depth] at hd;rcases hx with rfl|rfl|rfl;exact fA;exact iha n ho.1 (by omega);exact ihb n ho.2 (by omega)⟩
 |bx a s iha=>intro n ho hd;cases n with
  |zero=>simp only[Pt.depth] at hd;omega
  |succ n=>exact⟨(by decide:3<1000),λx hx=>by simp only[List.mem_cons,List.not_mem_nil,or_false] at hx;simp only[Pt.depth] at hd;rcases hx with rfl|rfl|rfl;exact fA;exact iha n ho.1 (by omega);exact fA⟩
 |held a s f iha=>intro n ho hd;cases n with
  |zero=>simp only[Pt.depth] at hd;omega
  |succ n=>exact⟨(by decide:4<1000),λx hx=>by simp only[List.mem_cons,List.not_mem_nil,or_false] at hx;simp only[Pt.depth] at hd;rcases hx with rfl|rfl|rfl|rfl;exact fA;exact iha n ho.1 (by omega);exact fA;exact xF ho.2.2⟩
def n9 (n:Nat):cg:=λds Q=>∃d k,ds=[d,d]/\k<n/\Hu k d/\Q (.bl true)
theorem Gy {n:Nat}:b4 (n9 n):=λds P P' f ⟨d,k,e,l,h,q⟩=>⟨d,k,e,l,h,f _ q⟩
theorem Cj (xs:List D)(i:Nat)(d:D)(h:(List.zipWith (λx y=>D.tup [x,y]) xs xs)[i]?=some d):∃x∈xs,d=.tup [x,x]:=by
 rw[List.getElem?_zipWith] at h
 cases e:xs[i]? with
 |none=>rw[e] at h;cases h
 |some x =>
  rw[e] at h
  exact⟨x,List.mem_of_getElem? e,by simpa using h.symm⟩
theorem Df.never {x:Str}{st:Stmt}{ps:List Str}{sd:cg}(d:Df K mg x st ps)(h:∀ds Q,¬sd ds Q):bE P w K mg base j x ps sd:=by
 obtain⟨f,fd,F,m,b⟩:=d.ex
 exact⟨⟨f,fd,⟨λvs H Q E ⟨ds,_,q⟩=>(h _ _ q).elim,λA outer s H args us vs Q E _ _ _ _ ⟨ds,_,q⟩=>(h _ _ q).elim⟩,m,F.kp,b⟩,λds P P' g q=>(h _ _ q).elim⟩
theorem vU {xs:List D}{Q:D->Prop}{caps:List Nat}{δ:SD}{k:Nat}(hk:k<n)(hl:xs.length<1000)(h:∀x∈xs,Hu k x)(q:Q (.bl true)) :
  ∃outs:List (Option D),outs.length=(List.zipWith (λx y=>D.tup [x,y]) xs xs).length /\
   (∀(i:Nat) (d:D) (o:Option D),(List.zipWith (λx y=>D.tup [x,y]) xs xs)[i]?=some d->outs[i]?=some o->∃x y,d=.tup [x,y]/\IF (some x::some y::iu caps δ) λb=>b=o.isSome/\(b=true->bD (n9 n) (aE (aF 0) (aE (aF 1) ak)) (some x::some y::iu caps δ) λr=>o=some r)) /\
   (List.zipWith (λx y=>D.tup [x,y]) xs xs).length<sizeLine/\ak δ (λds=>yH (D.lst (outs.filterMap id)::ds) Q):=by
 have hz:(List.zipWith (λx y=>D.tup [x,y]) xs xs).length=xs.length:=by rw[List.length_zipWith,Nat.min_self]
 refine⟨List.replicate xs.length (some (.bl true)),by rw[hz,List.length_replicate],λi d o h1 h2=>?_,by rw[hz];exact Nat.lt_of_lt_of_le hl (by decide),List.replicate xs.length true,?_,?_⟩
 ·obtain⟨x,hx,rfl⟩:=Cj xs i d h1
  have ho:o=some (.bl true):=by
   have:=List.mem_of_getElem? h2
   exact(List.mem_replicate.mp this).2
  subst ho
  exact⟨x,x,rfl,rfl,λ_=>⟨_,rfl,_,rfl,x,k,rfl,hk,h x hx,rfl⟩⟩
 ·rw[List.map_replicate]
  congr 2
  generalize xs.length=k
  induction k with
  |zero=>rfl
  |succ k ih=>rw[List.replicate_succ,List.replicate_succ,List.filterMap_cons];exact congrArg _ ih
 ·have e:(List.replicate xs.length true).all id=true:=by
   rw[List.all_eq_true]
   intro b hb
   exact(List.mem_replicate.mp hb).2
  rw[e]
  exact q
theorem F8 (d:Df K mg "_law_same" gP ["_law_found","_law_due"])(n_isinstance:mg "isinstance"=none)(n_tuple:mg "tuple"=none)(n_list:mg "list"=none)(n_len:mg "len"=none)(n_all:mg "all"=none)(n_zip:mg "zip"=none)(n_bool:mg "bool"=none)(n_dict:mg "dict"=none)
  (c__law_same:bE P w K mg base j "_law_same" ["_law_found","_law_due"] (n9 n)):bE P w K mg base (j+1) "_law_same" ["_law_found","_law_due"] (n9 (n+1)):=by
 refine d.dC mn Gy (λds Q ⟨p,_,e,_⟩=>by rw[e];rfl) (λf cdv A outer s H E hr=>have hu:=hr.units;have hh:=hr.hd;have sc:=mn
  (aH (cE (eB (BD (by rfl) n_isinstance (by rfl) n_dict (dv 1))) CH ar)
 (aH (cE (eB (GJ (dv 1) (by rfl) n_isinstance (by rfl) n_tuple DC.boot_tuple (by rfl) n_list DC.boot_list (by decide) (by decide))) (aH (cE (oq.td (w_or (zm hu (kO (by rfl) n_isinstance (by rfl) n_tuple (dv 1)) (kO (by rfl) n_isinstance (by rfl) n_tuple (dv 0))) (lS (zm hu (u4 (by rfl) n_isinstance (by rfl) n_list (dv 1)) (u4 (by rfl) n_isinstance (by rfl) n_list (dv 0)))))) (aI (aQ AZ)) ar)
 (aI (aQ (kn (iD hu (cZ (by rfl) n_len (aA (dv 0) aC)) (cZ (by rfl) n_len (aA (dv 1) aC))) (fH (uP hh (by rfl) n_all (aA (Im (x:="_law_one") (y:="_law_other") (caps:=[]) (cn:=[]) (cl:=[]) (i8 (by rfl) (by rfl) (by decide +kernel) (by decide +kernel) (by decide +kernel)) rfl (JJ (by rfl) n_zip (aA (dv 0) (aA (dv 1) aC))) (λC fp s₂ H₂=>HZ rfl (vJ (bY (i:=0) (show(["_law_one","_law_other"]:List Str).Nodup by decide +kernel) rfl (Or.inl rfl) (.inr rfl)) (vJ (bY (i:=1) (show(["_law_one","_law_other"]:List Str).Nodup by decide +kernel) rfl (Or.inl rfl) (.inr rfl)) D_))) (λC fp s₂ H₂=>fE) (λC fp s₂ H₂=>(aK c__law_same hr (by omega) (by rfl) (aA (dv 0) (aA (dv 1) aC))))) aC))))))) ar)
 (aI (aQ (kn (iD hu (g6 (by rfl) n_isinstance (by rfl) n_bool (dv 0)) (g6 (by rfl) n_isinstance (by rfl) n_bool (dv 1))) (fH (iD hu (dv 0) (dv 1))))))))) ?_
 rintro ds Q ⟨d,k,rfl,hk,hs,q⟩
 cases d with
 |lst xs =>
  obtain⟨k,rfl⟩:∃m,k=m+1:=by
   cases k with
   |zero=>exact hs.elim
   |succ k=>exact⟨k,rfl⟩
  refine⟨_,rfl,false,rfl,false,rfl,aO ⟨_,rfl,_,_,rfl,rfl,_,rfl,aR ⟨_,rfl,_,rfl,_,rfl,_,rfl,false,rfl,aO ⟨_,rfl,_,rfl,_,rfl,_,rfl,false,rfl,aO ?_⟩⟩⟩⟩
  exact⟨_,rfl,_,_,rfl,rfl,_,rfl,_,_,rfl,rfl,true,congrArg D.bl (by simp),aR ⟨_,rfl,_,rfl,_,_,_,_,xs,xs,rfl,rfl,rfl,vU (by omega) hs.1 hs.2 q⟩⟩
 |tup xs =>
  obtain⟨k,rfl⟩:∃m,k=m+1:=by
   cases k with
   |zero=>exact hs.elim
   |succ k=>exact⟨k,rfl⟩
  refine⟨_,rfl,false,rfl,false,rfl,aO ⟨_,rfl,_,_,rfl,rfl,_,rfl,aR ⟨_,rfl,_,rfl,_,rfl,_,rfl,false,rfl,aO ⟨_,rfl,_,rfl,_,rfl,_,rfl,false,rfl,aO ?_⟩⟩⟩⟩
  exact⟨_,rfl,_,_,rfl,rfl,_,rfl,_,_,rfl,rfl,true,congrArg D.bl (by simp),aR ⟨_,rfl,_,rfl,_,_,_,_,xs,xs,rfl,rfl,rfl,vU (by omega) hs.1 hs.2 q⟩⟩
 |ag=>exact⟨_,rfl,false,rfl,false,rfl,aO ⟨_,rfl,_,_,rfl,rfl,_,rfl,aO ⟨_,rfl,_,rfl,_,rfl,_,rfl,true,rfl,aR ⟨_,rfl,_,rfl,q⟩⟩⟩⟩
 |bl b=>exact⟨_,rfl,false,rfl,false,rfl,aO ⟨_,rfl,_,_,rfl,rfl,_,rfl,aO ⟨_,rfl,_,rfl,_,rfl,_,rfl,true,rfl,aR ⟨_,rfl,_,rfl,by simpa [nI,yu] using q⟩⟩⟩⟩
 |int b=>exact⟨_,rfl,false,rfl,false,rfl,aO ⟨_,rfl,_,_,rfl,rfl,_,rfl,aO ⟨_,rfl,_,rfl,_,rfl,_,rfl,true,rfl,aR ⟨_,rfl,_,rfl,by simpa [nI,yu] using q⟩⟩⟩⟩
 |str b=>exact⟨_,rfl,false,rfl,false,rfl,aO ⟨_,rfl,_,_,rfl,rfl,_,rfl,aO ⟨_,rfl,_,rfl,_,rfl,_,rfl,true,rfl,aR ⟨_,rfl,_,rfl,by simpa [nI,yu] using q⟩⟩⟩⟩
 |_=>cases k<;>exact hs.elim
theorem vS (d:Df K mg "_law_same" gP ["_law_found","_law_due"])(n_isinstance:mg "isinstance"=none)(n_tuple:mg "tuple"=none)(n_list:mg "list"=none)(n_len:mg "len"=none)(n_all:mg "all"=none)(n_zip:mg "zip"=none)(n_bool:mg "bool"=none)(n_dict:mg "dict"=none) :
  ∀n,bE P w K mg base n "_law_same" ["_law_found","_law_due"] (n9 n)
 | 0=>Df.never d λds Q ⟨_,_,_,h,_⟩=>absurd h (by omega)
 |n+1=>F8 d n_isinstance n_tuple n_list n_len n_all n_zip n_bool n_dict (vS d n_isinstance n_tuple n_list n_len n_all n_zip n_bool n_dict n)
def wH:D->List Str
 |.ag=>[]
 |d=>[bI d]
def Pt.ws:Pt->List Str
 |.turned p=>["not",p.text]
 |.pair g a b=>[a.text,g,b.text]
 |.choice t a b=>["if",t.text,a.text,b.text]
 |.before p f=>[("before":Str),p.text]++wH f
 |.led h r=>[h.text,"then",r.text]
 |.bx p n=>[p.text,"when",n]
 |.held p n f=>[p.text,"held",n]++wH f
 |_=>[]
theorem BJ (ws:List Str):(Txt.join " " ws).cps.toList=jl 32 (ws.map λw=>w.cps.toList):=by
 show(Builtin.Str.glued " " ws).cps.toList=_
 rw[StrLaws.glued_eq_join]
 exact kP 32 ws
theorem xo (a b:Str)(r:List Str)(f:D)(h:bA f):jl 32 (((a::b::r)++wH f).map λw=>w.cps.toList)=jl 32 ((a::b::r).map λw=>w.cps.toList)++(dX f).cps.toList:=by
 rcases h with rfl|h
 ·show jl 32 (((a::b::r)++[]).map _)=_++("":Str).cps.toList
  rw[List.append_nil]
  exact(List.append_nil _).symm
 ·have e:wH f=[bI f]/\dX f=(" ":Str)++bI f:=by rcases h with⟨b,rfl⟩|⟨i,rfl,_⟩<;>exact⟨rfl,rfl⟩
  rw[e.1,e.2,List.map_append,wR 32 (by simp) (by simp),av]
  rfl
theorem yS {p:Pt}(ok:p.ok)(lf:p.leaf=false):(("(":Str)++Txt.join " " p.ws++")")=p.text:=by
 apply fY
 rw[av,av,BJ]
 cases p with
 |given=>cases lf
 |named=>cases lf
 |before x f =>
  rw[show(Pt.before x f).ws=(("before":Str)::x.text::[])++wH f from rfl,xo _ _ _ f ok.2,Pt.text]
  simp only[av,List.map_cons,List.map_nil,jl,List.append_assoc,List.cons_append,List.nil_append]
  rfl
 |held x n f =>
  rw[show(Pt.held x n f).ws=(x.text::"held"::[n])++wH f from rfl,xo _ _ _ f ok.2.2,Pt.text]
  simp only[av,List.map_cons,List.map_nil,jl,List.append_assoc,List.cons_append,List.nil_append]
  rfl
 |_ =>
  simp only[Pt.text,Pt.ws,av,List.map_cons,List.map_nil,jl,List.append_assoc,List.cons_append,List.nil_append]
  rfl
def pB (n:Nat)(d:D)(o:Option D):Prop:=(∃x:Pt,d=x.told/\o=some (.str x.text)/\x.depth<=n/\rN x)\/(kb "tuple" d=some false/\o=none)
inductive Al (P:D->Option D->Prop):List D->List (Option D)->Prop
 |nil:Al P [] []
 |cons {d:D} {o:Option D} {ds:List D} {os:List (Option D)}:P d o->Al P ds os->Al P (d::ds) (o::os)
theorem Al.len {P:D->Option D->Prop}:∀{ds:List D} {os:List (Option D)},Al P ds os->os.length=ds.length
 |_,_,.nil=>rfl
 |_,_,.cons _ r=>congrArg (·+1) r.len
theorem xj {P:D->Option D->Prop}:∀{ds:List D} {os:List (Option D)},Al P ds os->∀(i:Nat) (d:D) (o:Option D),ds[i]?=some d->os[i]?=some o->P d o
 |_,_,.nil,i,d,o,h,_=>by simp at h
 |_,_,.cons h r,0,d,o,h1,h2=>by simp at h1 h2;subst h1 h2;exact h
 |_,_,.cons h r,i+1,d,o,h1,h2=>xj r i d o (by simpa using h1) (by simpa using h2)
theorem pB.in {n:Nat}{x:Pt}(h1:x.depth<=n)(h2:rN x):pB n x.told (some (.str x.text)):=.inl ⟨x,rfl,rfl,h1,h2⟩
theorem pB.fst {n:Nat}{f:D}(h:bA f):pB n f none:=.inr ⟨by rw[DL (pO h).1,(pO h).2],rfl⟩
theorem pB.str {n:Nat}{x:Str}:pB n (.str x) none:=.inr ⟨rfl,rfl⟩
theorem KR {n:Nat}{x:D}{xs:List D}{y:Option D}{outs:List (Option D)}(h:Al (pB n) xs outs)(hl:xs.length<=3){Q:D->Prop}(q:Q (.lst (outs.filterMap id))) :
  kC [] (nC (IL (aF 0) (qF (vC (.int 1))) qE)) (Ce (lQ "tuple" (aF 0))) (bD (qq n rN λp=>.str p.text) (aE (aF 0) ak)) [some (.tup (x::xs)),y,none] Q:=by
 refine⟨_,rfl,1,rfl,gg,xs,?_,outs,h.len,λi d o h1 h2=>?_,Nat.lt_of_le_of_lt hl (by decide),q⟩
 ·show some (DC.cutD (x::xs) (some 1) none)=some xs
  rw[(K2 x xs).2]
 ·rcases xj h i d o h1 h2 with⟨z,rfl,rfl,k1,k2⟩|⟨k1,rfl⟩
  ·exact⟨_,rfl,true,by rw[z.Ep];rfl,true,rfl,rfl,λ_=>⟨_,rfl,z,rfl,k1,k2,rfl⟩⟩
  ·exact⟨_,rfl,false,k1,false,rfl,rfl,λw=>by cases w⟩
theorem qY {g:Str}(h:g∈dY):inD (.str g) ([("not":Str),"before","if"].map D.str)=false/\decide (g="when")=false/\decide (g="held")=false/\inD (.str g) ([("before":Str),"held"].map D.str)=false/\decide (g="given")=false/\decide (g="named")=false:=by
 have all:∀g∈dY,inD (.str g) ([("not":Str),"before","if"].map D.str)=false/\decide (g="when")=false/\decide (g="held")=false/\inD (.str g) ([("before":Str),"held"].map D.str)=false/\decide (g="given")=false/\decide (g="named")=false:=by decide +kernel
 exact all g h
def Jt:fe:=JO (uC (uC (vC (.str "(")) (IH B7 (vC (.str " ")) (aE (aF 2) ak))) (vC (.str ")")))
theorem IM {p:Pt}(ok:rN p)(lf:p.leaf=false):(p.ws.map (·.length)).sum+p.ws.length*(" ":Str).length<=16777216/\(Txt.join " " p.ws).length<=8000:=by
 have h:=congrArg Str.length (yS ok.1 lf)
 have hs:=ok.sh
 unfold Sh at hs
 rw[bp,bp] at h
 refine⟨?_,by omega⟩
 have g:=size_glued (" ":Str) p.ws
 have e:(Txt.join " " p.ws).length=(p.ws.map (·.length)).sum+(p.ws.length - 1)*(" ":Str).length:=g
 have hw:p.ws.length<=4:=by cases p<;>(try simp[Pt.ws])<;>(rename_i f;cases f<;>simp[wH])
 have e1:(" ":Str).length=1:=by decide +kernel
 rw[e1] at e ⊢
 omega
theorem f9 {a:Addr}{μ:Mu}{E:de}{p:Pt}{x y:D}(ok:rN p)(lf:p.leaf=false)(h:μ.lookup a=some (.lst (p.ws.map D.str)))(q:E.rt (.str p.text) []):Jt E [some x,some y,some (.adr a)] μ:=by
 obtain⟨h1,h2⟩:=IM ok lf
 refine⟨⟨" ",rfl⟩,bj μ (.adr a),rfl," ",p.ws,rfl,?_,h1,?_⟩
 ·show[bj μ (.adr a)]=_
  rw[b_ h]
 ·refine⟨?_,?_,?_⟩
  ·have e1:("(":Str).length=1:=by decide +kernel
   rw[e1];exact Nat.le_trans (Nat.add_le_add_left h2 1) (by decide)
  ·have e1:("(":Str).length=1:=by decide +kernel
   have e2:(")":Str).length=1:=by decide +kernel
   rw[bp,e1,e2];exact Nat.le_trans (show 1+(Txt.join " " p.ws).length+1<=8002 by omega) (by decide)
  ·rw[yS ok.1 lf];exact q
def Ih (n:Nat):fe:=jA (Gv 2 [] (nC (IL (aF 0) (qF (vC (D.int 1))) qE)) (Ce (lQ "tuple" (aF 0))) (bD (qq n rN λp=>D.str p.text) (aE (aF 0) ak)))
 (jA (Gu (bK (KL (aF 1) (gq (mG ([("not":Str),"before","if"].map D.str))))) (x5 2 (Az (qx (aE (aF 1) ak)) (aF 2)))
   (Gu (IX (bK (vEq (aF 1) (vC (D.str "when")))) (bK (vEq (aF 1) (vC (D.str "held"))))) (x5 2 (Az (aF 2) (qx (aE (aF 1) (aE (iw (aF 0) (vC (D.int 2))) ak)))))
    (x5 2 (Iv (aE (iw (aF 2) (vC (D.int 0))) (aE (aF 1) (aE (iw (aF 2) (vC (D.int 1))) ak)))))))
  (jA (Gu (uB (bK (KL (aF 1) (gq (mG ([("before":Str),"held"].map D.str))))) (bK (Cd (iw (aF 0) (vk (vC (D.int 1)))) (vC D.ag)))) (x3 2 (bD vW (aE (iw (aF 0) (vk (vC (D.int 1)))) ak))) BN) Jt))
theorem mB {t u:fe}{E:de}{δ:SD}{μ:Mu}(h:t { E with nx:=u E } δ μ):jA t u E δ μ:=h
theorem qj {n:Nat}{x:D}{xs:List D}{y:Option D}{outs:List (Option D)}{E:de}{μ:Mu}(h:Al (pB n) xs outs)(hl:xs.length<=3)(q:∀a,E.nx [some (.tup (x::xs)),y,some (.adr a)] ((a,.lst (outs.filterMap id))::μ)) :
  Gv 2 [] (nC (IL (aF 0) (qF (vC (D.int 1))) qE)) (Ce (lQ "tuple" (aF 0))) (bD (qq n rN λp=>D.str p.text) (aE (aF 0) ak)) E [some (.tup (x::xs)),y,none] μ :=
 KR (Q:=λd=>∃ds,d=.lst ds/\∀a,(∀m,(a,m)∉μ)->E.nx (([some (D.tup (x::xs)),y,none]:SD).set 2 (some (.adr a))) ((a,.lst ds)::μ)) h hl ⟨_,rfl,λa _=>q a⟩
theorem eJ {n:Nat}{p:Pt}{E:de}(lf:p.leaf=false)(hd:p.depth<=n+1)(ok:rN p)(q:E.rt (.str p.text) []):Ih n E [some p.told,some (.str p.word),none] []:=by
 cases p with
 |given=>cases lf
 |named=>cases lf
 |turned x =>
  simp only[Pt.depth] at hd
  refine mB (qj (.cons (pB.in (n:=n) (x:=x) (by omega) (ok.in (by simp[Pt.inner]))) .nil) (by simp) λa=>?_)
  exact⟨_,rfl,by decide,rfl,by decide,true,rfl,aR ⟨_,rfl,zL1,_,rfl,_,_,rfl,b_ look_same,zL2,λa2=>⟨a2,_,rfl,rfl,rfl,λhn=>⟨_,rfl,by decide,rfl,by decide,false,rfl,aO (aO (f9 (p:=.turned x) ok rfl look_same q))⟩⟩⟩⟩
 |choice t x y =>
  simp only[Pt.depth] at hd
  refine mB (qj (.cons (pB.in (n:=n) (x:=t) (by omega) (ok.in (by simp[Pt.inner]))) (.cons (pB.in (n:=n) (x:=x) (by omega) (ok.in (by simp[Pt.inner]))) (.cons (pB.in (n:=n) (x:=y) (by omega) (ok.in (by simp[Pt.inner]))) .nil))) (by simp) λa=>?_)
  exact⟨_,rfl,by decide,rfl,by decide,true,rfl,aR ⟨_,rfl,zL1,_,rfl,_,_,rfl,b_ look_same,zL4,λa2=>⟨a2,_,rfl,rfl,rfl,λhn=>⟨_,rfl,by decide,rfl,by decide,false,rfl,aO (aO (f9 (p:=.choice t x y) ok rfl look_same q))⟩⟩⟩⟩
 |before x f =>
  simp only[Pt.depth] at hd
  have of:bA f:=ok.1.2
  refine mB (qj (.cons (pB.in (n:=n) (x:=x) (by omega) (ok.in (by simp[Pt.inner]))) (.cons (pB.fst (n:=n) ok.1.2) .nil)) (by simp) λa=>?_)
  rcases of with rfl|⟨b,rfl⟩|⟨i,rfl,h1,h2⟩
  ·exact⟨_,rfl,by decide,rfl,by decide,true,rfl,aR ⟨_,rfl,zL1,_,rfl,_,_,rfl,b_ look_same,zL2,λa2=>⟨a2,_,rfl,rfl,rfl,λhn=>⟨_,rfl,by decide,rfl,by decide,true,rfl,aR ⟨_,rfl,1,rfl,_,rfl,false,rfl,aO (f9 (p:=.before x .ag) ok rfl look_same q)⟩⟩⟩⟩⟩
  ·exact⟨_,rfl,by decide,rfl,by decide,true,rfl,aR ⟨_,rfl,zL1,_,rfl,_,_,rfl,b_ look_same,zL2,λa2=>⟨a2,_,rfl,rfl,rfl,λhn=>⟨_,rfl,by decide,rfl,by decide,true,rfl,aR ⟨_,rfl,1,rfl,_,rfl,true,rfl,aR ⟨a2,_,rfl,look_same,(show 2<sizeLine by decide),_,rfl,1,rfl,_,rfl,.bl b,rfl,.inl ⟨b,rfl⟩,f9 (p:=.before x (.bl b)) ok rfl (cO look_same) q⟩⟩⟩⟩⟩⟩
  ·exact⟨_,rfl,by decide,rfl,by decide,true,rfl,aR ⟨_,rfl,zL1,_,rfl,_,_,rfl,b_ look_same,zL2,λa2=>⟨a2,_,rfl,rfl,rfl,λhn=>⟨_,rfl,by decide,rfl,by decide,true,rfl,aR ⟨_,rfl,1,rfl,_,rfl,true,rfl,aR ⟨a2,_,rfl,look_same,(show 2<sizeLine by decide),_,rfl,1,rfl,_,rfl,.int i,rfl,.inr ⟨i,rfl,h1,h2⟩,f9 (p:=.before x (.int i)) ok rfl (cO look_same) q⟩⟩⟩⟩⟩⟩
 |bx x s =>
  simp only[Pt.depth] at hd
  refine mB (qj (.cons (pB.in (n:=n) (x:=x) (by omega) (ok.in (by simp[Pt.inner]))) (.cons (pB.str (n:=n)) .nil)) (by simp) λa=>?_)
  exact⟨_,rfl,by decide,rfl,by decide,false,rfl,aO ⟨_,rfl,true,rfl,aR (aR ⟨_,rfl,_,rfl,_,rfl,_,rfl,zL2,_,_,b_ look_same,rfl,zL3,λa2=>⟨a2,_,rfl,rfl,rfl,λhn=>⟨_,rfl,by decide,rfl,by decide,false,rfl,aO (aO (f9 (p:=.bx x s) ok rfl look_same q))⟩⟩⟩)⟩⟩
 |held x s f =>
  simp only[Pt.depth] at hd
  have of:bA f:=ok.1.2.2
  refine mB (qj (.cons (pB.in (n:=n) (x:=x) (by omega) (ok.in (by simp[Pt.inner]))) (.cons (pB.str (n:=n)) (.cons (pB.fst (n:=n) ok.1.2.2) .nil))) (by simp) λa=>?_)
  rcases of with rfl|⟨b,rfl⟩|⟨i,rfl,h1,h2⟩
  ·exact⟨_,rfl,by decide,rfl,by decide,false,rfl,aO ⟨_,rfl,false,rfl,aO ⟨_,rfl,true,rfl,aR ⟨_,rfl,_,rfl,_,rfl,_,rfl,zL2,_,_,b_ look_same,rfl,zL3,λa2=>⟨a2,_,rfl,rfl,rfl,λhn=>⟨_,rfl,by decide,rfl,by decide,true,rfl,aR ⟨_,rfl,1,rfl,_,rfl,false,rfl,aO (f9 (p:=.held x s .ag) ok rfl look_same q)⟩⟩⟩⟩⟩⟩⟩
  ·exact⟨_,rfl,by decide,rfl,by decide,false,rfl,aO ⟨_,rfl,false,rfl,aO ⟨_,rfl,true,rfl,aR ⟨_,rfl,_,rfl,_,rfl,_,rfl,zL2,_,_,b_ look_same,rfl,zL3,λa2=>⟨a2,_,rfl,rfl,rfl,λhn=>⟨_,rfl,by decide,rfl,by decide,true,rfl,aR ⟨_,rfl,1,rfl,_,rfl,true,rfl,aR ⟨a2,_,rfl,look_same,(show 3<sizeLine by decide),_,rfl,1,rfl,_,rfl,.bl b,rfl,.inl ⟨b,rfl⟩,f9 (p:=.held x s (.bl b)) ok rfl (cO look_same) q⟩⟩⟩⟩⟩⟩⟩⟩
  ·exact⟨_,rfl,by decide,rfl,by decide,false,rfl,aO ⟨_,rfl,false,rfl,aO ⟨_,rfl,true,rfl,aR ⟨_,rfl,_,rfl,_,rfl,_,rfl,zL2,_,_,b_ look_same,rfl,zL3,λa2=>⟨a2,_,rfl,rfl,rfl,λhn=>⟨_,rfl,by decide,rfl,by decide,true,rfl,aR ⟨_,rfl,1,rfl,_,rfl,true,rfl,aR ⟨a2,_,rfl,look_same,(show 3<sizeLine by decide),_,rfl,1,rfl,_,rfl,.int i,rfl,.inr ⟨i,rfl,h1,h2⟩,f9 (p:=.held x s (.int i)) ok rfl (cO look_same) q⟩⟩⟩⟩⟩⟩⟩⟩
 |pair g x y =>
  simp only[Pt.depth] at hd
  obtain⟨s1,s2,s3,s4,_,_⟩:=qY ok.1.1
  refine mB (qj (.cons (pB.in (n:=n) (x:=x) (by omega) (ok.in (by simp[Pt.inner]))) (.cons (pB.in (n:=n) (x:=y) (by omega) (ok.in (by simp[Pt.inner]))) .nil)) (by simp) λa=>?_)
  refine⟨_,rfl,by decide,rfl,by decide,false,congrArg D.bl s1,aO ⟨_,rfl,false,congrArg D.bl s2,aO ⟨_,rfl,false,congrArg D.bl s3,aO ⟨_,rfl,?_⟩⟩⟩⟩
  rw[b_ look_same]
  refine⟨_,rfl,_,rfl,_,rfl,?_⟩
  rw[b_ look_same]
  exact⟨_,rfl,zL3,λa2=>⟨a2,_,rfl,rfl,rfl,λhn=>⟨_,rfl,by decide,rfl,by decide,false,congrArg D.bl s4,aO (aO (f9 (p:=.pair g x y) ok rfl look_same q))⟩⟩⟩
 |led x y =>
  simp only[Pt.depth] at hd
  refine mB (qj (.cons (pB.in (n:=n) (x:=x) (by omega) (ok.in (by simp[Pt.inner]))) (.cons (pB.in (n:=n) (x:=y) (by omega) (ok.in (by simp[Pt.inner]))) .nil)) (by simp) λa=>?_)
  refine⟨_,rfl,by decide,rfl,by decide,false,rfl,aO ⟨_,rfl,false,rfl,aO ⟨_,rfl,false,rfl,aO ⟨_,rfl,?_⟩⟩⟩⟩
  rw[b_ look_same]
  refine⟨_,rfl,_,rfl,_,rfl,?_⟩
  rw[b_ look_same]
  exact⟨_,rfl,zL3,λa2=>⟨a2,_,rfl,rfl,rfl,λhn=>⟨_,rfl,by decide,rfl,by decide,false,rfl,aO (aO (f9 (p:=.led x y) ok rfl look_same q))⟩⟩⟩
theorem C6 (d:Df K mg "_law_value_text" dz ["_law_value_here"])(n_isinstance:mg "isinstance"=none)(n_bool:mg "bool"=none)(n_int:mg "int"=none)(n_str:mg "str"=none):bE P w K mg base (j+1) "_law_value_text" ["_law_value_here"] vW:=by
 refine d.dC gG (λds P P' g ⟨d,e,h,q⟩=>⟨d,e,h,g _ q⟩) (λds Q ⟨d,e,_⟩=>by rw[e];rfl) (λf cdv A outer s H E hr=>have hu:=hr.units;have hh:=hr.hd;have sc:=gG
  (aH (cE (eB (g6 (by rfl) n_isinstance (by rfl) n_bool (dv 0))) (aI (aQ (aj (fk (lV (by rfl))) (uR (by rfl) n_int (aA (dv 0) aC)) (λ_ _=>rfl)))) ar)
 (aI (aQ (uU (by rfl) n_str (aA (dv 0) aC)))))) ?_
 rintro ds Q ⟨d,rfl,hv,q⟩
 rcases hv with⟨b,rfl⟩|⟨i,rfl,h1,h2⟩
 ·refine⟨_,rfl,true,rfl,_,rfl,aR ⟨zL2,_,rfl,.inr ⟨b,rfl,?_⟩⟩⟩
  cases b
  ·exact⟨_,rfl,q⟩
  ·exact⟨_,rfl,q⟩
 ·exact⟨_,rfl,false,rfl,_,rfl,aO ⟨_,rfl,i,rfl,rV h1 h2,q⟩⟩
theorem C3 (d:Df K mg "_law_part_text" cu ["_law_told"])(n_isinstance:mg "isinstance"=none)(n_tuple:mg "tuple"=none)(c__law_value_text:bE P w K mg base j "_law_value_text" ["_law_value_here"] vW)(c__law_part_text:bE P w K mg base j "_law_part_text" ["_law_told"] (qq n rN λp=>.str p.text)) :
  bE P w K mg base (j+1) "_law_part_text" ["_law_told"] (qq (n+1) rN λp=>.str p.text):=by
 refine d.F_ gS LK LF (λf cdv A outer s H E hr=>have hu:=hr.units;have hh:=hr.hd;have sc:=gS
  (ai (cp (aq (i:=1) sc.nd rfl (Or.inl rfl) (aj (dv 0) aD (λ_ _=>rfl))))
 (ai (p8 (dF hu (dv 1) aP) (cJ (p_ (aK c__law_value_text hr (by omega) (by rfl) (aA (aj (dv 0) aD (λ_ _=>rfl)) aC)))) p9)
 (ai (p8 (dF hu (dv 1) aP) (cJ (p_ (aj (dv 0) aD (λ_ _=>rfl)))) p9)
 (ai (G7 (i:=2) sc.nd rfl (Or.inl rfl) (x:="_law_one") (caps:=[]) (cn:=[]) (cl:=[]) (i8 (by rfl) (by rfl) (by decide +kernel) (by decide +kernel) (by decide +kernel)) rfl (gz (eK (dv 0) (fz aD) iJ)) (λC fp s₂ H₂=>bY (i:=0) (show(["_law_one"]:List Str).Nodup by decide +kernel) rfl (Or.inl rfl) (.inr rfl)) (λC fp s₂ H₂=>(uA (eB (kO (by rfl) n_isinstance (by rfl) n_tuple (dv 0))))) (λC fp s₂ H₂=>(aK c__law_part_text hr (by omega) (by rfl) (aA (dv 0) aC))))
 (ai (p8 (xH (dv 1) (ay (lV (by rfl))) (by rfl)) (cJ (tH (i:=2) sc.nd rfl (Or.inl rfl) (A2 (fk (aA (dv 1) aC)) (dv 2)))) (cJ (p8 (oq.td (w_or (dF hu (dv 1) aP) (lS (dF hu (dv 1) aP)))) (cJ (tH (i:=2) sc.nd rfl (Or.inl rfl) (A2 (dv 2) (fk (aA (dv 1) (aA (aj (dv 0) aD (λ_ _=>rfl)) aC)))))) (cJ (tH (i:=2) sc.nd rfl (Or.inl rfl) (A4 (aA (aj (dv 2) aD (λ_ _=>rfl)) (aA (dv 1) (aA (aj (dv 2) aD (λ_ _=>rfl)) aC)))))))))
 (ai (p8 (oq.td (w_and (xH (dv 1) (ay (lV (by rfl))) (by rfl)) (mD (yP (aj (dv 0) (oN aD) (λ_ _=>rfl)) pI)))) (cJ (zM (i:=2) rfl (Or.inl rfl) (aK c__law_value_text hr (by omega) (by rfl) (aA (aj (dv 0) (oN aD) (λ_ _=>rfl)) aC)))) p9)
 (cJ (p_ (cF (cF aP (GK aP (aA (dv 2) aC))) aP)))))))))) ?_
 rintro ds Q ⟨p,rfl,hd,ok,q⟩
 cases p with
 |given v=>exact⟨_,rfl,_,rfl,_,rfl,true,rfl,aR ⟨_,rfl,_,rfl,v,rfl,ok.1,q⟩⟩
 |named x=>exact⟨_,rfl,_,rfl,_,rfl,false,rfl,aO ⟨_,rfl,true,rfl,aR ⟨_,rfl,_,rfl,q⟩⟩⟩
 |pair g x y =>
  obtain⟨_,_,_,_,s5,s6⟩:=qY ok.1.1
  exact⟨_,rfl,_,rfl,_,rfl,false,congrArg D.bl s5,aO ⟨_,rfl,false,congrArg D.bl s6,aO (eJ (p:=.pair g x y) rfl hd ok q)⟩⟩
 |turned x=>exact⟨_,rfl,_,rfl,_,rfl,false,rfl,aO ⟨_,rfl,false,rfl,aO (eJ (p:=.turned x) rfl hd ok q)⟩⟩
 |choice t x y=>exact⟨_,rfl,_,rfl,_,rfl,false,rfl,aO ⟨_,rfl,false,rfl,aO (eJ (p:=.choice t x y) rfl hd ok q)⟩⟩
 |before x f=>exact⟨_,rfl,_,rfl,_,rfl,false,rfl,aO ⟨_,rfl,false,rfl,aO (eJ (p:=.before x f) rfl hd ok q)⟩⟩
 |led x y=>exact⟨_,rfl,_,rfl,_,rfl,false,rfl,aO ⟨_,rfl,false,rfl,aO (eJ (p:=.led x y) rfl hd ok q)⟩⟩
 |bx x s=>exact⟨_,rfl,_,rfl,_,rfl,false,rfl,aO ⟨_,rfl,false,rfl,aO (eJ (p:=.bx x s) rfl hd ok q)⟩⟩
 |held x s f=>exact⟨_,rfl,_,rfl,_,rfl,false,rfl,aO ⟨_,rfl,false,rfl,aO (eJ (p:=.held x s f) rfl hd ok q)⟩⟩
theorem rO (d:Df K mg "_law_part_text" cu ["_law_told"])(n_isinstance:mg "isinstance"=none)(n_tuple:mg "tuple"=none)(cv:bE P w K mg base 1 "_law_value_text" ["_law_value_here"] vW):∀n,bE P w K mg base (n+1) "_law_part_text" ["_law_told"] (qq n rN λp=>.str p.text)
 | 0=>Df.never d Ey
 |n+1=>C3 d n_isinstance n_tuple (cv.up (by omega)) (rO d n_isinstance n_tuple cv n)
def mS (ns:List Str)(m:Int)(x y z:D):List (Key × D):=[(.inr "names",.lst (ns.map D.str)),(.inr "in",.int m),(.inr "kinds",x),(.inr "ons",y),(.inr "beats",z)]
theorem ui {kvs:List (Key × D)}{k j:Key}{v:D}:eD (b7 kvs k v) j=if j=k then some v else eD kvs j:=by
 have mp:∀kvs:List (Key × D),(kvs.any λkv=>decide (kv.1=k))=true->eD (kvs.map λkv=>if kv.1=k then(kv.1,v) else kv) j=if j=k then some v else eD kvs j:=by
  intro kvs
  induction kvs with
  |nil=>intro h;cases h
  |cons p r ih =>
   intro h
   obtain⟨q,d⟩:=p
   by_cases e:q=k
   ·subst e
    by_cases ej:j=q
    ·subst ej
     rw[if_pos rfl]
     simp[eD]
    ·rw[if_neg ej]
     have ej':¬ q=j:=λz=>ej z.symm
     have t:eD ((r.map λkv=>if kv.1=q then(kv.1,v) else kv)) j=eD r j:=by
      by_cases hr:(r.any λkv=>decide (kv.1=q))=true
      ·rw[ih hr,if_neg ej]
      ·have:(r.map λkv=>if kv.1=q then(kv.1,v) else kv)=r:=by
        conv=>rhs;rw[<- List.map_id r]
        refine List.map_congr_left λx hx=>?_
        rw[if_neg]
        ·rfl
        ·intro z
         exact hr (List.any_eq_true.mpr ⟨x,hx,decide_eq_true z⟩)
       rw[this]
     rw[List.map_cons,if_pos rfl]
     unfold eD at t ⊢
     rw[List.find?_cons_of_neg (by simpa using ej'),List.find?_cons_of_neg (by simpa using ej')]
     exact t
   ·have h2:(r.any λkv=>decide (kv.1=k))=true:=by simpa [e] using h
    rw[List.map_cons,if_neg e]
    by_cases ej:q=j
    ·subst ej
     rw[if_neg e]
     simp[eD]
    ·have t:=ih h2
     unfold eD at t ⊢
     rw[List.find?_cons_of_neg (by simpa using ej),List.find?_cons_of_neg (by simpa using ej)]
     exact t
 unfold b7
 split
 ·rename_i h
  exact mp kvs h
 ·rename_i h
  by_cases ej:j=k
  ·subst ej
   rw[if_pos rfl]
   unfold eD
   rw[List.find?_append,List.find?_eq_none.mpr (λx hx z=>h (List.any_eq_true.mpr ⟨x,hx,z⟩))]
   simp
  ·rw[if_neg ej]
   have ej':¬ k=j:=λz=>ej z.symm
   unfold eD
   rw[List.find?_append]
   simp[ej']
theorem g_ {kvs:List (Key × D)}{k:Key}{v:D}:(b7 kvs k v).length<=kvs.length+1:=by
 unfold b7
 split
 ·rw[List.length_map];omega
 ·rw[List.length_append];simp
structure Pm (a b1 b2 b3:Addr) (ns:List Str) (m:Int) (kk oo bb:List (Key × D)) (μ:Mu):Prop where
 top:μ.lookup a=some (.dK (mS ns m (.adr b1) (.adr b2) (.adr b3)))
 k1:μ.lookup b1=some (.dK kk)
 k2:μ.lookup b2=some (.dK oo)
 k3:μ.lookup b3=some (.dK bb)
 n1:a≠b1/\a≠b2/\a≠b3
 n2:b1≠b2/\b1≠b3/\b2≠b3
section
variable {a b1 b2 b3:Addr}{ns:List Str}{m:Int}{kk oo bb kvs:List (Key × D)}{μ:Mu}
theorem Pm.LR (p:Pm a b1 b2 b3 ns m kk oo bb μ):Pm a b1 b2 b3 ns m kvs oo bb (d7 b1 (.dK kvs) μ) :=
 ⟨by rw[ae p.n1.1];exact p.top,cO p.k1,by rw[ae p.n2.1.symm];exact p.k2,by rw[ae p.n2.2.1.symm];exact p.k3,p.n1,p.n2⟩
theorem Pm.put2 (p:Pm a b1 b2 b3 ns m kk oo bb μ):Pm a b1 b2 b3 ns m kk kvs bb (d7 b2 (.dK kvs) μ) :=
 ⟨by rw[ae p.n1.2.1];exact p.top,by rw[ae p.n2.1];exact p.k1,cO p.k2,by rw[ae p.n2.2.2.symm];exact p.k3,p.n1,p.n2⟩
theorem Pm.put3 (p:Pm a b1 b2 b3 ns m kk oo bb μ):Pm a b1 b2 b3 ns m kk oo kvs (d7 b3 (.dK kvs) μ) :=
 ⟨by rw[ae p.n1.2.2];exact p.top,by rw[ae p.n2.2.1];exact p.k1,by rw[ae p.n2.2.2];exact p.k2,cO p.k3,p.n1,p.n2⟩
theorem m7 {b:Addr}(h:μ.lookup b=some (.dK kvs)):bj μ (.adr b)=.dK kvs:=by
 show((μ.lookup b).map MD.d).getD (.adr b)=_
 rw[h];rfl
theorem z9 (l:List Str):(l.map D.str).map (bj μ)=l.map D.str:=by
 rw[List.map_map]
 exact List.map_congr_left λx _=>rfl
theorem Pm.vw (p:Pm a b1 b2 b3 ns m kk oo bb μ):lR μ (.adr a)=.dK (mS ns m (.dK kk) (.dK oo) (.dK bb)):=by
 unfold lR
 rw[m7 p.top]
 show D.dK [(.inr "names",bj μ (.lst (ns.map D.str))),(.inr "in",bj μ (.int m)),(.inr "kinds",bj μ (.adr b1)),(.inr "ons",bj μ (.adr b2)),(.inr "beats",bj μ (.adr b3))]=_
 rw[m7 p.k1,m7 p.k2,m7 p.k3]
 rfl
theorem xT (l:List Str):lR μ (.lst (l.map D.str))=.lst (l.map D.str):=by
 show D.lst ((l.map D.str).map (bj μ))=_
 rw[z9]
end
def E3 (kk:List (Key × D))(S:List Str):Prop:=∀n∈S,∃s:Str,eD kk (.inr n)=some (.str s)
def yT (k:Nat)(bb:List (Key × D))(S:List Str):Prop:=∀n∈S,∃bs:List Str,eD bb (.inr n)=some (.tup (bs.map D.str))/\(∀x∈bs,d6 x)/\bs.length<=k
theorem E3.put {kk:List (Key × D)}{S:List Str}{n s:Str}(h:E3 kk S):E3 (b7 kk (.inr n) (.str s)) (n::S):=λx hx=>by
 rw[ui]
 by_cases e:(Sum.inr x:Key)=.inr n
 ·rw[if_pos e];exact⟨s,rfl⟩
 ·rw[if_neg e]
  exact h x ((List.mem_cons.mp hx).resolve_left λz=>e (by rw[z]))
theorem yT.put {k:Nat}{bb:List (Key × D)}{S:List Str}{n:Str}{bs:List Str}(h:yT k bb S)(hb:∀x∈bs,d6 x)(hl:bs.length<=k):yT k (b7 bb (.inr n) (.tup (bs.map D.str))) (n::S):=λx hx=>by
 rw[ui]
 by_cases e:(Sum.inr x:Key)=.inr n
 ·rw[if_pos e];exact⟨bs,rfl,hb,hl⟩
 ·rw[if_neg e]
  exact h x ((List.mem_cons.mp hx).resolve_left λz=>e (by rw[z]))
structure rl (ns:List Str) (kk bb:List (Key × D)):Prop where
 lo:1<=ns.length
 hi:ns.length<=9
 nm:∀n∈ns,d6 n
 ko:E3 kk ns
 bo:yT 9 bb ns
def f7 (ns:List Str)(m:Int)(kk oo bb:List (Key × D)):D:=.dK (mS ns m (.dK kk) (.dK oo) (.dK bb))
def B_:cg:=λds Q=>∃c:Int,ds=[.int c]/\∀ns m kk oo bb,rl ns kk bb->Q (f7 ns m kk oo bb)
theorem nN {ns:List Str}{m:Int}{x y z:D}:eD (mS ns m x y z) (.inr "kinds")=some x:=rfl
theorem xp {ns:List Str}{m:Int}{x y z:D}:eD (mS ns m x y z) (.inr "ons")=some y:=rfl
theorem kK {ns:List Str}{m:Int}{x y z:D}:eD (mS ns m x y z) (.inr "beats")=some z:=rfl
theorem kL {ns:List Str}{m:Int}{x y z:D}:eD (mS ns m x y z) (.inr "names")=some (.lst (ns.map D.str)):=rfl
theorem G6 {a b c d e:D}:tF [(.inr "names",a),(.inr "in",b),(.inr "kinds",c),(.inr "ons",d),(.inr "beats",e)]=[(.inr "names",a),(.inr "in",b),(.inr "kinds",c),(.inr "ons",d),(.inr "beats",e)]:=rfl
abbrev Hf (c mi cn:Int)(l:List Str)(a:Addr)(k x y:Option D):SD:=[some (.int c),some (.lst (l.map D.str)),some (.int mi),some (.int cn),some (.adr a),k,x,y]
theorem yT.up {k j:Nat}{bb:List (Key × D)}{S:List Str}(h:yT k bb S)(e:k<=j):yT j bb S:=λn hn=>let ⟨bs,h1,h2,h3⟩:=h n hn;⟨bs,h1,h2,Nat.le_trans h3 e⟩
def E9 (x:Str)(E:de)(δ:SD)(μ:Mu):D->Prop:=λd=>b6 d=true/\dZ (aF 4) (vC (.str x)) (cW μ δ) λz=>∃b kvs,z=.adr b/\μ.lookup b=some (.dK kvs)/\kvs.length<sizeLine/\iw (aF 1) (aF 5) (cW μ δ) λy=>∃k,DR y=some k/\E.nx δ (d7 b (.dK (b7 kvs k d)) μ)
theorem vX {x:Str}{a b:Addr}{c mi cn:Int}{l:List Str}{k:Nat}{n:Str}{u v:Option D}{kvs pk:List (Key × D)}{E:de}{μ:Mu}{d:D}(ha:μ.lookup a=some (.dK pk))(hx:eD pk (.inr x)=some (.adr b))(hb:μ.lookup b=some (.dK kvs))(hl:kvs.length<=100)(hn:l[k]?=some n)
  (hd:b6 d=true)(q:E.nx (Hf c mi cn l a (some (.int (0+(k:Int)))) u v) (d7 b (.dK (b7 kvs (.inr n) d)) μ)) :
  E9 x E (Hf c mi cn l a (some (.int (0+(k:Int)))) u v) μ d:=by
 refine⟨hd,_,rfl,pk,.inr x,.adr b,m7 ha,rfl,hx,b,kvs,rfl,hb,Nat.lt_of_le_of_lt hl (by decide),_,rfl,_,rfl,.str n,?_,.inr n,rfl,q⟩
 rw[Int.zero_add]
 exact kH (by rw[List.getElem?_map,hn];rfl)
def BC (kk:List (Key × D))(n:Str):Bool:=match eD kk (.inr n) with
 |some (.str s)=>decide (s="truth")
 |_=>false
def Ln:ED:=iw (qx (mG ([("truth":Str),"number"].map D.str))) (KP (qy (qw (bD d_ (aE (aF 0) (aE (uC (vC (D.int 100)) (aF 5)) ak))) (vC (D.int 7))) (vC (D.int 2))) (vB yI (aE (KJ (aF 5) (vC (D.int 0))) ak)))
def vP:fe:=jA (nY (dZ (aF 4) (vC (D.str "ons"))) (iw (aF 1) (aF 5)) (vC D.ag))
 (jA (nY (dZ (aF 4) (vC (D.str "beats"))) (iw (aF 1) (aF 5)) (gq ak))
  (Gu (uB (bK (IY (aF 6) (qx ak))) (bK (MF (qy (qw (bD d_ (aE (aF 0) (aE (uC (vC (D.int 110)) (aF 5)) ak))) (vC (D.int 7))) (vC (D.int 5))) (vC (D.int 3)))))
   (jA (x4 (jG 7 (iw (aF 6) (qy (qw (bD d_ (aE (aF 0) (aE (uC (vC (D.int 120)) (aF 5)) ak))) (vC (D.int 7))) (vB lP (aE (aF 6) ak))))))
    (jA (nY (dZ (aF 4) (vC (D.str "ons"))) (iw (aF 1) (aF 5)) (aF 7))
     (nY (dZ (aF 4) (vC (D.str "beats"))) (iw (aF 1) (aF 5)) (uC (dZ (dZ (aF 4) (vC (D.str "beats"))) (aF 7)) (gq (aE (aF 7) ak))))))
   BN))
def vN:fe:=jA (JN 6 [4] (nC (IL (aF 1) qE (qF (aF 5)))) (bK (vEq (dZ (dZ (aF 1) (vC (D.str "kinds"))) (aF 0)) (vC (D.str "truth")))) (aF 0))
 (jA (nY (dZ (aF 4) (vC (D.str "kinds"))) (iw (aF 1) (aF 5)) Ln) vP)
theorem zb {a b1 b2 b3:Addr}{c mi cn m:Int}{ns l:List Str}{k:Nat}{n:Str}{kk oo bb:List (Key × D)}{x y:Option D}{E:de}{μ:Mu}(p:Pm a b1 b2 b3 ns m kk oo bb μ)(hl:l.length=9)(ok:∀z∈l,d6 z)(hn:l[k]?=some n)
  (ko:E3 kk (l.take k))(bo:yT k bb (l.take k))(l1:kk.length<=2*k)(l2:oo.length<=2*k)(l3:bb.length<=2*k)
  (q:∀kk' oo' bb' μ' x' y',Pm a b1 b2 b3 ns m kk' oo' bb' μ'->E3 kk' (l.take (k+1))->yT (k+1) bb' (l.take (k+1))->kk'.length<=2*(k+1)->oo'.length<=2*(k+1)->bb'.length<=2*(k+1)->E.nx (Hf c mi cn l a (some (.int (0+(k:Int)))) x' y') μ') :
  vN E (Hf c mi cn l a (some (.int (0+(k:Int)))) x y) μ:=by
 have hk:k<9:=by have:=(List.getElem?_eq_some_iff.mp hn).1;omega
 have tk:l.take (k+1)=l.take k++[n]:=by rw[List.take_succ,hn];rfl
 have sub:∀{S:List Str},(∀z∈l.take (k+1),z∈n::l.take k):=fun{S} z hz=>by
  rw[tk] at hz
  rcases List.mem_append.mp hz with h|h
  ·exact List.mem_cons_of_mem _ h
  ·rw[List.mem_singleton.mp h];exact List.mem_cons_self
 refine⟨_,rfl,?_⟩
 rw[xT]
 refine⟨_,rfl,_,rfl,(l.take k).map D.str,?_,outF (BC kk) D.str (l.take k),qH,nq (λz hz=>?_),?_,?_⟩
 ·show some (DC.cutD (l.map D.str) none (some (0+(k:Int))))=_
  rw[Int.zero_add,AY,List.map_take]
 ·obtain⟨s,hs⟩:=ko z hz
  refine⟨_,rfl,_,_,_,p.vw,rfl,nN,_,rfl,kk,.inr z,.str s,rfl,rfl,hs,decide (s="truth"),rfl,?_⟩
  have e:BC kk z=decide (s="truth"):=by unfold BC;rw[hs]
  rw[e]
  cases decide (s="truth") with
  |true=>exact⟨rfl,λ_=>⟨_,rfl,rfl⟩⟩
  |false=>exact⟨rfl,λh=>by cases h⟩
 ·rw[List.length_map];exact Nat.lt_of_le_of_lt (Nat.le_trans (List.length_take_le _ _) (show k<=9 by omega)) (by decide)
 rw[qI]
 have tsub:∀z∈(l.take k).filter (BC kk),z∈l.take k:=λz hz=>(List.mem_filter.mp hz).1
 generalize (l.take k).filter (BC kk)=ts at tsub ⊢
 have tok:∀z∈ts,d6 z:=λz hz=>ok z (List.mem_of_mem_take (tsub z hz))
 refine⟨_,rfl,kJ ts,?_⟩
 have m0:=cD (mixed c (100+(0+(k:Int))) / 7) iP2
 have m1:=cC (mixed c (100+(0+(k:Int))) / 7) iP2
 have after:∀r:Str,E9 "kinds" { E with nx:=vP E } (Hf c mi cn l a (some (.int (0+(k:Int)))) (some (.lst (ts.map D.str))) y) μ (.str r):=by
  intro r
  refine vX p.top nN p.k1 (by omega) hn (bV _) ?_
  have p1:=p.LR (kvs:=b7 kk (.inr n) (.str r))
  have ko1:E3 (b7 kk (.inr n) (.str r)) (l.take (k+1)):=λz hz=>ko.put z (sub (S:=[]) z hz)
  have l1':(b7 kk (.inr n) (.str r)).length<=2*(k+1):=by have:=g_ (kvs:=kk) (k:=.inr n) (v:=.str r);omega
  generalize b7 kk (.inr n) (.str r)=kk1 at p1 ko1 l1' ⊢
  generalize d7 b1 (.dK kk1) μ=μ1 at p1 ⊢
  refine vX p1.top xp p1.k2 (by omega) hn (by rw[b6]) ?_
  have p2:=p1.put2 (kvs:=b7 oo (.inr n) .ag)
  have l2':(b7 oo (.inr n) .ag).length<=2*k+1:=by have:=g_ (kvs:=oo) (k:=.inr n) (v:=.ag);omega
  generalize b7 oo (.inr n) .ag=oo1 at p2 l2' ⊢
  generalize d7 b2 (.dK oo1) μ1=μ2 at p2 ⊢
  refine⟨zL0,vX p2.top kK p2.k3 (by omega) hn (by rw[b6,iE]) ?_⟩
  have p3:=p2.put3 (kvs:=b7 bb (.inr n) (.tup []))
  have bo3:yT k (b7 bb (.inr n) (.tup [])) (l.take (k+1)):=λz hz=>yT.put (bs:=[]) bo (λ_ h=>nomatch h) (Nat.zero_le _) z (sub (S:=[]) z hz)
  have l3':(b7 bb (.inr n) (.tup [])).length<=2*k+1:=by have:=g_ (kvs:=bb) (k:=.inr n) (v:=.tup []);omega
  generalize b7 bb (.inr n) (.tup [])=bb1 at p3 bo3 l3' ⊢
  generalize d7 b3 (.dK bb1) μ2=μ3 at p3 ⊢
  have done:E.nx (Hf c mi cn l a (some (.int (0+(k:Int)))) (some (.lst (ts.map D.str))) y) μ3:=q _ _ _ _ _ _ p3 ko1 (bo3.up (by omega)) l1' (by omega) (by omega)
  refine⟨_,rfl,zL0,Ax (neg:=true) (mQ λz hz=>(tok z hz).2.2) (by decide) ⟨_,rfl,?_⟩⟩
  cases ts with
  |nil=>exact aO (aO done)
  |cons t0 tr =>
   refine aR ⟨_,rfl,_,rfl,_,_,rfl,cd (by decide) (by decide),iP5,_,rfl,?_⟩
   cases hb:decide (mixed c (110+(0+(k:Int))) / 7%5<3) with
   |false=>exact aO done
   |true =>
    obtain⟨od,hod,eo⟩:=eC (xs:=(t0::tr).map D.str) (cD (mixed c (120+(0+(k:Int))) / 7) (show(0:Int)<(((t0::tr).map D.str).length:Int) by simp)) (cC (mixed c (120+(0+(k:Int))) / 7) (show(0:Int)<(((t0::tr).map D.str).length:Int) by simp))
    obtain⟨o,ho,rfl⟩:=List.mem_map.mp hod
    have bg:=tok o ho
    obtain⟨bs,hbs,hbo,hbl⟩:=bo3 o (by rw[tk];exact List.mem_append_left _ (tsub o ho))
    refine aR ⟨_,rfl,_,rfl,_,rfl,_,_,rfl,cd (by decide) (by decide),_,rfl,_,_,rfl,rfl,(show(0:Int)<(((t0::tr).map D.str).length:Int) by simp),.str o,eo,?_⟩
    refine⟨_,rfl,vX (d:=.str o) p3.top xp p3.k2 (by omega) hn (bV _) ?_⟩
    have p4:=p3.put2 (kvs:=b7 oo1 (.inr n) (.str o))
    have l4':(b7 oo1 (.inr n) (.str o)).length<=2*(k+1):=by have:=g_ (kvs:=oo1) (k:=.inr n) (v:=.str o);omega
    generalize b7 oo1 (.inr n) (.str o)=oo2 at p4 l4' ⊢
    generalize d7 b2 (.dK oo2) μ3=μ4 at p4 ⊢
    refine⟨_,rfl,_,_,_,p4.vw,rfl,kK,_,rfl,bb1,.inr o,_,rfl,rfl,hbs,_,rfl,zL1,?_,?_⟩
    ·rw[List.length_map];exact Nat.le_trans (show bs.length+1<=10 by omega) (by decide)
    ·have e:bs.map D.str++[D.str o]=(bs++[o]).map D.str:=by simp
     refine vX (d:=.tup (bs.map D.str++[D.str o])) p4.top kK p4.k3 (by omega) hn ?_ ?_
     ·rw[e];exact dH λd hd=>by obtain⟨z,_,rfl⟩:=List.mem_map.mp hd;exact bV _
     ·rw[e]
      refine q _ _ _ _ _ _ p4.put3 ko1 (λz hz=>yT.put (bs:=bs++[o]) (bo3.up (show k<=k+1 by omega)) (λw hw=>?_) (by simp;omega) z (List.mem_cons_of_mem _ hz)) l1' l4' ?_
      ·rcases List.mem_append.mp hw with h|h
       ·exact hbo w h
       ·rw[List.mem_singleton.mp h];exact bg
      ·have:=g_ (kvs:=bb1) (k:=.inr n) (v:=.tup ((bs++[o]).map D.str));omega
 obtain⟨r,hr,er⟩:∃r:Str,True/\L2.m_ ([("truth":Str),"number"].map D.str) (mixed c (100+(0+(k:Int))) / 7%2*(if decide ((0:Int)<0+(k:Int))=true then 1 else 0))=some (.str r):=by
  cases decide ((0:Int)<0+(k:Int)) with
  |false=>rw[if_neg (by decide),Int.mul_zero];exact⟨"truth",trivial,rfl⟩
  |true =>
   rw[if_pos rfl,Int.mul_one]
   have h01:mixed c (100+(0+(k:Int))) / 7%2=0\/mixed c (100+(0+(k:Int))) / 7%2=1:=by omega
   rcases h01 with e|e<;>rw[e]
   ·exact⟨"truth",trivial,rfl⟩
   ·exact⟨"number",trivial,rfl⟩
 exact⟨zL2,_,rfl,_,rfl,_,_,rfl,cd (by decide) (by decide),iP2,_,rfl,.inr ⟨_,rfl,rh.ok (.inl ⟨by omega,by omega⟩),.str r,er,after r⟩⟩
def vO:fe:=jA (FQ 4 (FC [("names",A1 (IL (aF 1) qE (qF (aF 3)))),("in",A1 (aF 2)),("kinds",sN),("ons",sN),("beats",sN)])) (jA (Gs (rn (aE (aF 3) ak)) (hName 5) vN) (FP (aF 4)))
theorem Hg {a b1 b2 b3:Addr}{ns:List Str}{m:Int}{X:List (Key × D)}(e:X=mS ns m (.adr b1) (.adr b2) (.adr b3))(n1:a≠b1)(n2:a≠b2)(n3:a≠b3)(n4:b1≠b2)(n5:b1≠b3)(n6:b2≠b3) :
  Pm a b1 b2 b3 ns m [] [] [] (d7 a (.dK X) [(b3,.dK []),(b2,.dK []),(b1,.dK []),(a,.dK [])]):=by
 refine⟨?_,?_,?_,?_,⟨n1,n2,n3⟩,⟨n4,n5,n6⟩⟩
 ·rw[e]
  exact cO (m0:=.dK []) (by rw[dJ n3,dJ n2,dJ n1];exact look_same)
 ·rw[ae n1.symm,dJ n5,dJ n4];exact look_same
 ·rw[ae n2.symm,dJ n6];exact look_same
 ·rw[ae n3.symm];exact look_same
theorem zc {c mi:Int}{l:List Str}{cN:Nat}{E:de}(hl:l.length=9)(ok:∀z∈l,d6 z)(h1:1<=cN)(h9:cN<=9)(q:∀ns m kk oo bb,rl ns kk bb->E.rt (f7 ns m kk oo bb) []) :
  vO E [some (.int c),some (.lst (l.map D.str)),some (.int mi),some (.int (cN:Int)),none,none,none,none] []:=by
 refine⟨_,rfl,_,rfl,_,rfl,_,rfl,λb1 b2 b3=>⟨(show 5<=15 by decide),λa nd _=>?_⟩⟩
 have nd':[a,b3,b2,b1].Nodup:=nd
 simp only[List.nodup_cons,List.mem_cons,List.not_mem_nil,or_false,not_or] at nd'
 obtain⟨⟨n3,n2,n1⟩,⟨n6,n5⟩,n4,_⟩:=nd'
 have p0:=Hg (a:=a) (b1:=b1) (b2:=b2) (b3:=b3) (ns:=l.take cN) (m:=mi) (X:=tF [(.inr "names",.lst (DC.cutD (l.map D.str) none (some (cN:Int)))),(.inr "in",.int mi),(.inr "kinds",.adr b1),(.inr "ons",.adr b2),(.inr "beats",.adr b3)])
  (by rw[G6,AY,mS,List.map_take]) n1 n2 n3 (Ne.symm n4) (Ne.symm n5) (Ne.symm n6)
 refine⟨_,rfl,(cN:Int),rfl,by omega,by omega,λi δ' μ'=>∃kk oo bb kx x y,δ'=Hf c mi cN l a kx x y/\Pm a b1 b2 b3 (l.take cN) mi kk oo bb μ'/\E3 kk (l.take i)/\yT i bb (l.take i)/\kk.length<=2*i/\oo.length<=2*i/\bb.length<=2*i,?_,?_,?_⟩
 ·refine⟨[],[],[],none,none,none,rfl,?_,λz hz=>?_,λz hz=>?_,by simp,by simp,by simp⟩
  ·exact p0
  ·rw[List.take_zero] at hz;cases hz
  ·rw[List.take_zero] at hz;cases hz
 ·rintro i d δ' μ' hd ⟨kk,oo,bb,kx,x,y,rfl,p,ko,bo,l1,l2,l3⟩
  have hi:i<cN:=by
   have:=(List.getElem?_eq_some_iff.mp hd).1
   simpa using this
  have ed:d=.int (0+(i:Int)):=by
   rw[List.getElem?_map,List.getElem?_range (by omega)] at hd
   exact(Option.some.inj hd).symm
  subst ed
  have hn:l[i]?=some l[i]:=List.getElem?_eq_getElem (by omega)
  exact zb p hl ok hn ko bo l1 l2 l3 λkk' oo' bb' μ' x' y' p' ko' bo' e1 e2 e3=>⟨kk',oo',bb',_,x',y',rfl,p',ko',bo',e1,e2,e3⟩
 ·rintro δ' μ' ⟨kk,oo,bb,kx,x,y,rfl,p,ko,bo,l1,l2,l3⟩
  rw[List.length_map,List.length_range,Int.toNat_natCast] at ko bo
  refine⟨_,rfl,?_⟩
  rw[p.vw]
  refine q _ _ _ _ _ ⟨?_,?_,λz hz=>ok z (List.mem_of_mem_take hz),ko,bo.up (by simpa using h9)⟩
  ·rw[List.length_take];omega
  ·rw[List.length_take];omega
theorem F7 (d:Df K mg "_law_plan" jI ["_law_cell"])(n_range:mg "range"=none)(n_int:mg "int"=none)(n_len:mg "len"=none)(c__law_mixed:bE P w K mg base j "_law_mixed" ["_law_cell","_law_k"] d_)(c__law_names:bE P w K mg base j "_law_names" ["_law_cell","_law_many"] yJ) :
  bE P w K mg base (j+1) "_law_plan" ["_law_cell"] B_:=by
 refine d.F_ mm (λds P P' f ⟨c,e,q⟩=>⟨c,e,λns m kk oo bb h=>f _ (q ns m kk oo bb h)⟩) (λds Q ⟨c,e,_⟩=>by rw[e];rfl) (λf cdv A outer s H E hr=>have hu:=hr.units;have hh:=hr.hd;have sc:=mm
  (ai (cp (aq (i:=1) sc.nd rfl (Or.inl rfl) (aK c__law_names hr (by omega) (by rfl) (aA (aK c__law_mixed hr (by omega) (by rfl) (aA (dv 0) (aA aD aC))) (aA aD aC)))))
 (ai (cp (aq (i:=2) sc.nd rfl (Or.inl rfl) (b5 (cG (aK c__law_mixed hr (by omega) (by rfl) (aA (dv 0) (aA aD aC))) aD) aD)))
 (ai (cp (aq (i:=3) sc.nd rfl (Or.inl rfl) (cF (cF (dv 2) aD) (b5 (cG (aK c__law_mixed hr (by omega) (by rfl) (aA (dv 0) (aA aD aC))) aD) aD))))
 (ai (x_ (i:=4) sc.nd rfl (Or.inr rfl) (GU (mR (A3 (eK (dv 1) iJ (fz (dv 3)))) (mR (A3 (dv 2)) (mR sO (mR sO (mR sO HX))))) (by rfl) (by rfl) (by decide) (by decide)))
 (ai (tG PassesOwn.never rfl (fu (by rfl) n_range (aA (dv 3) aC)) (pQ (i:=5) sc.nd rfl (Or.inl rfl)) (ai (G8 (k:=6) sc.nd rfl (Or.inl rfl) (x:="_law_name") (caps:=[4]) (cn:=["_law_plan_here"]) (cl:=[("_law_plan_here",s.heap.objs.size+1)]) (uL (by rfl) (by rfl) (by decide +kernel) (mM ["_law_plan_here"] rfl (by decide +kernel)) (by decide +kernel) (bz (by rfl) gv) (.cons ⟨rfl,.inl rfl,rfl⟩ .nil)) rfl (gz (eK (dv 1) iJ (fz (dv 5)))) (λC fp s₂ H₂=>bY (i:=0) (show(["_law_name","_law_plan_here"]:List Str).Nodup by decide +kernel) rfl (Or.inl rfl) (.inr rfl)) (λC fp s₂ H₂=>(uA (dF hu (cH hu (cH hu (dv 1) aP (λ_ _=>rfl)) (dv 0) (λ_ _=>rfl)) aP))) (λC fp s₂ H₂=>(dv 0)))
 (ai (jD hu (cH hu (dv 4) aP (λ_ _=>rfl)) (aj (dv 1) (dv 5) (λ_ _=>rfl)) (aj (fk (lV (by rfl))) (pH (b5 (cG (aK c__law_mixed hr (by omega) (by rfl) (aA (dv 0) (aA (cF aD (dv 5)) aC))) aD) aD) (uR (by rfl) n_int (aA (GG (dv 5) aD) aC))) (λ_ _=>rfl)))
 (ai (jD hu (cH hu (dv 4) aP (λ_ _=>rfl)) (aj (dv 1) (dv 5) (λ_ _=>rfl)) pI)
 (ai (jD hu (cH hu (dv 4) aP (λ_ _=>rfl)) (aj (dv 1) (dv 5) (λ_ _=>rfl)) (ay aC))
 (cJ (p8 (oq.td (w_and (zm hu (dv 6) (fk aC)) (mD (IA (b5 (cG (aK c__law_mixed hr (by omega) (by rfl) (aA (dv 0) (aA (cF aD (dv 5)) aC))) aD) aD) aD)))) (ai (cp (aq (i:=7) sc.nd rfl (Or.inl rfl) (aj (dv 6) (b5 (cG (aK c__law_mixed hr (by omega) (by rfl) (aA (dv 0) (aA (cF aD (dv 5)) aC))) aD) (cZ (by rfl) n_len (aA (dv 6) aC))) (λ_ _=>rfl))))
 (ai (jD hu (cH hu (dv 4) aP (λ_ _=>rfl)) (aj (dv 1) (dv 5) (λ_ _=>rfl)) (dv 7))
 (cJ (jD hu (cH hu (dv 4) aP (λ_ _=>rfl)) (aj (dv 1) (dv 5) (λ_ _=>rfl)) (cF (cH hu (cH hu (dv 4) aP (λ_ _=>rfl)) (dv 7) (λ_ _=>rfl)) (ay (aA (dv 7) aC))))))) p9)))))))
 (cJ (x8 (dv 4))))))))) ?_
 rintro ds Q ⟨c,rfl,q⟩
 refine⟨_,rfl,_,_,rfl,_,9,rfl,by decide,by decide,λl hl hn=>?_⟩
 refine⟨_,rfl,_,_,rfl,cd (by decide) (by decide),iP4,?_⟩
 refine⟨_,rfl,_,rfl,_,_,rfl,cd (by decide) (by decide),iP5,?_⟩
 have a0:=cD (mixed c 91 / 7) iP4
 have a1:=cC (mixed c 91 / 7) iP4
 have e0:=cD (mixed c 92 / 7) iP5
 have e1:=cC (mixed c 92 / 7) iP5
 obtain⟨cN,hcN⟩:∃cN:Nat,mixed c 91 / 7%4+2+mixed c 92 / 7%5=(cN:Int):=⟨(mixed c 91 / 7%4+2+mixed c 92 / 7%5).toNat,by omega⟩
 show vO { nx:=λ_ _=>Q .ag,rt:=λd μ=>Q (bj μ d)} [some (.int c),some (.lst (l.map D.str)),some (.int (mixed c 91 / 7%4)),some (.int (mixed c 91 / 7%4+2+mixed c 92 / 7%5)),none,none,none,none] []
 rw[hcN]
 exact zc hl hn (by omega) (by omega) q
theorem u5 {l:List Str}(h:∀x∈l,PyData.strOk x=true):Lay 1 (.tup (l.map D.str)):=DU λd hd=>by
 obtain⟨x,hx,rfl⟩:=List.mem_map.mp hd
 exact xy (h x hx)
theorem eqT {neg:Bool}{a b:List Str}{Q:D->Prop}(ha:∀x∈a,PyData.strOk x=true)(hb:∀x∈b,PyData.strOk x=true)(q:Q (.bl (if neg=true then !decide (a=b) else decide (a=b)))):yu neg (.tup (a.map D.str)) (.tup (b.map D.str)) Q:=by
 have la:=u5 ha
 have lb:=u5 hb
 have e:PyData.eqv (kh (.tup (a.map D.str))) (kh (.tup (b.map D.str)))=decide (a=b):=by rw[kh,kh,PyData.eqv,ug]
 refine⟨la.pl,lb.pl,la.sh (by decide),lb.sh (by decide),?_⟩
 rw[e]
 exact q
def Sel (kk bb:List (Key × D))(s:Str)(bt:List Str)(z:Str):Prop:=eD kk (.inr z)=some (.str s)/\eD bb (.inr z)=some (.tup (bt.map D.str))
open Classical in
noncomputable def l_ (kk bb:List (Key × D))(s:Str)(bt:List Str)(z:Str):Bool:=decide (Sel kk bb s bt z)
theorem CK {a b:List Str}(h:a.map D.str=b.map D.str):a=b:=(List.map_inj_right λx y h=>by cases h;rfl).mp h
theorem CF {kk bb:List (Key × D)}{s:Str}{bt:List Str}{z:Str}:l_ kk bb s bt z=true ↔ Sel kk bb s bt z:=by unfold l_;exact @decide_eq_true_iff _ (Classical.propDecidable _)
theorem EZ {kk bb:List (Key × D)}{s u:Str}{bt bs:List Str}{z:Str}(h1:eD kk (.inr z)=some (.str u))(h2:eD bb (.inr z)=some (.tup (bs.map D.str))):l_ kk bb s bt z=(decide (u=s)&&decide (bs=bt)):=by
 rw[Bool.eq_iff_iff,CF,Bool.and_eq_true,decide_eq_true_eq,decide_eq_true_eq]
 unfold Sel
 rw[h1,h2]
 constructor
 ·rintro⟨a,b⟩
  cases a
  have:bs.map D.str=bt.map D.str:=by simpa using b
  exact⟨rfl,CK this⟩
 ·rintro⟨rfl,rfl⟩;exact⟨rfl,rfl⟩
def J1 (ip:Nat)(tk:ED)(j:Nat):TD:=uB (bK (vEq (dZ (dZ (aF ip) (vC (.str "kinds"))) (aF 0)) tk)) (bK (vEq (dZ (dZ (aF ip) (vC (.str "beats"))) (aF 0)) (aF j)))
theorem rW {ns bt:List Str}{m:Int}{kk oo bb:List (Key × D)}{s z:Str}{ip j:Nat}{tk:ED}{δ:SD}(pl:rl ns kk bb)(hb:∀x∈bt,d6 x)(hz:z∈ns)(h0:δ[0]?=some (some (.str z)))(h1:δ[ip]?=some (some (f7 ns m kk oo bb)))(hi:∀Q:D->Prop,Q (.str s)->tk δ Q)(hj:δ[j]?=some (some (.tup (bt.map D.str)))) :
  J1 ip tk j δ λb=>b=(if l_ kk bb s bt z=true then some (D.str z) else none).isSome/\(b=true->aF 0 δ λy=>(if l_ kk bb s bt z=true then some (D.str z) else none)=some y):=by
 obtain⟨u,hu⟩:=pl.ko z hz
 obtain⟨bs,hbs,hbo,_⟩:=pl.bo z hz
 have q:∀b,b=l_ kk bb s bt z->b=(if l_ kk bb s bt z=true then some (D.str z) else none).isSome/\(b=true->aF 0 δ λy=>(if l_ kk bb s bt z=true then some (D.str z) else none)=some y):=by
  intro b e
  subst e
  cases l_ kk bb s bt z with
  |true=>exact⟨rfl,λ_=>⟨_,h0,rfl⟩⟩
  |false=>exact⟨rfl,λh=>by cases h⟩
 have eq:=EZ (s:=s) (bt:=bt) hu hbs
 refine⟨_,h1,_,_,_,rfl,rfl,nN,_,h0,kk,.inr z,.str u,rfl,rfl,hu,hi _ ⟨decide (u=s),rfl,?_⟩⟩
 cases e:decide (u=s) with
 |false=>rw[e] at eq;exact aO (q _ (by rw[eq];rfl))
 |true =>
  rw[e] at eq
  exact aR ⟨_,h1,_,_,_,rfl,rfl,kK,_,h0,bb,.inr z,_,rfl,rfl,hbs,_,hj,eqT (neg:=false) (λx hx=>(hbo x hx).2.2) (λx hx=>(hb x hx).2.2) ⟨_,rfl,q _ (by rw[eq];rfl)⟩⟩
def qV:cg:=λds Q=>∃(c m:Int) (ns bt:List Str) (kk oo bb:List (Key × D)) (s:Str),ds=[.int c,f7 ns m kk oo bb,.lst (ns.map D.str),.str s,.tup (bt.map D.str)]/\rl ns kk bb/\(∀x∈bt,d6 x)/\∀p:Pt,p.ok->p.depth=1->p.size=1->Q p.told
theorem Gw:b4 qV:=λds P P' f ⟨c,m,ns,bt,kk,oo,bb,s,e,h,g,q⟩=>⟨c,m,ns,bt,kk,oo,bb,s,e,h,g,λp a b d=>f _ (q p a b d)⟩
def sz:Nat->Nat
 | 0=>1
 |n+1=>3*sz n+1
theorem oB:∀n,1<=sz n
 | 0=>Nat.le_refl _
 |n+1=>by show 1<=3*sz n+1;omega
def eA (n:Nat):cg:=λds Q=>∃(c m:Int) (ns bt:List Str) (kk oo bb:List (Key × D)) (s:Str) (i:Nat),ds=[.int c,f7 ns m kk oo bb,.lst (ns.map D.str),.str s,.tup (bt.map D.str),.int (i:Int)]/\i<n/\rl ns kk bb/\(∀x∈bt,d6 x)/\bt.length+i<=50/\∀p:Pt,p.ok->p.depth<=i+1->p.size<=sz i->Q p.told
theorem JT {n:Nat}:b4 (eA n):=λds P P' f ⟨c,m,ns,bt,kk,oo,bb,s,i,e,hi,h,g,l,q⟩=>⟨c,m,ns,bt,kk,oo,bb,s,i,e,hi,h,g,l,λp a b d=>f _ (q p a b d)⟩
theorem AE {k:Nat}{a b c d e:D}:[a,b,c,d,e,D.int (((k+1:Nat):Int) - 1)]=[a,b,c,d,e,D.int (k:Int)]:=by
 rw[show((k+1:Nat):Int) - 1=(k:Int) by omega]
theorem Iq {bt:List Str}{b:Str}:DC.cutD ((bt++[b]).map D.str) none (some (-1))=bt.map D.str:=by
 unfold DC.cutD
 have e:HT.cq ((bt++[b]).map D.str).length ((bt++[b]).map D.str).length (some (-1))=bt.length:=by
  unfold HT.cq
  simp
  omega
 have e0:HT.cq ((bt++[b]).map D.str).length 0 none=0:=by unfold HT.cq;rfl
 rw[e,e0,List.drop_zero,Nat.sub_zero,List.map_append,List.take_left' (by simp)]
def yQ (n:Nat):kG:=(fP (Cr (bK (vEq (aF 6) (vC (D.int 6)))) (fP (jG 13 (bD (eA n) (aE (iw (aF 7) (vC (D.int 0))) (aE (aF 1) (aE (aF 2) (aE (aF 3) (aE (aF 4) (aE (mC (aF 5) (vC (D.int 1))) ak)))))))) (mU (gq (aE (vC (D.str "then")) (aE (aF 13) (aE (bD (eA n) (aE (iw (aF 7) (vC (D.int 1))) (aE (aF 1) (aE (aF 2) (aE (aF 3) (aE (aF 4) (aE (mC (aF 5) (vC (D.int 1))) ak))))))) ak)))))) jF) (fP (Cr (bK (vEq (aF 6) (vC (D.int 7)))) (fP (jG 13 (bD (eA n) (aE (iw (aF 7) (vC (D.int 0))) (aE (aF 1) (aE (aF 2) (aE (aF 3) (aE (aF 4) (aE (mC (aF 5) (vC (D.int 1))) ak)))))))) (fP (jG 15 (bD (eA n) (aE (iw (aF 7) (vC (D.int 1))) (aE (aF 1) (aE (aF 2) (aE (aF 3) (aE (aF 4) (aE (mC (aF 5) (vC (D.int 1))) ak)))))))) (mU (gq (aE (vC (D.str "if")) (aE (bD (eA n) (aE (iw (aF 7) (vC (D.int 2))) (aE (aF 1) (aE (aF 2) (aE (vC (D.str "truth")) (aE (aF 4) (aE (mC (aF 5) (vC (D.int 1))) ak))))))) (aE (aF 13) (aE (aF 15) ak)))))))) jF) (fP (jG 11 (iw (qx (mG ([("+":Str),("-":Str),("*":Str)].map D.str))) (qy (qw (bD d_ (aE (aF 0) (aE (vC (D.int 5)) ak))) (vC (D.int 7))) (vC (D.int 3))))) (fP (jG 12 (aF 3)) (fP (Cr (bK (vEq (aF 3) (vC (D.str "truth")))) (fP (jG 11 (iw (qx (mG ([("and":Str),("or":Str),("=":Str),("=":Str),("<":Str),("<=":Str),("not":Str)].map D.str))) (qy (qw (bD d_ (aE (aF 0) (aE (vC (D.int 5)) ak))) (vC (D.int 7))) (vC (D.int 7))))) (jG 12 (iw (qx (mG ([("truth":Str),("truth":Str),("truth":Str),("number":Str),("number":Str),("number":Str),("truth":Str)].map D.str))) (qy (qw (bD d_ (aE (aF 0) (aE (vC (D.int 5)) ak))) (vC (D.int 7))) (vC (D.int 7)))))) jF) (fP (jG 13 (bD (eA n) (aE (iw (aF 7) (vC (D.int 0))) (aE (aF 1) (aE (aF 2) (aE (aF 12) (aE (aF 4) (aE (mC (aF 5) (vC (D.int 1))) ak)))))))) (fP (Cr (bK (vEq (aF 11) (vC (D.str "not")))) (mU (gq (aE (vC (D.str "not")) (aE (aF 13) ak)))) jF) (mU (gq (aE (aF 11) (aE (aF 13) (aE (bD (eA n) (aE (iw (aF 7) (vC (D.int 1))) (aE (aF 1) (aE (aF 2) (aE (aF 12) (aE (aF 4) (aE (mC (aF 5) (vC (D.int 1))) ak))))))) ak))))))))))))
def Fo (n:Nat):kG:=(fP (jG 10 (kC [4,1] (nC (aF 2)) (uB (bK (vEq (dZ (dZ (aF 2) (vC (D.str "kinds"))) (aF 0)) (vC (D.str "truth")))) (bK (vEq (dZ (dZ (aF 2) (vC (D.str "beats"))) (aF 0)) (aF 1)))) (aF 0))) (fP (Cr (uB (IX (bK (vEq (aF 6) (vC (D.int 5)))) (bK (vEq (aF 6) (vC (D.int 4))))) (bK (IY (aF 10) (qx ak)))) (fP (jG 14 (iw (aF 10) (qy (qw (bD d_ (aE (aF 0) (aE (vC (D.int 24)) ak))) (vC (D.int 7))) (vB lP (aE (aF 10) ak))))) (mU (gq (aE (vC (D.str "held")) (aE (bD (eA n) (aE (iw (aF 7) (vC (D.int 0))) (aE (aF 1) (aE (aF 2) (aE (aF 3) (aE (uC (aF 4) (gq (aE (aF 14) ak))) (aE (mC (aF 5) (vC (D.int 1))) ak))))))) (aE (aF 14) (aE (aF 8) ak))))))) jF) (yQ n)))
def Fn (n:Nat):kG:=(fP (Cr (uB (Ce (aF 9)) (uB (bK (IY (aF 4) (gq ak))) (bK (KL (iw (aF 4) (vk (vC (D.int 1)))) (aF 2))))) (mU (gq (aE (vC (D.str "when")) (aE (bD (eA n) (aE (iw (aF 7) (vC (D.int 0))) (aE (aF 1) (aE (aF 2) (aE (aF 3) (aE (IL (aF 4) qE (qF (vk (vC (D.int 1))))) (aE (mC (aF 5) (vC (D.int 1))) ak))))))) (aE (iw (aF 4) (vk (vC (D.int 1)))) ak))))) jF) (Fo n))
theorem Jy:∀g∈([("+":Str),"-","*"]:List Str),g∈dY/\decide (g="not")=false:=by decide +kernel
theorem Jz:∀g∈([("and":Str),"or","=","=","<","<=","not"]:List Str),g∈dY\/g="not":=by decide +kernel
theorem Dt {bs:List Str}{b:Str}:¬ (HT.cq ((bs++[b]).map D.str).length 0 none=0/\HT.cq ((bs++[b]).map D.str).length ((bs++[b]).map D.str).length (some (-1))=((bs++[b]).map D.str).length):=λz=>by
 have h:=z.2
 unfold HT.cq at h
 simp at h
 omega
theorem CQ {n k:Nat}{c m wy a0 a1 a2:Int}{ns bt:List Str}{kk oo bb:List (Key × D)}{s:Str}{f:D}{E:kj}(pl:rl ns kk bb)(hb:∀x∈bt,d6 x)(hl:bt.length+(k+1)<=50)(hkn:k<n)(of:bA f)(q:∀p:Pt,p.ok->p.depth<=k+1+1->p.size<=3*sz k+1->E.rt p.told){x9 x10:D}:yQ n E [some (.int c),some (f7 ns m kk oo bb),some (.lst (ns.map D.str)),some (.str s),some (.tup (bt.map D.str)),some (.int ((k+1:Nat):Int)),some (.int wy),some (.lst [.int a0,.int a1,.int a2]),some f,some x9,some x10,none,none,none,none,none]:=by
 have szp:=oB k
 have fin:∀(g w':Str),(g∈dY\/g="not")->fP (jG 13 (bD (eA n) (aE (iw (aF 7) (vC (D.int 0))) (aE (aF 1) (aE (aF 2) (aE (aF 12) (aE (aF 4) (aE (mC (aF 5) (vC (D.int 1))) ak)))))))) (fP (Cr (bK (vEq (aF 11) (vC (D.str "not")))) (mU (gq (aE (vC (D.str "not")) (aE (aF 13) ak)))) jF) (mU (gq (aE (aF 11) (aE (aF 13) (aE (bD (eA n) (aE (iw (aF 7) (vC (D.int 1))) (aE (aF 1) (aE (aF 2) (aE (aF 12) (aE (aF 4) (aE (mC (aF 5) (vC (D.int 1))) ak))))))) ak)))))) E
   [some (.int c),some (f7 ns m kk oo bb),some (.lst (ns.map D.str)),some (.str s),some (.tup (bt.map D.str)),some (.int ((k+1:Nat):Int)),some (.int wy),some (.lst [.int a0,.int a1,.int a2]),some f,some x9,some x10,some (.str g),some (.str w'),none,none,none]:=by
  intro g w' hg
  refine⟨_,rfl,_,rfl,_,rfl,_,rfl,_,rfl,_,rfl,_,rfl,_,_,_,_,_,_,_,_,k,AE,hkn,pl,hb,by omega,λp o d z=>?_⟩
  refine⟨_,rfl,_,rfl,?_⟩
  rcases hg with hg|rfl
  ·have hn:decide (g="not")=false:=by
    have all:∀g∈dY,decide (g="not")=false:=by decide +kernel
    exact all g hg
   cases hx:decide (g="not") with
   |true=>rw[hx] at hn;cases hn
   |false=>exact aO ⟨_,rfl,_,rfl,_,rfl,_,rfl,_,rfl,_,rfl,_,rfl,_,rfl,_,rfl,_,_,_,_,_,_,_,_,k,AE,hkn,pl,hb,by omega,λp2 o2 d2 z2=>⟨zL3,q (.pair g p p2) ⟨hg,o,o2⟩ (by simp only[Pt.depth];omega) (by simp only[Pt.size];omega)⟩⟩
  ·exact aR ⟨_,rfl,zL2,q (.turned p) o (by simp only[Pt.depth];omega) (by simp only[Pt.size];omega)⟩
 refine⟨_,rfl,_,rfl,?_⟩
 cases decide (wy=6) with
 |true=>exact aR ⟨_,rfl,_,rfl,_,rfl,_,rfl,_,rfl,_,rfl,_,rfl,_,_,_,_,_,_,_,_,k,AE,hkn,pl,hb,by omega,λp o d z=>⟨_,rfl,_,rfl,_,rfl,_,rfl,_,rfl,_,rfl,_,rfl,_,rfl,_,_,_,_,_,_,_,_,k,AE,hkn,pl,hb,by omega,λp2 o2 d2 z2=>⟨zL3,q (.led p p2) ⟨o,o2⟩ (by simp only[Pt.depth];omega) (by simp only[Pt.size];omega)⟩⟩⟩
 |false =>
  refine aO ⟨_,rfl,_,rfl,?_⟩
  cases decide (wy=7) with
  |true=>exact aR ⟨_,rfl,_,rfl,_,rfl,_,rfl,_,rfl,_,rfl,_,rfl,_,_,_,_,_,_,_,_,k,AE,hkn,pl,hb,by omega,λp o d z=>⟨_,rfl,_,rfl,_,rfl,_,rfl,_,rfl,_,rfl,_,rfl,_,_,_,_,_,_,_,_,k,AE,hkn,pl,hb,by omega,λp2 o2 d2 z2=>⟨_,rfl,_,rfl,_,rfl,_,rfl,_,rfl,_,rfl,_,_,_,_,_,_,_,_,k,AE,hkn,pl,hb,by omega,λp3 o3 d3 z3=>⟨_,rfl,_,rfl,zL4,q (.choice p3 p p2) ⟨o3,o,o2⟩ (by simp only[Pt.depth];omega) (by simp only[Pt.size];omega)⟩⟩⟩⟩
  |false =>
   have m0:=cD (mixed c 5 / 7) iP3
   have m1:=cC (mixed c 5 / 7) iP3
   have m2:=cD (mixed c 5 / 7) iP7
   have m3:=cC (mixed c 5 / 7) iP7
   obtain⟨gd,hgd,eg⟩:=eC (xs:=([("+":Str),"-","*"]:List Str).map D.str) m0 m1
   obtain⟨g,hg,rfl⟩:=List.mem_map.mp hgd
   refine aO ⟨zL3,_,rfl,_,_,rfl,cd (by decide) (by decide),iP3,_,eg,_,rfl,_,rfl,_,rfl,?_⟩
   cases decide (s="truth") with
   |false=>exact aO (fin g s (.inl (Jy g hg).1))
   |true =>
    obtain⟨gd2,hgd2,eg2⟩:=eC (xs:=([("and":Str),"or","=","=","<","<=","not"]:List Str).map D.str) m2 m3
    obtain⟨g2,hg2,rfl⟩:=List.mem_map.mp hgd2
    obtain⟨wd2,hwd2,ew2⟩:=eC (xs:=([("truth":Str),"truth","truth","number","number","number","truth"]:List Str).map D.str) m2 m3
    obtain⟨w2,hw2,rfl⟩:=List.mem_map.mp hwd2
    exact aR ⟨zL7,_,rfl,_,_,rfl,cd (by decide) (by decide),iP7,_,eg2,zL7,_,rfl,_,_,rfl,cd (by decide) (by decide),iP7,_,ew2,fin g2 w2 (Jz g2 hg2)⟩
theorem xI {n k:Nat}{c m wy a0 a1 a2:Int}{ns bt:List Str}{kk oo bb:List (Key × D)}{s:Str}{f:D}{E:kj}(pl:rl ns kk bb)(hb:∀x∈bt,d6 x)(hl:bt.length+(k+1)<=50)(hkn:k<n)(of:bA f)(q:∀p:Pt,p.ok->p.depth<=k+1+1->p.size<=3*sz k+1->E.rt p.told){x9:D}:Fo n E [some (.int c),some (f7 ns m kk oo bb),some (.lst (ns.map D.str)),some (.str s),some (.tup (bt.map D.str)),some (.int ((k+1:Nat):Int)),some (.int wy),some (.lst [.int a0,.int a1,.int a2]),some f,some x9,none,none,none,none,none,none]:=by
 have szp:=oB k
 refine⟨_,rfl,ns.map D.str,rfl,outF (l_ kk bb "truth" bt) D.str ns,qH,nq (λz hz=>rW (ip:=2) (tk:=vC (.str "truth")) (j:=1) (m:=m) (oo:=oo) pl hb hz rfl rfl (λQ q=>q) rfl),by rw[List.length_map];exact Nat.lt_of_le_of_lt pl.hi (by decide),?_⟩
 rw[qI]
 have tsub:∀z∈ns.filter (l_ kk bb "truth" bt),z∈ns:=λz hz=>(List.mem_filter.mp hz).1
 generalize ns.filter (l_ kk bb "truth" bt)=ts at tsub ⊢
 have tok:∀z∈ts,d6 z:=λz hz=>pl.nm z (tsub z hz)
 have held:bK (IY (aF 10) (qx ak)) [some (.int c),some (f7 ns m kk oo bb),some (.lst (ns.map D.str)),some (.str s),some (.tup (bt.map D.str)),some (.int ((k+1:Nat):Int)),some (.int wy),some (.lst [.int a0,.int a1,.int a2]),some f,some x9,some (.lst (ts.map D.str)),none,none,none,none,none] λb=>if b=true then(fP (jG 14 (iw (aF 10) (qy (qw (bD d_ (aE (aF 0) (aE (vC (D.int 24)) ak))) (vC (D.int 7))) (vB lP (aE (aF 10) ak))))) (mU (gq (aE (vC (D.str "held")) (aE (bD (eA n) (aE (iw (aF 7) (vC (D.int 0))) (aE (aF 1) (aE (aF 2) (aE (aF 3) (aE (uC (aF 4) (gq (aE (aF 14) ak))) (aE (mC (aF 5) (vC (D.int 1))) ak))))))) (aE (aF 14) (aE (aF 8) ak))))))) { E with nx:=yQ n E } [some (.int c),some (f7 ns m kk oo bb),some (.lst (ns.map D.str)),some (.str s),some (.tup (bt.map D.str)),some (.int ((k+1:Nat):Int)),some (.int wy),some (.lst [.int a0,.int a1,.int a2]),some f,some x9,some (.lst (ts.map D.str)),none,none,none,none,none] else jF { E with nx:=yQ n E } [some (.int c),some (f7 ns m kk oo bb),some (.lst (ns.map D.str)),some (.str s),some (.tup (bt.map D.str)),some (.int ((k+1:Nat):Int)),some (.int wy),some (.lst [.int a0,.int a1,.int a2]),some f,some x9,some (.lst (ts.map D.str)),none,none,none,none,none]:=by
  refine⟨_,rfl,zL0,Ax (neg:=true) (mQ λz hz=>(tok z hz).2.2) (by decide) ⟨_,rfl,?_⟩⟩
  cases ts with
  |nil=>exact aO (CQ pl hb hl hkn of q)
  |cons t0 tr =>
   have lp:(0:Int)<(((t0::tr).map D.str).length:Int):=by simp
   obtain⟨od,hod,eo⟩:=eC (xs:=(t0::tr).map D.str) (cD (mixed c 24 / 7) lp) (cC (mixed c 24 / 7) lp)
   obtain⟨o1,ho,rfl⟩:=List.mem_map.mp hod
   refine aR ⟨_,rfl,_,rfl,_,_,rfl,cd (by decide) (by decide),_,rfl,_,_,rfl,rfl,lp,.str o1,eo,?_⟩
   refine⟨_,rfl,_,rfl,_,rfl,_,rfl,_,rfl,_,rfl,_,rfl,zL1,by rw[List.length_map];exact Nat.le_trans (show bt.length+1<=51 by omega) (by decide),_,rfl,?_⟩
   have e:bt.map D.str++[D.str o1]=(bt++[o1]).map D.str:=by simp
   rw[e]
   exact⟨_,_,_,_,_,_,_,_,k,AE,hkn,pl,(λx hx=>(List.mem_append.mp hx).elim (hb x) λh=>by rw[List.mem_singleton.mp h];exact tok o1 ho),(by rw[List.length_append,List.length_singleton];omega),λp o d z=>⟨_,rfl,_,rfl,zL4,q (.held p o1 f) ⟨o,tok o1 ho,of⟩ (by simp only[Pt.depth];omega) (by simp only[Pt.size];omega)⟩⟩
 refine⟨_,rfl,_,rfl,?_⟩
 cases decide (wy=5) with
 |true=>exact aR (aR held)
 |false =>
  refine aO ⟨_,rfl,_,rfl,?_⟩
  cases decide (wy=4) with
  |true=>exact aR held
  |false=>exact aO (aO (CQ pl hb hl hkn of q))
theorem CP {n k:Nat}{c m wy a0 a1 a2:Int}{ns bt:List Str}{kk oo bb:List (Key × D)}{s:Str}{f:D}{E:kj}(pl:rl ns kk bb)(hb:∀x∈bt,d6 x)(hl:bt.length+(k+1)<=50)(hkn:k<n)(of:bA f)(q:∀p:Pt,p.ok->p.depth<=k+1+1->p.size<=3*sz k+1->E.rt p.told){b:Bool}:Fn n E [some (.int c),some (f7 ns m kk oo bb),some (.lst (ns.map D.str)),some (.str s),some (.tup (bt.map D.str)),some (.int ((k+1:Nat):Int)),some (.int wy),some (.lst [.int a0,.int a1,.int a2]),some f,some (.bl b),none,none,none,none,none,none]:=by
 have szp:=oB k
 refine⟨_,rfl,b,rfl,?_⟩
 cases b with
 |false=>exact aO (aO (xI pl hb hl hkn of q))
 |true =>
  refine aR ⟨_,rfl,zL0,eqT (neg:=true) (a:=bt) (b:=[]) (λx hx=>(hb x hx).2.2) (λx hx=>nomatch hx) ⟨_,rfl,?_⟩⟩
  rcases List.eq_nil_or_concat bt with rfl|⟨bs,b1,rfl⟩
  ·exact aO (aO (xI pl hb hl hkn of q))
  ·rw[List.concat_eq_append] at *
   have hd:(if true=true then !decide (bs++[b1]=[]) else decide (bs++[b1]=[]))=true:=by simp
   rw[hd]
   have hlast:L2.m_ ((bs++[b1]).map D.str) (-1)=some (.str b1):=by rw[List.map_append];exact rp _ _
   refine aR ⟨_,rfl,1,rfl,.str b1,hlast,_,rfl,rfl,kJ ns,_,rfl,?_⟩
   cases(if false=true then !inD (D.str b1) (ns.map D.str) else inD (D.str b1) (ns.map D.str)) with
   |false=>exact aO (xI pl hb hl hkn of q)
   |true =>
    refine aR ⟨_,rfl,_,rfl,_,rfl,_,rfl,_,rfl,_,rfl,1,rfl,-1,rfl,Dt,?_⟩
    rw[Iq]
    exact⟨_,rfl,_,_,_,_,_,_,_,_,k,AE,hkn,pl,(λx hx=>hb x (List.mem_append_left _ hx)),(by rw[List.length_append,List.length_singleton] at hl;omega),λp o d z=>⟨_,rfl,1,rfl,.str b1,hlast,zL3,q (.bx p b1) ⟨o,hb b1 (by simp)⟩ (by simp only[Pt.depth];omega) (by simp only[Pt.size];omega)⟩⟩
def KG (n:Nat):kG:=(fP (Cr (IX (bK (vEq (aF 6) (vC (D.int 2)))) (IX (bK (vEq (aF 6) (vC (D.int 3)))) (bK (vEq (aF 6) (vC (D.int 8)))))) (mU (gq (aE (vC (D.str "before")) (aE (bD (eA n) (aE (iw (aF 7) (vC (D.int 0))) (aE (aF 1) (aE (dZ (aF 1) (vC (D.str "names"))) (aE (aF 3) (aE (aF 4) (aE (mC (aF 5) (vC (D.int 1))) ak))))))) (aE (aF 8) ak))))) jF) (fP (jG 9 (Ls (vEq (aF 6) (vC (D.int 4))) (vEq (qy (qw (bD d_ (aE (aF 0) (aE (vC (D.int 7)) ak))) (vC (D.int 7))) (vC (D.int 3))) (vC (D.int 0))))) (Fn n)))
theorem IB {n k:Nat}{c m wy a0 a1 a2:Int}{ns bt:List Str}{kk oo bb:List (Key × D)}{s:Str}{f:D}{E:kj}(pl:rl ns kk bb)(hb:∀x∈bt,d6 x)(hl:bt.length+(k+1)<=50)(hkn:k<n)(of:bA f)(q:∀p:Pt,p.ok->p.depth<=k+1+1->p.size<=3*sz k+1->E.rt p.told):KG n E [some (.int c),some (f7 ns m kk oo bb),some (.lst (ns.map D.str)),some (.str s),some (.tup (bt.map D.str)),some (.int ((k+1:Nat):Int)),some (.int wy),some (.lst [.int a0,.int a1,.int a2]),some f,none,none,none,none,none,none,none]:=by
 have szp:=oB k
 refine⟨_,rfl,_,rfl,?_⟩
 cases decide (wy=2) with
 |true=>exact aR (aR ⟨_,rfl,_,rfl,_,rfl,_,rfl,_,_,_,rfl,rfl,kL,_,rfl,_,rfl,_,rfl,_,_,_,_,_,_,_,_,k,AE,hkn,pl,hb,by omega,λp o d z=>⟨_,rfl,zL3,q (.before p f) ⟨o,of⟩ (by simp only[Pt.depth];omega) (by simp only[Pt.size];omega)⟩⟩)
 |false =>
  refine aO ⟨_,rfl,_,rfl,?_⟩
  cases decide (wy=3) with
  |true=>exact aR (aR ⟨_,rfl,_,rfl,_,rfl,_,rfl,_,_,_,rfl,rfl,kL,_,rfl,_,rfl,_,rfl,_,_,_,_,_,_,_,_,k,AE,hkn,pl,hb,by omega,λp o d z=>⟨_,rfl,zL3,q (.before p f) ⟨o,of⟩ (by simp only[Pt.depth];omega) (by simp only[Pt.size];omega)⟩⟩)
  |false =>
   refine aO ⟨_,rfl,_,rfl,?_⟩
   cases decide (wy=8) with
   |true=>exact aR ⟨_,rfl,_,rfl,_,rfl,_,rfl,_,_,_,rfl,rfl,kL,_,rfl,_,rfl,_,rfl,_,_,_,_,_,_,_,_,k,AE,hkn,pl,hb,by omega,λp o d z=>⟨_,rfl,zL3,q (.before p f) ⟨o,of⟩ (by simp only[Pt.depth];omega) (by simp only[Pt.size];omega)⟩⟩
   |false =>
    refine aO ⟨_,rfl,_,rfl,?_⟩
    cases decide (wy=4) with
    |true=>exact aR (CP pl hb (by omega) hkn of q)
    |false=>exact aO ⟨_,rfl,_,_,rfl,cd (by decide) (by decide),iP3,CP pl hb (by omega) hkn of q⟩
theorem F6 (d:Df K mg "_law_leaf" jH ["_law_cell","_law_plan_here","_law_ready","_law_kind","_law_beat"])(n_len:mg "len"=none)(c__law_mixed:bE P w K mg base j "_law_mixed" ["_law_cell","_law_k"] d_)(c__law_value:bE P w K mg base j "_law_value" ["_law_mix","_law_kind"] qX) :
  bE P w K mg base (j+1) "_law_leaf" ["_law_cell","_law_plan_here","_law_ready","_law_kind","_law_beat"] qV:=by
 refine d.dC ml Gw (λds Q ⟨c,m,ns,bt,kk,oo,bb,s,e,_⟩=>by rw[e];rfl) (λf cdv A outer s H E hr=>have hu:=hr.units;have hh:=hr.hd;have sc:=ml
  (aH (EV (i:=5) sc.nd rfl (Or.inl rfl) (x:="_law_name") (caps:=[3,4,1]) (cn:=["_law_kind","_law_beat","_law_plan_here"]) (cl:=[("_law_plan_here",s.heap.objs.size+1),("_law_kind",s.heap.objs.size+2),("_law_beat",s.heap.objs.size+3)]) (uL (by rfl) (by rfl) (by decide +kernel) (mM ["_law_plan_here","_law_kind","_law_beat"] rfl (by decide +kernel)) (by decide +kernel) (bz (by rfl) (bz (by rfl) (bz (by rfl) gv))) (.cons ⟨rfl,.inl rfl,rfl⟩ (.cons ⟨rfl,.inl rfl,rfl⟩ (.cons ⟨rfl,.inl rfl,rfl⟩ .nil)))) rfl (gz (dv 2)) (λC fp s₂ H₂=>bY (i:=0) (show(["_law_name","_law_kind","_law_beat","_law_plan_here"]:List Str).Nodup by decide +kernel) rfl (Or.inl rfl) (.inr rfl)) (λC fp s₂ H₂=>(uA (oq.td (w_and (dF hu (cH hu (cH hu (dv 3) aP (λ_ _=>rfl)) (dv 0) (λ_ _=>rfl)) (dv 1)) (mD (dF hu (cH hu (cH hu (dv 3) aP (λ_ _=>rfl)) (dv 0) (λ_ _=>rfl)) (dv 2))))))) (λC fp s₂ H₂=>(dv 0)))
 (aH (cE (oq.td (w_or (dF hu (dv 5) (fk aC)) (lS (dF hu (b5 (cG (aK c__law_mixed hr (by omega) (by rfl) (aA (dv 0) (aA aD aC))) aD) aD) aD)))) (aI (aQ (ay (aA aP (aA (aK c__law_value hr (by omega) (by rfl) (aA (aK c__law_mixed hr (by omega) (by rfl) (aA (dv 0) (aA aD aC))) (aA (dv 3) aC))) aC))))) ar)
 (aI (aQ (ay (aA aP (aA (aj (dv 5) (b5 (cG (aK c__law_mixed hr (by omega) (by rfl) (aA (dv 0) (aA aD aC))) aD) (cZ (by rfl) n_len (aA (dv 5) aC))) (λ_ _=>rfl)) aC)))))))) ?_
 rintro ds Q ⟨c,m,ns,bt,kk,oo,bb,s,rfl,pl,hb,q⟩
 refine⟨_,rfl,ns.map D.str,rfl,outF (l_ kk bb s bt) D.str ns,qH,nq (λz hz=>rW (ip:=3) (tk:=aF 1) (j:=2) (m:=m) (oo:=oo) pl hb hz rfl rfl (λQ q=>⟨_,rfl,q⟩) rfl),by rw[List.length_map];exact Nat.lt_of_le_of_lt pl.hi (by decide),?_⟩
 rw[qI]
 have tsub:∀z∈ns.filter (l_ kk bb s bt),z∈ns:=λz hz=>(List.mem_filter.mp hz).1
 generalize ns.filter (l_ kk bb s bt)=ts at tsub ⊢
 have tok:∀z∈ts,d6 z:=λz hz=>pl.nm z (tsub z hz)
 have giv:gq (aE (vC (.str "given")) (aE (bD qX (aE (bD d_ (aE (aF 0) (aE (vC (.int 22)) ak))) (aE (aF 3) ak))) ak)) [some (.int c),some (f7 ns m kk oo bb),some (.lst (ns.map D.str)),some (.str s),some (.tup (bt.map D.str)),some (.lst (ts.map D.str))] Q :=
  ⟨_,rfl,_,_,rfl,_,rfl,_,_,rfl,λv hv=>⟨zL2,q (.given v) hv rfl rfl⟩⟩
 refine⟨_,rfl,zL0,Ax (neg:=false) (mQ λz hz=>(tok z hz).2.2) (by decide) ⟨_,rfl,?_⟩⟩
 cases ts with
 |nil=>exact aR (aR giv)
 |cons t0 tr =>
  refine aO ⟨_,rfl,_,_,rfl,cd (by decide) (by decide),iP5,_,rfl,?_⟩
  cases decide (mixed c 21 / 7%5=0) with
  |true=>exact aR giv
  |false =>
   have lp:(0:Int)<(((t0::tr).map D.str).length:Int):=by simp
   obtain⟨od,hod,eo⟩:=eC (xs:=(t0::tr).map D.str) (cD (mixed c 23 / 7) lp) (cC (mixed c 23 / 7) lp)
   obtain⟨o,ho,rfl⟩:=List.mem_map.mp hod
   exact aO ⟨_,rfl,_,rfl,_,_,rfl,cd (by decide) (by decide),_,rfl,_,_,rfl,rfl,lp,.str o,eo,zL2,q (.named o) (tok o ho) rfl rfl⟩
theorem C4 (d:Df K mg "_law_typed" fX ["_law_cell","_law_plan_here","_law_ready","_law_kind","_law_beat","_law_deep"])(n_range:mg "range"=none)(n_len:mg "len"=none)(c__law_mixed:bE P w K mg base j "_law_mixed" ["_law_cell","_law_k"] d_)(c__law_value:bE P w K mg base j "_law_value" ["_law_mix","_law_kind"] qX)
  (c__law_leaf:bE P w K mg base j "_law_leaf" ["_law_cell","_law_plan_here","_law_ready","_law_kind","_law_beat"] qV)(c__law_typed:bE P w K mg base j "_law_typed" ["_law_cell","_law_plan_here","_law_ready","_law_kind","_law_beat","_law_deep"] (eA n)) :
  bE P w K mg base (j+1) "_law_typed" ["_law_cell","_law_plan_here","_law_ready","_law_kind","_law_beat","_law_deep"] (eA (n+1)):=by
 refine d.dC lI JT (λds Q ⟨c,m,ns,bt,kk,oo,bb,s,i,e,_⟩=>by rw[e];rfl) (λf cdv A outer s H E hr=>have hu:=hr.units;have hh:=hr.hd;have sc:=lI
  (aH (aq (i:=6) sc.nd rfl (Or.inl rfl) (b5 (cG (aK c__law_mixed hr (by omega) (by rfl) (aA (dv 0) (aA aD aC))) aD) aD))
 (aH (cE (oq.td (w_or (dF hu (dv 5) aD) (lS (IA (dv 6) aD)))) (aI (aQ (aK c__law_leaf hr (by omega) (by rfl) (aA (dv 0) (aA (dv 1) (aA (dv 2) (aA (dv 3) (aA (dv 4) aC)))))))) ar)
 (aH (EV (i:=7) sc.nd rfl (Or.inl rfl) (x:="_law_k") (caps:=[0]) (cn:=["_law_cell"]) (cl:=[("_law_cell",s.heap.objs.size+1)]) (uL (by rfl) (by rfl) (by decide +kernel) (mM ["_law_cell"] rfl (by decide +kernel)) (by decide +kernel) (bz (by rfl) gv) (.cons ⟨rfl,.inl rfl,rfl⟩ .nil)) rfl (fu (by rfl) n_range (aA aD aC)) (λC fp s₂ H₂=>bY (i:=0) (show(["_law_k","_law_cell"]:List Str).Nodup by decide +kernel) rfl (Or.inl rfl) (.inr rfl)) (λC fp s₂ H₂=>fE) (λC fp s₂ H₂=>(aK c__law_mixed hr (by omega) (by rfl) (aA (dv 1) (aA (cF aD (dv 0)) aC)))))
 (aH (aq (i:=8) sc.nd rfl (Or.inl rfl) (aj (fk (aA pI (aA (aK c__law_value hr (by omega) (by rfl) (aA (aK c__law_mixed hr (by omega) (by rfl) (aA (dv 0) (aA aD aC))) (aA (dv 3) aC))) aC))) (cG (b5 (cG (aK c__law_mixed hr (by omega) (by rfl) (aA (dv 0) (aA aD aC))) aD) aD) aD) (λ_ _=>rfl)))
 (aH (cE (oq.td (w_or (dF hu (dv 6) aD) (w_or (dF hu (dv 6) aD) (lS (dF hu (dv 6) aD))))) (aI (aQ (ay (aA aP (aA (aK c__law_typed hr (by omega) (by rfl) (aA (aj (dv 7) aD (λ_ _=>rfl)) (aA (dv 1) (aA (cH hu (dv 1) aP (λ_ _=>rfl)) (aA (dv 3) (aA (dv 4) (aA (fm (dv 5) aD) aC))))))) (aA (dv 8) aC)))))) ar)
 (aH (aq (i:=9) sc.nd rfl (Or.inl rfl) (yn (iD hu (dv 6) aD) (fH (iD hu (b5 (cG (aK c__law_mixed hr (by omega) (by rfl) (aA (dv 0) (aA aD aC))) aD) aD) aD))))
 (aH (cE (oq.td (w_and (eB (dv 9)) (w_and (zm hu (dv 4) (ay aC)) (mD (xH (aj (dv 4) (oN aD) (λ_ _=>rfl)) (dv 2) (by rfl)))))) (aI (aQ (ay (aA aP (aA (aK c__law_typed hr (by omega) (by rfl) (aA (aj (dv 7) aD (λ_ _=>rfl)) (aA (dv 1) (aA (dv 2) (aA (dv 3) (aA (eK (dv 4) iJ (fz (oN aD))) (aA (fm (dv 5) aD) aC))))))) (aA (aj (dv 4) (oN aD) (λ_ _=>rfl)) aC)))))) ar)
 (aH (EV (i:=10) sc.nd rfl (Or.inl rfl) (x:="_law_name") (caps:=[4,1]) (cn:=["_law_beat","_law_plan_here"]) (cl:=[("_law_plan_here",s.heap.objs.size+2),("_law_beat",s.heap.objs.size+3)]) (uL (by rfl) (by rfl) (by decide +kernel) (mM ["_law_plan_here","_law_beat"] rfl (by decide +kernel)) (by decide +kernel) (bz (by rfl) (bz (by rfl) gv)) (.cons ⟨rfl,.inl rfl,rfl⟩ (.cons ⟨rfl,.inl rfl,rfl⟩ .nil))) rfl (gz (dv 2)) (λC fp s₂ H₂=>bY (i:=0) (show(["_law_name","_law_beat","_law_plan_here"]:List Str).Nodup by decide +kernel) rfl (Or.inl rfl) (.inr rfl)) (λC fp s₂ H₂=>(uA (oq.td (w_and (dF hu (cH hu (cH hu (dv 2) aP (λ_ _=>rfl)) (dv 0) (λ_ _=>rfl)) aP) (mD (dF hu (cH hu (cH hu (dv 2) aP (λ_ _=>rfl)) (dv 0) (λ_ _=>rfl)) (dv 1))))))) (λC fp s₂ H₂=>(dv 0)))
 (aH (cE (oq.td (w_and (oq.td (w_or (dF hu (dv 6) aD) (lS (dF hu (dv 6) aD)))) (mD (zm hu (dv 10) (fk aC))))) (aH (aq (i:=14) sc.nd rfl (Or.inl rfl) (aj (dv 10) (b5 (cG (aK c__law_mixed hr (by omega) (by rfl) (aA (dv 0) (aA aD aC))) aD) (cZ (by rfl) n_len (aA (dv 10) aC))) (λ_ _=>rfl)))
 (aI (aQ (ay (aA aP (aA (aK c__law_typed hr (by omega) (by rfl) (aA (aj (dv 7) aD (λ_ _=>rfl)) (aA (dv 1) (aA (dv 2) (aA (dv 3) (aA (cF (dv 4) (ay (aA (dv 14) aC))) (aA (fm (dv 5) aD) aC))))))) (aA (dv 14) (aA (dv 8) aC)))))))) ar)
 (aH (cE (dF hu (dv 6) aD) (aH (aq (i:=13) sc.nd rfl (Or.inl rfl) (aK c__law_typed hr (by omega) (by rfl) (aA (aj (dv 7) aD (λ_ _=>rfl)) (aA (dv 1) (aA (dv 2) (aA (dv 3) (aA (dv 4) (aA (fm (dv 5) aD) aC))))))))
 (aI (aQ (ay (aA aP (aA (dv 13) (aA (aK c__law_typed hr (by omega) (by rfl) (aA (aj (dv 7) aD (λ_ _=>rfl)) (aA (dv 1) (aA (dv 2) (aA (dv 3) (aA (dv 4) (aA (fm (dv 5) aD) aC))))))) aC))))))) ar)
 (aH (cE (dF hu (dv 6) aD) (aH (aq (i:=13) sc.nd rfl (Or.inl rfl) (aK c__law_typed hr (by omega) (by rfl) (aA (aj (dv 7) aD (λ_ _=>rfl)) (aA (dv 1) (aA (dv 2) (aA (dv 3) (aA (dv 4) (aA (fm (dv 5) aD) aC))))))))
 (aH (aq (i:=15) sc.nd rfl (Or.inl rfl) (aK c__law_typed hr (by omega) (by rfl) (aA (aj (dv 7) aD (λ_ _=>rfl)) (aA (dv 1) (aA (dv 2) (aA (dv 3) (aA (dv 4) (aA (fm (dv 5) aD) aC))))))))
 (aI (aQ (ay (aA aP (aA (aK c__law_typed hr (by omega) (by rfl) (aA (aj (dv 7) aD (λ_ _=>rfl)) (aA (dv 1) (aA (dv 2) (aA aP (aA (dv 4) (aA (fm (dv 5) aD) aC))))))) (aA (dv 13) (aA (dv 15) aC))))))))) ar)
 (aH (aq (i:=11) sc.nd rfl (Or.inl rfl) (aj (fk (lV (by rfl))) (b5 (cG (aK c__law_mixed hr (by omega) (by rfl) (aA (dv 0) (aA aD aC))) aD) aD) (λ_ _=>rfl)))
 (aH (aq (i:=12) sc.nd rfl (Or.inl rfl) (dv 3))
 (aH (cE (dF hu (dv 3) aP) (aH (aq (i:=11) sc.nd rfl (Or.inl rfl) (aj (fk (lV (by rfl))) (b5 (cG (aK c__law_mixed hr (by omega) (by rfl) (aA (dv 0) (aA aD aC))) aD) aD) (λ_ _=>rfl)))
 (aI (aq (i:=12) sc.nd rfl (Or.inl rfl) (aj (fk (lV (by rfl))) (b5 (cG (aK c__law_mixed hr (by omega) (by rfl) (aA (dv 0) (aA aD aC))) aD) aD) (λ_ _=>rfl))))) ar)
 (aH (aq (i:=13) sc.nd rfl (Or.inl rfl) (aK c__law_typed hr (by omega) (by rfl) (aA (aj (dv 7) aD (λ_ _=>rfl)) (aA (dv 1) (aA (dv 2) (aA (dv 12) (aA (dv 4) (aA (fm (dv 5) aD) aC))))))))
 (aH (cE (dF hu (dv 11) aP) (aI (aQ (ay (aA aP (aA (dv 13) aC))))) ar)
 (aI (aQ (ay (aA (dv 11) (aA (dv 13) (aA (aK c__law_typed hr (by omega) (by rfl) (aA (aj (dv 7) aD (λ_ _=>rfl)) (aA (dv 1) (aA (dv 2) (aA (dv 12) (aA (dv 4) (aA (fm (dv 5) aD) aC))))))) aC))))))))))))))))))))))) ?_
 rintro ds Q ⟨c,m,ns,bt,kk,oo,bb,s,i,rfl,hi,pl,hb,hl,q⟩
 have leaf:bD qV (aE (aF 0) (aE (aF 1) (aE (aF 2) (aE (aF 3) (aE (aF 4) ak))))) [some (.int c),some (f7 ns m kk oo bb),some (.lst (ns.map D.str)),some (.str s),some (.tup (bt.map D.str)),some (.int (i:Int)),some (.int (mixed c 1 / 7%14)),none,none,none,none,none,none,none,none,none] Q :=
  ⟨_,rfl,_,rfl,_,rfl,_,rfl,_,rfl,c,m,ns,bt,kk,oo,bb,s,rfl,pl,hb,λp o d z=>q p o (by omega) (by have:=oB i;omega)⟩
 refine⟨_,rfl,_,_,rfl,cd (by decide) (by decide),iP14,?_⟩
 cases i with
 |zero=>exact⟨_,rfl,true,rfl,aR (aR leaf)⟩
 |succ k =>
  refine⟨_,rfl,false,congrArg D.bl (show decide (((k+1:Nat):Int)=0)=false from decide_eq_false (by omega)),aO ⟨_,rfl,_,rfl,?_⟩⟩
  cases decide (mixed c 1 / 7%14<2) with
  |true=>exact aR leaf
  |false =>
   refine aO ?_
   clear leaf
   have hkn:k<n:=by omega
   have szk:sz (k+1)=3*sz k+1:=rfl
   have szp:=oB k
   refine⟨3,rfl,by decide,by decide,zV (λt:Nat=>D.int (mixed c (11+(0+(t:Int))))) (List.range 3),Bh,zW (λt ht=>⟨rfl,λ_=>⟨_,rfl,_,rfl,_,_,rfl,rfl⟩⟩),(show 3<sizeLine by decide),?_⟩
   rw[Bi]
   have er:(List.range 3).map (λt:Nat=>D.int (mixed c (11+(0+(t:Int)))))=[D.int (mixed c (11+(0+((0:Nat):Int)))),D.int (mixed c (11+(0+((1:Nat):Int)))),D.int (mixed c (11+(0+((2:Nat):Int))))]:=rfl
   rw[er]
   generalize mixed c (11+(0+((0:Nat):Int)))=a0
   generalize mixed c (11+(0+((1:Nat):Int)))=a1
   generalize mixed c (11+(0+((2:Nat):Int)))=a2
   refine⟨_,rfl,_,_,rfl,_,rfl,_,_,rfl,λv hv=>?_⟩
   have f0:=cD (mixed c 6 / 7) iP3
   have f1:=cC (mixed c 6 / 7) iP3
   obtain⟨f,hf,ef⟩:=eC (xs:=[D.ag,v]) (i:=mixed c 6 / 7%3 / 2) (by omega) (by show _<((2:Nat):Int);omega)
   have of:bA f:=by
    simp only[List.mem_cons,List.not_mem_nil,or_false] at hf
    rcases hf with rfl|rfl
    ·exact .inl rfl
    ·exact .inr hv
   refine⟨zL2,_,rfl,_,_,rfl,cd (by decide) (by decide),iP3,cd (by decide) (by decide),f,ef,?_⟩
   exact IB pl hb (by omega) hkn of q
theorem rY (d:Df K mg "_law_typed" fX ["_law_cell","_law_plan_here","_law_ready","_law_kind","_law_beat","_law_deep"])(n_range:mg "range"=none)(n_len:mg "len"=none)(cm:bE P w K mg base 1 "_law_mixed" ["_law_cell","_law_k"] d_)(cv:bE P w K mg base 2 "_law_value" ["_law_mix","_law_kind"] qX)(cl:bE P w K mg base 3 "_law_leaf" ["_law_cell","_law_plan_here","_law_ready","_law_kind","_law_beat"] qV) :
  ∀n,bE P w K mg base (n+3) "_law_typed" ["_law_cell","_law_plan_here","_law_ready","_law_kind","_law_beat","_law_deep"] (eA n)
 | 0=>Df.never d λds Q ⟨_,_,_,_,_,_,_,_,_,_,h,_⟩=>absurd h (by omega)
 |n+1=>C4 d n_range n_len (cm.up (by omega)) (cv.up (by omega)) (cl.up (by omega)) (rY d n_range n_len cm cv cl n)
def Jx:cg:=λds Q=>∃ns:List Int,ds=[.lst (ns.map D.int)]/\Q (.bl true)
theorem z0 (d:D):bj [] d=d:=by cases d<;>rfl
theorem Cg (δ:SD):cW [] δ=δ:=by
 unfold cW
 conv=>rhs;rw[<- List.map_id δ]
 refine List.map_congr_left λo _=>?_
 cases o with
 |none=>rfl
 |some d=>show some (bj [] d)=some d;rw[z0]
theorem GZ {uc:TD}{t u:fe}{E:de}{δ:SD}(h:uc δ λb=>if b=true then t E δ [] else u E δ []):Gu uc t u E δ []:=by
 unfold Gu
 rw[Cg]
 exact h
theorem J3 {d:Nat}(h:d<4):sz d<=40:=by
 match d,h with
 | 0,_=>decide
 | 1,_=>decide
 | 2,_=>decide
 | 3,_=>decide
theorem HE {x qual:Str}{st:Stmt}{f:Addr}{fd:FuncData}{N ps:List Str}{k:Nat}{sd:cg}{t:fe}(F:vx K x qual st f fd)(S:aG N ps (aB st))(len:∀ds Q,sd ds Q->ds.length=ps.length)
  (hb:∀(f:Addr) (cdv:Value) (A:Around) (outer:List PySem.Env) (s:Shared) (H:Hp) (E:XK),cA k (A.deeper (envOfC qual (aB st) s.heap.objs.size f cdv))->yW (Bx P w K mg base N qual st f cdv A outer s H E) (bF st) t)
  (hr:∀ds Q,sd ds Q->t { nx:=λ_ _=>Q .ag,rt:=λd μ=>Q (bj μ d)} (dE N ds) []):dB P w K mg base oy (k+1) f fd ps (qt K sd):=L9 F S len (hb f) hr
theorem HF {f:Addr}{fd:FuncData}(F:vx K "law" "law" jL f fd)(n_range:mg "range"=none)(c__law_cell_at:bE P w K mg base j "_law_cell_at" ["_law_script","_law_k"] B5)(c__law_mixed:bE P w K mg base j "_law_mixed" ["_law_cell","_law_k"] d_)(c__law_plan:bE P w K mg base j "_law_plan" ["_law_cell"] B_)
  (c__law_typed:bE P w K mg base j "_law_typed" ["_law_cell","_law_plan_here","_law_ready","_law_kind","_law_beat","_law_deep"] (eA 4))(c__law_part_text:bE P w K mg base j "_law_part_text" ["_law_told"] (qq 4 rN λp=>.str p.text))(nG:bE P w K mg base j "part_by" ["text"] (vV A))
  (c__law_same:bE P w K mg base j "_law_same" ["_law_found","_law_due"] (n9 6))(m_told:MP P w K mg base A j "told" 4 Pt.told)(m_text:MQ P w K mg base A j "text" 4 tK d9):dB P w K mg base oy (j+1) f fd ["_law_script"] (qt K Jx):=by
 refine HE F B4 (λds Q ⟨ns,e,_⟩=>by rw[e];rfl) (λf cdv A outer s H E hr=>have hu:=hr.units;have hh:=hr.hd;have sc:=B4
  (ai (tG PassesOwn.never rfl (fu (by rfl) n_range (aA aD aC)) (pQ (i:=1) sc.nd rfl (Or.inl rfl)) (ai (cp (aq (i:=2) sc.nd rfl (Or.inl rfl) (aK c__law_mixed hr (by omega) (by rfl) (aA (aK c__law_cell_at hr (by omega) (by rfl) (aA (dv 0) (aA (dv 1) aC))) (aA (cF aD (dv 1)) aC)))))
 (ai (cp (aq (i:=3) sc.nd rfl (Or.inl rfl) (aK c__law_plan hr (by omega) (by rfl) (aA (dv 2) aC))))
 (ai (cp (aq (i:=4) sc.nd rfl (Or.inl rfl) (aj (fk (lV (by rfl))) (b5 (cG (dv 2) aD) aD) (λ_ _=>rfl))))
 (ai (cp (aq (i:=5) sc.nd rfl (Or.inl rfl) (aK c__law_typed hr (by omega) (by rfl) (aA (aK c__law_mixed hr (by omega) (by rfl) (aA (dv 2) (aA aD aC))) (aA (dv 3) (aA (cH hu (dv 3) aP (λ_ _=>rfl)) (aA (dv 4) (aA (ay aC) (aA (cF aD (b5 (cG (dv 2) aD) aD)) aC)))))))))
 (ai (cp (aq (i:=6) sc.nd rfl (Or.inl rfl) (aK c__law_part_text hr (by omega) (by rfl) (aA (dv 5) aC))))
 (ai (G9 λpins E=>(cJ (cp (aq (i:=7) sc.nd rfl (Or.inl rfl) (aK nG hr (by omega) (by rfl) (aA (dv 6) aC))))))
 (cJ (p8 (oq.td (w_or (qd (eB (aK c__law_same hr (by omega) (by rfl) (aA (cT m_told hr (by omega) (dv 7)) (aA (dv 5) aC))))) (lS (zm hu (cT m_text hr (by omega) (dv 7)) (dv 6))))) (cJ (p_ AZ)) p9)))))))))
 (cJ (p_ AZ)))) ?_
 rintro ds Q ⟨zs,rfl,q⟩
 refine⟨6,rfl,by decide,by decide,λi δ' μ'=>μ'=[]/\∃a b c d e g h,δ'=[some (.lst (zs.map D.int)),a,b,c,d,e,g,h],⟨rfl,_,_,_,_,_,_,_,rfl⟩,?_,?_⟩
 ·rintro i d δ' μ' hd ⟨rfl,a,b,c,d1,e,g,h,rfl⟩
  have hi:i<6:=by
   have:=(List.getElem?_eq_some_iff.mp hd).1
   simpa using this
  have ed:d=.int (0+(i:Int)):=by
   have hr:((List.range (6:Int).toNat).map λi:Nat=>D.int (0+(i:Int)))[i]?=some (.int (0+(i:Int))):=by
    rw[List.getElem?_map,List.getElem?_range (show i<(6:Int).toNat from hi)]
    rfl
   exact Option.some.inj (hd.symm.trans hr)
  subst ed
  refine⟨_,rfl,_,rfl,zs,i,by rw[Int.zero_add],by omega,λc0=>⟨_,rfl,_,_,rfl,?_⟩⟩
  generalize mixed c0 (50+(0+(i:Int)))=cc
  refine⟨_,rfl,cc,rfl,λns m kk oo bb pl=>?_⟩
  obtain⟨kd,hkd,ekd⟩:=eC (xs:=([("truth":Str),"number"]:List Str).map D.str) (cD (cc / 11) iP2) (cC (cc / 11) iP2)
  obtain⟨kd,_,rfl⟩:=List.mem_map.mp hkd
  refine⟨zL2,_,rfl,cd (by decide) (by decide),iP2,.str kd,ekd,?_⟩
  have m0:=cD (cc / 22) iP3
  have m1:=cC (cc / 22) iP3
  obtain⟨dN,hdN⟩:∃dN:Nat,1+cc / 22%3=(dN:Int):=⟨(1+cc / 22%3).toNat,by omega⟩
  refine⟨_,rfl,_,_,rfl,_,rfl,_,rfl,_,_,_,rfl,rfl,kL,_,rfl,zL0,_,rfl,cd (by decide) (by decide),iP3,mixed cc 3,m,ns,[],kk,oo,bb,kd,dN,?_,by omega,pl,(λx hx=>nomatch hx),by simp;omega,λp ok hdp hsz=>?_⟩
  ·rw[<- hdN];rfl
  have hL:rN p:=⟨ok,Nat.le_trans hsz (J3 (by omega))⟩
  have hp4:p.depth<=4:=by omega
  refine⟨_,rfl,p,rfl,hp4,hL,?_⟩
  refine⟨_,rfl,p,rfl,⟨ok,⟨by omega,hL.2⟩,hL.sh⟩,?_⟩
  dsimp only
  refine GZ ?_
  refine bP fM cQ ⟨_,rfl,rfl⟩ hp4 ?_
  refine⟨_,rfl,p.told,5,rfl,by omega,Ee p 5 ok (by omega),true,rfl,aO ?_⟩
  refine a_ fM cP ⟨_,rfl,rfl⟩ hp4 hL.t ?_
  refine⟨_,rfl,?_⟩
  show ∃b,D.bl (!decide (p.text=p.text))=.bl b/\_
  refine⟨false,by simp,aO ⟨rfl,_,_,_,_,_,_,_,rfl⟩⟩
 ·rintro δ' μ' ⟨rfl,a,b,c,d,e,g,h,rfl⟩
  exact q
end
/-! ### where things lie -/
def AJ (x qual:Str)(st:Stmt)(ps:List Str):Prop:=∀(kV doc pm:Value) (an:Option Addr) (cdv ct:Value) (us:List Value),us.length=ps.length->bindArgs (fnOf x qual (cj st) (bF st) (aB st) .none kV doc pm an cdv ct) ⟨us,[]⟩=pure (ps.zip us)
section
variable {w:World}{K:PySem.W.Frag}{h:Heap}{mg:Str->Option Value}{x m qual:Str}{st:Stmt}{ps:List Str}{f C:Addr}{od an:Option Addr}{sl:Array (Option Value)}{oc kV dc pm cd ct dV:Value}
theorem bJ (X:K.In h)(G:h.Ns mainGlobals mg)(a:nsIn K mainGlobals x=some (some (.ref f)):=by k_is)(l:K.lookup f=some ⟨oc,od,.func (fnOf x x (cj st) (bF st) (aB st) .none kV dc pm an cd ct),sl⟩:=by k_is)
  (c:codeIn K cd x=true:=by k_is)(k:keepIn K (.ref f)=true:=by k_is)(b:AJ x x st ps:=by first|exact(λ_ _ _ _ _ _ us hl=>match us,hl with|[_],_=>rfl)|exact(λ_ _ _ _ _ _ us hl=>match us,hl with|[_,_],_=>rfl)|exact(λ_ _ _ _ _ _ us hl=>match us,hl with|[_,_,_],_=>rfl)|exact(λ_ _ _ _ _ _ us hl=>match us,hl with|[_,_,_,_],_=>rfl)|exact(λ_ _ _ _ _ _ us hl=>match us,hl with|[_,_,_,_,_],_=>rfl)|exact(λ_ _ _ _ _ _ us hl=>match us,hl with|[_,_,_,_,_,_],_=>rfl)):Df K mg x st ps:=⟨⟨f,_,nM (st:=st) l c k,mg_of X G a,(nM (st:=st) l c k).binds b⟩⟩
theorem pK (X:K.In h)(G:h.Ns mainGlobals mg)(hc:nsIn K mainGlobals x=some (some (.ref C)):=by k_is)(mk:makesIn K C=true:=by k_is)(ini:findIn K (.ref C) "__init__"=some (some (.ref f)):=by k_is)(fn:isFn K (.ref f)=true:=by k_is)(kp:keepIn K (.ref C)=true:=by k_is)
  (l:K.lookup f=some ⟨oc,od,.func (fnOf "__init__" qual (cj st) (bF st) (aB st) .none kV dc pm an cd ct),sl⟩:=by k_is)(c:codeIn K cd qual=true:=by k_is)(k:keepIn K (.ref f)=true:=by k_is)
  (b:AJ "__init__" qual st ps:=by first|exact(λ_ _ _ _ _ _ us hl=>match us,hl with|[_,_],_=>rfl)|exact(λ_ _ _ _ _ _ us hl=>match us,hl with|[_,_,_],_=>rfl)|exact(λ_ _ _ _ _ _ us hl=>match us,hl with|[_,_,_,_],_=>rfl)|exact(λ_ _ _ _ _ _ us hl=>match us,hl with|[_,_,_,_,_],_=>rfl)):Di K mg x C qual st ps [] :=
 ⟨⟨f,_,[],[],⟨⟨oc,od,.none,kV,dc,pm,an,cd,ct,sl,rfl,l,c⟩,k⟩,⟨mk,ini,fn,kp⟩,mg_of X G hc,(nM (st:=st) l c k).binds b,.nil,λ_=>.nil⟩⟩
def AI (x qual:Str)(st:Stmt)(ps:List Str):Prop:=∀(K:PySem.W.Frag) (T:Addr) (ob:Obj) (v:Value) (n:Nat),K.lookup T=some ob->ob.data=.seq #[v] n->∀(kV doc pm:Value) (an:Option Addr) (cdv ct:Value),Binds K (fnOf x qual (cj st) (bF st) (aB st) (.ref T) kV doc pm an cdv ct) ps []
theorem Aj {Ta:Addr}{tc v:Value}{td:Option Addr}{tn:Nat}{tsl:Array (Option Value)}(X:K.In h)(G:h.Ns mainGlobals mg)(b:AI "__init__" qual st ps)(hc:nsIn K mainGlobals x=some (some (.ref C)):=by k_is)(mk:makesIn K C=true:=by k_is)(ini:findIn K (.ref C) "__init__"=some (some (.ref f)):=by k_is)
  (fn:isFn K (.ref f)=true:=by k_is)(kp:keepIn K (.ref C)=true:=by k_is)(l:K.lookup f=some ⟨oc,od,.func (fnOf "__init__" qual (cj st) (bF st) (aB st) (.ref Ta) kV dc pm an cd ct),sl⟩:=by k_is)(c:codeIn K cd qual=true:=by k_is)(k:keepIn K (.ref f)=true:=by k_is)
  (lt:K.lookup Ta=some ⟨tc,td,.seq #[v] tn,tsl⟩:=by k_is):Di K mg x C qual st ps [] :=
 ⟨⟨f,_,[],[],⟨⟨oc,od,.ref Ta,kV,dc,pm,an,cd,ct,sl,rfl,l,c⟩,k⟩,⟨mk,ini,fn,kp⟩,mg_of X G hc,b K Ta _ v tn lt rfl kV dc pm an cd ct,.nil,λ_=>.nil⟩⟩
theorem iM (a:plainGet K C Str.empty=true:=by k_is)(b:hasDictIn K C=true:=by k_is)(c:plainOver K C=true:=by k_is)(d:findIn K (.ref C) "__setattr__"=some (some (.builtin "object.__setattr__")):=by k_is)
  (e:findIn K (.ref C) "__class__"=some (some (.builtin "object.__class__")):=by k_is)(f:PySem.W.specialIn K (.builtin "object.__class__") "__get__"=some (some (.builtin "getset_descriptor.__get__")):=by k_is)(g:PySem.W.takesIn K (.builtin "object.__class__")=some true:=by k_is)(h:PySem.W.mroIn K C (.type "object")=some true:=by k_is):i5 K C:=⟨⟨a,b,c,d⟩,e,f,g,h⟩
theorem oP {i:Int}{t:Tok}(X:K.In h)(G:h.Ns mainGlobals mg)(e:nsIn K mainGlobals x=some (some (.int i t))):GI mg x i:=⟨⟨t,mg_of X G e⟩⟩
theorem A_ {y:Str}{t:Tok}(X:K.In h)(G:h.Ns mainGlobals mg)(e:nsIn K mainGlobals x=some (some (.str y t))):GD K mg x (.str y):=⟨⟨.str y,.str y t,mg_of X G e,⟨_,rfl⟩,λ_=>.str y⟩⟩
def Ig (K:PySem.W.Frag)(t:Addr)(ds:List D):Prop:=∀H,Dv K H (.ref t) (.tup ds)
theorem cb {t:Addr}{its:Array Value}{n:Nat}(vs:List V){ds:List D}(l:K.lookup t=some ⟨.type "tuple",od,.seq its n,sl⟩)(z:its.size<=1000)(v:Vals vs its.toList)(d:∀H,bN K H vs ds):Ig K t ds :=
 λH=>.tup (.inr ⟨_,its,n,l,rfl,rfl,Nat.le_of_lt (zj z),v⟩) (d H)
theorem JC {t:Addr}{ds:List D}(X:K.In h)(G:h.Ns mainGlobals mg)(e:nsIn K mainGlobals x=some (some (.ref t)))(l:Ig K t ds):GD K mg x (.tup ds):=⟨⟨.ref t,.ref t,mg_of X G e,rfl,l⟩⟩
theorem FO {s:Addr}{es:Array DictEntry}{n:Nat}{kvs:List (Str × V)}{tab:List (Str × D)}(X:K.In h)(G:h.Ns mainGlobals mg)(e:nsIn K mainGlobals x=some (some (.ref s)))(l:K.lookup s=some ⟨.type "dict",none,.dict es n,#[]⟩)(hk:PySem.W.KeysLit w.params es.toList)
  (he:nA kvs es.toList)(sys:(s == sysModules)=false)(t:Tb K kvs tab):Cm w K mg x s tab:=⟨mg_of X G e,kvs,⟨⟨es,n,l,hk,he⟩,sys⟩,t⟩
theorem bW {y:Str}{t:Tok}{r:Addr}{en:DictEntry}{kvs:List (Str × V)}{es:List DictEntry}(hk:en.key=.str y t)(hv:en.val=.ref r)(q:nA kvs es):nA ((y,.ref r)::kvs) (en::es):=.cons hk hv q
theorem yt (ws:List Str):∀H,bN K H (ws.map V.str) (ws.map D.str):=λ_=>pM ws
def AM (K:PySem.W.Frag)(C:Addr):Prop:=∀f∈(["value","name","part","sign","one","other","truth","first","head","rest"]:List Str),eh K C f
theorem iI (h0:findIn K (.ref C) "value"=some none:=by k_is)(h1:findIn K (.ref C) "name"=some none:=by k_is)(h2:findIn K (.ref C) "part"=some none:=by k_is)(h3:findIn K (.ref C) "sign"=some none:=by k_is)(h4:findIn K (.ref C) "one"=some none:=by k_is)(h5:findIn K (.ref C) "other"=some none:=by k_is)(h6:findIn K (.ref C) "truth"=some none:=by k_is)(h7:findIn K (.ref C) "first"=some none:=by k_is)(h8:findIn K (.ref C) "head"=some none:=by k_is)(h9:findIn K (.ref C) "rest"=some none:=by k_is):AM K C:=by
 unfold AM
 simp only[List.mem_cons,List.not_mem_nil,or_false,forall_eq_or_imp,forall_eq]
 exact⟨h0,h1,h2,h3,h4,h5,h6,h7,h8,h9⟩
structure d5 (K:PySem.W.Frag) (C:Addr) (m qual:Str) (st:Stmt) (ps:List Str):Prop where
 ex:∃f fd,vx K m qual st f fd/\Meth K C m f/\Binds K fd ps []
theorem aX (a:findIn K (.ref C) m=some (some (.ref f)):=by k_is)(l:K.lookup f=some ⟨oc,od,.func (fnOf m qual (cj st) (bF st) (aB st) .none kV dc pm an cd ct),sl⟩:=by k_is)
  (c:codeIn K cd qual=true:=by k_is)(k:keepIn K (.ref f)=true:=by k_is)(n:isFn K (.ref f)=true:=by k_is)(b:AJ m qual st ps:=by first|exact(λ_ _ _ _ _ _ us hl=>match us,hl with|[_],_=>rfl)|exact(λ_ _ _ _ _ _ us hl=>match us,hl with|[_,_],_=>rfl)|exact(λ_ _ _ _ _ _ us hl=>match us,hl with|[_,_,_,_],_=>rfl)|exact(λ_ _ _ _ _ _ us hl=>match us,hl with|[_,_,_,_,_,_],_=>rfl)|exact(λ_ _ _ _ _ _ us hl=>match us,hl with|[_,_,_,_],_=>rfl)):d5 K C m qual st ps:=⟨⟨f,_,nM (st:=st) l c k,⟨a,n,k⟩,(nM (st:=st) l c k).binds b⟩⟩
theorem d5.dm (d:d5 K C m qual st ps)(c:uF K C):Dm K C m qual st ps:=let ⟨f,fd,F,M,b⟩:=d.ex;⟨⟨f,fd,F,M,c,b⟩⟩
end
theorem mI:AI "__init__" "Before.__init__" cV ["self","part","first"]:=λK T ob v n ho hs _ _ _ _ _ _ s us X hl=>match us,hl with|[_,_,_],_=>PySem.W.binds_K X rfl ho hs rfl rfl
theorem ot:AI "__init__" "Held.__init__" dQ ["self","part","name","first"]:=λK T ob v n ho hs _ _ _ _ _ _ s us X hl=>match us,hl with|[_,_,_,_],_=>PySem.W.binds_K X rfl ho hs rfl rfl
/-- the law's promise over values -/
def vY (K:PySem.W.Frag):Sp:=λvs H Q _=>∃(q:Addr) (ns:List Int),vs=[.ref q]/\fG K H q (ns.map V.int)/\ns.length<=63/\∀H',Q (.bl true) H'
theorem uf {K:PySem.W.Frag}{H:Hp}:∀ns:List Int,bN K H (ns.map V.int) (ns.map D.int)
 |[]=>.nil
 |n::ns=>.cons (.int n) (uf ns)
section
variable {P:Program}{w:World}{K:PySem.W.Frag}{mg:Str->Option Value}{base:Heap}{A:dA}{j k:Nat}{x:Str}{ps:List Str}
theorem vH (d:Df K mg "part_of" kW ["told"])(c0:bE P w K mg base 2 "many_within" ["told"] (tX Pt.ok λp=>.int p.inner.length))(c1:bE P w K mg base 1 "has_shape" ["told"] (tX Pt.ok λp=>.bl (!p.pU)))
  (c2:bE P w K mg base 15 "plain_by" ["told","inner"] (xA A 10 true))(c3:bE P w K mg base 15 "timed_by" ["told","inner"] (xA A 10 false))
  (k:qk P w K mg base 13 "Pair" A.pair (λds Q=>∃(g:Str) (x y:Pt),ds=[.str g,x.d A,y.d A]/\g∈dY/\(Pt.pair g x y).depth<=10/\ni (.pair g x y)/\Q [("sign",.str g),("one",x.d A),("other",y.d A)]) []) :
  ∀n,n<=10->bE P w K mg base (n+15) "part_of" ["told"] (zg A n)
 | 0,_=>Df.never d λds Q ⟨p,_,h,_⟩=>absurd p.cB (by omega)
 |n+1,h=>zX (m:=n) (N:=10) (by omega) h d (c0.up (by omega)) (c1.up (by omega)) (vH d c0 c1 c2 c3 k n (by omega)) (by omega) (c2.up (by omega)) (c3.up (by omega)) k
end
theorem F1 {w:World}{K:PySem.W.Frag}{h:Heap}{mg:Str->Option Value}{a1 a2 a3 a4 a5 a6 a7 a8 a9 sa sb:Addr}(X:K.In h)(G:h.Ns mainGlobals mg)
  (j0:nsIn K mainGlobals "Given"=some (some (.ref a1)))
  (j1:nsIn K mainGlobals "Named"=some (some (.ref a2)))
  (j2:nsIn K mainGlobals "Turned"=some (some (.ref a3)))
  (j3:nsIn K mainGlobals "Pair"=some (some (.ref a4)))
  (j4:nsIn K mainGlobals "Choice"=some (some (.ref a5)))
  (j5:nsIn K mainGlobals "Before"=some (some (.ref a6)))
  (j6:nsIn K mainGlobals "Led"=some (some (.ref a7)))
  (j7:nsIn K mainGlobals "When"=some (some (.ref a8)))
  (j8:nsIn K mainGlobals "Held"=some (some (.ref a9)))
  (j9:[a1,a2,a3,a4,a5,a6,a7,a8,a9].Nodup)
  (ja:i5 K a1)
  (jb:AM K a1)
  (jc:d5 K a1 "inner" "Part.inner" cK ["self"])
  (jd:d5 K a1 "size" "Part.size" bH ["self"])
  (je:d5 K a1 "depth" "Part.depth" az ["self"])
  (jf:d5 K a1 "need_bounds" "Part.need_bounds" aZ ["self"])
  (jg:d5 K a1 "told" "Given.told" fR ["self"])
  (jh:d5 K a1 "text" "Given.text" fQ ["self"])
  (ji:Di K mg "Given" a1 "Given.__init__" eG ["self","value"] [])
  (jj:i5 K a2)
  (jk:AM K a2)
  (jl:d5 K a2 "inner" "Part.inner" cK ["self"])
  (jm:d5 K a2 "size" "Part.size" bH ["self"])
  (jn:d5 K a2 "depth" "Part.depth" az ["self"])
  (jo:d5 K a2 "need_bounds" "Part.need_bounds" aZ ["self"])
  (jp:d5 K a2 "told" "Named.told" fU ["self"])
  (jq:d5 K a2 "text" "Named.text" fT ["self"])
  (jr:Di K mg "Named" a2 "Named.__init__" eI ["self","name"] [])
  (js:i5 K a3)
  (jt:AM K a3)
  (ju:d5 K a3 "inner" "Turned.inner" dy ["self"])
  (jv:d5 K a3 "size" "Part.size" bH ["self"])
  (jw:d5 K a3 "depth" "Part.depth" az ["self"])
  (jx:d5 K a3 "need_bounds" "Part.need_bounds" aZ ["self"])
  (jy:d5 K a3 "told" "Turned.told" eT ["self"])
  (jz:d5 K a3 "text" "Turned.text" eQ ["self"])
  (j10:Di K mg "Turned" a3 "Turned.__init__" dt ["self","part"] [])
  (j11:i5 K a4)
  (j12:AM K a4)
  (j13:d5 K a4 "inner" "Pair.inner" fV ["self"])
  (j14:d5 K a4 "size" "Part.size" bH ["self"])
  (j15:d5 K a4 "depth" "Part.depth" az ["self"])
  (j16:d5 K a4 "need_bounds" "Part.need_bounds" aZ ["self"])
  (j17:d5 K a4 "told" "Pair.told" gM ["self"])
  (j18:d5 K a4 "text" "Pair.text" gL ["self"])
  (j19:Di K mg "Pair" a4 "Pair.__init__" et ["self","sign","one","other"] [])
  (j1a:i5 K a5)
  (j1b:AM K a5)
  (j1c:d5 K a5 "inner" "Choice.inner" dr ["self"])
  (j1d:d5 K a5 "size" "Part.size" bH ["self"])
  (j1e:d5 K a5 "depth" "Part.depth" az ["self"])
  (j1f:d5 K a5 "need_bounds" "Part.need_bounds" aZ ["self"])
  (j1g:d5 K a5 "told" "Choice.told" eP ["self"])
  (j1h:d5 K a5 "text" "Choice.text" eO ["self"])
  (j1i:Di K mg "Choice" a5 "Choice.__init__" dq ["self","truth","one","other"] [])
  (j1j:i5 K a6)
  (j1k:AM K a6)
  (j1l:d5 K a6 "inner" "Before.inner" dn ["self"])
  (j1m:d5 K a6 "size" "Part.size" bH ["self"])
  (j1n:d5 K a6 "depth" "Part.depth" az ["self"])
  (j1o:d5 K a6 "need_bounds" "Part.need_bounds" aZ ["self"])
  (j1p:d5 K a6 "told" "Before.told" eN ["self"])
  (j1q:d5 K a6 "text" "Before.text" eM ["self"])
  (j1r:Di K mg "Before" a6 "Before.__init__" cV ["self","part","first"] [])
  (j1s:i5 K a7)
  (j1t:AM K a7)
  (j1u:d5 K a7 "inner" "Led.inner" gK ["self"])
  (j1v:d5 K a7 "size" "Part.size" bH ["self"])
  (j1w:d5 K a7 "depth" "Part.depth" az ["self"])
  (j1x:d5 K a7 "need_bounds" "Part.need_bounds" aZ ["self"])
  (j1y:d5 K a7 "told" "Led.told" iQ ["self"])
  (j1z:d5 K a7 "text" "Led.text" iP ["self"])
  (j20:Di K mg "Led" a7 "Led.__init__" gA ["self","head","rest"] [])
  (j21:i5 K a8)
  (j22:AM K a8)
  (j23:d5 K a8 "inner" "When.inner" fW ["self"])
  (j24:d5 K a8 "size" "Part.size" bH ["self"])
  (j25:d5 K a8 "depth" "Part.depth" az ["self"])
  (j26:d5 K a8 "need_bounds" "Part.need_bounds" aZ ["self"])
  (j27:d5 K a8 "told" "When.told" gO ["self"])
  (j28:d5 K a8 "text" "When.text" gN ["self"])
  (j29:Di K mg "When" a8 "When.__init__" eu ["self","part","name"] [])
  (j2a:i5 K a9)
  (j2b:AM K a9)
  (j2c:d5 K a9 "inner" "Held.inner" fS ["self"])
  (j2d:d5 K a9 "size" "Part.size" bH ["self"])
  (j2e:d5 K a9 "depth" "Part.depth" az ["self"])
  (j2f:d5 K a9 "need_bounds" "Part.need_bounds" aZ ["self"])
  (j2g:d5 K a9 "told" "Held.told" gJ ["self"])
  (j2h:d5 K a9 "text" "Held.text" gI ["self"])
  (j2i:Di K mg "Held" a9 "Held.__init__" dQ ["self","part","name","first"] [])
  (j2j:Df K mg "has_letters" gi ["text"])
  (j2k:Df K mg "has_word_form" e_ ["text"])
  (j2l:Df K mg "is_word" nv ["thing"])
  (j2m:Df K mg "is_name" nu ["thing"])
  (j2n:Df K mg "is_number" jK ["thing"])
  (j2o:Df K mg "is_value" l4 ["thing"])
  (j2p:Df K mg "value_text" iY ["value"])
  (j2q:Df K mg "first_text" iU ["first"])
  (j2r:Df K mg "need_name" jN ["name"])
  (j2s:Df K mg "need_first" iW ["first"])
  (j2t:Df K mg "has_shape" jJ ["told"])
  (j2u:Df K mg "many_within" gn ["told"])
  (j2v:Df K mg "plain_by" l6 ["told","inner"])
  (j2w:Df K mg "timed_by" l8 ["told","inner"])
  (j2x:Df K mg "part_of" kW ["told"])
  (j2y:Df K mg "need_form" jM ["holds"])
  (j2z:Df K mg "name_by" ny ["item"])
  (j30:Df K mg "is_figures" iV ["text"])
  (j31:Df K mg "number_by" jO ["word"])
  (j32:Df K mg "value_by" l9 ["item"])
  (j33:Df K mg "first_by" l0 ["items"])
  (j34:Df K mg "told_by" n0 ["item"])
  (j35:Df K mg "headed_told" gj ["items"])
  (j36:Df K mg "middle_told" gp ["items"])
  (j37:Df K mg "bracket_told" gC ["items"])
  (j38:Df K mg "put_word" l7 ["levels","word"])
  (j39:Df K mg "parts_told" iX ["words"])
  (j3a:Df K mg "one_told" l5 ["words"])
  (j3b:Df K mg "part_by" nz ["text"])
  (j3c:Df K mg "_law_cell_at" gB ["_law_script","_law_k"])
  (j3d:Df K mg "_law_mixed" iR ["_law_cell","_law_k"])
  (j3e:Df K mg "_law_names" iS ["_law_cell","_law_many"])
  (j3f:Df K mg "_law_number" gh ["_law_mix"])
  (j3g:Df K mg "_law_value" iT ["_law_mix","_law_kind"])
  (j3h:Df K mg "_law_same" gP ["_law_found","_law_due"])
  (j3i:Df K mg "_law_plan" jI ["_law_cell"])
  (j3j:Df K mg "_law_leaf" jH ["_law_cell","_law_plan_here","_law_ready","_law_kind","_law_beat"])
  (j3k:Df K mg "_law_typed" fX ["_law_cell","_law_plan_here","_law_ready","_law_kind","_law_beat","_law_deep"])
  (j3l:Df K mg "_law_part_text" cu ["_law_told"])
  (j3m:Df K mg "_law_value_text" dz ["_law_value_here"])
  (j3n:GI mg "LONGEST_WORD" 8)
  (j3o:GI mg "MOST_WORDS" 4)
  (j3p:GI mg "LOWEST" (-128))
  (j3q:GI mg "HIGHEST" 127)
  (j3r:GI mg "DEEPEST" 10)
  (j3s:GI mg "LARGEST" 40)
  (j3t:GI mg "MOST_FIGURES" 3)
  (j3u:GI mg "DEEPEST_BRACKETS" 20)
  (j3v:GD K mg "LETTERS" (.str eL))
  (j3w:GD K mg "FIGURES" (.str "0123456789"))
  (j3x:GD K mg "NUMBER_BEGINS" (.str "-0123456789"))
  (j3y:GD K mg "KEPT_WORDS" (.tup (fL.map D.str)))
  (j3z:Cm w K mg "SHAPES" sa my)
  (j40:Cm w K mg "SIGNS" sb iZ)
  (j41:nsIn K mainGlobals "isinstance"=some none)
  (j42:nsIn K mainGlobals "bool"=some none)
  (j43:nsIn K mainGlobals "int"=some none)
  (j44:nsIn K mainGlobals "len"=some none)
  (j45:nsIn K mainGlobals "all"=some none)
  (j46:nsIn K mainGlobals "sum"=some none)
  (j47:nsIn K mainGlobals "max"=some none)
  (j48:nsIn K mainGlobals "range"=some none)
  (j49:nsIn K mainGlobals "tuple"=some none)
  (j4a:nsIn K mainGlobals "list"=some none)
  (j4b:nsIn K mainGlobals "zip"=some none)
  (j4c:nsIn K mainGlobals "dict"=some none)
  (j4d:nsIn K mainGlobals "str"=some none)
  (P:Program)(base:Heap)(f:Addr)(fd:FuncData)(F:vx K "law" "law" jL f fd):dB P w K mg base oy 27 f fd ["_law_script"] (vY K):=by
 have c1:=ja.cl
 have c2:=jj.cl
 have c3:=js.cl
 have c4:=j11.cl
 have c5:=j1a.cl
 have c6:=j1j.cl
 have c7:=j1s.cl
 have c8:=j21.cl
 have c9:=j2a.cl
 have y0:=mg_none_of X G j41
 have y1:=mg_none_of X G j42
 have y2:=mg_none_of X G j43
 have y3:=mg_none_of X G j44
 have y4:=mg_none_of X G j45
 have y5:=mg_none_of X G j46
 have y6:=mg_none_of X G j47
 have y7:=mg_none_of X G j48
 have y8:=mg_none_of X G j49
 have y9:=mg_none_of X G j4a
 have ya:=mg_none_of X G j4b
 have yb:=mg_none_of X G j4c
 have yc:=mg_none_of X G j4d
 have hA:eZ K (dA.mk a1 a2 a3 a4 a5 a6 a7 a8 a9):=⟨j9,?_,?_⟩
 rotate_left
 ·simp only[List.mem_cons,List.not_mem_nil,or_false,forall_eq_or_imp,forall_eq]
  exact⟨c1,c2,c3,c4,c5,c6,c7,c8,c9⟩
 ·intro C hC f hf
  simp only[List.mem_cons,List.not_mem_nil,or_false] at hC
  rcases hC with rfl|rfl|rfl|rfl|rfl|rfl|rfl|rfl|rfl
  ·exact jb f hf
  ·exact jk f hf
  ·exact jt f hf
  ·exact j12 f hf
  ·exact j1b f hf
  ·exact j1k f hf
  ·exact j1t f hf
  ·exact j22 f hf
  ·exact j2b f hf
 have D_inner:ri K (dA.mk a1 a2 a3 a4 a5 a6 a7 a8 a9):=⟨jc.dm c1,jl.dm c2,ju.dm c3,j13.dm c4,j1c.dm c5,j1l.dm c6,j1u.dm c7,j23.dm c8,j2c.dm c9⟩
 have D_told:E2 K (dA.mk a1 a2 a3 a4 a5 a6 a7 a8 a9):=⟨jg.dm c1,jp.dm c2,jy.dm c3,j17.dm c4,j1g.dm c5,j1p.dm c6,j1y.dm c7,j27.dm c8,j2g.dm c9⟩
 have D_text:E1 K (dA.mk a1 a2 a3 a4 a5 a6 a7 a8 a9):=⟨jh.dm c1,jq.dm c2,jz.dm c3,j18.dm c4,j1h.dm c5,j1q.dm c6,j1z.dm c7,j28.dm c8,j2h.dm c9⟩
 have D_size:∀C,zF (dA.mk a1 a2 a3 a4 a5 a6 a7 a8 a9) C->Dm K C "size" "Part.size" bH ["self"]:=λC ⟨p,e⟩=>by
  subst e
  cases p
  ·exact jd.dm c1
  ·exact jm.dm c2
  ·exact jv.dm c3
  ·exact j14.dm c4
  ·exact j1d.dm c5
  ·exact j1m.dm c6
  ·exact j1v.dm c7
  ·exact j24.dm c8
  ·exact j2d.dm c9
 have D_depth:∀C,zF (dA.mk a1 a2 a3 a4 a5 a6 a7 a8 a9) C->Dm K C "depth" "Part.depth" az ["self"]:=λC ⟨p,e⟩=>by
  subst e
  cases p
  ·exact je.dm c1
  ·exact jn.dm c2
  ·exact jw.dm c3
  ·exact j15.dm c4
  ·exact j1e.dm c5
  ·exact j1n.dm c6
  ·exact j1w.dm c7
  ·exact j25.dm c8
  ·exact j2e.dm c9
 have D_need_bounds:∀C,zF (dA.mk a1 a2 a3 a4 a5 a6 a7 a8 a9) C->Dm K C "need_bounds" "Part.need_bounds" aZ ["self"]:=λC ⟨p,e⟩=>by
  subst e
  cases p
  ·exact jf.dm c1
  ·exact jo.dm c2
  ·exact jx.dm c3
  ·exact j16.dm c4
  ·exact j1f.dm c5
  ·exact j1o.dm c6
  ·exact j1x.dm c7
  ·exact j26.dm c8
  ·exact j2f.dm c9
 have s1:=i6 (P:=P) (w:=w) (base:=base) (j:=0) j2n y0 y1 y2 j3p j3q
 have s2:=fh j2o y0 y1 s1
 have s3:=dg j2s s2
 have w1:=dG (P:=P) (w:=w) (base:=base) (j:=0) j2j y3 y4 j3v
 have w2:=cM j2k y3 j3n w1
 have w3:=nF j2l j3y w2
 have w4:=nE j2m y3 y4 j3o w3 (w2.up (by omega))
 have w5:=cY j2r w4
 have mSize:=CG (P:=P) (w:=w) (base:=base) hA D_inner D_size y5 10
 have mDepth:=yp (P:=P) (w:=w) (base:=base) hA D_inner D_depth y6 10
 have mBounds:=ye D_need_bounds mDepth mSize j3r j3s
 have k1:=wI (j:=12) (A:=(dA.mk a1 a2 a3 a4 a5 a6 a7 a8 a9)) c1 (hA.i3 a1 (by simp) "value" (by decide)) ji (s2.up (by omega))
 have k2:=wJ (j:=12) hA jr (w5.up (by omega))
 have k3:=ux (j:=12) hA j10 mBounds
 have k4:=zA (j:=12) hA j19 j40 mBounds
 have k5:=uw (j:=12) hA j1i mBounds
 have k6:=uv (j:=12) hA j1r (s3.up (by omega)) mBounds
 have k7:=BB (j:=12) hA j20 mBounds
 have k8:=zB (j:=12) hA j29 (w5.up (by omega)) mBounds
 have k9:=y_ (j:=12) hA j2i (w5.up (by omega)) (s3.up (by omega)) mBounds
 have p1:=eV (P:=P) (base:=base) (j:=0) j2t y3 j3z
 have p0:=gX j2u j3z p1
 have p2:=lX (n:=10) (j:=14) j2v (by omega) k1 k2 k3 k5
 have p3:=lY (n:=10) (j:=14) j2w (by omega) k6 k7 k8 k9
 have p4:=vH j2x p0 p1 p2 p3 k4 10 (by omega)
 have v1:=dh (P:=P) (w:=w) (base:=base) (j:=0) j2p y0 y1 yc
 have v2:=df j2q v1
 have mTold:=vg (P:=P) (w:=w) (mg:=mg) (base:=base) hA D_told 4
 have mText:=va hA D_text v1 v2 4
 have r1:=λj=>aU (P:=P) (w:=w) (base:=base) (j:=j) j2y
 have r2:=fZ j2z y0 yc y4 j3y (r1 0) w1
 have r3:=iA (P:=P) (w:=w) (base:=base) (j:=0) j30 y3 y4 j3t j3w
 have r4:=i7 j31 y2 (r1 0) r3
 have r5:=fi j32 y0 yc (r1 1) r4
 have r6:=fg j33 y3 r5
 have r7:=bq (j:=3) j34 y0 y8 j3x r5 (r2.up (by omega))
 have r8:=gW (j:=4) j35 y3 (r1 3) r7 r6
 have r9:=gY (j:=4) j36 y3 j40 (r1 3) r7 r6 (r2.up (by omega))
 have ra:=ff j37 r8 r9
 have rb:=v8 j38 y3 y7 j3u (r1 5) ra
 have rc:=iB j39 y3 (r1 6) (r7.up (by omega)) rb
 have rd:=lW j3a y3 (r1 7) rc
 have re:=nG (i:=0) (j:=25) j3b (rd.up (by omega)) p4
 have t1:=λj=>C1 (P:=P) (w:=w) (base:=base) (j:=j) j3d
 have t2:=F5 (P:=P) (w:=w) (base:=base) (j:=0) j3c y3
 have t3:=AN (P:=P) (w:=w) (base:=base) (j:=0) j3f
 have t4:=C5 j3g t3
 have t5:=C2 (j:=1) j3e y7 (t1 0)
 have t6:=F6 (j:=2) j3j y3 (t1 1) t4
 have t7:=rY j3k y7 y3 (t1 0) t4 t6 4
 have t8:=F7 (j:=2) j3i y7 y2 y3 (t1 1) t5
 have t9:=C6 (P:=P) (w:=w) (base:=base) (j:=0) j3m y0 y1 y2 yc
 have ta:=rO j3l y0 y8 t9 4
 have tb:=vS (P:=P) (w:=w) (base:=base) j3h y0 y8 y9 y3 y4 ya y1 yb 6
 have R:=HF (j:=26) F y7 (t2.up (by omega)) (t1 25) (t8.up (by omega)) (t7.up (by omega)) (ta.up (by omega)) re (tb.up (by omega)) (λC hC=>(mTold C hC).up (by omega)) (λC hC=>(mText C hC).up (by omega))
 exact dB.sub R λvs H Q E ⟨q,ns,e,hS,hl,k⟩=>⟨[.lst (ns.map D.int)],e ▸ .cons (.lst hS (uf ns)) .nil,ns,rfl,λv H' _ dv=>by cases dv;exact k H'⟩
theorem all_mk {l:PySem.W.OpenLaw}{w:World}{K:PySem.W.Frag}{h:Heap}{mg:Str->Option Value}{fa f1:Addr}(X:K.In h)(G:h.Ns mainGlobals mg)(hfa:mg "law"=some (.ref fa))
  {od1 an1:Option Addr}{sl1:Array (Option Value)}{oc1 kV1 dc1 pm1 cd1 ct1:Value}
  (la:nsIn K mainGlobals "law"=some (some (.ref f1)))(ll:K.lookup f1=some ⟨oc1,od1,.func (fnOf "law" "law" (cj jL) (bF jL) (aB jL) .none kV1 dc1 pm1 an1 cd1 ct1),sl1⟩)(lc:codeIn K cd1 "law"=true)(lk:keepIn K (.ref f1)=true)
  (R:∀(P:Program) (base:Heap) (f:Addr) (fd:FuncData),vx K "law" "law" jL f fd->dB P w K mg base oy 27 f fd ["_law_script"] (vY K))
  : ∃fd:FuncData,(∀(s:Shared) (v:Value),BindsTo s fd ⟨[v],[]⟩ [("_law_script",v)])/\∀base:Heap,K.In base->base.Ns mainGlobals mg->dB l.prog w K mg base oy 27 fa fd ["_law_script"] (vY K):=by
 have e:=hfa.symm.trans (mg_of X G la)
 cases e
 exact⟨fnOf "law" "law" (cj jL) (bF jL) (aB jL) .none kV1 dc1 pm1 an1 cd1 ct1,λs v=>.of_eq rfl,λbase _ _=>R _ base _ _ (nM (st:=jL) ll lc lk)⟩
theorem walk {l:PySem.W.OpenLaw}{q:Program}{loose:List Str}{XP:(Str->Option Value)->Heap->Prop}{YP:World->Heap->Prop}{d:DefRec}{K:Params->PySem.W.Frag}(hn:l.most=some 63)(hdf:d.params.defaults=[])
  (hY:∀(w:World) (h:Heap),YP w h->(K w.params).In h)
  (F:∀(w:World) (mg:Str->Option Value) (fa:Addr) (h:Heap),(K w.params).In h->h.Ns mainGlobals mg->mg d.name=some (.ref fa) ->
   ∃fd:FuncData,(∀(s:Shared) (u:Value),BindsTo s fd ⟨[u],[]⟩ [("_law_script",u)])/\∀base:Heap,(K w.params).In base->base.Ns mainGlobals mg->dB l.prog w (K w.params) mg base oy 27 fa fd ["_law_script"] (vY (K w.params))) :
  PySem.W.WalkO q loose XP YP l.row.toRowW d [] (λf vs=>PySem.call f vs) :=
 L2.Ex (n:=63) (k:=27) (x:="_law_script") (CX:=λ_=>oy) (sp:=λw=>vY (K w.params)) hn (by decide) hdf ⟨rfl,by decide,by decide⟩ hY F (λ_ _ a ns hl _ hS=>⟨a,ns,rfl,hS,hl,λ_=>rfl⟩) λ_ _ _ _ _ z=>z
end K14
open PySem PySem.W PyProof.Rows
set_option maxRecDepth 100000 in
set_option maxHeartbeats 0 in
theorem PySem.Challenge.cw_runrows_k14_parts_read_holds : PySem.Challenge.rw_runrows_k14_parts_read.Holds := by
 refine HK.hd ?_
 k_fill
 refine K14.walk (l:=PySem.Challenge.rw_runrows_k14_parts_read) rfl rfl (λw h Y=>HK.fIn_of Y) ?F
 case F =>
  intro w mg fa h KX G hmg
  refine' K14.all_mk KX G hmg ?la ?ll ?lc ?lk (K14.F1 KX G ?j0 ?j1 ?j2 ?j3 ?j4 ?j5 ?j6 ?j7 ?j8 ?j9 ?ja ?jb ?jc ?jd ?je ?jf ?jg ?jh ?ji ?jj ?jk ?jl ?jm ?jn ?jo ?jp ?jq ?jr ?js ?jt ?ju ?jv ?jw ?jx ?jy ?jz ?j10 ?j11 ?j12 ?j13 ?j14 ?j15 ?j16 ?j17 ?j18 ?j19 ?j1a ?j1b ?j1c ?j1d ?j1e ?j1f ?j1g ?j1h ?j1i ?j1j ?j1k ?j1l ?j1m ?j1n ?j1o ?j1p ?j1q ?j1r ?j1s ?j1t ?j1u ?j1v ?j1w ?j1x ?j1y ?j1z ?j20 ?j21 ?j22 ?j23 ?j24 ?j25 ?j26 ?j27 ?j28 ?j29 ?j2a ?j2b ?j2c ?j2d ?j2e ?j2f ?j2g ?j2h ?j2i ?j2j ?j2k ?j2l ?j2m ?j2n ?j2o ?j2p ?j2q ?j2r ?j2s ?j2t ?j2u ?j2v ?j2w ?j2x ?j2y ?j2z ?j30 ?j31 ?j32 ?j33 ?j34 ?j35 ?j36 ?j37 ?j38 ?j39 ?j3a ?j3b ?j3c ?j3d ?j3e ?j3f ?j3g ?j3h ?j3i ?j3j ?j3k ?j3l ?j3m ?j3n ?j3o ?j3p ?j3q ?j3r ?j3s ?j3t ?j3u ?j3v ?j3w ?j3x ?j3y ?j3z ?j40 ?j41 ?j42 ?j43 ?j44 ?j45 ?j46 ?j47 ?j48 ?j49 ?j4a ?j4b ?j4c ?j4d)
  (case la=>k_is)
  (case ll=>k_is)
  (case lc=>k_is)
  (case lk=>k_is)
  (case j0=>k_is)
  (case j1=>k_is)
  (case j2=>k_is)
  (case j3=>k_is)
  (case j4=>k_is)
  (case j5=>k_is)
  (case j6=>k_is)
  (case j7=>k_is)
  (case j8=>k_is)
  (case j9=>decide)
  (case ja=>exact K14.iM)
  (case jb=>exact K14.iI)
  (case jc=>exact K14.aX)
  (case jd=>exact K14.aX)
  (case je=>exact K14.aX)
  (case jf=>exact K14.aX)
  (case jg=>exact K14.aX)
  (case jh=>exact K14.aX)
  (case ji=>exact K14.pK KX G)
  (case jj=>exact K14.iM)
  (case jk=>exact K14.iI)
  (case jl=>exact K14.aX)
  (case jm=>exact K14.aX)
  (case jn=>exact K14.aX)
  (case jo=>exact K14.aX)
  (case jp=>exact K14.aX)
  (case jq=>exact K14.aX)
  (case jr=>exact K14.pK KX G)
  (case js=>exact K14.iM)
  (case jt=>exact K14.iI)
  (case ju=>exact K14.aX)
  (case jv=>exact K14.aX)
  (case jw=>exact K14.aX)
  (case jx=>exact K14.aX)
  (case jy=>exact K14.aX)
  (case jz=>exact K14.aX)
  (case j10=>exact K14.pK KX G)
  (case j11=>exact K14.iM)
  (case j12=>exact K14.iI)
  (case j13=>exact K14.aX)
  (case j14=>exact K14.aX)
  (case j15=>exact K14.aX)
  (case j16=>exact K14.aX)
  (case j17=>exact K14.aX)
  (case j18=>exact K14.aX)
  (case j19=>exact K14.pK KX G)
  (case j1a=>exact K14.iM)
  (case j1b=>exact K14.iI)
  (case j1c=>exact K14.aX)
  (case j1d=>exact K14.aX)
  (case j1e=>exact K14.aX)
  (case j1f=>exact K14.aX)
  (case j1g=>exact K14.aX)
  (case j1h=>exact K14.aX)
  (case j1i=>exact K14.pK KX G)
  (case j1j=>exact K14.iM)
  (case j1k=>exact K14.iI)
  (case j1l=>exact K14.aX)
  (case j1m=>exact K14.aX)
  (case j1n=>exact K14.aX)
  (case j1o=>exact K14.aX)
  (case j1p=>exact K14.aX)
  (case j1q=>exact K14.aX)
  (case j1r=>exact K14.Aj KX G K14.mI)
  (case j1s=>exact K14.iM)
  (case j1t=>exact K14.iI)
  (case j1u=>exact K14.aX)
  (case j1v=>exact K14.aX)
  (case j1w=>exact K14.aX)
  (case j1x=>exact K14.aX)
  (case j1y=>exact K14.aX)
  (case j1z=>exact K14.aX)
  (case j20=>exact K14.pK KX G)
  (case j21=>exact K14.iM)
  (case j22=>exact K14.iI)
  (case j23=>exact K14.aX)
  (case j24=>exact K14.aX)
  (case j25=>exact K14.aX)
  (case j26=>exact K14.aX)
  (case j27=>exact K14.aX)
  (case j28=>exact K14.aX)
  (case j29=>exact K14.pK KX G)
  (case j2a=>exact K14.iM)
  (case j2b=>exact K14.iI)
  (case j2c=>exact K14.aX)
  (case j2d=>exact K14.aX)
  (case j2e=>exact K14.aX)
  (case j2f=>exact K14.aX)
  (case j2g=>exact K14.aX)
  (case j2h=>exact K14.aX)
  (case j2i=>exact K14.Aj KX G K14.ot)
  (case j2j=>exact K14.bJ KX G)
  (case j2k=>exact K14.bJ KX G)
  (case j2l=>exact K14.bJ KX G)
  (case j2m=>exact K14.bJ KX G)
  (case j2n=>exact K14.bJ KX G)
  (case j2o=>exact K14.bJ KX G)
  (case j2p=>exact K14.bJ KX G)
  (case j2q=>exact K14.bJ KX G)
  (case j2r=>exact K14.bJ KX G)
  (case j2s=>exact K14.bJ KX G)
  (case j2t=>exact K14.bJ KX G)
  (case j2u=>exact K14.bJ KX G)
  (case j2v=>exact K14.bJ KX G)
  (case j2w=>exact K14.bJ KX G)
  (case j2x=>exact K14.bJ KX G)
  (case j2y=>exact K14.bJ KX G)
  (case j2z=>exact K14.bJ KX G)
  (case j30=>exact K14.bJ KX G)
  (case j31=>exact K14.bJ KX G)
  (case j32=>exact K14.bJ KX G)
  (case j33=>exact K14.bJ KX G)
  (case j34=>exact K14.bJ KX G)
  (case j35=>exact K14.bJ KX G)
  (case j36=>exact K14.bJ KX G)
  (case j37=>exact K14.bJ KX G)
  (case j38=>exact K14.bJ KX G)
  (case j39=>exact K14.bJ KX G)
  (case j3a=>exact K14.bJ KX G)
  (case j3b=>exact K14.bJ KX G)
  (case j3c=>exact K14.bJ KX G)
  (case j3d=>exact K14.bJ KX G)
  (case j3e=>exact K14.bJ KX G)
  (case j3f=>exact K14.bJ KX G)
  (case j3g=>exact K14.bJ KX G)
  (case j3h=>exact K14.bJ KX G)
  (case j3i=>exact K14.bJ KX G)
  (case j3j=>exact K14.bJ KX G)
  (case j3k=>exact K14.bJ KX G)
  (case j3l=>exact K14.bJ KX G)
  (case j3m=>exact K14.bJ KX G)
  (case j3n=>exact K14.oP KX G (by k_is))
  (case j3o=>exact K14.oP KX G (by k_is))
  (case j3p=>exact K14.oP KX G (by k_is))
  (case j3q=>exact K14.oP KX G (by k_is))
  (case j3r=>exact K14.oP KX G (by k_is))
  (case j3s=>exact K14.oP KX G (by k_is))
  (case j3t=>exact K14.oP KX G (by k_is))
  (case j3u=>exact K14.oP KX G (by k_is))
  (case j3v=>exact K14.A_ KX G (by k_is))
  (case j3w=>exact K14.A_ KX G (by k_is))
  (case j3x=>exact K14.A_ KX G (by k_is))
  (case j3y=>refine' K14.JC KX G ?e (K14.cb (K14.fL.map L2.V.str) ?l ?z ?v (K14.yt K14.fL));(case e=>k_is);(case l=>k_is);(case z=>exact Nat.le_of_ble_eq_true rfl);(case v=>exact(.cons ⟨_,rfl⟩ (.cons ⟨_,rfl⟩ (.cons ⟨_,rfl⟩ (.cons ⟨_,rfl⟩ (.cons ⟨_,rfl⟩ (.cons ⟨_,rfl⟩ (.cons ⟨_,rfl⟩ (.cons ⟨_,rfl⟩ (.cons ⟨_,rfl⟩ (.cons ⟨_,rfl⟩ (.cons ⟨_,rfl⟩ (.cons ⟨_,rfl⟩ (.cons ⟨_,rfl⟩ (.cons ⟨_,rfl⟩ (.cons ⟨_,rfl⟩ (.cons ⟨_,rfl⟩ (.cons ⟨_,rfl⟩ (.cons ⟨_,rfl⟩ (.cons ⟨_,rfl⟩ (.nil))))))))))))))))))))))
  (case j3z=>refine' K14.FO KX G ?e ?l ?k ?h ?s ?t;(case e=>k_is);(case l=>k_is);(case k=>k_keys);(case h=>exact(K14.bW rfl rfl (K14.bW rfl rfl (K14.bW rfl rfl (K14.bW rfl rfl (K14.bW rfl rfl (K14.bW rfl rfl (K14.bW rfl rfl (K14.bW rfl rfl (.nil))))))))));(case s=>exact rfl);(case t=>refine' (.cons ?q0 (.cons ?q1 (.cons ?q2 (.cons ?q3 (.cons ?q4 (.cons ?q5 (.cons ?q6 (.cons ?q7 (.nil)))))))));(case q0=>refine' K14.cb [(.int 2),(.int 0)] ?l ?z ?v ?d;(case l=>k_is);(case z=>exact Nat.le_of_ble_eq_true rfl);(case v=>exact .cons ⟨_,rfl⟩ (.cons ⟨_,rfl⟩ .nil));(case d=>exact λ_=>.cons (.int _) (.cons (.int _) .nil)));(case q1=>refine' K14.cb [(.int 2),(.int 0)] ?l ?z ?v ?d;(case l=>k_is);(case z=>exact Nat.le_of_ble_eq_true rfl);(case v=>exact .cons ⟨_,rfl⟩ (.cons ⟨_,rfl⟩ .nil));(case d=>exact λ_=>.cons (.int _) (.cons (.int _) .nil)));(case q2=>refine' K14.cb [(.int 2),(.int 1)] ?l ?z ?v ?d;(case l=>k_is);(case z=>exact Nat.le_of_ble_eq_true rfl);(case v=>exact .cons ⟨_,rfl⟩ (.cons ⟨_,rfl⟩ .nil));(case d=>exact λ_=>.cons (.int _) (.cons (.int _) .nil)));(case q3=>refine' K14.cb [(.int 4),(.int 3)] ?l ?z ?v ?d;(case l=>k_is);(case z=>exact Nat.le_of_ble_eq_true rfl);(case v=>exact .cons ⟨_,rfl⟩ (.cons ⟨_,rfl⟩ .nil));(case d=>exact λ_=>.cons (.int _) (.cons (.int _) .nil)));(case q4=>refine' K14.cb [(.int 3),(.int 1)] ?l ?z ?v ?d;(case l=>k_is);(case z=>exact Nat.le_of_ble_eq_true rfl);(case v=>exact .cons ⟨_,rfl⟩ (.cons ⟨_,rfl⟩ .nil));(case d=>exact λ_=>.cons (.int _) (.cons (.int _) .nil)));(case q5=>refine' K14.cb [(.int 3),(.int 2)] ?l ?z ?v ?d;(case l=>k_is);(case z=>exact Nat.le_of_ble_eq_true rfl);(case v=>exact .cons ⟨_,rfl⟩ (.cons ⟨_,rfl⟩ .nil));(case d=>exact λ_=>.cons (.int _) (.cons (.int _) .nil)));(case q6=>refine' K14.cb [(.int 3),(.int 1)] ?l ?z ?v ?d;(case l=>k_is);(case z=>exact Nat.le_of_ble_eq_true rfl);(case v=>exact .cons ⟨_,rfl⟩ (.cons ⟨_,rfl⟩ .nil));(case d=>exact λ_=>.cons (.int _) (.cons (.int _) .nil)));(case q7=>refine' K14.cb [(.int 4),(.int 1)] ?l ?z ?v ?d;(case l=>k_is);(case z=>exact Nat.le_of_ble_eq_true rfl);(case v=>exact .cons ⟨_,rfl⟩ (.cons ⟨_,rfl⟩ .nil));(case d=>exact λ_=>.cons (.int _) (.cons (.int _) .nil)))))
  (case j40=>refine' K14.FO KX G ?e ?l ?k ?h ?s ?t;(case e=>k_is);(case l=>k_is);(case k=>k_keys);(case h=>exact(K14.bW rfl rfl (K14.bW rfl rfl (K14.bW rfl rfl (K14.bW rfl rfl (K14.bW rfl rfl (K14.bW rfl rfl (K14.bW rfl rfl (K14.bW rfl rfl (.nil))))))))));(case s=>exact rfl);(case t=>refine' (.cons ?q0 (.cons ?q1 (.cons ?q2 (.cons ?q3 (.cons ?q4 (.cons ?q5 (.cons ?q6 (.cons ?q7 (.nil)))))))));(case q0=>refine' K14.cb [(.str "number"),(.str "number")] ?l ?z ?v ?d;(case l=>k_is);(case z=>exact Nat.le_of_ble_eq_true rfl);(case v=>exact .cons ⟨_,rfl⟩ (.cons ⟨_,rfl⟩ .nil));(case d=>exact λ_=>.cons (.str _) (.cons (.str _) .nil)));(case q1=>refine' K14.cb [(.str "number"),(.str "number")] ?l ?z ?v ?d;(case l=>k_is);(case z=>exact Nat.le_of_ble_eq_true rfl);(case v=>exact .cons ⟨_,rfl⟩ (.cons ⟨_,rfl⟩ .nil));(case d=>exact λ_=>.cons (.str _) (.cons (.str _) .nil)));(case q2=>refine' K14.cb [(.str "number"),(.str "number")] ?l ?z ?v ?d;(case l=>k_is);(case z=>exact Nat.le_of_ble_eq_true rfl);(case v=>exact .cons ⟨_,rfl⟩ (.cons ⟨_,rfl⟩ .nil));(case d=>exact λ_=>.cons (.str _) (.cons (.str _) .nil)));(case q3=>refine' K14.cb [.ag,(.str "truth")] ?l ?z ?v ?d;(case l=>k_is);(case z=>exact Nat.le_of_ble_eq_true rfl);(case v=>exact .cons rfl (.cons ⟨_,rfl⟩ .nil));(case d=>exact λ_=>.cons .ag (.cons (.str _) .nil)));(case q4=>refine' K14.cb [(.str "number"),(.str "truth")] ?l ?z ?v ?d;(case l=>k_is);(case z=>exact Nat.le_of_ble_eq_true rfl);(case v=>exact .cons ⟨_,rfl⟩ (.cons ⟨_,rfl⟩ .nil));(case d=>exact λ_=>.cons (.str _) (.cons (.str _) .nil)));(case q5=>refine' K14.cb [(.str "number"),(.str "truth")] ?l ?z ?v ?d;(case l=>k_is);(case z=>exact Nat.le_of_ble_eq_true rfl);(case v=>exact .cons ⟨_,rfl⟩ (.cons ⟨_,rfl⟩ .nil));(case d=>exact λ_=>.cons (.str _) (.cons (.str _) .nil)));(case q6=>refine' K14.cb [(.str "truth"),(.str "truth")] ?l ?z ?v ?d;(case l=>k_is);(case z=>exact Nat.le_of_ble_eq_true rfl);(case v=>exact .cons ⟨_,rfl⟩ (.cons ⟨_,rfl⟩ .nil));(case d=>exact λ_=>.cons (.str _) (.cons (.str _) .nil)));(case q7=>refine' K14.cb [(.str "truth"),(.str "truth")] ?l ?z ?v ?d;(case l=>k_is);(case z=>exact Nat.le_of_ble_eq_true rfl);(case v=>exact .cons ⟨_,rfl⟩ (.cons ⟨_,rfl⟩ .nil));(case d=>exact λ_=>.cons (.str _) (.cons (.str _) .nil)))))
  (case j41=>k_is)
  (case j42=>k_is)
  (case j43=>k_is)
  (case j44=>k_is)
  (case j45=>k_is)
  (case j46=>k_is)
  (case j47=>k_is)
  (case j48=>k_is)
  (case j49=>k_is)
  (case j4a=>k_is)
  (case j4b=>k_is)
  (case j4c=>k_is)
  (case j4d=>k_is)
#print axioms PySem.Challenge.cw_runrows_k14_parts_read_holds