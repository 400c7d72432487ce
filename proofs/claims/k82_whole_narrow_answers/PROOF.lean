import PyProof.Rows.All
import Wide.All
import OpenK.AllK
import Wide.FinOn
import Lean
import PyProof.EqAt
import PyProof.EqKinds
import PyProof.TupleCall
import PyProof.ExcInit
import PyProof.ListRange
import PyProof.PureStr
import PyProof.MeetsStr3
import PyProof.Draws
import PyProof.StrCalls2
import PyProof.StrBlockH
import KE.KIntText
import PyProof.StrOps2
import PyProof.CompFree
import PySem.Challenge.RW_dockethall_k82_whole_narrow_answers
set_option compiler.extract_closed false
namespace PySem.W.Fast
def tw7470198082937063002:=Nat
def tw8164819381560091662:=Nat
def tw1012890529017255389:=Nat
def tw9492348300368026618:=Nat
def tw13604008352710381591:=Nat
def tw15038620658915930611:=Nat
def tw11991689954177386118:=Nat
def tw10474980409213546784:=Nat
def tw5931575473146343865:=Nat
def tw9239374365674316271:=Nat
def tw13540932782307546738:=Nat
def tw12875797902489223697:=Nat
def tw10788576632177811021:=Nat
def tw9067550583272296124:=Nat
def tw12425192612882718431:=Nat
def tw15120212067318423333:=Nat
def tw14913202526193006749:=Nat
def tw13746210248553879457:=Nat
def tw237782959915748523:=Nat
def tw10602517243412629385:=Nat
def tw76801638574387962:=Nat
def tw12823077945704008932:=Nat
def tw14742514130966738402:=Nat
def tw3658445066270623123:=Nat
def tw14370324727876630702:=Nat
def tw9356399057337399494:=Nat
def tw6161283373679190809:=Nat
def tw17878921260447466048:=Nat
def tw11271060534070727590:=Nat
def tw1726542229557327637:=Nat
def tw7805567604374080421:=Nat
def tw10271831893400090351:=Nat
def tw17020494029810324345:=Nat
def tw3972241778182935795:=Nat
def tw4273678677828012064:=Nat
def tw642837595434966099:=Nat
def tw4621842794696139979:=Nat
def tw11769373882325800590:=Nat
def tw12352267374469642542:=Nat
def tw17523988464613524076:=Nat
def tw13022926321081811098:=Nat
def tw17742289917124980209:=Nat
def tw14689638475730485244:=Nat
def tw18200996845965770164:=Nat
def tw373331876449601502:=Nat
def tw14403773687628437592:=Nat
def tw6641432702351419049:=Nat
def tw4991017532653858084:=Nat
def tw17272743584330124489:=Nat
def tw8927547573110267098:=Nat
def tw840920377550413189:=Nat
def tw859295583085505404:=Nat
def tw7092656412293254288:=Nat
def tw18028359558090529032:=Nat
def tw4523850966702280326:=Nat
def tw13608803654907588200:=Nat
def tw328289306353456323:=Nat
def tw13622995832755387990:=Nat
def tw2784141210989299020:=Nat
def tw4204241079923625017:=Nat
def tw4005524336381112348:=Nat
def tw12383472534518029704:=Nat
def tw10652466327632940271:=Nat
def tw9732059998248627197:=Nat
def tw6239896143049238694:=Nat
def tw17386557237354203178:=Nat
def tw8574399977547341997:=Nat
def tw14980845290273005106:=Nat
def tw4489537361785016300:=Nat
def tw15787936510854087738:=Nat
def tw16546207056330077859:=Nat
def tw15584754333748175779:=Nat
def tw5447546608113235215:=Nat
def tw3059333452636344207:=Nat
def tw16581720477419112669:=Nat
def tw3940030366194697185:=Nat
def tw4314499184145117170:=Nat
def tw5828784717048709325:=Nat
def tw16869357544908883530:=Nat
def tw6768831027461276236:=Nat
def tw4423375172972090771:=Nat
def tw1523564022841953167:=Nat
def tw10690626498638515842:=Nat
def tw1229272378276629467:=Nat
def tw280652754332069854:=Nat
def tw5818092768273503749:=Nat
def tw17219973526914130683:=Nat
def tw2697755766805829492:=Nat
def tw12517963171652484091:=Nat
def tw6737709539759379067:=Nat
def tw3770491809589753331:=Nat
def tw1783039013489051407:=Nat
def tw11140145983519166932:=Nat
def tw10899003649867751697:=Nat
def tw9413057930635511638:=Nat
def tw4839894233401031309:=Nat
def tw6845812942449454101:=Nat
def tw17660051840827155913:=Nat
def tw11447128107379072648:=Nat
def tw12853602997258178810:=Nat
def tw13859307161031661575:=Nat
def tw13764491853601023668:=Nat
def tw794734074131849140:=Nat
def tw18003955138447338801:=Nat
def tw11887712468956121140:=Nat
def tw13984807573087063715:=Nat
def tw8935514282595763674:=Nat
def tw9805681093373656105:=Nat
def tw14277150197874471205:=Nat
def tw14553030101115974058:=Nat
def tw9566828815179972589:=Nat
def tw16442373974745787249:=Nat
def tw3020458484169360492:=Nat
def tw3333695453906591722:=Nat
def tw1182092342992236581:=Nat
def tw2191402520242263461:=Nat
def tw9051176206043196464:=Nat
def tw14269138006958500588:=Nat
def tw6341516424973482330:=Nat
def tw8077585923710081935:=Nat
def tw1716200433517213430:=Nat
def tw2620719120934045670:=Nat
def tw5137953529718162935:=Nat
def tw13811277462839001260:=Nat
def tw3293797957022594454:=Nat
def tw13431098279219478057:=Nat
def tw4415594254407769899:=Nat
def tw12601694640157810967:=Nat
def tw17308028707857013049:=Nat
def tw3925584530131886595:=Nat
def tw6639544249896196048:=Nat
def tw2621380710485135885:=Nat
def tw16555027066762909076:=Nat
def tw10586908607053417218:=Nat
def tw7666610172181408170:=Nat
def tw13814769568875905027:=Nat
def tw13254045827809401233:=Nat
def tw17435788793943790409:=Nat
def tw17134328049074378958:=Nat
def tw1777055218460343914:=Nat
def tw13998705770904848618:=Nat
def tw16941717415177136258:=Nat
def tw13611584335523309106:=Nat
def tw16117192750774737900:=Nat
def tw15170699517792453603:=Nat
def tw10388151893931420068:=Nat
def tw10722322408897163000:=Nat
def tw5477702030796785748:=Nat
def tw17143459736635550155:=Nat
def tw4882287325648119087:=Nat
def tw16839185595799081076:=Nat
def tw17381867776014024440:=Nat
def tw2584945392546682043:=Nat
def tw12404154895836625059:=Nat
def tw16780625455016381730:=Nat
def tw3364283713925378400:=Nat
def tw2636563062194661793:=Nat
def tw16661936125062815243:=Nat
def tw8546079679960291584:=Nat
def tw7875358182902067038:=Nat
def tw11140004021506381262:=Nat
def tw10003038626834430449:=Nat
def tw18019465631920015223:=Nat
def tw11451333018988096292:=Nat
def tw8157138312776654697:=Nat
def tw9287070913309538588:=Nat
def tw146199575433258255:=Nat
def tw5475065990938702221:=Nat
def tw4652866427666958033:=Nat
def tw7797733673151688076:=Nat
def tw8122570570187701424:=Nat
def tw14023679764140951426:=Nat
def tw14113705734980400488:=Nat
def tw1027289261020819874:=Nat
def tw1018704644892715203:=Nat
def tw15774695544887380456:=Nat
def tw11160918406431508933:=Nat
def tw12909367936042451090:=Nat
def tw14814166446189232207:=Nat
def tw9180148109114016495:=Nat
def tw1807593465071930734:=Nat
def tw11631525260491045277:=Nat
def tw8487677310738980424:=Nat
def tw8085078593618945107:=Nat
def tw7996021504334809418:=Nat
def tw9224849121563636133:=Nat
def tw8454492165226982482:=Nat
def tw2394673560849881573:=Nat
def tw8469323501174827962:=Nat
def tw3387193830830834012:=Nat
def tw6416544095894462658:=Nat
def tw7834450148891910620:=Nat
def tw2696903056840064047:=Nat
def tw1572145738803955967:=Nat
def tw1219768734216025498:=Nat
def tw2860185092147249901:=Nat
def tw6359108456517196775:=Nat
def tw13797479625637179448:=Nat
def tw6719752858537606620:=Nat
def tw7042755343937479716:=Nat
def tw7342863870970816751:=Nat
def tw7772764774689320947:=Nat
def tw10068430037859588520:=Nat
def tw10844149309048915435:=Nat
def tw18057376959781678533:=Nat
def tw11773115917038553467:=Nat
def tw8864521462235083734:=Nat
def tw14111516964064465376:=Nat
def tw3057027861716195887:=Nat
def tw4295592418654592748:=Nat
def tw18428117141219783764:=Nat
def tw4417761839146319578:=Nat
def tw4114224849330570962:=Nat
def tw18220010530889914211:=Nat
def tw13997239833355515989:=Nat
def tw18307737045334906912:=Nat
def tw4651694202872445858:=Nat
def tw12552055765409350988:=Nat
def tw17586630468598463130:=Nat
def tw17877854479402528750:=Nat
def tw12259075884170861209:=Nat
def tw11838955822549264261:=Nat
def tw13040895400047397443:=Nat
def tw16927920152085577761:=Nat
def tw17959980149620895291:=Nat
def tw16224924888990414075:=Nat
def tw13475973022815792120:=Nat
def tw2497965960808513052:=Nat
def tw10557469079215504008:=Nat
def tw13937610812904393931:=Nat
def tw8561207316120677009:=Nat
def tw11213122699057360302:=Nat
def tw7034313655589400928:=Nat
def tw2066967754011732130:=Nat
def tw13570569840828229052:=Nat
def tw13737220420918539315:=Nat
def tw9142002686729349807:=Nat
def tw868777063673838340:=Nat
def tw5033030059739204477:=Nat
def tw1132259509789897573:=Nat
def tw2603475502950044072:=Nat
def tw15354505715106845076:=Nat
def tw6208335759001292125:=Nat
def tw7202681180945398300:=Nat
def tw2977123303157591218:=Nat
def tw11637819780928923467:=Nat
def tw12915053829720263057:=Nat
def tw16463936806214353077:=Nat
def tw15491243222449674511:=Nat
def tw287836272275320169:=Nat
def tw13712233162572629682:=Nat
def tw3748454861040650709:=Nat
def tw11720183700094449581:=Nat
def tw12199621817482634442:=Nat
def tw7897489301591218137:=Nat
def tw6804226835831308148:=Nat
def tw15615205694058039921:=Nat
def tw2483009412231559508:=Nat
def tw15682521983700188950:=Nat
def tw2959896289313994438:=Nat
def tw17268321384153435116:=Nat
def tw12179304483394674452:=Nat
def tw8035551662781352767:=Nat
def tw12415552536850915528:=Nat
def tw13492561379186781808:=Nat
def tw11713994857787523711:=Nat
def tw14920280340842183527:=Nat
def tw16386848030739606971:=Nat
def tw10261469353752432189:=Nat
def tw18302188708922968573:=Nat
def tw10477785895635797742:=Nat
def tw4947688303698535006:=Nat
def tw3294152205758743552:=Nat
def tw9933025905797551300:=Nat
def tw10770390115505628778:=Nat
def tw9233414386123178974:=Nat
def tw1097870963080022382:=Nat
def tw1842694569940472419:=Nat
def tw7137513686522857786:=Nat
def tw15288374566878588432:=Nat
def tw15334025906302096584:=Nat
def tw6000647749526560209:=Nat
def tw14389097469654077676:=Nat
def tw11695156663932697998:=Nat
def tw3190244402703710762:=Nat
def tw5058453185857667307:=Nat
def tw15829157234995426237:=Nat
def tw10887497987919169238:=Nat
def tw10152205709018832508:=Nat
def tw14337648313843222229:=Nat
def tw9461604807128145344:=Nat
def tw1318005331086835917:=Nat
def tw1053072402097444495:=Nat
def tw3530263490567368861:=Nat
def tw10112328345172110228:=Nat
def tw10206381667889411115:=Nat
def tw2353163340682745242:=Nat
def tw10956233898327890216:=Nat
def tw2882275319897500401:=Nat
def tw12710604226363001860:=Nat
def tw2199332860820084629:=Nat
def tw1827169195522928369:=Nat
def tw9373545780385005003:=Nat
def tw7803656810937311956:=Nat
def tw3939097416561387279:=Nat
def tw853089201867370426:=Nat
def tw2681706423864010929:=Nat
def tw11812346047097666777:=Nat
def tw7894115800748495497:=Nat
def tw7967113761295757798:=Nat
def tw12498065082423767884:=Nat
def tw9481948056647768254:=Nat
def tw11994336803345632946:=Nat
def tw16355920955247159460:=Nat
def tw1720212418043327194:=Nat
def tw2188711113597180721:=Nat
def tw5767025352059103144:=Nat
def tw13730490802670164606:=Nat
def tw11547657362514963491:=Nat
def tw17657963830339124285:=Nat
def tw5436234078571617101:=Nat
def tw20583530358336752:=Nat
end PySem.W.Fast
local macro_rules
 | `(tactic|fail "V1")=>`(tactic|first | exact Or.inl rfl | exact Or.inr (Or.inl rfl) | exact Or.inr (Or.inr rfl))
 | `(tactic|fail "V2")=>`(tactic|first | exact .inl rfl | exact .inr rfl | assumption)
 | `(tactic|fail "V3")=>`(tactic|(intro _;rfl))
 | `(tactic|fail "V4")=>`(tactic|(intro _ _;rfl))
 | `(tactic|fail "V5")=>`(tactic|exact λ_ h=>h)
abbrev aA:=@if_pos
abbrev aB:=@if_neg
abbrev aC:=@List.length_range
abbrev aD:=@List.length_map
abbrev aE:=@List.getElem?_eq_getElem
abbrev aF:=@decide_eq_true
abbrev aG:=@List.mem_cons_of_mem
abbrev aH:=@List.getElem?_map
abbrev aI:=@PySem.Heap.get?_push_of_some
abbrev aJ:=@Nat.le_refl
abbrev aK:=@List.lookup_cons
abbrev aL:=@List.mem_cons
abbrev aM:=@List.getD_eq_getElem?_getD
abbrev aN:=@of_decide_eq_true
abbrev aO:=@Bool.and_eq_true
abbrev aP:=@PySem.wpAny_bind
abbrev aQ:=@decide_eq_false
abbrev aR:=@List.mem_cons_self
abbrev aS:=@PySem.Heap.lt_size
abbrev aT:=@List.size_toArray
abbrev aU:=@List.mem_range
abbrev aV:=@List.length_append
abbrev aW:=@List.getElem?_eq_some_iff
abbrev aX:=@PySem.wpAny_pure
abbrev aY:=@List.map_map
abbrev aZ:=@List.length_cons
abbrev aa:=@Nat.lt_of_lt_of_le
abbrev ae:=@List.getElem?_range
abbrev af:=@PySem.Heap.get?_push_size
abbrev ag:=@Option.some.inj
abbrev ah:=@List.mem_map
abbrev ai:=@Nat.ne_of_lt
abbrev aj:=@List.map_cons
abbrev ak:=@Bool.false_ne_true
abbrev ao:=@List.map_append
abbrev aq:=@PySem.PassesOwn.never
abbrev au:=@List.getElem?_eq_none
abbrev av:=@PySem.wpAny_mono
abbrev aw:=@List.length_set
abbrev ax:=@Int.toNat_natCast
abbrev ay:=@List.mem_append_right
abbrev az:=@List.append_nil
abbrev b0:=@Nat.le_trans
abbrev b7:=@List.range_succ
abbrev b8:=@List.map_congr_left
abbrev b9:=@List.not_mem_nil
abbrev bA:=@List.getElem?_cons_zero
abbrev bB:=@Nat.mod_lt
abbrev bC:=@List.find?_cons
abbrev bD:=@beq_self_eq_true
abbrev bE:=@PyProof.Rows.callWith_type1
abbrev bF:=@List.getElem?_cons_succ
abbrev bG:=@List.getElem_mem
abbrev bH:=@List.getElem?_append_left
abbrev bI:=@Int.le_refl
abbrev bJ:=@PySem.wpAny_Call_Name_kw
abbrev bK:=@List.length_take
abbrev bL:=@Nat.lt_irrefl
abbrev bM:=@List.take_of_length_le
abbrev bN:=@List.ext_getElem?
abbrev bO:=@congrArg
abbrev bP:=@Option.isSome_iff_exists
abbrev bQ:=@PySem.F.called_set
abbrev bR:=@Ne.symm
abbrev bS:=@List.replicate_succ
abbrev bT:=@List.getElem?_append_right
abbrev bU:=@List.mem_filterMap
abbrev bV:=@Nat.zero_le
abbrev bW:=@List.mem_of_getElem?
abbrev bX:=@Nat.zero_add
abbrev bY:=@PySem.wpAny_truthy_bool
abbrev bZ:=@Nat.lt_succ_of_lt
abbrev ba:=@List.getElem?_replicate
abbrev bb:=@List.filterMap_cons
abbrev bc:=@PySem.mem_of_lookup
abbrev bf:=@Nat.lt_succ_self
abbrev bg:=@Option.getD_some
abbrev bj:=@beq_iff_eq
abbrev bo:=@PyProof.Rows.F.plain_set_update_loop
abbrev bp:=@Nat.pow_succ
abbrev bq:=@PySem.wpAny_passesOwn
abbrev br:=@List.length_replicate
abbrev bt:=@List.lookup_cons_self
abbrev bu:=@Nat.le_of_ble_eq_true
abbrev bw:=@PySem.wpAny_holding
abbrev bx:=@List.flatten_cons
abbrev bz:=@Nat.pow_le_pow_right
abbrev c7:=@PySem.Heap.size_push
abbrev c8:=@Nat.le_of_lt
abbrev c9:=@List.length_drop
abbrev cA:=@List.all_eq_true
abbrev cB:=@or_false
abbrev cD:=@Nat.add_zero
abbrev cE:=@beq_eq_false_iff_ne
abbrev cF:=@List.all_cons
abbrev cG:=@List.any_cons
abbrev cH:=@PySem.wpAny_execs_nil
abbrev cI:=@List.length_nil
abbrev cJ:=@Nat.not_lt_zero
abbrev cO:=@Nat.div_add_mod
abbrev cP:=@PySem.SeqAt.canLay_of_shaped
abbrev cQ:=@Bool.not_eq_true'
abbrev cR:=@List.getElem?_set
abbrev cU:=@PySem.codeAny_mono
abbrev cV:=@Int.add_zero
abbrev cW:=@List.any_eq_true
abbrev cX:=@Nat.mod_eq_of_lt
abbrev cY:=@Sum.inr.inj
abbrev cZ:=@Array.length_toList
abbrev cb:=@List.nodup_cons
abbrev cf:=@List.of_mem_zip
abbrev cg:=@List.nil_append
abbrev cj:=@Nat.min_eq_left
abbrev cm:=@Nat.ne_of_gt
abbrev cq:=@PySem.Calls.spliced_cons
abbrev cu:=@List.mem_singleton
abbrev cv:=@if_true
abbrev cw:=@decide_eq_false_iff_not
abbrev cz:=@PySem.wpAny_pyIter_list
abbrev d6:=@PySem.Calls.spliced_nil
abbrev d7:=@List.reverse_cons
abbrev d8:=@Nat.le_of_succ_le
abbrev d9:=@decide_eq_true_eq
abbrev dA:=@List.drop_length
abbrev dB:=@Nat.div_eq_of_lt
set_option Elab.async false
set_option linter.all false
set_option maxRecDepth 100000
theorem oi{a b:Prop}(h:a):a∨b:=Or.inl h
theorem dk{p:Prop}(h:p:=by decide +kernel):p:=h
noncomputable section
namespace L2
open PySem PySem.Spec PyProof.Rows
abbrev f9:=Sum Int Str
noncomputable def kF:f9->Value->Bool
 | .inl k,v=>Value.isInt k v
 | .inr x,v=>Value.isStrOf x v
noncomputable def D4(w:World):f9->Int
 | .inl k=>hashInt k
 | .inr x=>hashStr w x
theorem pf:∀{k:f9}{v:Value},kF k v=true->(∃ i t,k=Sum.inl i/\v=Value.int i t)∨(∃ x t,k=Sum.inr x/\v=Value.str x t)
 | .inl i,v,h=>by
  obtain⟨t,e⟩:=Value.isInt_shape h
  exact .inl ⟨i,t,rfl,e⟩
 | .inr x,v,h=>by
  obtain⟨t,e⟩:=Value.isStrOf_shape h
  exact .inr ⟨x,t,rfl,e⟩
theorem Mh(i:Int)(t:Tok):kF (.inl i) (.int i t)=true:=by simp[kF,Value.isInt]
theorem Mi(x:Str)(t:Tok):kF (.inr x) (.str x t)=true:=by simp[kF,Value.isStrOf]
theorem Mj(a b:Int):decide ((Sum.inl a:f9)=Sum.inl b)=(a == b):=by
 by_cases e:a=b
 ·subst e;simp
 ·have h:¬ (Sum.inl a:f9)=Sum.inl b:=λq=>e (Sum.inl.inj q)
  rw[aQ h]
  exact(cE.mpr e).symm
theorem Ml(a b:Str):decide ((Sum.inr a:f9)=Sum.inr b)=decide (a=b):=by
 by_cases e:a=b
 ·subst e;simp
 ·have h:¬ (Sum.inr a:f9)=Sum.inr b:=λq=>e (cY q)
  rw[aQ h,aQ e]
theorem Mm(a:Int)(b:Str):decide ((Sum.inl a:f9)=Sum.inr b)=false:=aQ (λq=>nomatch q)
theorem Mo(a:Str)(b:Int):decide ((Sum.inr a:f9)=Sum.inl b)=false:=aQ (λq=>nomatch q)
def lj(prog:Program)(w:World):PySem.KeyKind prog w f9 where
 is:=kF
 hash:=D4 w
 inj:=λv a b ha hb=>by
  rcases pf ha with⟨i,t,rfl,rfl⟩ | ⟨x,t,rfl,rfl⟩
  ·rcases pf hb with⟨j,u,rfl,e⟩ | ⟨y,u,rfl,e⟩
   ·injection e with e1 _;rw[e1]
   ·exact nomatch e
  ·rcases pf hb with⟨j,u,rfl,e⟩ | ⟨y,u,rfl,e⟩
   ·exact nomatch e
   ·injection e with e1 _;rw[e1]
 byValue:=λk v h=>by
  rcases pf h with⟨i,t,rfl,rfl⟩ | ⟨x,t,rfl,rfl⟩<;>rfl
 pyHash:=λhv h=>by
  rcases pf hv with⟨i,t,rfl,rfl⟩ | ⟨x,t,rfl,rfl⟩
  ·exact wpAny_pyHash_int h
  ·exact wpAny_pyHash_str h
 eqBool:=λhu hv h=>by
  rcases pf hu with⟨i,t,rfl,rfl⟩ | ⟨x,t,rfl,rfl⟩
  ·rcases pf hv with⟨j,u,rfl,rfl⟩ | ⟨y,u,rfl,rfl⟩
   ·rw[Mj]at h;exact wpAny_eqBool_int h
   ·rw[Mm]at h;exact SeqAt.EqAt.int_str i t y u _ _ _ _ h
  ·rcases pf hv with⟨j,u,rfl,rfl⟩ | ⟨y,u,rfl,rfl⟩
   ·rw[Mo]at h;exact SeqAt.EqAt.str_int x t j u _ _ _ _ h
   ·rw[Ml]at h;exact wpAny_eqBool_str h
 «strs»:=λk x t v h=>by
  rcases pf h with⟨i,u,rfl,e⟩ | ⟨y,u,rfl,e⟩
  ·exact nomatch e
  ·injection e with e1 _
   subst e1
   cases v<;>rfl
theorem Mp(prog:Program)(w:World)(i:Int)(t:Tok):(lj prog w).is (.inl i) (.int i t)=true:=Mh i t
theorem Mq(prog:Program)(w:World)(x:Str)(t:Tok):(lj prog w).is (.inr x) (.str x t)=true:=Mi x t
inductive V where
 | non | bl (b:Bool) | int (i:Int) | str (x:Str) | byt (b:Array UInt8) | flt (b:UInt64) | ref (a:Addr) | ty (n:String)
 deriving DecidableEq
def RelV:V->Value->Prop
 | .non,u=>u=Value.none
 | .bl b,u=>u=Value.bool b
 | .int i,u=>∃ t,u=Value.int i t
 | .str x,u=>∃ t,u=Value.str x t
 | .byt b,u=>∃ t,u=Value.bytes b t
 | .flt b,u=>∃ t,u=Value.float b t
 | .ref a,u=>u=Value.ref a
 | .ty n,u=>u=Value.type n
abbrev Vals:List V->List Value->Prop:=Paired RelV
theorem Vals.length{xs:List V}{us:List Value}(r:Vals xs us):xs.length=us.length:=Paired.length r
theorem Vals.get:∀{xs:List V}{us:List Value}{i:Nat}{x:V},Vals xs us->xs[i]?=some x->∃ u,us[i]?=some u/\RelV x u
 | _,_,_,_,.nil,e=>by simp at e
 | _,_,0,_,.cons r _,e=>by simp at e;subst e;exact⟨_,rfl,r⟩
 | _,_,i+1,x,.cons _ t,e=>by
  obtain⟨u,h1,h2⟩:=Vals.get (i:=i) (x:=x) t (by simpa using e)
  exact⟨u,by simpa using h1,h2⟩
theorem Vals.set(r:RelV x u):∀{xs:List V}{us:List Value}(i:Nat),Vals xs us->Vals (xs.set i x) (us.set i u)
 | _,_,_,.nil=>.nil
 | _,_,0,.cons _ t=>.cons r t
 | _,_,i+1,.cons q t=>.cons q (Vals.set r i t)
theorem Vals.append:∀{xs ys:List V}{us ws:List Value},Vals xs us->Vals ys ws->Vals (xs++ys) (us++ws)
 | _,_,_,_,.nil,s=>s
 | _,_,_,_,.cons r t,s=>.cons r (Vals.append t s)
theorem Vals.take:∀{xs:List V}{us:List Value}(n:Nat),Vals xs us->Vals (xs.take n) (us.take n)
 | _,_,0,_=>.nil
 | _,_,_+1,.nil=>.nil
 | _,_,n+1,.cons r t=>.cons r (Vals.take n t)
theorem Vals.drop:∀{xs:List V}{us:List Value}(n:Nat),Vals xs us->Vals (xs.drop n) (us.drop n)
 | _,_,0,r=>r
 | _,_,_+1,.nil=>.nil
 | _,_,n+1,.cons _ t=>Vals.drop n t
def RelO:Option V->Option Value->Prop
 | some v,some u=>RelV v u
 | none,none=>True
 | _,_=>False
def KV{κ:Type}:List (κ×V)->List (κ×Value)->Prop:=Paired λ(p:κ×V) (q:κ×Value)=>p.1=q.1/\RelV p.2 q.2
noncomputable def kV:f9->V
 | .inl i=>.int i
 | .inr x=>.str x
inductive HO where
 | lst (xs:List V)
 | tup (xs:List V)
 | dK (kvs:List (f9×V)) | dT (kvs:List (List f9×V))
 | set (S:Int->Bool) (n:Nat)
 | ins (C dx:Addr) (fs:List (Str×V))
 | own (x:Addr)
 | xd (fs:List (Str×V))
 | met (f x:Addr)
 | rng (lo hi:Int)
 | frz (o:Obj) (u:HO)
 | tbl (ps:Array Value)
 | ext (φ : Heap->Prop)
abbrev Hp:=Addr->Option HO
noncomputable def eT(H:Hp)(a:Addr)(o:HO):Hp:=λb=>if b=a then some o else H b
theorem QC:eT H a o a=some o:=by unfold eT;rw[aA rfl]
theorem Qk{H:Hp}{a b:Addr}{o:HO}(h:b≠a):eT H a o b=H b:=by unfold eT;rw[aB h]
theorem Mr:eT (eT H a o) a u=eT H a u:=by
 funext b;unfold eT;split<;>rfl
theorem vP{H:Hp}(h:H a=some o)(h':H b=some u)(d:o≠u):a≠b:=by
 intro e;subst e;rw[h]at h';exact d (ag h')
theorem QF{H:Hp}{a b:Addr}{o:HO}(h:H a=some o)(h':H b=none):a≠b:=by
 intro e;subst e;rw[h]at h';cases h'
section
variable(P:Program)(w:World)
def ObjOk(H:Hp)(h:Heap)(a:Addr):HO->Prop
 | .lst xs=>xs.length<=sizeLine/\∃(its:List Value)(n:Nat),Vals xs its/\h.get? a=some { cls:=.type "list",data:=.seq its.toArray n }
 | .tup xs=>xs.length<=sizeLine/\∃ its:List Value,Vals xs its/\IsTup h a its.toArray
 | .dK kvs=>kvs.length<=sizeLine/\(a == sysModules)=false/\∃ vs,KV kvs vs/\h.DictOf (lj P w) a vs
 | .dT kvs=>kvs.length<=sizeLine/\(a == sysModules)=false/\∃ xs:List (List f9×Addr×Value),
  Paired (λ(p:List f9×V) (q:List f9×Addr×Value)=>p.1=q.1/\H q.2.1=some (.tup (p.1.map kV))/\RelV p.2 q.2.2) kvs xs/\
  ∃ o es ep,h.get? a=some o/\o.ExactDict/\o.data=.dict es ep/\es.toList=xs.map (entryOfKey (tupleKind (lj P w)))/\(xs.map (·.1)).Nodup
 | .set S n=>h.SetOf (intKind P w) a S n
 | .ins C dx fs=>H dx=some (.own a)/\fs.length<=1000/\dx≠a/\h.get? a=some (PySem.W.instObj C dx)/\
  ∃ mA,h.Ns1 dx mA/\(∀ f,RelO (fs.lookup f) (mA f))/\PySem.Within mA (fs.map (·.1))
 | .own _=>∃ o,h.get? a=some o
 | .xd fs=>∃ mA,h.Ns1 a mA/\∀ f,RelO (fs.lookup f) (mA f)
 | .rng lo hi=>∃ t u v,h.get? a=some { cls:=.type "range",data:=.fields #[.int lo t,.int hi u,.int 1 v] }
 | .frz o u=>h.get? a=some o/\ObjOk H h a u
 | .tbl ps=>h.get? a=some { cls:=.none,data:=.fields ps }
 | .met f x=>h.get? a=some (PySem.W.methodObj (.ref f) (.ref x))
 | .ext φ => φ h/\(∃ o,h.get? a=some o)/\∀ h1 h2:Heap, φ h1->(∀ o,h1.get? a=some o->h2.get? a=some o) -> φ h2
def HOk(H:Hp)(h:Heap):Prop:=∀ a o,H a=some o->ObjOk P w H h a o
end
theorem ObjOk.lt(x:ObjOk P w H h a o):a<h.objs.size:=by
 cases o with
 | lst xs=>obtain⟨_,_,_,_,e⟩:=x;exact aS e
 | tup xs=>obtain⟨_,_,_,p⟩:=x;exact p.lt
 | dK kvs=>obtain⟨_,_,_,_,o,_,_,e,_⟩:=x;exact aS e
 | dT kvs=>obtain⟨_,_,_,_,o,_,_,e,_⟩:=x;exact aS e
 | set S n=>obtain⟨o,_,_,_,e,_⟩:=x;exact aS e
 | ins C dx fs=>obtain⟨_,_,_,e,_⟩:=x;exact aS e
 | own y=>obtain⟨_,e⟩:=x;exact aS e
 | xd fs=>obtain⟨_,⟨_,_,_,e,_⟩,_⟩:=x;exact aS e
 | rng lo hi=>obtain⟨_,_,_,e⟩:=x;exact aS e
 | frz ob u=>obtain⟨e,_⟩:=x;exact aS e
 | tbl ps=>exact aS (show h.get? a=some _ from x)
 | met f y=>exact aS (show h.get? a=some _ from x)
 | ext φ => obtain⟨_,⟨_,e⟩,_⟩:=x;exact aS e
theorem Paired.mapP:∀{l₁:List α}{l₂ : List β},Paired F l₁ l₂ -> (∀ a b,F a b->G a b)->Paired G l₁ l₂
 | _,_,.nil,_=>.nil
 | _,_,.cons r t,f=>.cons (f _ _ r) (Paired.mapP t f)
theorem ObjOk.stay(x:ObjOk P w H h a o)(k:∀ b u,(b=a∨H b=some (.own a))->h.get? b=some u->h'.get? b=some u)
 (ho:∀ b,H b=some (.own a)->H' b=some (.own a)) (ht:∀ b xs,H b=some (.tup xs)->H' b=some (.tup xs)):ObjOk P w H' h' a o:=by
 induction o with
 | lst xs=>obtain⟨z,its,n,r,e⟩:=x;exact⟨z,its,n,r,k _ _ (.inl rfl) e⟩
 | tup xs=>obtain⟨z,its,r,ob,e,c⟩:=x;exact⟨z,its,r,ob,k _ _ (.inl rfl) e,c⟩
 | dK kvs=>obtain⟨z,y,vs,r,ob,es,ep,e,c⟩:=x;exact⟨z,y,vs,r,ob,es,ep,k _ _ (.inl rfl) e,c⟩
 | dT kvs=>
  obtain⟨z,y,xs,r,ob,es,ep,e,c⟩:=x
  exact⟨z,y,xs,Paired.mapP r λp q z=>⟨z.1,ht _ _ z.2.1,z.2.2⟩,ob,es,ep,k _ _ (.inl rfl) e,c⟩
 | set S n=>obtain⟨ob,es,ep,t,e,c⟩:=x;exact⟨ob,es,ep,t,k _ _ (.inl rfl) e,c⟩
 | ins C dx fs=>
  obtain⟨d,z,ne,e,mA,⟨od,es,ep,e2,c⟩,r⟩:=x
  exact⟨ho _ d,z,ne,k _ _ (.inl rfl) e,mA,⟨od,es,ep,k _ _ (.inr d) e2,c⟩,r⟩
 | own y=>obtain⟨ob,e⟩:=x;exact⟨ob,k _ _ (.inl rfl) e⟩
 | xd fs=>obtain⟨mA,⟨od,es,ep,e,c⟩,r⟩:=x;exact⟨mA,⟨od,es,ep,k _ _ (.inl rfl) e,c⟩,r⟩
 | rng lo hi=>obtain⟨t,u,v,e⟩:=x;exact⟨t,u,v,k _ _ (.inl rfl) e⟩
 | frz ob u ih=>obtain⟨e,q⟩:=x;exact⟨k _ _ (.inl rfl) e,ih q⟩
 | tbl ps=>
  have e:=x
  exact k a _ (.inl rfl) e
 | met f y=>
  have e:=x
  exact k a _ (.inl rfl) e
 | ext φ => obtain⟨p,⟨o,e⟩,st⟩:=x;exact⟨st _ _ p λo q=>k _ _ (.inl rfl) q,⟨o,k _ _ (.inl rfl) e⟩,st⟩
theorem HOk.lt(x:HOk P w H h)(e:H a=some o):a<h.objs.size:=(x a o e).lt
theorem HOk.fresh(x:HOk P w H h)(e:h.objs.size<=a):H a=none:=by
 cases q:H a with
 | none=>rfl
 | some u=>exact absurd (aa (x.lt q) e) (bL _)
theorem HOk.kept(x:HOk P w H h)(k:∀ b u,h.get? b=some u->h'.get? b=some u):HOk P w H h':=λa o e=>
 (x a o e).stay (λb u _ q=>k b u q) (λ_ q=>q) λ_ _ q=>q
theorem HOk.laid(x:HOk P w H h)(k:∀ b u,h.get? b=some u->h'.get? b=some u)(hp:h.objs.size<=a)(new:ObjOk P w (eT H a o) h' a o):HOk P w (eT H a o) h':=λb u e=>by
 have hn:=x.fresh hp
 by_cases hb:b=a
 ·subst hb;rw[QC]at e;cases e;exact new
 ·rw[Qk hb]at e
  exact(x b u e).stay (λc v _ q=>k c v q) (λc q=>by rw[Qk (QF q hn)];exact q) λc xs q=>by rw[Qk (QF q hn)];exact q
def Rd(H:Hp)(a:Addr)(u:HO):Prop:=H a=some u∨∃ o,H a=some (.frz o u)
theorem Rd.of{H:Hp}{a:Addr}{u:HO}(h:H a=some u):Rd H a u:=.inl h
theorem Rd.ok{P:Program}{w:World}{H:Hp}{h:Heap}{a:Addr}{u:HO}(r:Rd H a u)(x:HOk P w H h):ObjOk P w H h a u:=by
 rcases r with r | ⟨o,r⟩
 ·exact x a u r
 ·obtain⟨_,q⟩:=x a _ r
  exact q
def vQ:Option HO->Prop
 | some (.lst _)=>True
 | some (.dK _)=>True
 | some (.dT _)=>True
 | some (.set _ _)=>True
 | some (.ins _ _ _)=>True
 | some (.ext _)=>True
 | _=>False
theorem HOk.write(ok:HOk P w H h)(mu:vQ (H x))(he:e=x∨H e=some (.own x))(k:∀ b u,b≠e->h.get? b=some u->h'.get? b=some u)(uQ:∃ u,h'.get? e=some u)
 (new:ObjOk P w (eT H x o') h' x o'):HOk P w (eT H x o') h':=λb u q=>by
 have vR:∀ c y,H c=some (.own y)->c≠x:=λc y r z=>by subst z;rw[r]at mu;exact mu
 have D6:∀ c xs,H c=some (.tup xs)->c≠x:=λc xs r z=>by subst z;rw[r]at mu;exact mu
 by_cases hb:b=x
 ·subst hb;rw[QC]at q;cases q;exact new
 ·rw[Qk hb]at q
  by_cases hbe:b=e
  ·have q':H b=some (.own x):=by
    rcases he with z | z
    ·exact absurd (hbe.trans z) hb
    ·rw[hbe];exact z
   rw[q]at q';cases q'
   obtain⟨v,hv⟩:=uQ
   exact⟨v,by rw[hbe];exact hv⟩
  ·refine(ok b u q).stay (λc v hc r=>k c v ?_ r) (λc r=>by rw[Qk (vR c b r)];exact r) λc xs r=>by rw[Qk (D6 c xs r)];exact r
   rcases hc with rfl | hc
   ·exact hbe
   ·rintro rfl
    rcases he with z | z
    ·exact vR c b hc z
    ·rw[hc]at z;cases z;exact hb rfl
structure Un(fs ex:List Addr)(H H':Hp)(h h':Heap):Prop where
 keep:∀ b o,h.get? b=some o->H b=none->b∉fs->b∉ex->h'.get? b=some o
 slot:∀ b o,h.get? b=some o->H b=none->b∈fs->b∉ex->∃ sl,h'.get? b=some { o with slots:=sl }
 free:∀ b o,h.get? b=some o->H b=none->b∉ex->H' b=none
 there:∀ b o,h.get? b=some o->b∉ex->∃ o',h'.get? b=some o'
 tups:∀ b xs,H b=some (.tup xs)->H' b=some (.tup xs)
 frzs:∀ b o u,H b=some (.frz o u)->H' b=some (.frz o u)
 tbls:∀ b ps,H b=some (.tbl ps)->∃ more,H' b=some (.tbl (ps++more))
theorem Un.any(u:Un fs ex H H1 h h1){b:Addr}{ob:Obj}(q:h.get? b=some ob)(n:H b=none)(hx:b∉ex):∃ sl,h1.get? b=some { ob with slots:=sl }:=by
 by_cases hb:b∈fs
 ·exact u.slot b ob q n hb hx
 ·exact⟨ob.slots,u.keep b ob q n hb hx⟩
theorem Un.trans(a:Un fs ex H H1 h h1)(b:Un fs ex H1 H2 h1 h2):Un fs ex H H2 h h2 where
 keep:=λc ob q n hc hx=>b.keep c ob (a.keep c ob q n hc hx) (a.free c ob q n hx) hc hx
 slot:=λc ob q n hc hx=>by
  obtain⟨sl,e1⟩:=a.slot c ob q n hc hx
  obtain⟨vS,e2⟩:=b.slot c _ e1 (a.free c ob q n hx) hc hx
  exact⟨vS,e2⟩
 free:=λc ob q n hx=>by
  obtain⟨o',e1⟩:=a.there c ob q hx
  exact b.free c o' e1 (a.free c ob q n hx) hx
 there:=λc ob q hx=>by
  obtain⟨o',e1⟩:=a.there c ob q hx
  exact b.there c o' e1 hx
 tups:=λc xs q=>b.tups c xs (a.tups c xs q)
 frzs:=λc ob xs q=>b.frzs c ob xs (a.frzs c ob xs q)
 tbls:=λc ps q=>by
  obtain⟨m1,e1⟩:=a.tbls c ps q
  obtain⟨m2,e2⟩:=b.tbls c _ e1
  exact⟨m1++m2,by rw[e2,Array.append_assoc]⟩
theorem Un.kept(k:∀ b u,h.get? b=some u->h'.get? b=some u):Un fs ex H H h h':=
 ⟨λb ob q _ _ _=>k b ob q,λb ob q _ _ _=>⟨ob.slots,k b ob q⟩,λ_ _ _ n _=>n,λb ob q _=>⟨ob,k b ob q⟩,λ_ _ q=>q,λ_ _ _ q=>q,λ_ ps q=>⟨#[],by rw[q];simp⟩⟩
theorem Un.refl:Un fs ex H H h h:=Un.kept λ_ _ q=>q
theorem Un.laid(k:∀ b u,h.get? b=some u->h'.get? b=some u)(hp:h.objs.size<=a)(hn:H a=none):Un fs ex H (eT H a o) h h' where
 keep:=λb u q _ _ _=>k b u q
 slot:=λb u q _ _ _=>⟨u.slots,k b u q⟩
 free:=λb u q n _=>by rw[Qk (ai (aa (aS q) hp))];exact n
 there:=λb u q _=>⟨u,k b u q⟩
 tups:=λb xs q=>by rw[Qk (QF q hn)];exact q
 frzs:=λb u xs q=>by rw[Qk (QF q hn)];exact q
 tbls:=λb ps q=>⟨#[],by rw[Qk (QF q hn),q];simp⟩
theorem Un.write(mu:vQ (H x))(he:e=x∨H e=some (.own x))(k:∀ b u,b≠e->h.get? b=some u->h'.get? b=some u)(uQ:∃ u,h'.get? e=some u):Un fs ex H (eT H x o) h h':=by
 have hx:∀ b,H b=none->b≠x:=λb n z=>by subst z;rw[n]at mu;exact mu
 have hb:∀ b,H b=none->b≠e:=λb n z=>by
  subst z
  rcases he with r | r
  ·exact hx b n r
  ·rw[n]at r;cases r
 have hm:∀ b u,H b=some u->¬ vQ (some u)->b≠x:=λb u q nm z=>by subst z;rw[q]at mu;exact nm mu
 refine⟨λb u q n _ _=>k b u (hb b n) q,λb u q n _ _=>⟨u.slots,k b u (hb b n) q⟩,λb u q n _=>by rw[Qk (hx b n)];exact n,λb u q _=>?_,
  λb xs q=>by rw[Qk (hm b _ q λz=>z)];exact q,λb u xs q=>by rw[Qk (hm b _ q λz=>z)];exact q,λb ps q=>⟨#[],by rw[Qk (hm b _ q λz=>z),q];simp⟩⟩
 by_cases hbe:b=e
 ·subst hbe;exact uQ
 ·exact⟨u,k b u hbe q⟩
theorem Un.mono(u:Un fs ex H H1 h h1)(hs:∀ b∈fs,b∈kz)(hx:∀ b∈ex,b∈ex'):Un kz ex' H H1 h h1:=
 ⟨λb ob q n hb he=>u.keep b ob q n (λz=>hb (hs b z)) λz=>he (hx b z),λ_ _ q n _ he=>u.any q n λz=>he (hx _ z),λb ob q n he=>u.free b ob q n λz=>he (hx b z),λb ob q he=>u.there b ob q λz=>he (hx b z),u.tups,u.frzs,u.tbls⟩
noncomputable def lX(h:Heap)(H:Hp):List Addr:=(List.range h.objs.size).filter λa=>(H a).isSome
def kU(h:Heap)(H:Hp):Heap:=PySem.W.hideAll h (lX h H)
theorem Ms(h:Heap)(H:Hp):(kU h H).objs.size=h.objs.size:=PySem.W.hideAll_size _ _
theorem Mt{h:Heap}{H:Hp}{b:Addr}{o:Obj}(e:h.get? b=some o)(n:H b=none):(kU h H).get? b=some o:=
 PySem.W.hideAll_get _ e λhm=>by
  have q:(H b).isSome=true:=(List.mem_filter.mp hm).2
  rw[n]at q;simp at q
theorem Mu{h:Heap}{H:Hp}{b:Addr}{o:Obj}(e:(kU h H).get? b=some o):h.get? b=some o/\H b=none:=by
 have e':h.get? b=some o:=PySem.W.of_hideAll (lX h H) e
 refine⟨e',?_⟩
 cases q:H b with
 | none=>rfl
 | some x=>
  have hm:b∈lX h H:=List.mem_filter.mpr ⟨aU.mpr (aS e'),by simp[q]⟩
  have z:(kU h H).get? b=none:=PySem.W.hideAll_none (lX h H) hm
  rw[z]at e;cases e
noncomputable def Mv(g h:Heap)(L:Addr):List (Addr×Obj):=(List.range h.objs.size).filterMap λa=>if a=L∨(g.get? a).isSome=true then none else(h.get? a).map λo=>(a,o)
def eY(g h:Heap)(L d:Addr):List (Addr×Obj):=(Mv g h L).filter λp=>decide (p.1≠d)
structure Mod(K:PySem.W.Frag)(mg:Str->Option Value)(base:Heap):Prop where
 kin:K.In base
 glob:base.Ns mainGlobals mg
 blt:∃ mb,base.Ns builtinsNs mb/\∀ x:Str,x≠"__name__"->mb x=bootBuiltins x
 nolimit:base.NoLimit
structure Cx where
 prog:Program
 w:World
 K:PySem.W.Frag
 mg:Str->Option Value
 base:Heap
 A:Around
 N:List Str
 s₀:Shared
 H₀:Hp
 env:Env
 outer:List Env
 stack:List Env
 ex:List Addr
 fn:Str->Bool
 calm:Bool
 pn:List (Addr×Obj)
 xe:Value->Shared->Prop
noncomputable def iO(l:List Env):List Addr:=l.filterMap (·.frame)
abbrev Cx.fs(X:Cx):List Addr:=iO X.outer
def ll(sc:Scope)(x:Str):Prop:=sc.names.lookup x=some .local∨sc.names.lookup x=some .cell∨sc.names.lookup x=some .free
def mI(sc:Scope)(x:Str):Prop:=sc.names.lookup x=some .local∨sc.names.lookup x=some .cell
def D7(env:Env)(h:Heap)(m:Str->Option Value)(x:Str)(u:Value):Prop:=
 (env.kindOf x=some .local/\m x=some u)∨((env.kindOf x=some .cell∨env.kindOf x=some .free)/\∃ c,env.cells.lookup x=some c/\h.IsCell c (some u))
structure Cx.Ok(X:Cx):Prop where
 mod:Mod X.K X.mg X.base
 kind:X.env.scope.kind=.function
 glob:X.env.globals=mainGlobals
 blt:X.env.builtins=builtinsNs
 above:X.s₀.heap.objs.size<=X.env.locals
 inj:∀ x y c,X.env.cells.lookup x=some c->X.env.cells.lookup y=some c->x=y
 has:∀ x,(X.env.kindOf x=some .cell∨X.env.kindOf x=some .free)->∃ c,X.env.cells.lookup x=some c
 cab:∀ x c,X.fn x=true->X.env.cells.lookup x=some c->X.s₀.heap.objs.size<=c
 hd:X.calm=true->X.A.handled=none
 frames:X.A.frames=some X.stack
 stk:X.stack=X.outer∨(X.stack=X.env::X.outer/\X.env.frame=some X.env.locals)
 exf:∀ b∈X.ex,b≠X.env.locals/\∀ x c,X.env.cells.lookup x=some c->c≠b
 bs:∀ b o,X.base.get? b=some o->X.s₀.heap.get? b=some o/\X.H₀ b=none
 bsz:X.base.objs.size<=X.s₀.heap.objs.size
 noex:∀ b o,X.base.get? b=some o->b∉X.ex
 exfs:∀ b∈X.ex,b∉X.fs
 funs:X.s₀.heap.FunFrames X.base X.outer
 frf:∀ b∈X.fs,X.H₀ b=none
structure Inv(X:Cx)(pins:List (Addr×Obj))(σ:List (Option V))(H:Hp)(s:Shared):Prop where
 ok:X.Ok
 os:s.os=X.s₀.os
 bare:AllBare s.gens
 base:Un X.fs X.ex X.H₀ H X.s₀.heap s.heap
 loc:∃ m,s.heap.Ns X.env.locals m/\∀(i:Nat)(x:Str)(v:V),X.N[i]?=some x->σ[i]?=some (some v)->ll X.env.scope x->∃ u,RelV v u/\D7 X.env s.heap m x u
 cell:∀ x c,X.env.cells.lookup x=some c->∃ v,s.heap.IsCell c v
 free:H X.env.locals=none
 freeC:∀ x c,X.env.cells.lookup x=some c->H c=none
 pin:∀ p∈X.pn++pins,s.heap.get? p.1=some p.2/\H p.1=none/\p.1≠X.env.locals/\p.1∉X.fs/\∀ v,p.2.data≠.cell v
 hok:HOk X.prog X.w H s.heap
 len:σ.length=X.N.length
section
variable{X:Cx}
theorem Cx.Ok.nofr(ok:X.Ok)(e:X.base.get? b=some o):b∉X.fs:=λhb=>by
 have:=(ok.funs.mem hb).1
 rw[e]at this;cases this
theorem Inv.bs(I:Inv X pins σ H s):∀ b o,X.base.get? b=some o->s.heap.get? b=some o/\H b=none:=λb o e=>
 ⟨I.base.keep b o (I.ok.bs b o e).1 (I.ok.bs b o e).2 (I.ok.nofr e) (I.ok.noex b o e),I.base.free b o (I.ok.bs b o e).1 (I.ok.bs b o e).2 (I.ok.noex b o e)⟩
theorem Inv.bk(I:Inv X pins σ H s):∀ b o,X.base.get? b=some o->s.heap.get? b=some o:=λb o e=>(I.bs b o e).1
theorem Inv.mod(I:Inv X pins σ H s):Mod X.K X.mg X.base:=I.ok.mod
theorem Inv.kIn(I:Inv X pins σ H s):X.K.In s.heap:=I.ok.mod.kin.keeps I.bk
theorem Inv.fr(I:Inv X pins σ H s):∃ m,Fr X.base X.env.locals s.heap m:=
 let ⟨m,hn,_⟩:=I.loc
 ⟨m,hn,I.bk,b0 I.ok.bsz I.ok.above⟩
theorem Inv.lt(I:Inv X pins σ H s):X.env.locals<s.heap.objs.size:=let ⟨_,hn,_⟩:=I.loc;hn.lt
theorem Inv.sz(I:Inv X pins σ H s):X.s₀.heap.objs.size<=s.heap.objs.size:=b0 I.ok.above (c8 I.lt)
theorem Inv.nofs(I:Inv X pins σ H s)(h:s.heap.objs.size<=a):a∉X.fs:=λhb=>by
 obtain⟨_,o,ho,_⟩:=I.ok.funs.mem hb
 exact absurd (aa (aS ho) (b0 I.sz h)) (bL _)
theorem Inv.cne(I:Inv X pins σ H s):∀ x c,X.env.cells.lookup x=some c->c≠X.env.locals:=λx c e z=>by
 obtain⟨v,o,ho,hd⟩:=I.cell x c e
 obtain⟨m,⟨o',es,ep,jA,hd',_⟩,_⟩:=I.loc
 rw[z,jA]at ho;cases ho;rw[hd']at hd;cases hd
theorem Inv.funs(I:Inv X pins σ H s):s.heap.FunFrames X.base X.outer:=by
 have all:∀ l,(∀ b∈iO l,b∈X.fs)->X.s₀.heap.FunFrames X.base l->s.heap.FunFrames X.base l:=by
  intro l
  induction l with
  | nil=>intro _ _;trivial
  | cons env r ih=>
   intro hs hl
   obtain⟨hk,⟨L,o,hf,hn,ho,hd⟩,hr⟩:=hl
   have hL:=hs L (by unfold iO;rw[bb,hf];exact aR)
   obtain⟨sl,e⟩:=I.base.slot L o ho (I.ok.frf L hL) hL λz=>I.ok.exfs L z hL
   exact⟨hk,⟨L,_,hf,hn,e,hd⟩,ih (λb hb=>hs b (by unfold iO;rw[bb,hf];exact aG _ hb)) hr⟩
 exact all X.outer (λ_ hb=>hb) I.ok.funs
theorem Inv.stack(I:Inv X pins σ H s):s.heap.FunFrames X.base X.stack:=by
 rcases I.ok.stk with e | ⟨e,hf⟩
 ·rw[e];exact I.funs
 ·rw[e]
  obtain⟨m,hn,_⟩:=I.loc
  refine .cons (by rw[I.ok.kind];decide) hf hn ?_ I.funs
  exact Heap.get?_none_of_le (b0 I.ok.bsz I.ok.above)
theorem Inv.stkSub(I:Inv X pins σ H s):∀ b∈iO X.stack,b∈X.env.locals::X.fs:=λb hb=>by
 rcases I.ok.stk with e | ⟨e,hf⟩
 ·rw[e]at hb;exact aG _ hb
 ·rw[e]at hb
  unfold iO at hb
  rw[bb,hf]at hb
  exact hb
theorem Inv.stkFree(I:Inv X pins σ H s):∀ b∈iO X.stack,H b=none:=λb hb=>by
 rcases aL.mp (I.stkSub b hb) with e | hb
 ·rw[e];exact I.free
 ·obtain⟨_,o,ho,_⟩:=I.ok.funs.mem hb
  exact I.base.free b o ho (I.ok.frf b hb) λz=>I.ok.exfs b z hb
theorem Inv.step{ch:List Addr}(I:Inv X pins σ H s)
 (pA:∀ b∈ch,(b∈X.ex∨X.s₀.heap.objs.size<=b)/\b≠X.env.locals/\(∀ x c,X.env.cells.lookup x=some c->c≠b)/\∀ p∈X.pn++pins,p.1≠b)
 (keep:∀ b o,b≠X.env.locals->b∉X.fs->b∉ch->s.heap.get? b=some o->H b=none->h'.get? b=some o)
 (slot:∀ b o,b≠X.env.locals->b∈X.fs->b∉ch->s.heap.get? b=some o->H b=none->∃ sl,h'.get? b=some { o with slots:=sl }) (free:∀ b o,b∉ch->s.heap.get? b=some o->H b=none->H' b=none)
 (there:∀ b o,b∉ch->s.heap.get? b=some o->∃ o',h'.get? b=some o')
 (tups:∀ b xs,H b=some (.tup xs)->H' b=some (.tup xs)) (frzs:∀ b o u,H b=some (.frz o u)->H' b=some (.frz o u)) (tbls:∀ b ps,H b=some (.tbl ps)->∃ more,H' b=some (.tbl (ps++more)))
 (ns:∀ m,s.heap.Ns X.env.locals m->h'.Ns X.env.locals m) (hok:HOk X.prog X.w H' h') (hg:AllBare g'):
 Inv X pins σ H' { s with heap:=h',gens:=g',drawn:=d',toks:=t' }:=by
 have Ig:∀ b o,X.s₀.heap.get? b=some o->b≠X.env.locals:=λb o e=>ai (aa (aS e) I.ok.above)
 have zm:∀ b o,X.s₀.heap.get? b=some o->b∉X.ex->b∉ch:=λb o e hx hb=>by
  rcases(pA b hb).1 with z | z
  ·exact hx z
  ·exact absurd (aa (aS e) z) (bL _)
 have cellK:∀ x c,X.env.cells.lookup x=some c->∀ v,s.heap.IsCell c v->h'.IsCell c v:=λx c e v ⟨o,ho,hd⟩=>by
  have vT:=λz=>(pA c z).2.2.1 x c e rfl
  by_cases hc:c∈X.fs
  ·obtain⟨sl,q⟩:=slot c o (I.cne x c e) hc vT ho (I.freeC x c e)
   exact⟨_,q,hd⟩
  ·exact⟨o,keep c o (I.cne x c e) hc vT ho (I.freeC x c e),hd⟩
 refine⟨I.ok,I.os,hg,⟨λb o e n hb hx=>?_,λb o e n hb hx=>?_,λb o e n hx=>?_,λb o e hx=>?_,λb xs e=>tups b xs (I.base.tups b xs e),λb o xs e=>frzs b o xs (I.base.frzs b o xs e),λb ps e=>?_⟩,?_,λx c e=>?_,?_,λx c e=>?_,λp hp=>?_,hok,I.len⟩
 ·exact keep b o (Ig b o e) hb (zm b o e hx) (I.base.keep b o e n hb hx) (I.base.free b o e n hx)
 ·obtain⟨sl,e1⟩:=I.base.slot b o e n hb hx
  obtain⟨vS,e2⟩:=slot b _ (Ig b o e) hb (zm b o e hx) e1 (I.base.free b o e n hx)
  exact⟨vS,e2⟩
 ·obtain⟨o',e1⟩:=I.base.there b o e hx
  exact free b o' (zm b o e hx) e1 (I.base.free b o e n hx)
 ·obtain⟨o',e1⟩:=I.base.there b o e hx
  exact there b o' (zm b o e hx) e1
 ·obtain⟨m1,e1⟩:=I.base.tbls b ps e
  obtain⟨m2,e2⟩:=tbls b _ e1
  exact⟨m1++m2,by rw[e2,Array.append_assoc]⟩
 ·obtain⟨m,hn,hl⟩:=I.loc
  refine⟨m,ns m hn,λi x v e1 e2 e3=>?_⟩
  obtain⟨u,r,l⟩:=hl i x v e1 e2 e3
  refine⟨u,r,?_⟩
  rcases l with l | ⟨k,c,e,z⟩
  ·exact .inl l
  ·exact .inr ⟨k,c,e,cellK x c e _ z⟩
 ·obtain⟨v,z⟩:=I.cell x c e
  exact⟨v,cellK x c e v z⟩
 ·obtain⟨m,⟨o,_,_,ho,_⟩,_⟩:=I.loc
  exact free _ o (λz=>(pA _ z).2.1 rfl) ho I.free
 ·obtain⟨v,o,ho,hd⟩:=I.cell x c e
  exact free c o (λz=>(pA c z).2.2.1 x c e rfl) ho (I.freeC x c e)
 ·obtain⟨e,n,ne,nf,d⟩:=I.pin p hp
  have vT:=λz=>(pA p.1 z).2.2.2 p hp rfl
  exact⟨keep p.1 p.2 ne nf vT e n,free p.1 p.2 vT e n,ne,nf,d⟩
theorem Inv.un{t':Nat}(I:Inv X pins σ H s)(u:Un X.fs [] H H' s.heap h')(hok:HOk X.prog X.w H' h'):Inv X pins σ H' { s with heap:=h',toks:=t' }:=by
 obtain⟨m,⟨o,es,ep,ho,r⟩,_⟩:=id I.loc
 obtain⟨sl,hL⟩:=u.any ho I.free (by simp)
 exact I.step (g':=s.gens) (d':=s.drawn) (ch:=[]) (λ_ z=>nomatch z) (λb o _ hb _ e n=>u.keep b o e n hb (by simp)) (λb o _ hb _ e n=>u.slot b o e n hb (by simp)) (λb o _ e n=>u.free b o e n (by simp)) (λb o _ e=>u.there b o e (by simp)) u.tups u.frzs u.tbls (λm' hm=>by
  obtain⟨o',es',ep',jA,r'⟩:=hm
  rw[ho]at jA;cases jA
  exact⟨_,es',ep',hL,r'⟩) hok I.bare
theorem Inv.call{g':Array GenState}{t':Nat}{d':Drawn}{ch:List Addr}(I:Inv X pins σ H s)(u:Un (iO X.stack) ch H H' s.heap h')(hok:HOk X.prog X.w H' h')(hg:AllBare g')
 (pA:∀ b∈ch,(b∈X.ex∨X.s₀.heap.objs.size<=b)/\b≠X.env.locals/\(∀ x c,X.env.cells.lookup x=some c->c≠b)/\∀ p∈X.pn++pins,p.1≠b):
 Inv X pins σ H' { s with heap:=h',gens:=g',drawn:=d',toks:=t' }:=by
 obtain⟨m,⟨o,es,ep,ho,r⟩,_⟩:=id I.loc
 obtain⟨sl,hL⟩:=u.any ho I.free λz=>(pA _ z).2.1 rfl
 exact I.step (ch:=ch) pA (λb o hL hb hc e n=>u.keep b o e n (λz=>(aL.mp (I.stkSub b z)).elim hL hb) hc) (λb o _ _ hc e n=>u.any e n hc) (λb o hc e n=>u.free b o e n hc) (λb o hc e=>u.there b o e hc) u.tups u.frzs u.tbls (λm' hm=>by
  obtain⟨o',es',ep',jA,r'⟩:=hm
  rw[ho]at jA;cases jA
  exact⟨_,es',ep',hL,r'⟩) hok hg
theorem Inv.turned{it:Addr}(I:Inv X pins σ H s)(k:∀ b o,b≠it->s.heap.get? b=some o->h'.get? b=some o)(hn:H it=none)(hL:it≠X.env.locals)
 (h1:it∈X.ex∨X.s₀.heap.objs.size<=it) (h2:∀ x c,X.env.cells.lookup x=some c->c≠it) (h3:∀ p∈X.pn++pins,p.1≠it):Inv X pins σ H { s with heap:=h',toks:=t' }:=by
 have Ih:∀ b u,H b=some u->b≠it:=λb u e z=>by rw[z,hn]at e;cases e
 refine I.step (ch:=[it]) (λb hb=>?_) (λb o _ _ hc e _=>k b o (λz=>hc (by simp[z])) e) (λb o _ _ hc e _=>⟨o.slots,k b o (λz=>hc (by simp[z])) e⟩) (λ_ _ _ _ n=>n)
  (λb o hc e=>⟨o,k b o (λz=>hc (by simp[z])) e⟩) (λ_ _ e=>e) (λ_ _ _ e=>e) (λb ps e=>⟨#[],by rw[e];simp⟩) (λm hm=>?_) (λb u e=>?_) I.bare
 ·have e:b=it:=by simpa using hb
  subst e
  exact⟨h1,hL,h2,h3⟩
 ·obtain⟨o,es,ep,ho,r⟩:=hm
  exact⟨o,es,ep,k _ o (bR hL) ho,r⟩
 ·refine(I.hok b u e).stay (λc v hc q=>k c v ?_ q) (λ_ q=>q) λ_ _ q=>q
  rcases hc with z | z
  ·rw[z];exact Ih b u e
  ·exact Ih c _ z
theorem Inv.tok(I:Inv X pins σ H s)(t:Nat):Inv X pins σ H { s with toks:=t }:=I.un (h':=s.heap) (t':=t) Un.refl I.hok
theorem Inv.kept{t':Nat}(I:Inv X pins σ H s)(k:∀ b u,s.heap.get? b=some u->h'.get? b=some u):Inv X pins σ H { s with heap:=h',toks:=t' }:=I.un (Un.kept k) (I.hok.kept k)
theorem Inv.laid{a:Addr}{o:HO}{t':Nat}(I:Inv X pins σ H s)(k:∀ b u,s.heap.get? b=some u->h'.get? b=some u)(hp:s.heap.objs.size<=a)(new:ObjOk X.prog X.w (eT H a o) h' a o):
 Inv X pins σ (eT H a o) { s with heap:=h',toks:=t' }:=I.un (Un.laid k hp (I.hok.fresh hp)) (I.hok.laid k hp new)
theorem Inv.write{x e:Addr}{o:HO}{t':Nat}(I:Inv X pins σ H s)(mu:vQ (H x))(he:e=x∨H e=some (.own x))(k:∀ b u,b≠e->s.heap.get? b=some u->h'.get? b=some u)(uQ:∃ u,h'.get? e=some u)
 (new:ObjOk X.prog X.w (eT H x o) h' x o):Inv X pins σ (eT H x o) { s with heap:=h',toks:=t' }:=I.un (Un.write mu he k uQ) (I.hok.write mu he k uQ new)
theorem Inv.pins_of(I:Inv X pins σ H s)(h:∀ p∈vU,s.heap.get? p.1=some p.2/\H p.1=none/\p.1≠X.env.locals/\p.1∉X.fs/\∀ v,p.2.data≠.cell v):Inv X vU σ H s:=
 ⟨I.ok,I.os,I.bare,I.base,I.loc,I.cell,I.free,I.freeC,λp hp=>(List.mem_append.mp hp).elim (λz=>I.pin p (List.mem_append_left _ z)) (h p),I.hok,I.len⟩
theorem Ii{N:List Str}(hN:N.Nodup){i j:Nat}(a:N[i]?=some x)(b:N[j]?=some x):i=j:=by
 obtain⟨h1,e1⟩:=aW.mp a
 obtain⟨h2,e2⟩:=aW.mp b
 exact(List.getElem_inj hN).mp (e1.trans e2.symm)
theorem Ij{M:Model}(I:Inv X pins σ H s)(hN:X.N.Nodup)(hi:X.N[i]?=some x)(hx:mI X.env.scope x)(r:RelV v u)
 (h:∀ s',Inv X pins (σ.set i (some v)) H s'->(∃ a,Heap.SameBut a s.heap s'.heap/\(a=X.env.locals∨X.env.cells.lookup x=some a))->Q () s') (hf:X.fn x=true∨X.env.scope.names.lookup x=some .local:=by fail"V2"):wpAny M A (storeName X.env x u) Q E s:=by
 obtain⟨m,hn,hl⟩:=id I.loc
 have nc:(X.env.scope.kind == .class||(X.env.scope.kind == .module&&X.env.locals != X.env.globals))=false:=by rw[I.ok.kind];rfl
 have vV:i<σ.length:=by rw[I.len];exact(aW.mp hi).1
 have cne:=I.cne
 have tracked:∀{a:Addr}{h':Heap},(∃ o,s.heap.get? a=some o/\H a=none)->Heap.SameBut a s.heap h'->HOk X.prog X.w H h':=λ{a h'} ha hs b ob e=>by
  obtain⟨_,_,hfree⟩:=ha
  refine(I.hok b ob e).stay (λc w' hc q=>(hs.2 c ?_).trans q) (λ_ q=>q) λ_ _ q=>q
  rintro rfl
  rcases hc with rfl | hc
  ·rw[hfree]at e;cases e
  ·rw[hfree]at hc;cases hc
 rcases hx with hk | hk
 ·refine wpAny_storeName_local hk hn (λh' Mw hs=>?_) nc
  obtain⟨oL,_,_,hoL,_⟩:=id hn
  refine h _ ⟨I.ok,I.os,I.bare,⟨λb o e n hb hx=>?_,λb o e n hb hx=>?_,I.base.free,λb o e hx=>?_,I.base.tups,I.base.frzs,I.base.tbls⟩,⟨_,Mw,λj y v' e1 e2 e3=>?_⟩,λy c e=>?_,I.free,I.freeC,λp hp=>?_,tracked ⟨oL,hoL,I.free⟩ hs,by simpa using I.len⟩ ⟨_,hs,.inl rfl⟩
  ·exact(hs.2 b (ai (aa (aS e) I.ok.above))).trans (I.base.keep b o e n hb hx)
  ·obtain⟨sl,e1⟩:=I.base.slot b o e n hb hx
   exact⟨sl,(hs.2 b (ai (aa (aS e) I.ok.above))).trans e1⟩
  ·obtain⟨o',e1⟩:=I.base.there b o e hx
   exact⟨o',(hs.2 b (ai (aa (aS e) I.ok.above))).trans e1⟩
  ·by_cases hj:j=i
   ·subst hj
    rw[hi]at e1;cases e1
    rw[List.getElem?_set_self vV]at e2
    cases e2
    exact⟨u,r,.inl ⟨hk,by simp⟩⟩
   ·rw[List.getElem?_set_ne (bR hj)]at e2
    obtain⟨u',r',q⟩:=hl j y v' e1 e2 e3
    refine⟨u',r',?_⟩
    rcases q with⟨k,e⟩ | ⟨k,c,e,z⟩
    ·refine .inl ⟨k,?_⟩
     have:y≠x:=λe=>hj (Ii hN e1 (e ▸ hi))
     simp[this,e]
    ·exact .inr ⟨k,c,e,z.sameBut hs (cne y c e)⟩
  ·obtain⟨w',z⟩:=I.cell y c e
   exact⟨w',z.sameBut hs (cne y c e)⟩
  ·obtain⟨e,n,ne,nf,d⟩:=I.pin p hp
   exact⟨(hs.2 p.1 ne).trans e,n,ne,nf,d⟩
 ·have D8:X.fn x=true:=by
   rcases hf with z | z
   ·exact z
   ·rw[z]at hk;cases hk
  obtain⟨c,hc⟩:=I.ok.has x (.inl hk)
  obtain⟨w',z⟩:=I.cell x c hc
  refine wpAny_storeName_cell I.ok.kind hk hc z (λh' uR hs=>?_)
  obtain⟨oc,hoc,hocd⟩:=id z
  refine h { s with heap:=h' } ⟨I.ok,I.os,I.bare,⟨λb o e n hb hx=>?_,λb o e n hb hx=>?_,I.base.free,λb o e hx=>?_,I.base.tups,I.base.frzs,I.base.tbls⟩,⟨m,hn.sameBut hs (bR (cne x c hc)),λj y v' e1 e2 e3=>?_⟩,λy c' e=>?_,I.free,I.freeC,λp hp=>?_,tracked ⟨oc,hoc,I.freeC x c hc⟩ hs,by simpa using I.len⟩ ⟨c,hs,.inr hc⟩
  ·exact(hs.2 b (ai (aa (aS e) (I.ok.cab x c D8 hc)))).trans (I.base.keep b o e n hb hx)
  ·obtain⟨sl,e1⟩:=I.base.slot b o e n hb hx
   exact⟨sl,(hs.2 b (ai (aa (aS e) (I.ok.cab x c D8 hc)))).trans e1⟩
  ·obtain⟨o',e1⟩:=I.base.there b o e hx
   exact⟨o',(hs.2 b (ai (aa (aS e) (I.ok.cab x c D8 hc)))).trans e1⟩
  ·by_cases hj:j=i
   ·subst hj
    rw[hi]at e1;cases e1
    rw[List.getElem?_set_self vV]at e2
    cases e2
    exact⟨u,r,.inr ⟨.inl hk,c,hc,uR⟩⟩
   ·rw[List.getElem?_set_ne (bR hj)]at e2
    obtain⟨u',r',q⟩:=hl j y v' e1 e2 e3
    refine⟨u',r',?_⟩
    rcases q with q | ⟨k,c',e,z'⟩
    ·exact .inl q
    ·refine .inr ⟨k,c',e,z'.sameBut hs ?_⟩
     rintro rfl
     exact hj (Ii hN e1 (I.ok.inj _ _ _ e hc ▸ hi))
  ·by_cases zp:c'=c
   ·subst zp;exact⟨_,uR⟩
   ·obtain⟨w2,z2⟩:=I.cell y c' e
    exact⟨w2,z2.sameBut hs zp⟩
  ·obtain⟨e,n,ne,nf,d⟩:=I.pin p hp
   refine⟨(hs.2 p.1 ?_).trans e,n,ne,nf,d⟩
   intro q
   rw[q,hoc]at e
   have q':=ag e
   exact d w' (by rw[← q'];exact hocd)
theorem D9(I:Inv X pins σ H s)(hN:X.N.Nodup)(hi:X.N[i]?=some x)(hx:mI X.env.scope x)(r:RelV v u)
 (h:∀ s',Inv X pins (σ.set i (some v)) H s'->Q () s') (hf:X.fn x=true∨X.env.scope.names.lookup x=some .local:=by fail"V2"):wpAny M A (storeName X.env x u) Q E s:=
 Ij I hN hi hx r (λs' I' _=>h s' I') hf
theorem Inv.call'(I:Inv X pins σ H s)(ho:s'.os=s.os)(u:Un (iO X.stack) ch H H' s.heap s'.heap)(hok:HOk X.prog X.w H' s'.heap)(hg:AllBare s'.gens)
 (pA:∀ b∈ch,(b∈X.ex∨X.s₀.heap.objs.size<=b)/\b≠X.env.locals/\(∀ x c,X.env.cells.lookup x=some c->c≠b)/\∀ p∈X.pn++pins,p.1≠b):Inv X pins σ H' s':=by
 obtain⟨h',g',d',t',o'⟩:=s'
 have e:=ho
 subst e
 exact I.call u hok hg pA
end
abbrev XK:=Value->Option Addr->Hp->Prop
abbrev St:=List (Option V)
abbrev VK:=V->Hp->Prop
abbrev TE:=St->Hp->VK->Prop
abbrev TT:=St->Hp->(Bool->Hp->Prop)->Prop
abbrev TA:=St->Hp->(List V->Hp->Prop)->Prop
structure jd where
 nx:St->Hp->Prop
 rt:VK
 bk:St->Hp->Prop:=λ_ _=>False
 ct:St->Hp->Prop:=λ_ _=>False
abbrev TS:=jd->St->Hp->Prop
def EP(X:Cx)(pins:List (Addr×Obj))(σ:St)(Q:VK)(u:Value)(s':Shared):Prop:=∃ v H',Inv X pins σ H' s'/\RelV v u/\Q v H'
def TP(X:Cx)(pins:List (Addr×Obj))(σ:St)(Q:Bool->Hp->Prop)(b:Bool)(s':Shared):Prop:=∃ H',Inv X pins σ H' s'/\Q b H'
def AP(X:Cx)(pins:List (Addr×Obj))(σ:St)(Q:List V->Hp->Prop)(us:List Value)(s':Shared):Prop:=∃ vs H',Inv X pins σ H' s'/\Vals vs us/\Q vs H'
def SP(X:Cx)(pins:List (Addr×Obj))(D:jd)(f:Flow)(s':Shared):Prop:=
 match f with
 | .next=>∃ σ' H',Inv X pins σ' H' s'/\D.nx σ' H'
 | .brk=>∃ σ' H',Inv X pins σ' H' s'/\D.bk σ' H'
 | .cont=>∃ σ' H',Inv X pins σ' H' s'/\D.ct σ' H'
 | .ret u=>∃ v σ' H',Inv X pins σ' H' s'/\RelV v u/\D.rt v H'
def PE(X:Cx)(e:Expr)(t:TE):Prop:=
 ∀(pins:List (Addr×Obj))(s:Shared)(σ:St)(H:Hp)(Q:VK),Inv X pins σ H s->t σ H Q->wpAny (model X.prog X.w) X.A (eval e X.env) (EP X pins σ Q) X.xe s
def PT(X:Cx)(e:Expr)(t:TT):Prop:=
 ∀(pins:List (Addr×Obj))(s:Shared)(σ:St)(H:Hp)(Q:Bool->Hp->Prop),Inv X pins σ H s->t σ H Q->wpAny (model X.prog X.w) X.A (isTrue e X.env (eval e X.env)) (TP X pins σ Q) X.xe s
def PW(X:Cx)(e:Expr)(t:TT):Prop:=
 ∀(iP:Sem Value)(pins:List (Addr×Obj))(s:Shared)(σ:St)(H:Hp)(Q:Bool->Hp->Prop),Inv X pins σ H s->t σ H Q->wpAny (model X.prog X.w) X.A (isTrue e X.env iP) (TP X pins σ Q) X.xe s
theorem PW.pt(h:PW X e t):PT X e t:=h _
def PA(X:Cx)(es:List Expr)(t:TA):Prop:=
 ∀(pos:Pos)(pins:List (Addr×Obj))(s:Shared)(σ:St)(H:Hp)(Q:List V->Hp->Prop),Inv X pins σ H s->t σ H Q->wpAny (model X.prog X.w) X.A (spliced (backTo pos (starEach es X.env))) (AP X pins σ Q) X.xe s
def PS(X:Cx)(st:Stmt)(t:TS):Prop:=
 ∀(pins:List (Addr×Obj))(s:Shared)(σ:St)(H:Hp)(D:jd),Inv X pins σ H s->t D σ H->wpAny (model X.prog X.w) X.A (exec st X.env) (SP X pins D) X.xe s
def PSs(X:Cx)(st:List Stmt)(t:TS):Prop:=
 ∀(pins:List (Addr×Obj))(s:Shared)(σ:St)(H:Hp)(D:jd),Inv X pins σ H s->t D σ H->wpAny (model X.prog X.w) X.A (execs st X.env) (SP X pins D) X.xe s
theorem ef(h:wpAny M A t Q E s)(hQ:∀ a s,Q a s->Q' a s):wpAny M A t Q' E s:=av h hQ λ_ _ x=>x
section
variable{X:Cx}
def DC(i:Nat):TE:=λσ H Q=>∃ v,σ[i]?=some (some v)/\Q v H
def tC(v:V):TE:=λ_ H Q=>Q v H
theorem n8(hN:X.N[i]?=some x)(hv:ll X.env.scope x)(hd:(x == ("__debug__":Str))=false:=by decide)(gR:(x == ("__classdict__":Str))=false:=by decide):PE X (.Name x pos) (DC i):=by
 intro pins s σ H Q I h
 obtain⟨v,e,h⟩:=h
 obtain⟨m,hn,hl⟩:=I.loc
 obtain⟨u,r,l⟩:=hl i x v hN e hv
 have fin:EP X pins σ Q u s:=⟨v,H,I,r,h⟩
 rcases l with⟨hk,hm⟩ | ⟨hk,c,hc,l0⟩
 ·exact wpAny_Name (wpAny_loadName_local I.ok.kind hk hn hm fin) hd
 ·rcases hk with hk | hk
  ·exact wpAny_Name (wpAny_loadName_cell I.ok.kind hk hc l0 fin) hd
  ·exact wpAny_Name (wpAny_loadName_free I.ok.kind hk hc l0 fin gR) hd
theorem Mx:PE X (.Constant (.int i) j pos) (tC (.int i)):=λ_ _ _ H _ I h=>wpAny_Constant_int ⟨.int i,H,I.tok _,⟨_,rfl⟩,h⟩
theorem vW:PE X (.Constant (.bool b) j pos) (tC (.bl b)):=λ_ _ _ H _ I h=>Constant_bool ⟨.bl b,H,I,rfl,h⟩
theorem Mz:PE X (.Constant .none j pos) (tC .non):=λ_ _ _ H _ I h=>Constant_none ⟨.non,H,I,rfl,h⟩
theorem N0:PE X (.Constant (.str x) j pos) (tC (.str x)):=λ_ _ _ H _ I h=>Calls.Constant_str ⟨.str x,H,I.tok _,⟨_,rfl⟩,h⟩
def Gl(X:Cx)(x:Str):Prop:=X.env.kindOf x=some .globalImplicit
theorem uS(I:Inv X pins σ H s)(hg:Gl X x)(hm:X.mg x=some u)(h:Q u s)
 (hd:(x == ("__debug__":Str))=false:=by decide):wpAny (model X.prog X.w) X.A (eval (.Name x pos) X.env) Q E s:=
 Calls.Name_function_global I.ok.kind hg (Calls.loadGlobal_global (by rw[I.ok.glob];exact I.mod.glob.keeps I.bk) hm h) hd
theorem pB(I:Inv X pins σ H s)(hg:Gl X x)(hm:X.mg x=none)(hv:bootBuiltins x=some u)(h:Q u s)
 (hn:x≠"__name__":=by decide) (hd:(x == ("__debug__":Str))=false:=by decide):wpAny (model X.prog X.w) X.A (eval (.Name x pos) X.env) Q E s:=by
 obtain⟨mb,h1,h2⟩:=I.mod.blt
 exact Calls.Name_function_global I.ok.kind hg (Calls.loadGlobal_builtin (by rw[I.ok.glob];exact I.mod.glob.keeps I.bk) hm (by rw[I.ok.blt];exact h1.keeps I.bk) ((h2 x hn).trans hv) h) hd
theorem vX(hg:Gl X x)(hm:X.mg x=some u)(r:RelV v u)(hd:(x == ("__debug__":Str))=false:=by decide):PE X (.Name x pos) (tC v):=
 λ_ _ _ H _ I h=>uS I hg hm ⟨v,H,I,r,h⟩ hd
theorem N1(hg:Gl X x)(hm:X.mg x=none)(hv:bootBuiltins x=some u)(r:RelV v u)(hn:x≠"__name__":=by decide)(hd:(x == ("__debug__":Str))=false:=by decide):PE X (.Name x pos) (tC v):=
 λ_ _ _ H _ I h=>pB I hg hm hv ⟨v,H,I,r,h⟩ hn hd
def tB(t:TE):TT:=λσ H Q=>t σ H λx H1=>∃ c,x=.bl c/\Q c H1
theorem N2(h:PE X e t)(he:∀ iP,isTrue e X.env iP=(do let v ← iP;standAt e.pos;holding [v] (truthy v)):=by fail"V3"):PT X e (tB t):=by
 intro pins s σ H Q I hw
 refine isTrue_plain (ef (h pins s σ H _ I hw) λv s1 dm=>?_) (he _)
 obtain⟨x,H1,I1,r1,q1⟩:=dm
 obtain⟨d,rfl,q⟩:=q1
 cases r1
 exact bY ⟨H1,I1,q⟩
variable {eY:List Expr}
def DH(t u:TT):TT:=λσ H Q=>t σ H λc H1=>if c=true then u σ H1 Q else Q false H1
def N3(t u:TT):TT:=λσ H Q=>t σ H λc H1=>if c=true then Q true H1 else u σ H1 Q
def DJ(t:TT):TT:=λσ H Q=>t σ H λc H1=>Q (!c) H1
theorem N4(ha:PT X a tA):PW X (.BoolOp .And [a] pos) tA:=by
 intro wh pins s σ H Q I h
 refine isTrue_and (ef (ha pins s σ H Q I h) λc s1 e=>?_)
 cases c with
 | true=>exact isTrue_and_nil e
 | false=>exact e
theorem N5(ha:PT X a tA):PW X (.BoolOp .Or [a] pos) tA:=by
 intro wh pins s σ H Q I h
 refine isTrue_or (ef (ha pins s σ H Q I h) λc s1 e=>?_)
 cases c with
 | false=>exact isTrue_or_nil e
 | true=>exact e
theorem N6(ha:PT X a tA)(hb:PW X (.BoolOp .And (b::eY) pos) tB'):PW X (.BoolOp .And (a::b::eY) pos) (DH tA tB'):=by
 intro wh pins s σ H Q I h
 refine isTrue_and (ef (ha pins s σ H _ I h) λc s1 ⟨H1,I1,q1⟩=>?_)
 cases c with
 | true=>exact hb wh pins s1 σ H1 Q I1 q1
 | false=>exact⟨H1,I1,q1⟩
theorem vY(ha:PT X a tA)(hb:PW X (.BoolOp .Or (b::eY) pos) tB'):PW X (.BoolOp .Or (a::b::eY) pos) (N3 tA tB'):=by
 intro wh pins s σ H Q I h
 refine isTrue_or (ef (ha pins s σ H _ I h) λc s1 ⟨H1,I1,q1⟩=>?_)
 cases c with
 | true=>exact⟨H1,I1,q1⟩
 | false=>exact hb wh pins s1 σ H1 Q I1 q1
theorem N7(ha:PT X a tA):PT X (.UnaryOp .Not a pos) (DJ tA):=by
 intro pins s σ H Q I h
 exact isTrue_not (ha pins s σ H (λc H1=>Q (!c) H1) I h)
def vZ(ta tb:TE):TE:=λσ H Q=>ta σ H λx H1=>∃ c,x=.bl c/\if c=true then tb σ H1 Q else Q (.bl false) H1
def vv(ta:TE):TE:=λσ H Q=>ta σ H λx H1=>∃ c,x=.bl c/\Q (.bl (!c)) H1
theorem N8(h:PE X a t):PE X (.BoolOp op [a] pos) t:=λpins s σ H Q I hw=>BoolOp_one (h pins s σ H Q I hw)
theorem N9(ha:PE X a ta)(hb:PE X (.BoolOp .And (b::eY) pos) tb):PE X (.BoolOp .And (a::b::eY) pos) (vZ ta tb):=by
 intro pins s σ H Q I h
 refine BoolOp_and (ef (ha pins s σ H _ I h) λv s1 dm=>?_)
 obtain⟨x,H1,I1,r1,q1⟩:=dm
 obtain⟨c,rfl,q1⟩:=q1
 cases r1
 refine bY ?_
 cases c with
 | true=>exact hb pins s1 σ H1 Q I1 q1
 | false=>exact⟨.bl false,H1,I1,rfl,q1⟩
theorem NA(ha:PE X a ta):PE X (.UnaryOp .Not a pos) (vv ta):=by
 intro pins s σ H Q I h
 refine UnaryOp_ (ef (ha pins s σ H _ I h) λv s1 dm=>?_)
 obtain⟨x,H1,I1,r1,q1⟩:=dm
 obtain⟨c,rfl,q1⟩:=q1
 cases r1
 exact not_of (bY ⟨.bl (!c),H1,I1,rfl,q1⟩)
def NC(t:TT)(ta tb:TE):TE:=λσ H Q=>t σ H λc H1=>if c=true then ta σ H1 Q else tb σ H1 Q
theorem NF(hc:PT X c tA)(ha:PE X a ta)(hb:PE X b tb):PE X (.IfExp c a b pos) (NC tA ta tb):=by
 intro pins s σ H Q I h
 refine wpAny_IfExp (ef (hc pins s σ H _ I h) λd s1 ⟨H1,I1,q1⟩=>?_)
 cases d with
 | true=>exact ha pins s1 σ H1 Q I1 q1
 | false=>exact hb pins s1 σ H1 Q I1 q1
end
def SqL(K:PySem.W.Frag)(H:Hp)(a:Addr)(xs:List V):Prop:=
 Rd H a (.lst xs)∨
  ∃(o:Obj)(its:Array Value)(n:Nat),K.lookup a=some o/\o.cls=.type "list"/\o.dict=none/\o.data=.seq its n/\its.size<=sizeLine/\Vals xs its.toList
def SqT(K:PySem.W.Frag)(H:Hp)(a:Addr)(xs:List V):Prop:=
 Rd H a (.tup xs)∨
  ∃(o:Obj)(its:Array Value)(n:Nat),K.lookup a=some o/\o.cls=.type "tuple"/\o.data=.seq its n/\its.size<=sizeLine/\Vals xs its.toList
noncomputable def DM:Value->Option V
 | .none=>some .non
 | .bool b=>some (.bl b)
 | .int i _=>some (.int i)
 | .str x _=>some (.str x)
 | .bytes b _=>some (.byt b)
 | .float b _=>some (.flt b)
 | .ref a=>some (.ref a)
 | .type n=>some (.ty n)
 | _=>none
theorem RelV.abs(r:RelV x u):DM u=some x:=by
 cases x with
 | non=>cases r;rfl
 | bl _=>cases r;rfl
 | int _=>obtain⟨t,rfl⟩:=r;rfl
 | str _=>obtain⟨t,rfl⟩:=r;rfl
 | byt _=>obtain⟨t,rfl⟩:=r;rfl
 | flt _=>obtain⟨t,rfl⟩:=r;rfl
 | ref _=>cases r;rfl
 | ty _=>cases r;rfl
theorem RelV.inj(r:RelV x u)(q:RelV y u):x=y:=ag (r.abs.symm.trans q.abs)
theorem Vals.inj:∀{xs ys:List V}{us:List Value},Vals xs us->Vals ys us->xs=ys
 | _,_,_,.nil,.nil=>rfl
 | _,_,_,.cons r t,.cons r' t'=>by rw[r.inj r',Vals.inj t t']
theorem SqL.of{K:PySem.W.Frag}(h:H a=some (.lst xs)):SqL K H a xs:=.inl (.inl h)
theorem SqT.of{K:PySem.W.Frag}(h:H a=some (.tup xs)):SqT K H a xs:=.inl (.inl h)
theorem Inv.list(I:Inv X pins σ H s)(h:SqL X.K H a xs):∃ its:List Value,Vals xs its/\PlainL s.heap a its.toArray/\xs.length<=sizeLine:=by
 rcases h with h | ⟨o,its,n,hk,hc,hd,hs,hz,r⟩
 ·obtain⟨z,its,n,r,e⟩:=h.ok I.hok
  exact⟨its,r,⟨_,n,e,rfl,rfl,rfl⟩,z⟩
 ·refine⟨its.toList,r,⟨o,n,I.kIn a o hk,hc,hd,by simpa using hs⟩,?_⟩
  have e:=r.length
  simp only[cZ]at e
  omega
theorem Inv.tuple(I:Inv X pins σ H s)(h:SqT X.K H a xs):∃ its:List Value,Vals xs its/\IsTup s.heap a its.toArray/\xs.length<=sizeLine:=by
 rcases h with h | ⟨o,its,n,hk,hc,hs,hz,r⟩
 ·obtain⟨z,its,r,p⟩:=h.ok I.hok
  exact⟨its,r,p,z⟩
 ·refine⟨its.toList,r,⟨o,I.kIn a o hk,hc,n,by simpa using hs⟩,?_⟩
  have e:=r.length
  simp only[cZ]at e
  omega
theorem Inv.list_inj(I:Inv X pins σ H s)(h:SqL X.K H a xs)(h':SqL X.K H a ys):xs=ys:=by
 obtain⟨its,r,⟨o,n,e,_,_,d⟩,_⟩:=I.list h
 obtain⟨its',r',⟨o',n',e',_,_,d'⟩,_⟩:=I.list h'
 rw[e]at e';cases e'
 rw[d]at d'
 injection d' with d1 _
 have:its=its':=by simpa using bO Array.toList d1
 subst this
 exact r.inj r'
abbrev Cx.wish(X:Cx)(E:Value->Shared->Prop):Cx:={ X with xe:=E }
abbrev Cx.nox(X:Cx):Cx:=X.wish λ_ _=>False
theorem Cx.Ok.wish{X:Cx}(ok:X.Ok)(E:Value->Shared->Prop):(X.wish E).Ok:=
 ⟨ok.mod,ok.kind,ok.glob,ok.blt,ok.above,ok.inj,ok.has,ok.cab,ok.hd,ok.frames,ok.stk,ok.exf,ok.bs,ok.bsz,ok.noex,ok.exfs,ok.funs,ok.frf⟩
theorem Cx.Ok.unwish{X:Cx}(ok:(X.wish E).Ok):X.Ok:=
 ⟨ok.mod,ok.kind,ok.glob,ok.blt,ok.above,ok.inj,ok.has,ok.cab,ok.hd,ok.frames,ok.stk,ok.exf,ok.bs,ok.bsz,ok.noex,ok.exfs,ok.funs,ok.frf⟩
theorem Inv.wish(I:Inv X pins σ H s)(E:Value->Shared->Prop):Inv (X.wish E) pins σ H s:=⟨I.ok.wish E,I.os,I.bare,I.base,I.loc,I.cell,I.free,I.freeC,I.pin,I.hok,I.len⟩
theorem Inv.unwish(I:Inv (X.wish E) pins σ H s):Inv X pins σ H s:=⟨I.ok.unwish,I.os,I.bare,I.base,I.loc,I.cell,I.free,I.freeC,I.pin,I.hok,I.len⟩
theorem SP.unwish(h:SP (X.wish E) pins D f s'):SP X pins D f s':=by
 cases f with
 | next=>obtain⟨σ',H',I,q⟩:=h;exact⟨σ',H',I.unwish,q⟩
 | brk=>obtain⟨σ',H',I,q⟩:=h;exact⟨σ',H',I.unwish,q⟩
 | cont=>obtain⟨σ',H',I,q⟩:=h;exact⟨σ',H',I.unwish,q⟩
 | ret u=>obtain⟨v,σ',H',I,r,q⟩:=h;exact⟨v,σ',H',I.unwish,r,q⟩
theorem PE.nox{e:Expr}{t:TE}(h:PE X.nox e t):PE X e t:=λpins s σ H Q I hw=>
 av (h pins s σ H Q (I.wish _) hw) (λ_ _ dm=>by obtain⟨v,H',I',r,q⟩:=dm;exact⟨v,H',I'.unwish,r,q⟩) λ_ _ z=>False.elim z
theorem PT.nox{e:Expr}{t:TT}(h:PT X.nox e t):PT X e t:=λpins s σ H Q I hw=>
 av (h pins s σ H Q (I.wish _) hw) (λ_ _ ⟨H',I',q⟩=>⟨H',I'.unwish,q⟩) λ_ _ z=>False.elim z
theorem PSs.nox{st:List Stmt}{t:TS}(h:PSs X.nox st t):PSs X st t:=λpins s σ H D I hw=>
 av (h pins s σ H D (I.wish _) hw) (λ_ _ q=>q.unwish) λ_ _ z=>False.elim z
section
variable {st:Stmt} {eY:List Stmt}
def vw:TS:=λD σ H=>D.nx σ H
def DN(t u:TS):TS:=λD σ H=>t { D with nx:=u D } σ H
theorem NG:PSs X [] vw:=λ_ _ σ H _ I h=>cH ⟨σ,H,I,h⟩
theorem Ik(h1:PS X st t)(h2:PSs X eY u):PSs X (st::eY) (DN t u):=by
 intro pins s σ H D I h
 refine wpAny_execs_cons (ef (h1 pins s σ H { D with nx:=u D } I h) λf s1 q=>?_)
 cases f with
 | next=>
  obtain⟨σ',H',I',q⟩:=q
  exact h2 pins s1 σ' H' D I' q
 | ret v=>exact q
 | brk=>exact q
 | cont=>exact q
theorem Il(h1:PS X st t):PSs X [st] t:=by
 intro pins s σ H D I h
 refine wpAny_execs_cons (ef (h1 pins s σ H D I h) λf s1 q=>?_)
 cases f with
 | next=>exact cH q
 | ret v=>exact q
 | brk=>exact q
 | cont=>exact q
theorem Inv.quiet(I:Inv X pins σ H s):interactive X.env=false:=by simp[interactive,I.ok.kind]
def vz(te:TE):TS:=λD σ H=>te σ H λ_ H1=>D.nx σ H1
theorem zq(he:PE X e te)(hs:swapsWith e none pos.line X.env=pure false:=by rfl):PS X (.Expr e pos) (vz te):=by
 intro pins s σ H D I h
 exact wpAny_Expr_any (ef (he pins s σ H _ I h) λv s1 dm=>by obtain⟨x,H1,I1,r1,q1⟩:=dm;exact⟨σ,H1,I1,q1⟩) I.quiet hs
def DP(te:TE):TS:=λD σ H=>te σ H D.rt
theorem zr(he:PE X e te):PS X (.Return (some e) pos) (DP te):=by
 intro pins s σ H D I h
 exact wpAny_Return_some (ef (he pins s σ H _ I h) λv s1 dm=>by obtain⟨x,H1,I1,r1,q1⟩:=dm;exact⟨x,σ,H1,I1,r1,q1⟩)
def DQ(c:TT)(t u:TS):TS:=λD σ H=>c σ H λb H1=>if b=true then t D σ H1 else u D σ H1
theorem qu(hc:PT X c tc)(ha:PSs X a t)(hb:PSs X b u):PS X (.If c a b pos) (DQ tc t u):=by
 intro pins s σ H D I h
 refine wpAny_If (ef (hc pins s σ H _ I h) λd s1 ⟨H1,I1,q1⟩=>?_)
 cases d with
 | true=>exact ha pins s1 σ H1 D I1 q1
 | false=>exact hb pins s1 σ H1 D I1 q1
def NH:TS:=λ_ _ _=>False
theorem NJ:PS X st NH:=λ_ _ _ _ _ _ h=>h.elim
end
abbrev TG:=V->St->Hp->(St->Hp->Prop)->Prop
abbrev w4:=List V->St->Hp->(St->Hp->Prop)->Prop
def PG(X:Cx)(target:Expr)(t:TG):Prop:=
 ∀(pins:List (Addr×Obj))(s:Shared)(σ:St)(H:Hp)(v:V)(u:Value)(Q:St->Hp->Prop),Inv X pins σ H s->RelV v u->t v σ H Q->
  wpAny (model X.prog X.w) X.A (assign target X.env u) (λ_ s'=>∃ σ' H',Inv X pins σ' H' s'/\Q σ' H') X.xe s
def w5(X:Cx)(ts:List Expr)(t:w4):Prop:=
 ∀(pins:List (Addr×Obj))(s:Shared)(σ:St)(H:Hp)(vs:List V)(us:List Value)(Q:St->Hp->Prop),Inv X pins σ H s->Vals vs us->t vs σ H Q->
  wpAny (model X.prog X.w) X.A (assignInOrder ((assignEach ts X.env).map (·.2)) us) (λ_ s'=>∃ σ' H',Inv X pins σ' H' s'/\Q σ' H') X.xe s
abbrev w8:=V->V->V->Hp->(Hp->Prop)->Prop
def w9(X:Cx)(t:w8):Prop:=
 ∀(pins:List (Addr×Obj))(s:Shared)(σ:St)(H:Hp)(o i v:V)(ov iv u:Value)(Q:Hp->Prop),Inv X pins σ H s->RelV o ov->RelV i iv->RelV v u->t o i v H Q->
  wpAny (model X.prog X.w) X.A (setItem ov iv u) (λ_ s'=>∃ H',Inv X pins σ H' s'/\Q H') X.xe s
def ng(i:Nat):TG:=λv σ H Q=>Q (σ.set i (some v)) H
theorem Im(hN:X.N.Nodup)(hi:X.N[i]?=some x)(hx:mI X.env.scope x)(hf:X.fn x=true∨X.env.scope.names.lookup x=some .local:=by fail"V2"):PG X (.Name x pos) (ng i):=by
 intro pins s σ H v u Q I r h
 exact wpAny_assign_Name (D9 I hN hi hx r (λs' I'=>⟨_,H,I',h⟩) hf)
def DR:w4:=λvs σ H Q=>vs=[]/\Q σ H
def wA(t:TG)(u:w4):w4:=λvs σ H Q=>∃ v r,vs=v::r/\t v σ H λσ' H'=>u r σ' H' Q
theorem NK:w5 X [] DR:=by
 intro pins s σ H vs us Q I r h
 obtain⟨e,h⟩:=h
 subst e
 cases r
 exact assignInOrder_nil ⟨σ,H,I,h⟩
theorem NL(h1:PG X e t)(h2:w5 X es u)
 (hs:(assignEach (e::es) X.env).map (·.2)=assign e X.env::(assignEach es X.env).map (·.2):=by rfl):w5 X (e::es) (wA t u):=by
 intro pins s σ H vs us Q I r h
 obtain⟨v,vr,e1,h⟩:=h
 subst e1
 cases r with
 | cons r rr=>
  rw[hs]
  refine assignInOrder_cons (ef (h1 pins s σ H _ _ _ I r h) λ_ s1 dm=>?_)
  obtain⟨σ1,H1,I1,q1⟩:=dm
  exact h2 pins s1 σ1 H1 _ _ Q I1 rr q1
def DU(K:PySem.W.Frag)(n:Nat)(t:w4):TG:=λv σ H Q=>∃ a xs,v=.ref a/\SqT K H a xs/\xs.length=n/\t xs σ H Q
theorem Io(hc:X.calm=true)(h:w5 X es t)
 (hn:(assignEach es X.env).length=n:=by rfl) (gH:(assignEach es X.env).findIdx? (·.1)=none:=by rfl):PG X (.Tuple es k pos) (DU X.K n t):=by
 intro pins s σ H v u Q I r hw
 obtain⟨a,xs,e1,hq,hl,hw⟩:=hw
 subst e1
 cases r
 obtain⟨its,rv,ht,hz⟩:=I.tuple hq
 refine assign_Tuple_tuple (I.ok.hd hc) ht (by simp[hn, ← hl,rv.length]) gH λh' hx=>?_
 have I1:=I.kept (t':=s.toks) λb o e=>hx b o (ai (aS e)) e
 exact h pins _ σ H xs _ Q I1 (by simpa using rv) hw
def DV(to ti:TE)(t:w8):TG:=λv σ H Q=>to σ H λo H1=>ti σ H1 λi H2=>t o i v H2 λH3=>Q σ H3
theorem Ip(ho:PE X o to)(hi:PE X i ti)(hs:w9 X t)
 (ha:∀ v,assign (.Subscript o i pos) X.env v=(do
  let ov ← holding [v] (eval o X.env)
  let iv ← holding [v,ov] (eval i X.env)
  standAt pos
  holding [v,ov,iv] (setItem ov iv v)
  release [v,ov,iv] []):=by fail"V3"):PG X (.Subscript o i pos) (DV to ti t):=by
 intro pins s σ H v u Q I r h
 rw[ha]
 refine aP (bw (ef (ho pins s σ H _ I h) λov s1 dm=>?_))
 obtain⟨x,H1,I1,r1,q1⟩:=dm
 refine aP (bw (ef (hi pins s1 σ H1 _ I1 q1) λiv s2 dm=>?_))
 obtain⟨y,H2,I2,r2,q2⟩:=dm
 refine aP (wpAny_standAt (aP (bw (ef (hs pins s2 σ H2 x y v ov iv u _ I2 r1 r2 r q2) λ_ s3 ⟨H3,I3,q3⟩=>?_))))
 exact wpAny_release ⟨σ,H3,I3,q3⟩
def sr(te:TE)(g:TG):TS:=λD σ H=>te σ H λx H1=>g x σ H1 D.nx
theorem DY(he:PE X e te)(hg:PG X tg g)(hs:swapsWithSole [tg] e pos.line X.env=pure false:=by rfl)(hw:swappedStores [tg] e X.env=pure none:=by rfl)
 (h1:(assignEach [tg] X.env).map (·.2)=[assign tg X.env]:=by rfl):PS X (.Assign [tg] e pos) (sr te g):=by
 intro pins s σ H D I h
 refine wpAny_Assign_stores (ef (he pins s σ H _ I h) λv s1 dm=>?_) hs hw
 obtain⟨x,H1,I1,r1,q1⟩:=dm
 rw[h1]
 exact ef (hg pins s1 σ H1 x v _ I1 r1 q1) λ_ s2 q=>q
theorem DZ(hN:X.N.Nodup)(hi:X.N[i]?=some x)(hx:mI X.env.scope x)(he:PE X e te)(hs:swapsWith e (some (.Name x pos')) pos.line X.env=pure false:=by rfl)(hf:X.fn x=true∨X.env.scope.names.lookup x=some .local:=by fail"V2"):
 PS X (.Assign [.Name x pos'] e pos) (sr te (ng i)):=by
 intro pins s σ H D I h
 refine wpAny_Assign_Name (ef (he pins s σ H _ I h) λv s1 dm=>?_) hs
 obtain⟨y,H1,I1,r1,q1⟩:=dm
 exact D9 I1 hN hi hx r1 (λs2 I2=>⟨_,H1,I2,q1⟩) hf
def NN(c:TT)(tb:TS):TS:=λD σ H=>∃ W:Nat->St->Hp->Prop,(∃ m,W m σ H)/\∀ m σ H,W m σ H->
 c σ H λb H1=>if b=true then ∃ N:St->Hp->Prop,(∀ σ' H',N σ' H'->∃ m',m'<m/\W m' σ' H')/\tb { D with nx:=N,ct:=N,bk:=D.nx } σ H1 else D.nx σ H1
theorem NO(hp:PassesOwn (model X.prog X.w) X.A X.env X.xe)(hc:PT X c tc)(hb:PSs X body tb):PS X (.While c body [] pos) (NN tc tb):=by
 intro pins s σ H D I h
 obtain⟨W,⟨m0,w0⟩,turn⟩:=h
 refine wpAny_While (codeAny_whileLoop (λn s'=>∃ σ' H',Inv X pins σ' H' s'/\W n σ' H') ?_ m0 ⟨σ,H,I,w0⟩)
 rintro n s1 ⟨σ1,H1,I1,w1⟩
 refine bq hp (ef (hc pins s1 σ1 H1 _ I1 (turn n σ1 H1 w1)) λb s2 ⟨H2,I2,q2⟩=>?_)
 cases b with
 | true=>
  obtain⟨N,hN,q2⟩:=q2
  rw[aA rfl]
  refine bq hp (ef (hb pins s2 σ1 H2 _ I2 q2) λf s3 q3=>?_)
  cases f with
  | next=>
   obtain⟨σ3,H3,I3,n3⟩:=q3
   obtain⟨m',hm,w3⟩:=hN σ3 H3 n3
   exact⟨m',hm,σ3,H3,I3,w3⟩
  | cont=>
   obtain⟨σ3,H3,I3,n3⟩:=q3
   obtain⟨m',hm,w3⟩:=hN σ3 H3 n3
   exact⟨m',hm,σ3,H3,I3,w3⟩
  | brk=>exact q3
  | ret v=>exact q3
 | false=>
  rw[aB ak]
  exact cH ⟨σ1,H2,I2,q2⟩
structure It where
 go:Nat->Hp->Prop
 yld:Nat->Hp->V->Hp->Prop
 stop:Nat->Hp->Prop
def jB(X:Cx)(pins:List (Addr×Obj))(H:Hp)(b:Addr):Prop:=
 H b=none/\b≠X.env.locals/\b∉X.fs/\(b∈X.ex∨X.s₀.heap.objs.size<=b)/\(∀ x c,X.env.cells.lookup x=some c->c≠b)/\∀ p∈X.pn++pins,p.1≠b
theorem Inv.fpOk(I:Inv X pins σ H s)(hb:s.heap.objs.size<=b)(hn:H' b=none):jB X pins H' b:=by
 refine⟨hn,cm (aa I.lt hb),I.nofs hb,.inr (b0 I.sz hb),λx c e z=>?_,λp hp z=>?_⟩
 ·obtain⟨v,q⟩:=I.cell x c e
  exact absurd (aa q.lt (by rw[z];exact hb)) (bL _)
 ·exact absurd (aa (aS (I.pin p hp).1) (by rw[z];exact hb)) (bL _)
structure lp(P:Program)(w:World)(K:PySem.W.Frag)(tg:Expr)(J:It)(fp:List Addr)(it:Addr)(tn:Nat->Heap->Prop):Prop where
 mem:it∈fp
 obj:∀ i h,tn i h->∀ b∈fp,∃ o,h.get? b=some o/\∀ v,o.data≠.cell v
 keep:∀ i h h',tn i h->(∀ b∈fp,∀ o,h.get? b=some o->h'.get? b=some o)->tn i h'
 item:∀(X:Cx),X.prog=P->X.w=w->X.K=K->X.calm=true->∀(i:Nat)(pins:List (Addr×Obj))(s:Shared)(σ:St)(H:Hp)(E:Value->Shared->Prop),Inv X pins σ H s->(∀ b∈fp,jB X pins H b)->tn i s.heap->J.go i H->
  wpAny (model P w) X.A (pyNext (.ref it)) (λr s1=>∃ u,r=some u/\
   wpAny (model P w) X.A (letOwnedTupleGo tg (.ref it) u) (λ_ s2=>∃ x H',Inv X pins σ H' s2/\RelV x u/\J.yld i H x H'/\tn (i+1) s2.heap/\∀ b∈fp,H' b=none) E s1) E s
 done:∀(X:Cx),X.prog=P->X.w=w->X.K=K->X.calm=true->∀(i:Nat)(pins:List (Addr×Obj))(s:Shared)(σ:St)(H:Hp)(E:Value->Shared->Prop),Inv X pins σ H s->(∀ b∈fp,jB X pins H b)->tn i s.heap->J.stop i H->
  wpAny (model P w) X.A (pyNext (.ref it)) (λr s1=>r=none/\Inv X pins σ H s1) E s
 self:∀(A:Around)(i:Nat)(s:Shared)(Q:Value->Shared->Prop)(E:Value->Shared->Prop),tn i s.heap->Q (.ref it) s->wpAny (model P w) A (pyIter (.ref it)) Q E s
abbrev TI:=St->Hp->(It->Hp->Prop)->Prop
def Iq(X:Cx)(pins:List (Addr×Obj))(σ:St)(tg:Expr)(R:It->Hp->Prop)(zu:Value)(s2:Shared):Prop:=
 ∃(it:Addr)(fp:List Addr)(tn:Nat->Heap->Prop)(J:It)(H':Hp),zu=.ref it/\Inv X pins σ H' s2/\lp X.prog X.w X.K tg J fp it tn/\tn 0 s2.heap/\(∀ b∈fp,jB X pins H' b)/\R J H'
def PI(X:Cx)(tg iter:Expr)(wi:TI):Prop:=
 ∀(pins:List (Addr×Obj))(s:Shared)(σ:St)(H:Hp)(R:It->Hp->Prop),Inv X pins σ H s->wi σ H R->
  wpAny (model X.prog X.w) X.A (eval iter X.env) (λv s1=>wpAny (model X.prog X.w) X.A (pyIter v) (Iq X pins σ tg R) X.xe s1) X.xe s
theorem nj(ho:s.heap.get? it=some o)(hc:o.cls=.type n)(hd:o.data=.fields vs)
 (hn:["enumerate","zip","dict_itemiterator","dict_reverseitemiterator","odict_iterator","itertools.zip_longest","itertools.pairwise"].contains n=false) (hQ:Q () s):wpAny M A (letOwnedTupleGo tg (.ref it) u) Q E s:=by
 unfold letOwnedTupleGo
 cases tg<;>first
  | exact aX hQ
  | (cases u<;>first
   | exact aX hQ
   | (refine aP (wpAny_load ho ?_)
      rw[hc,hd]
      show wpAny M A (if (["enumerate","zip","dict_itemiterator","dict_reverseitemiterator","odict_iterator","itertools.zip_longest","itertools.pairwise"].contains n&&vs[0]? == some (rawInt _))=true then _ else _) Q E s
      rw[aB (by intro h;rw[hn,Bool.false_and]at h;cases h)]
      exact aX hQ))
noncomputable def zv(K:PySem.W.Frag)(a:Addr):It:=
 ⟨λi H=>∃ xs x,SqL K H a xs/\xs[i]?=some x,λi H x H'=>H'=H/\∀ xs,SqL K H a xs->xs[i]?=some x,λi H=>∃ xs,SqL K H a xs/\xs.length<=i⟩
noncomputable def zw(lo:Int)(n:Nat):It:=⟨λi _=>i<n,λi H x H'=>H'=H/\x=.int (lo+i),λi _=>n<=i⟩
theorem NP{K:PySem.W.Frag}(a it:Addr):lp P w K tg (zv K a) [it] it (λi h=>h.IsListIter it a i) where
 mem:=by simp
 obj:=λi h st b hb=>by
  have e:b=it:=by simpa using hb
  subst e
  obtain⟨o,e,c,d⟩:=st
  exact⟨o,e,λv z=>by rw[d]at z;cases z⟩
 keep:=λi h h' st k=>st.at λo e=>k it (by simp) o e
 item:=by
  intro X hP hw hK hc i pins s σ H E I hf st hg
  subst hP hw hK
  obtain⟨xs,x,hq,hx⟩:=hg
  obtain⟨its,rv,p,hz⟩:=I.list hq
  obtain⟨u,hu,ru⟩:=rv.get hx
  obtain⟨f0,f1,f2,f3,f4,f5⟩:=hf it (by simp)
  refine wpAny_pyNext_list_item st p.isList (by simpa using hu) λh' st' sb=>?_
  have I1:=I.turned (t':=s.toks) (λb o hb e=>(sb.2 b hb).trans e) f0 f1 f3 f4 f5
  obtain⟨o,e,c,d⟩:=id st'
  exact⟨u,rfl,nj e c d (by decide) ⟨x,H,I1,ru,⟨rfl,λys hy=>by rw[I.list_inj hy hq];exact hx⟩,st',λb hb=>(hf b hb).1⟩⟩
 done:=by
  intro X hP hw hK hc i pins s σ H E I hf st hg
  subst hP hw hK
  obtain⟨xs,hq,hx⟩:=hg
  obtain⟨its,rv,p,hz⟩:=I.list hq
  obtain⟨f0,f1,f2,f3,f4,f5⟩:=hf it (by simp)
  have hl:=rv.length
  exact wpAny_pyNext_list_end (I.ok.hd hc) st p.isList (by simp;lia) λh' eb=>⟨rfl,I.turned (λb o hb e=>eb b o hb e) f0 f1 f3 f4 f5⟩
 self:=λ_ _ _ _ _ st h=>wpAny_pyIter_listiter st h
theorem NQ{K:PySem.W.Frag}(it:Addr)(lo:Int)(n:Nat):lp P w K tg (zw lo n) [it] it (λi h=>IsRangeIter h it (lo+(i:Nat) * 1) ((n:Int) - (i:Nat)) 1) where
 mem:=by simp
 obj:=λi h st b hb=>by
  have e:b=it:=by simpa using hb
  subst e
  exact⟨_,st,λv z=>by
   have z':=z
   cases z'⟩
 keep:=λi h h' st k=>k it (by simp) _ st
 item:=by
  intro X hP hw hK hc i pins s σ H E I hf st hg
  subst hP hw hK
  obtain⟨f0,f1,f2,f3,f4,f5⟩:=hf it (by simp)
  have W:=Walks.range (prog:=X.prog) (w:=X.w) (I.ok.hd hc) it lo 1 n
  refine W.item i s _ _ hg st λv h' tk hv st' kk=>?_
  obtain⟨t,rfl⟩:=hv
  have I1:Inv X pins σ H { s with heap:=h',toks:=tk }:=I.turned (λb o hb e=>kk b o (by simpa using hb) e) f0 f1 f3 f4 f5
  refine⟨_,rfl,nj st' rfl rfl (by decide) ⟨.int (lo+i),H,I1,⟨t,?_⟩,⟨rfl,rfl⟩,st',λb hb=>(hf b hb).1⟩⟩
  rw[Int.mul_one]
 done:=by
  intro X hP hw hK hc i pins s σ H E I hf st hg
  subst hP hw hK
  obtain⟨f0,f1,f2,f3,f4,f5⟩:=hf it (by simp)
  exact wpAny_pyNext_range_end (I.ok.hd hc) st (by have:n<=i:=hg;lia) λh' eb=>⟨rfl,I.turned (λb o hb e=>eb b o hb e) f0 f1 f3 f4 f5⟩
 self:=λ_ _ _ _ _ st h=>wpAny_pyIter_rangeiter st h
def wB(K:PySem.W.Frag)(tl:TE):TI:=λσ H R=>tl σ H λx H1=>∃ a,x=.ref a/\(∃ xs,SqL K H1 a xs)/\R (zv K a) H1
theorem Ir{tl:TE}(hl:PE X l tl):PI X tg l (wB X.K tl):=by
 intro pins s σ H R I h
 refine ef (hl pins s σ H _ I h) λv s1 dm=>?_
 obtain⟨x,H1,I1,r1,q1⟩:=dm
 obtain⟨a,e,⟨xs,hq⟩,q⟩:=q1
 subst e
 cases r1
 obtain⟨its,rv,p,hz⟩:=I1.list hq
 refine cz p.isList ?_
 refine⟨s1.heap.objs.size,[s1.heap.objs.size],_,_,H1,rfl,I1.kept λb o e=>aI _ e,NP a _,⟨_,af _ rfl,rfl,rfl⟩,λb hb=>?_,q⟩
 have e:b=s1.heap.objs.size:=by simpa using hb
 subst e
 exact I1.fpOk (aJ _) (I1.hok.fresh (aJ _))
theorem NR{lo hi:Int}(I:Inv X pins σ H s)(h1 : -(2 ^ 62)<=lo)(h2:lo<2 ^ 62)(h3 : -(2 ^ 62)<=hi)(h4:hi<2 ^ 62)
 (q:R (zw lo (hi - lo).toNat) H):wpAny (model X.prog X.w) X.A (pyIter (.ref s.heap.objs.size)) (Iq X pins σ tg R) E { s with heap:=s.heap.push { cls:=.type "range",data:=.fields #[.int lo t,.int hi u,.int 1 v] },toks:=tk }:=by
 refine wpAny_pyIter_range (IsRange.new ..) (small_one h1 h2 h3 h4) ?_
 have I1:Inv X pins σ H { s with heap:=s.heap.push { cls:=.type "range",data:=.fields #[.int lo t,.int hi u,.int 1 v] },toks:=tk }:=I.kept λb o e=>aI _ e
 refine⟨(s.heap.push { cls:=.type "range",data:=.fields #[.int lo t,.int hi u,.int 1 v] }).objs.size,[(s.heap.push { cls:=.type "range",data:=.fields #[.int lo t,.int hi u,.int 1 v] }).objs.size],_,_,H,rfl,
  I1.kept λb o e=>aI _ e,NQ _ lo (hi - lo).toNat,?_,λb hb=>?_,q⟩
 ·have e1:lo+(0:Nat) * 1=lo:=by simp
  have e2:((hi - lo).toNat:Nat) - (0:Nat)=Builtin.Range.rangeSize lo hi 1:=by rw[rangeSize_one];split<;>lia
  rw[e1,e2]
  exact af _ rfl
 ·have e:b=(s.heap.push { cls:=.type "range",data:=.fields #[.int lo t,.int hi u,.int 1 v] }).objs.size:=by simpa using hb
  subst e
  exact I1.fpOk (aJ _) (I1.hok.fresh (aJ _))
def wC(ta:TA):TI:=λσ H R=>ta σ H λvs H1=>∃ j:Int,vs=[.int j] /\ -(2 ^ 62)<=j/\j<2 ^ 62/\R (zw 0 j.toNat) H1
theorem NS{p pos:Pos}(hg:Gl X "range")(hm:X.mg "range"=none)(ha:PA X [a] ta)(hs:starEach [a] X.env=[(false,eval a X.env)]:=by rfl):PI X tg (.Call (.Name "range" p) [a] [] pos) (wC ta):=by
 intro pins s σ H R I h
 refine Call_ (pB I hg hm boot_range (bE (ef (ha pos pins s σ H _ I h) λus s1 dm=>?_) hs rfl))
 obtain⟨vs,H1,I1,r1,q1⟩:=dm
 obtain⟨j,e,q1,q2,q⟩:=q1
 subst e
 cases r1 with
 | cons r rr=>
  cases rr
  obtain⟨t,rfl⟩:=r
  exact call_range_1 (NR I1 (by lia) (by lia) q1 q2 (by simpa using q))
def Da(wi:TI)(g:TG)(tb:TS):TS:=λD σ H=>wi σ H λJ H1=>∃ W:Nat->Nat->St->Hp->Prop,(∃ m,W 0 m σ H1)/\∀ i m σ H,W i m σ H->
 (J.stop i H/\D.nx σ H)∨(J.go i H/\∃ N:St->Hp->Prop,(∀ σ' H',N σ' H'->∃ m',m'<m/\W (i+1) m' σ' H')/\∀ x H',J.yld i H x H'->g x σ H' λσ2 H2=>tb { D with nx:=N,ct:=N,bk:=D.nx } σ2 H2)
noncomputable def wD(fp:List Addr)(h:Heap):List (Addr×Obj):=fp.filterMap λb=>(h.get? b).map λo=>(b,o)
theorem zx(hb:b∈fp)(e:h.get? b=some o):(b,o)∈wD fp h:=bU.mpr ⟨b,hb,by rw[e];rfl⟩
theorem NT(hp:p∈wD fp h):p.1∈fp/\h.get? p.1=some p.2:=by
 obtain⟨b,hb,e⟩:=bU.mp hp
 cases q:h.get? b with
 | none=>rw[q]at e;cases e
 | some o=>
  rw[q]at e
  have e':=ag e
  subst e'
  exact⟨hb,q⟩
theorem Inv.pinned(I:Inv X pins σ H s)(hf:∀ b∈fp,jB X pins H b)(ho:∀ b∈fp,∃ o,s.heap.get? b=some o/\∀ v,o.data≠.cell v):Inv X (pins++wD fp s.heap) σ H s:=
 I.pins_of λp hp=>(List.mem_append.mp hp).elim (λz=>I.pin p (ay _ z)) λz=>by
  obtain⟨hb,e⟩:=NT z
  obtain⟨f0,f1,f2,_⟩:=hf p.1 hb
  obtain⟨o,e',d⟩:=ho p.1 hb
  rw[e]at e';cases e'
  exact⟨e,f0,f1,f2,d⟩
theorem Inv.unpinned(I:Inv X (pins++pl) σ H s):Inv X pins σ H s:=I.pins_of λp hp=>I.pin p (ay _ (List.mem_append_left _ hp))
theorem NU(hp:PassesOwn (model X.prog X.w) X.A X.env X.xe)(hc:X.calm=true)(hi:PI X tg iter wi)(hg:PG X tg g)(hb:PSs X body tb)
 (hs:∀ x,foldedSetIterable iter X.env x=pure x:=by fail"V3"):PS X (.For tg iter body [] pos) (Da wi g tb):=by
 intro pins s σ H D I h
 refine wpAny_For (ef (hi pins s σ H _ I h) λv s1 h1=>ef h1 λzu s2 h2=>?_) hs
 obtain⟨it,fp,tn,J,H2,e,I2,T,sv,f2,W,⟨m0,w0⟩,turn⟩:=h2
 subst e
 have sy:∀{H':Hp},(∀ b∈fp,H' b=none)->∀ b∈fp,jB X pins H' b:=λhn b hb=>⟨hn b hb,(f2 b hb).2⟩
 refine codeAny_forLoop_any (λn s'=>∃ i σ' H',Inv X pins σ' H' s'/\tn i s'.heap/\(∀ b∈fp,H' b=none)/\W i n σ' H') ?_ m0 ⟨0,σ,H2,I2,sv,λb hb=>(f2 b hb).1,w0⟩
 rintro n s3 ⟨i,σ3,H3,I3,zy,fr3,w3⟩
 rcases turn i n σ3 H3 w3 with⟨stop,qn⟩ | ⟨go,N,hN,step⟩
 ·refine bq hp (ef (T.done X rfl rfl rfl hc i pins s3 σ3 H3 X.xe I3 (sy fr3) zy stop) λr s4 ⟨hr,I4⟩=>?_)
  subst hr
  exact cH ⟨σ3,H3,I4,qn⟩
 ·refine bq hp (ef (T.item X rfl rfl rfl hc i pins s3 σ3 H3 X.xe I3 (sy fr3) zy go) λr s4 ⟨u,hr,h4⟩=>?_)
  subst hr
  refine bq hp (ef h4 λ_ s5 dm=>?_)
  obtain⟨x,H5,I5,r5,y5,st5,fr5⟩:=dm
  have NV:=I5.pinned (sy fr5) (T.obj _ _ st5)
  refine bq hp (ef (hg _ s5 σ3 H5 x u _ NV r5 (step x H5 y5)) λ_ s6 dm=>?_)
  obtain⟨σ6,H6,I6,q6⟩:=dm
  refine bq hp (ef (hb _ s6 σ6 H6 _ I6 q6) λf s7 q7=>?_)
  have again:∀{σ7:St}{H7:Hp},Inv X (pins++wD fp s5.heap) σ7 H7 s7->N σ7 H7->∃ m,m<n/\∃ i σ' H',Inv X pins σ' H' s7/\tn i s7.heap/\(∀ b∈fp,H' b=none)/\W i m σ' H':=λ{σ7 H7} I7 n7=>by
   obtain⟨m',hm,w7⟩:=hN σ7 H7 n7
   refine⟨m',hm,i+1,σ7,H7,I7.unpinned,T.keep _ _ _ st5 λb hb o e=>(I7.pin (b,o) (ay _ (ay _ (zx hb e)))).1,λb hb=>?_,w7⟩
   obtain⟨o,e,d⟩:=T.obj _ _ st5 b hb
   exact(I7.pin (b,o) (ay _ (ay _ (zx hb e)))).2.1
  cases f with
  | next=>obtain⟨σ7,H7,I7,n7⟩:=q7;exact again I7 n7
  | cont=>obtain⟨σ7,H7,I7,n7⟩:=q7;exact again I7 n7
  | brk=>obtain⟨σ7,H7,I7,q7⟩:=q7;exact⟨σ7,H7,I7.unpinned,q7⟩
  | ret v=>obtain⟨x7,σ7,H7,I7,r7,q7⟩:=q7;exact⟨x7,σ7,H7,I7.unpinned,r7,q7⟩
abbrev R2:=V->V->Hp->VK->Prop
def OpR(X:Cx)(f:Value->Value->Sem Value)(r:R2):Prop:=
 ∀(pins:List (Addr×Obj))(s:Shared)(σ:St)(H:Hp)(x y:V)(v u:Value)(Q:VK),Inv X pins σ H s->RelV x v->RelV y u->r x y H Q->
  wpAny (model X.prog X.w) X.A (f v u) (EP X pins σ Q) X.xe s
def Dd(X:Cx)(f:Value->Sem Value)(r:V->Hp->VK->Prop):Prop:=
 ∀(pins:List (Addr×Obj))(s:Shared)(σ:St)(H:Hp)(x:V)(v:Value)(Q:VK),Inv X pins σ H s->RelV x v->r x H Q->
  wpAny (model X.prog X.w) X.A (f v) (EP X pins σ Q) X.xe s
def CallR(X:Cx)(f:Value)(r:List V->Hp->VK->Prop):Prop:=
 ∀(pins:List (Addr×Obj))(s:Shared)(σ:St)(H:Hp)(xs:List V)(us:List Value)(Q:VK),Inv X pins σ H s->Vals xs us->r xs H Q->
  wpAny (model X.prog X.w) X.A (call f us) (EP X pins σ Q) X.xe s
def wF(r:R2)(ta tb:TE):TE:=λσ H Q=>ta σ H λx H1=>tb σ H1 λy H2=>r x y H2 Q
def NW(r:V->Hp->VK->Prop)(ta:TE):TE:=λσ H Q=>ta σ H λx H1=>r x H1 Q
def rI(C:Int->Int->Prop)(g:Int->Int->V):R2:=λx y H Q=>∃ i j,x=.int i/\y=.int j/\C i j/\Q (g i j) H
def ph(g:Int->Int->V):R2:=λx y H Q=>∃ i j,x=.int i/\y=.int j/\Q (g i j) H
def rU(g:Int->V):V->Hp->VK->Prop:=λx H Q=>∃ i,x=.int i/\Q (g i) H
theorem t5(ha:PE X a ta)(hb:PE X b tb){R:V->V->Hp->Prop}(I:Inv X pins σ H s)
 (h:ta σ H λx H1=>tb σ H1 λy H2=>R x y H2) {f:Value->Value->Sem Value}
 (hf:∀ v u s2 x y H2,Inv X pins σ H2 s2->RelV x v->RelV y u->R x y H2->wpAny (model X.prog X.w) X.A (f v u) Q X.xe s2):
 wpAny (model X.prog X.w) X.A (eval a X.env) (λv s₁=>wpAny (model X.prog X.w) X.A (eval b X.env) (λu s₂ => wpAny (model X.prog X.w) X.A (f v u) Q X.xe s₂) X.xe s₁) X.xe s:=by
 refine ef (ha pins s σ H _ I h) λv s1 dm=>?_
 obtain⟨x,H1,I1,r1,q1⟩:=dm
 refine ef (hb pins s1 σ H1 _ I1 q1) λu s2 dm=>?_
 obtain⟨y,H2,I2,r2,q2⟩:=dm
 exact hf v u s2 x y H2 I2 r1 r2 q2
theorem nk{r:R2}(ho:OpR X (binaryOp op) r)(ha:PE X a ta)(hb:PE X b tb):PE X (.BinOp a op b pos) (wF r ta tb):=by
 intro pins s σ H Q I h
 exact wpAny_BinOp (t5 ha hb I h λv u s2 x y H2 I2 rx ry q=>ho pins s2 σ H2 x y v u Q I2 rx ry q)
theorem wG(ho:Dd X (unaryOp op) r)(ha:PE X a ta):PE X (.UnaryOp op a pos) (NW r ta):=by
 intro pins s σ H Q I h
 exact UnaryOp_ (ef (ha pins s σ H _ I h) λv s1 dm=>by obtain⟨x,H1,I1,r1,q1⟩:=dm;exact ho pins s1 σ H1 x v Q I1 r1 q1)
theorem uT{g:Int->Int->Int}
 (rule:∀(i j:Int)(t u:Tok)(s:Shared)(Q:Value->Shared->Prop)(E:Value->Shared->Prop),C i j->Q (.int (g i j) s.toks) { s with toks:=s.toks+1 }->wpAny (model X.prog X.w) X.A (f (.int i t) (.int j u)) Q E s):
 OpR X f (rI C λi j=>.int (g i j)):=by
 intro pins s σ H x y v u Q I rx ry h
 obtain⟨i,j,rfl,rfl,hc,q⟩:=h
 obtain⟨t,rfl⟩:=rx
 obtain⟨t',rfl⟩:=ry
 exact rule i j t t' s _ _ hc ⟨.int (g i j),H,I.tok _,⟨_,rfl⟩,q⟩
theorem wH{g:Int->Int->Int}
 (rule:∀(i j:Int)(t u:Tok)(s:Shared)(Q:Value->Shared->Prop)(E:Value->Shared->Prop),Q (.int (g i j) s.toks) { s with toks:=s.toks+1 }->wpAny (model X.prog X.w) X.A (f (.int i t) (.int j u)) Q E s):
 OpR X f (ph λi j=>.int (g i j)):=by
 intro pins s σ H x y v u Q I rx ry h
 obtain⟨i,j,rfl,rfl,q⟩:=h
 obtain⟨t,rfl⟩:=rx
 obtain⟨t',rfl⟩:=ry
 exact rule i j t t' s _ _ ⟨.int (g i j),H,I.tok _,⟨_,rfl⟩,q⟩
theorem pk{g:Int->Int->Bool}
 (rule:∀(i j:Int)(t u:Tok)(s:Shared)(Q:Value->Shared->Prop)(E:Value->Shared->Prop),Q (.bool (g i j)) s->wpAny (model X.prog X.w) X.A (f (.int i t) (.int j u)) Q E s):
 OpR X f (ph λi j=>.bl (g i j)):=by
 intro pins s σ H x y v u Q I rx ry h
 obtain⟨i,j,rfl,rfl,q⟩:=h
 obtain⟨t,rfl⟩:=rx
 obtain⟨t',rfl⟩:=ry
 exact rule i j t t' s _ _ ⟨.bl (g i j),H,I,rfl,q⟩
def De(i j:Int):Prop:=0<=j/\j<=1000000/\i.natAbs<2 ^ 64
def CMul(i j:Int):Prop:=(-(2 ^ 64)<i/\i<2 ^ 64)∨(-(2 ^ 64)<j/\j<2 ^ 64)
theorem CMul.ok{i j:Int}(h:CMul i j):IntMulOk i j:=by
 rcases h with⟨h1,h2⟩ | ⟨h1,h2⟩
 ·exact .of_left (intBits_le_64 h1 h2)
 ·exact .of_right (intBits_le_64 h1 h2)
theorem NX(k:Nat):(0:Int)<=2 ^ k:=by
 rw[two_pow_cast]
 exact Int.natCast_nonneg _
theorem QyV:OpR X (binaryOp .Add) (ph λi j=>.int (i+j)):=wH λ_ _ _ _ _ _ _ q=>add_int q
theorem NY:OpR X (binaryOp .Sub) (ph λi j=>.int (i - j)):=wH λ_ _ _ _ _ _ _ q=>sub_int q
theorem NZ:OpR X (binaryOp .Mod) (rI (λ_ j=>j≠0) λi j=>.int (i.fmod j)):=uT λ_ _ _ _ _ _ _ hc q=>mod_int' hc q
theorem Na:OpR X (binaryOp .LShift) (rI De λi j=>.int (i * 2 ^ j.toNat)):=uT λ_ _ _ _ _ _ _ hc q=>lshift_int_small hc.1 hc.2.1 hc.2.2 q
theorem Nb:OpR X (binaryOp .RShift) (rI (λ_ j=>0<=j) λi j=>.int (i / 2 ^ j.toNat)):=uT λi j _ _ _ _ _ hc q=>
 rshift_int hc (by rw[Int.fdiv_eq_ediv_of_nonneg i (NX _)];exact q)
theorem Nc{f:Value->Sem Value}{g:Int->Int}
 (rule:∀(i:Int)(t:Tok)(s:Shared)(Q:Value->Shared->Prop)(E:Value->Shared->Prop),Q (.int (g i) s.toks) { s with toks:=s.toks+1 }->wpAny (model X.prog X.w) X.A (f (.int i t)) Q E s):
 Dd X f (rU λi=>.int (g i)):=by
 intro pins s σ H x v Q I rx h
 obtain⟨i,rfl,q⟩:=h
 obtain⟨t,rfl⟩:=rx
 exact rule i t s _ _ ⟨.int (g i),H,I.tok _,⟨_,rfl⟩,q⟩
theorem Nd:Dd X (unaryOp .USub) (rU λi=>.int (-i)):=Nc λ_ _ _ _ _ q=>neg_int q
noncomputable def scal:V->V->Bool
 | .non,.non=>true | .non,.int _=>true | .int _,.non=>true | .non,.bl _=>true | .bl _,.non=>true | .non,.str _=>true | .str _,.non=>true
 | .int _,.int _=>true | .bl _,.bl _=>true | .str _,.str _=>true | .byt _,.byt _=>true
 | .int _,.str _=>true | .str _,.int _=>true | .bl _,.str _=>true | .str _,.bl _=>true
 | _,_=>false
theorem Nf(I:Inv X pins σ H s)(q:Q (.bl k) H)(e:k=k'):EP X pins σ Q (.bool k') s:=by
 subst e
 exact⟨.bl k,H,I,rfl,q⟩
theorem wI:OpR X (compareOp .Lt) (ph λi j=>.bl (decide (i<j))):=pk λ_ _ _ _ _ _ _ q=>lt_int q
theorem ig:OpR X (compareOp .LtE) (ph λi j=>.bl (decide (i<=j))):=pk λ_ _ _ _ _ _ _ q=>le_int q
theorem qv:OpR X (compareOp .Gt) (ph λi j=>.bl (decide (j<i))):=pk λ_ _ _ _ _ _ _ q=>gt_int q
theorem wJ:OpR X (compareOp .GtE) (ph λi j=>.bl (decide (j<=i))):=pk λ_ _ _ _ _ _ _ q=>ge_int q
theorem Ng:OpR X (compareOp .In) (λx y H Q=>∃ i j,x=.str i/\y=.str j/\Q (.bl (!(Builtin.Str.occurrences j i 0 j.length 1).isEmpty)) H):=by
 intro pins s σ H x y v u Q I rx ry h
 obtain⟨i,j,rfl,rfl,q⟩:=h
 obtain⟨t,rfl⟩:=rx
 obtain⟨t',rfl⟩:=ry
 exact in_str (Nf I q rfl)
theorem OpR.or{f:Value->Value->Sem Value}{r r':R2}(h:OpR X f r)(h':OpR X f r'):OpR X f (λx y H Q=>r x y H Q∨r' x y H Q):=by
 intro pins s σ H x y v u Q I rx ry q
 rcases q with q | q
 ·exact h pins s σ H x y v u Q I rx ry q
 ·exact h' pins s σ H x y v u Q I rx ry q
theorem pC(b:Expr)(h:op≠.In:=by decide)(h2:op≠.NotIn:=by decide):behindInMarks op b=false:=by
 have e1:(op == CmpOp.In)=false:=by cases op<;>first | rfl | exact absurd rfl h
 have e2:(op == CmpOp.NotIn)=false:=by cases op<;>first | rfl | exact absurd rfl h2
 cases b<;>simp[behindInMarks,e1,e2]
theorem Nh(ho:OpR X (compareOp op) r)(ha:PE X a ta)(hb:PE X b tb)(hm:behindInMarks op b=false):PE X (.Compare a [op] [b] pos) (wF r ta tb):=by
 intro pins s σ H Q I h
 exact wpAny_Compare1 (t5 ha hb I h λv u s2 x y H2 I2 rx ry q=>ho pins s2 σ H2 x y v u Q I2 rx ry q) hm
def qw(t:TE):TT:=λσ H Q=>t σ H λx H'=>∃ k,x=.bl k/\Q k H'
theorem Iu(ho:OpR X (compareOp op) r)(ha:PE X a ta)(hb:PE X b tb)(hm:behindInMarks op b=false):PT X (.Compare a [op] [b] pos) (qw (wF r ta tb)):=by
 intro pins s σ H Q I h
 refine wpAny_isTrue_Compare1 (ef (ha pins s σ H _ I h) λv s1 ⟨x,H1,I1,r1,q1⟩=>ef (hb pins s1 σ H1 _ I1 q1) λu s2 ⟨y,H2,I2,r2,q2⟩=>
  ef (ho pins s2 σ H2 x y v u _ I2 r1 r2 q2) λc s3 ⟨z,H3,I3,r3,k,e,q3⟩=>?_) hm
 subst e
 cases r3
 exact bY ⟨H3,I3,q3⟩
def Df(r r':R2)(ta tb tc:TE):TE:=λσ H Q=>ta σ H λx H1=>tb σ H1 λy H2=>r x y H2 λz H3=>∃ k,z=.bl k/\
 (if k=true then tc σ H3 λw' H4=>r' y w' H4 Q else Q (.bl false) H3)
theorem Ni(ho:OpR X (compareOp op) r)(jA:OpR X (compareOp nQ) r')(ha:PE X a ta)(hb:PE X b tb)(hc:PE X c tc)
 (hm:lastMarks [op,nQ] [b,c]=false:=by with_unfolding_all rfl):PE X (.Compare a [op,nQ] [b,c] pos) (Df r r' ta tb tc):=by
 intro pins s σ H Q I h
 refine Compare_chain (ef (ha pins s σ H _ I h) λv s1 ⟨x,H1,I1,r1,q1⟩=>chain_link (ef (hb pins s1 σ H1 _ I1 q1) λu s2 ⟨y,H2,I2,r2,q2⟩=>
  ef (ho pins s2 σ H2 x y v u _ I2 r1 r2 q2) λd s3 ⟨z,H3,I3,r3,k,e,q3⟩=>?_)) hm
 subst e
 cases r3
 refine bY ?_
 cases k with
 | false=>exact ite_ff ⟨.bl false,H3,I3,rfl,q3⟩
 | true=>exact ite_tt (chain_last (ef (hc pins s3 σ H3 _ I3 q3) λw' s4 dm=>by obtain⟨z',H4,I4,r4,q4⟩:=dm;exact jA pins s4 σ H4 y z' u w' Q I4 r2 r4 q4))
theorem Nj(ho:OpR X (compareOp op) r)(jA:OpR X (compareOp nQ) r')(ha:PE X a ta)(hb:PE X b tb)(hc:PE X c tc)
 (hm:lastMarks [op,nQ] [b,c]=false:=by with_unfolding_all rfl):PT X (.Compare a [op,nQ] [b,c] pos) (qw (Df r r' ta tb tc)):=by
 intro pins s σ H Q I h
 refine isTrue_chain (ef (ha pins s σ H _ I h) λv s1 ⟨x,H1,I1,r1,q1⟩=>test_link (ef (hb pins s1 σ H1 _ I1 q1) λu s2 ⟨y,H2,I2,r2,q2⟩=>
  ef (ho pins s2 σ H2 x y v u _ I2 r1 r2 q2) λd s3 ⟨z,H3,I3,r3,k,e,q3⟩=>?_)) hm
 subst e
 cases r3
 refine bY ?_
 cases k with
 | false=>
  obtain⟨k',e',q'⟩:=q3
  cases e'
  exact ite_ff ⟨H3,I3,q'⟩
 | true=>
  refine ite_tt (test_last (ef (hc pins s3 σ H3 _ I3 q3) λw' s4 ⟨z',H4,I4,r4,q4⟩=>ef (jA pins s4 σ H4 y z' u w' _ I4 r2 r4 q4) λd' s5 dm=>?_))
  obtain⟨z2,H5,I5,r5,k2,e2,q5⟩:=dm
  subst e2
  cases r5
  exact bY ⟨H5,I5,q5⟩
theorem uU:(sizeLine:Nat)<2 ^ 63:=by rw[sizeLine_eq];decide
theorem Nk:OpR X (binaryOp .Add) (λx y H Q=>∃ i j,x=.str i/\y=.str j/\i.length+j.length<=sizeLine/\Q (.str (i++j)) H):=by
 intro pins s σ H x y v u Q I rx ry h
 obtain⟨i,j,rfl,rfl,hz,q⟩:=h
 obtain⟨t,rfl⟩:=rx
 obtain⟨t',rfl⟩:=ry
 exact add_str (λt' tk=>⟨.str (i++j),H,I.tok _,⟨_,rfl⟩,q⟩) hz
theorem iQ(r:Vals [x] us):∃ u,us=[u]/\RelV x u:=by
 cases r with
 | cons r1 r2=>cases r2;exact⟨_,rfl,r1⟩
theorem nq(r:Vals [x,y] us):∃ u w',us=[u,w']/\RelV x u/\RelV y w':=by
 cases r with
 | cons r1 r2=>
  cases r2 with
  | cons r3 r4=>cases r4;exact⟨_,_,rfl,r1,r3⟩
theorem Nl(hc:X.calm=true):CallR X (.builtin "max") (λxs H Q=>∃ i j,xs=[.int i,.int j]/\Q (.int (if j > i then j else i)) H):=by
 intro pins s σ H xs us Q I r h
 obtain⟨i,j,rfl,q⟩:=h
 obtain⟨u,w',rfl,⟨t,rfl⟩,⟨t',rfl⟩⟩:=nq r
 refine max_two_ints (I.ok.hd hc) λh' tk k=>⟨_,H,I.kept k,?_,q⟩
 by_cases hj:j > i
 ·rw[aA hj,aA hj];exact⟨_,rfl⟩
 ·rw[aB hj,aB hj];exact⟨_,rfl⟩
theorem Nm:CallR X (.type "int") (λxs H Q=>(∃ i,xs=[.int i]/\Q (.int i) H)∨∃ k,xs=[.bl k]/\Q (.int (if k then 1 else 0)) H):=by
 intro pins s σ H xs us Q I r h
 rcases h with⟨i,rfl,q⟩ | ⟨k,rfl,q⟩
 ·obtain⟨u,rfl,t,rfl⟩:=iQ r
  exact call_int_int ⟨.int i,H,I,⟨_,rfl⟩,q⟩
 ·obtain⟨u,rfl,r1⟩:=iQ r
  cases r1
  exact call_int_bool ⟨.int (if k then 1 else 0),H,I.tok _,⟨_,rfl⟩,q⟩
structure ObjM(h:Heap)(x dx C:Addr)(mA:Str->Option Value):Prop where
 obj:h.get? x=some (PySem.W.instObj C dx)
 ns:h.Ns1 dx mA
 ne:dx≠x
theorem Nn{h:Heap}{dx:Addr}{mA:Str->Option Value}(n:h.Ns1 dx mA):∃ od,h.get? dx=some od/\∀ name,PySem.W.lookIn name od=some (mA name):=by
 obtain⟨o,es,ep,ho,hd,hk,_,hm⟩:=n
 refine⟨o,ho,λname=>?_⟩
 have e:=hm name
 unfold nsFind findBy at e
 rw[← Array.find?_toList]at e
 unfold PySem.W.lookIn
 rw[hd]
 dsimp only
 split
 ·rename_i y q
  rw[q]at e
  exact bO some e
 ·rename_i q
  rw[q]at e
  have a:es.toList.any (·.refKey)=false:=by
   rw[List.any_eq_false]
   intro y hy
   obtain⟨z,t,hkey⟩:=hk y (Array.mem_toList_iff.mp hy)
   simp[DictEntry.refKey,hkey]
  have a':¬ es.toList.any (·.refKey)=true:=by rw[a];exact ak
  rw[aB a']
  exact bO some e
theorem ObjM.look(I:ObjM h x dx C mA):∃ od,PySem.W.InstAt h x (PySem.W.instObj C dx) C (some od)/\∀ name,PySem.W.lookIn name od=some (mA name):=
 let ⟨od,ho,hl⟩:=Nn I.ns
 ⟨od,⟨I.obj,rfl,rfl,ho⟩,hl⟩
section
variable {K:PySem.W.Frag}
theorem Np(X:K.In s.heap)(I:ObjM s.heap x dx C mA)(hg:PySem.W.plainGet K C name=true)(hh:PySem.W.hasDictIn K C=true)
 (ha:PySem.W.findIn K (.ref C) name=some none) (hv:mA name=some v) (t6:PySem.W.handedIn v=true) (h:Q v { s with toks:=s.toks+1 }):
 wpAny (model prog w) A (getAttr (.ref x) name expr) Q E s:=by
 obtain⟨od,J,hl⟩:=I.look
 exact PySem.W.get_value X J (PySem.W.plainGet_of hg).1 (PySem.W.findObj_own hh ha rfl (by rw[hl,hv])) t6 h
theorem Nq(X:K.In s.heap)(I:ObjM s.heap x dx C mA)(hg:PySem.W.plainGet K C name=true)
 (hf:PySem.W.findIn K (.ref C) name=some (some (.ref f))) (ht:PySem.W.isFn K (.ref f)=true) (hv:mA name=none) (h:Q (.ref f,[.ref x]) s):
 wpAny (model prog w) A (getMethod (.ref x) name pl) Q E s:=by
 obtain⟨od,J,hl⟩:=I.look
 exact PySem.W.method_fn X J (PySem.W.plainGet_of hg).1 (PySem.W.plainGet_of hg).2 hf (bj.mp ht) (by show(PySem.W.lookIn name od).map (·.isSome)=some false;rw[hl,hv];rfl) h
theorem Nr(X:K.In s.heap)(I:ObjM s.heap x dx C mA)
 (hs:PySem.W.findIn K (.ref C) "__setattr__"=some (some (.builtin "object.__setattr__"))) (hp:PySem.W.plainOver K C=true) (ht:PySem.W.takerIn K C name=some none) (hh:PySem.W.hasDictIn K C=true)
 (hw:PySem.Within mA ns) (pq:ns.length<=sizeLine)
 (h:∀ h',ObjM h' x dx C (λy=>if y=name then some v else mA y)->Heap.SameBut dx s.heap h'->Q () { s with heap:=h',toks:=s.toks+2 }):
 wpAny (model prog w) A (setAttr (.ref x) name v) Q E s:=by
 obtain⟨od,J,hl⟩:=I.look
 refine PySem.W.set_plain X J hs (PySem.W.osa_open X J hp ht λb=>?_)
 obtain⟨cd,hc,hd'⟩:=PySem.W.any_some hh
 have hx:=I.obj
 refine aP (aX (aP (aP (wpAny_loadPart hx (aP (PySem.W.Looks.here (PySem.W.looks_clsIn X hc) ?_))))))
 rw[hd']
 refine aX (aP (aX (aP ?_)))
 refine wpAny_nsSet1 I.ns λh' hn2 hs2=>?_
 obtain⟨oD,esD,epD,hoD,l4,hcD⟩:=hn2.count (PySem.Within.cons name v hw)
 refine aP (wpAny_lookBehind hoD (by rw[l4];exact pastItsLine_dict (b0 hcD (by rw[aZ];lia))) ?_)
 exact aX (h _ ⟨(hs2.2 _ (bR I.ne)).trans I.obj,hn2,I.ne⟩ hs2)
theorem Nt(X:K.In s.heap)(hm:PySem.W.makesIn K C=true)
 (hi:PySem.W.findIn K (.ref C) "__init__"=some (some (.ref f))) (hf:PySem.W.typeIn K (.ref f)=some (.type "function"))
 (h:codeAny (model prog w) (A.under (.builtin "type.__call__" ⟨.ref C::vs,kw⟩)) (.call (.ref f) ⟨.ref (s.heap.objs.size+1)::vs,kw⟩) (PySem.W.InitBack (s.heap.objs.size+1) R)
  { s with heap:=(s.heap.push PySem.W.emptyDict).push (PySem.W.instObj C s.heap.objs.size) }):
 codeAny (model prog w) A (.call (.ref C) ⟨vs,kw⟩) R s:=by
 obtain⟨hh,g,d,t,os⟩:=s
 exact PySem.W.make_core (PySem.W.makes_of X hm) (PySem.W.looks_findIn X hi) (λself=>PySem.W.bind_fn X self hf) (.inl rfl) h
end
noncomputable def i6(f:Str)(v:V):List (Str×V)->List (Str×V)
 | []=>[(f,v)]
 | (g,x)::r=>if g=f then(g,v)::r else(g,x)::i6 f v r
theorem Iv(f g:Str)(v:V):∀ fs:List (Str×V),(i6 f v fs).lookup g=if g=f then some v else fs.lookup g
 | []=>by
  show List.lookup g [(f,v)]=_
  by_cases h:g=f
  ·have hb:=bj.mpr h
   simp only[List.lookup,hb,aA h]
  ·have hb:=cE.mpr h
   simp only[List.lookup,hb,aB h]
 | (k,x)::r=>by
  have ih:=Iv f g v r
  rw[show i6 f v ((k,x)::r)=(if k=f then(k,v)::r else(k,x)::i6 f v r) from rfl]
  by_cases hk:k=f
  ·rw[aA hk]
   by_cases h:g=k
   ·have hb:=bj.mpr h
    simp only[List.lookup,hb,aA (h.trans hk)]
   ·have hb:=cE.mpr h
    simp only[List.lookup,hb,aB (λe:g=f=>h (e.trans hk.symm))]
  ·rw[aB hk]
   by_cases h:g=k
   ·have hb:=bj.mpr h
    simp only[List.lookup,hb,aB (λe:g=f=>hk (h.symm.trans e))]
   ·have hb:=cE.mpr h
    simp only[List.lookup,hb]
    exact ih
theorem Dg(f:Str)(v:V):∀ fs:List (Str×V),f∈(i6 f v fs).map (·.1)/\∀ g,g∈fs.map (·.1)->g∈(i6 f v fs).map (·.1)
 | []=>⟨by simp[i6],λg h=>by simp at h⟩
 | (k,x)::r=>by
  obtain⟨i1,i2⟩:=Dg f v r
  rw[show i6 f v ((k,x)::r)=(if k=f then(k,v)::r else(k,x)::i6 f v r) from rfl]
  by_cases hk:k=f
  ·rw[aA hk]
   subst hk
   exact⟨by simp,λg h=>by simpa using h⟩
  ·rw[aB hk]
   refine⟨?_,λg h=>?_⟩
   ·rw[aj]
    exact aG _ i1
   ·rw[aj]at h ⊢
    rcases aL.mp h with e | e
    ·exact aL.mpr (.inl e)
    ·exact aG _ (i2 g e)
theorem Iw(f:Str)(v:V):∀ fs:List (Str×V),(i6 f v fs).length<=fs.length+1
 | []=>by simp[i6]
 | (k,x)::r=>by
  have ih:=Iw f v r
  rw[show i6 f v ((k,x)::r)=(if k=f then(k,v)::r else(k,x)::i6 f v r) from rfl]
  by_cases hk:k=f
  ·rw[aA hk,aZ,aZ];lia
  ·rw[aB hk,aZ,aZ];lia
theorem RelO.some_of(r:RelO (some v) o):∃ u,o=some u/\RelV v u:=by
 cases o with
 | none=>exact(r).elim
 | some u=>exact⟨u,rfl,r⟩
theorem RelO.none_of(r:RelO none o):o=none:=by
 cases o with
 | none=>rfl
 | some u=>exact(r).elim
theorem Nu(r:RelV v u):PySem.W.handedIn u=true:=by
 cases v with
 | non=>cases (r);rfl
 | bl b=>cases (r);rfl
 | int i=>obtain⟨t,e⟩:=(r);cases e;rfl
 | str x=>obtain⟨t,e⟩:=(r);cases e;rfl
 | byt b=>obtain⟨t,e⟩:=(r);cases e;rfl
 | flt b=>obtain⟨t,e⟩:=(r);cases e;rfl
 | ref a=>cases (r);rfl
 | ty n=>cases (r);rfl
theorem wK(hok:HOk P w H h)(e:H a=some (.ins C dx fs)):∃ mA,ObjM h a dx C mA/\(∀ f,RelO (fs.lookup f) (mA f))/\PySem.Within mA (fs.map (·.1))/\fs.length<=1000/\H dx=some (.own a):=by
 obtain⟨d,z,ne,ob,mA,n,r,q⟩:=(hok a _ e)
 exact⟨mA,⟨ob,n,ne⟩,r,q,z,d⟩
structure Cls(K:PySem.W.Frag)(C:Addr):Prop where
 pg:PySem.W.plainGet K C Str.empty=true
 hd:PySem.W.hasDictIn K C=true
 po:PySem.W.plainOver K C=true
 sa:PySem.W.findIn K (.ref C) "__setattr__"=some (some (.builtin "object.__setattr__"))
theorem Cls.get{K:PySem.W.Frag}{C:Addr}(c:Cls K C)(f:Str):PySem.W.plainGet K C f=true:=c.pg
def Qf9(K:PySem.W.Frag)(C:Addr)(f:Str):Prop:=PySem.W.findIn K (.ref C) f=some none
theorem Qf9.taker{K:PySem.W.Frag}{C:Addr}{f:Str}(n:Qf9 K C f):PySem.W.takerIn K C f=some none:=by
 unfold PySem.W.takerIn
 rw[n]
 rfl
structure t7(K:PySem.W.Frag)(C:Addr)(m:Str)(f:Addr):Prop where
 at_:PySem.W.findIn K (.ref C) m=some (some (.ref f))
 fn:PySem.W.isFn K (.ref f)=true
 kp:PySem.W.keepIn K (.ref f)=true
theorem Nv(I:Inv X pins σ H s)(e:H a=some (.ins C dx fs))(c:Cls X.K C)(n:Qf9 X.K C f)(l:fs.lookup f=some v)
 (h:∀ u s',Inv X pins σ H s'->RelV v u->Q u s'):wpAny (model X.prog X.w) A (getAttr (.ref a) f b) Q E s:=by
 obtain⟨mA,O,r,_,_,_⟩:=wK I.hok e
 obtain⟨u,hu,ru⟩:=RelO.some_of (by rw[← l];exact r f)
 exact Np I.kIn O (c.get f) c.hd n hu (Nu ru) (h u _ (I.tok _) ru)
theorem Iy(I:Inv X pins σ H s)(e:H a=some (.ins C dx fs))(c:Cls X.K C)(k:t7 X.K C m g)(l:fs.lookup m=none)
 (h:Q (.ref g,[.ref a]) s):wpAny (model X.prog X.w) A (getMethod (.ref a) m pl) Q E s:=by
 obtain⟨mA,O,r,_,_,_⟩:=wK I.hok e
 have hn:=RelO.none_of (by rw[← l];exact r m)
 exact Nq I.kIn O (c.get m) k.at_ k.fn hn h
theorem Nw(I:Inv X pins σ H s)(e:H a=some (.ins C dx fs))(c:Cls X.K C)(n:Qf9 X.K C f)(hl:fs.length<1000)(ry:RelV y u)
 (h:∀ s',Inv X pins σ (eT H a (.ins C dx (i6 f y fs))) s'->Q () s'):wpAny (model X.prog X.w) A (setAttr (.ref a) f u) Q E s:=by
 obtain⟨mA,O,r,wi,_,ho⟩:=wK I.hok e
 have hz:(fs.map (·.1)).length<=sizeLine:=by rw[aD,sizeLine_eq];lia
 refine Nr I.kIn O c.sa c.po n.taker c.hd wi hz λh' O' sb=>h _ ?_
 have hd:∃ o,h'.get? dx=some o:=let ⟨o,_,_,e',_⟩:=O'.ns;⟨o,e'⟩
 refine I.write (by rw[e];exact True.intro) (.inr ho) (λb q hb z=>(sb.2 b hb).trans z) hd ?_
 refine⟨by rw[Qk O.ne];exact ho,?_,O.ne,O'.obj,_,O'.ns,λg=>?_,λg hg=>?_⟩
 ·have:=Iw f y fs;lia
 ·rw[Iv]
  by_cases q:g=f
  ·rw[aA q,aA q];exact ry
  ·rw[aB q,aB q];exact r g
 ·by_cases q:g=f
  ·rw[q];exact(Dg f y fs).1
  ·refine(Dg f y fs).2 g (wi g λz=>hg ?_)
   show(if g=f then some u else mA g)=none
   rw[aB q];exact z
theorem Inv.made(I:Inv X pins σ H s):Inv X pins σ (eT (eT H s.heap.objs.size (.own (s.heap.objs.size+1))) (s.heap.objs.size+1) (.ins C s.heap.objs.size []))
 { s with heap:=(s.heap.push PySem.W.emptyDict).push (PySem.W.instObj C s.heap.objs.size) }:=by
 have e1:(s.heap.push PySem.W.emptyDict).get? s.heap.objs.size=some PySem.W.emptyDict:=af s.heap rfl
 have e2:((s.heap.push PySem.W.emptyDict).push (PySem.W.instObj C s.heap.objs.size)).get? (s.heap.objs.size+1)=some (PySem.W.instObj C s.heap.objs.size):=by
  have:=af (s.heap.push PySem.W.emptyDict) (o:=PySem.W.instObj C s.heap.objs.size) rfl
  rwa [c7]at this
 have e3:(s.heap.push PySem.W.emptyDict).Ns s.heap.objs.size (λ_=>none):=⟨PySem.W.emptyDict, #[],_,e1,rfl,(λe he=>absurd he (by simp)),λ_=>rfl⟩
 have I1:=I.laid (o:=.own (s.heap.objs.size+1)) (t':=s.toks) (λb u q=>aI _ q) (aJ _) ⟨_,e1⟩
 refine I1.laid (λb u q=>aI _ q) (Nat.le_of_eq (c7 _ _)) ?_
 have ne:s.heap.objs.size≠s.heap.objs.size+1:=ai (bf _)
 refine⟨by rw[Qk ne,QC],bV _,ne,e2,λ_=>none,(Heap.Ns1.of_empty e3).at λo q=>aI _ q,λ_=>True.intro,λy hy=>absurd rfl hy⟩
theorem Nx(hb:attributeBase e f env (eval e env)=eval e env)
 (h:wpAny (model prog w) A (eval e env) (λo s₁=>wpAny (model prog w) A (getAttr o f true) Q E s₁) E s):wpAny (model prog w) A (eval (.Attribute e f pos) env) Q E s:=
 Attribute_any_ h (by rw[arm_eval_Attribute,hb])
def Dh(K:PySem.W.Frag)(ta:TE)(f:Str):TE:=λσ H Q=>ta σ H λx H1=>∃ a C dx fs v,x=.ref a/\H1 a=some (.ins C dx fs)/\Cls K C/\Qf9 K C f/\fs.lookup f=some v/\Q v H1
def Di(K:PySem.W.Frag)(ta tv:TE)(f:Str):TS:=λD σ H=>tv σ H λy H1=>ta σ H1 λx H2=>∃ a C dx fs,x=.ref a/\H2 a=some (.ins C dx fs)/\Cls K C/\Qf9 K C f/\fs.length<1000/\
 D.nx σ (eT H2 a (.ins C dx (i6 f y fs)))
theorem Ny(he:PE X e ta)(hb:attributeBase e f X.env (eval e X.env)=eval e X.env):PE X (.Attribute e f pos) (Dh X.K ta f):=by
 intro pins s σ H Q I h
 refine Nx hb (ef (he pins s σ H _ I h) λu s1 dm=>?_)
 obtain⟨x,H1,I1,rx,a,C,dx,fs,v,ex,ea,c,n,l,q⟩:=dm
 subst ex
 obtain rfl:=rx
 exact Nv I1 ea c n l λu' s2 I2 ru=>⟨v,H1,I2,ru,q⟩
theorem Nz(ha:PE X o ta)(hv:PE X value tv)(hs:swapsWith value (some (.Attribute o f pos')) pos.line X.env=pure false):PS X (.Assign [.Attribute o f pos'] value pos) (Di X.K ta tv f):=by
 intro pins s σ H D I h
 refine plainObj_wpAny_Assign_Attribute (ef (hv pins s σ H _ I h) λu s1 ⟨y,H1,I1,ry,q⟩=>ef (ha pins s1 σ H1 _ I1 q) λov s2 dm=>?_) hs
 obtain⟨x,H2,I2,rx,a,C,dx,fs,ex,ea,c,n,l,q2⟩:=dm
 subst ex
 obtain rfl:=rx
 exact Nw I2 ea c n l ry λs3 I3=>⟨σ,_,I3,q2⟩
structure Room(k:Nat)(A:Around):Prop where
 hd:A.handled=none
 dp:A.depth+3 * k+5<recursionLimit
 un:A.units+16 * k+200<cLine
theorem Room.mono{j k:Nat}{A:Around}(r:Room k A)(h:j<=k):Room j A:=⟨r.hd,by have:=r.dp;lia,by have:=r.un;lia⟩
theorem Room.deeper{k:Nat}{A:Around}(r:Room (k+1) A)(env:Env):Room k (A.deeper env):=
 ⟨r.hd,by have:=r.dp;show A.depth+1+3 * k+5<_;lia,by have:=r.un;show A.units+3+16 * k+200<_;lia⟩
theorem O0{A:Around}{C:Addr}{us:List Value}{kw:List (Str×Value)}:(A.under (.builtin "type.__call__" ⟨.ref C::us,kw⟩)).depth=A.depth+1:=by
 first | rfl | simp[Around.under,Code.weight,Code.isCreation,Code.isGuard,Code.isCaller,Code.frames,Code.isFrame,guardIds]
theorem O1{A:Around}{C:Addr}{us:List Value}{kw:List (Str×Value)}:(A.under (.builtin "type.__call__" ⟨.ref C::us,kw⟩)).units=A.units+1:=by
 first | rfl | simp[Around.under,Code.cUnits,Code.frames,Code.isFrame]
theorem Room.make{k:Nat}{A:Around}(r:Room (k+1) A)(C:Addr)(us:List Value)(kw:List (Str×Value)):Room k (A.under (.builtin "type.__call__" ⟨.ref C::us,kw⟩)):=
 ⟨r.hd,by have:=r.dp;rw[O0];lia,by have:=r.un;rw[O1];lia⟩
theorem Room.depth{k:Nat}{A:Around}(r:Room k A):A.depth<recursionLimit:=by have:=r.dp;lia
theorem Room.units(r:Room k A):A.units+64<cLine:=by have:=r.un;omega
def wL:TA:=λ_ H Q=>Q [] H
def wM(ta:TE)(tr:TA):TA:=λσ H Q=>ta σ H λx H1=>tr σ H1 λxs H2=>Q (x::xs) H2
theorem n9:PA X [] wL:=λ_ _ _ _ H Q I h=>d6 ⟨[],H,I,.nil,h⟩
theorem l5(ha:PE X e te)(hr:PA X es t)(hs:starEach (e::es) X.env=(false,eval e X.env)::starEach es X.env:=by rfl):PA X (e::es) (wM te t):=by
 intro pos pins s σ H Q I h
 rw[hs]
 refine cq (ef (ha pins s σ H _ I h) λu s1 dm=>?_)
 obtain⟨x,H1,I1,r1,q1⟩:=dm
 exact ef (hr pos pins s1 σ H1 _ I1 q1) λus s2 dm=>by obtain⟨xs,H2,I2,r2,q2⟩:=dm;exact⟨x::xs,H2,I2,.cons r1 r2,q2⟩
def Dj(t:TA):TE:=λσ H Q=>t σ H λxs H1=>xs.length<=sizeLine/\∀ p,H1 p=none->Q (.ref p) (eT H1 p (.tup xs))
def Dk(t:TA):TE:=λσ H Q=>t σ H λxs H1=>xs.length<=sizeLine/\∀ p,H1 p=none->Q (.ref p) (eT H1 p (.lst xs))
theorem Iz(h:PA X es t):PE X (.Tuple es x1 pos) (Dj t):=by
 intro pins s σ H Q I hq
 refine wpAny_Tuple_spliced (ef (h pos pins s σ H _ I hq) λus s1 ⟨xs,H1,I1,r,z,q⟩=>⟨by rw[← r.length];exact z,?_⟩)
 have hf:=I1.hok.fresh (aJ _)
 refine⟨.ref s1.heap.objs.size,eT H1 s1.heap.objs.size (.tup xs),I1.laid (λb u e=>aI _ e) (aJ _) ?_,rfl,q _ hf⟩
 exact⟨z,us,r,⟨_,af _ rfl,rfl,_,rfl⟩⟩
theorem O2(h:PA X es t):PE X (.List es pos) (Dk t):=by
 intro pins s σ H Q I hq
 refine wpAny_List_spliced (ef (h pos pins s σ H _ I hq) λus s1 ⟨xs,H1,I1,r,z,q⟩=>⟨by rw[← r.length];exact z,?_⟩)
 have hf:=I1.hok.fresh (aJ _)
 refine⟨.ref s1.heap.objs.size,eT H1 s1.heap.objs.size (.lst xs),I1.laid (λb u e=>aI _ e) (aJ _) ?_,rfl,q _ hf⟩
 exact⟨z,us,0,r,af _ rfl⟩
abbrev Sp:=List V->Hp->VK->XK->Prop
abbrev lq:=List Env->Hp->Shared->XK->Value->Shared->Prop
structure Env0(P:Program)(w:World)(K:PySem.W.Frag)(mg:Str->Option Value)(base:Heap)(A:Around)(outer:List Env)(s:Shared)(H:Hp):Prop where
 frames:A.frames=some outer
 mod:Mod K mg base
 bs:∀ b o,base.get? b=some o->s.heap.get? b=some o/\H b=none
 bsz:base.objs.size<=s.heap.objs.size
 funs:s.heap.FunFrames base outer
 frf:∀ b∈iO outer,H b=none
 hok:HOk P w H s.heap
 bare:AllBare s.gens
def CE(outer:List Env)(P:Program)(w:World)(H:Hp)(s:Shared)(Q:VK)(u:Value)(s':Shared):Prop:=
 ∃ v H',s'.os=s.os/\AllBare s'.gens/\Un (iO outer) [] H H' s.heap s'.heap/\HOk P w H' s'.heap/\RelV v u/\Q v H'
def CR(CX:lq)(outer:List Env)(P:Program)(w:World)(H:Hp)(s:Shared)(Q:VK)(E:XK)(r:Result)(s':Shared):Prop:=
 match r with
 | .ok (.ret u)=>CE outer P w H s Q u s'
 | .ok _=>False
 | .error e=>CX outer H s E e s'
structure FnOk(P:Program)(w:World)(K:PySem.W.Frag)(mg:Str->Option Value)(base:Heap)(CX:lq)(k:Nat)(f:Addr)(fd:FuncData)(ps:List Str)(sp:Sp):Prop where
 len:∀ vs H Q E,sp vs H Q E->vs.length=ps.length
 run:∀(A:Around)(outer:List Env)(s:Shared)(H:Hp)(args:Args)(us:List Value)(vs:List V)(Q:VK)(E:XK),Room k A->Env0 P w K mg base A outer s H->BindsTo s fd args (ps.zip us)->Vals vs us->sp vs H Q E->
  codeAny (model P w) A (.call (.ref f) args) (CR CX outer P w H s Q E) s
theorem FnOk.mono{P:Program}{w:World}{K:PySem.W.Frag}{mg:Str->Option Value}{base:Heap}{CX:lq}{j k:Nat}{f:Addr}{fd:FuncData}{ps:List Str}{sp:Sp}(F:FnOk P w K mg base CX j f fd ps sp)(h:j<=k):
 FnOk P w K mg base CX k f fd ps sp:=⟨F.len,λA outer s H args us vs Q E hr=>F.run A outer s H args us vs Q E (hr.mono h)⟩
theorem FnOk.imp{P:Program}{w:World}{K:PySem.W.Frag}{mg:Str->Option Value}{base:Heap}{CX:lq}{k:Nat}{f:Addr}{fd:FuncData}{ps:List Str}{sp J0:Sp}(F:FnOk P w K mg base CX k f fd ps sp)
 (h:∀ vs H Q E,J0 vs H Q E->sp vs H Q E):FnOk P w K mg base CX k f fd ps J0:=
 ⟨λvs H Q E q=>F.len vs H Q E (h _ _ _ _ q),λA outer s H args us vs Q E hr he hb hv hs=>F.run A outer s H args us vs Q E hr he hb hv (h _ _ _ _ hs)⟩
theorem Env0.make{P:Program}{w:World}{K:PySem.W.Frag}{mg:Str->Option Value}{base:Heap}{A:Around}{outer:List Env}{s:Shared}{H:Hp}(e:Env0 P w K mg base A outer s H)(C:Addr)(us:List Value)(kw:List (Str×Value)):
 Env0 P w K mg base (A.under (.builtin "type.__call__" ⟨.ref C::us,kw⟩)) outer s H:=⟨by first | exact e.frames | (simpa [Around.under,Code.envs,Code.isFrame,pushEnvs] using e.frames),e.mod,e.bs,e.bsz,e.funs,e.frf,e.hok,e.bare⟩
theorem Inv.env0(I:Inv X pins σ H s):Env0 X.prog X.w X.K X.mg X.base X.A X.stack s H:=
 ⟨I.ok.frames,I.ok.mod,I.bs,b0 I.ok.bsz I.sz,I.stack,I.stkFree,I.hok,I.bare⟩
theorem Inv.after(I:Inv X pins σ H s)(h:CE X.stack X.prog X.w H s Q u s'):EP X pins σ Q u s':=by
 obtain⟨v,H',os,bare,un,hok,r,q⟩:=h
 obtain⟨hh,g,d,t,os'⟩:=s'
 obtain rfl:=os
 exact⟨v,H',I.call un hok bare (λb z=>absurd z (by simp)),r,q⟩
def wN(sp:Sp)(ic:List V)(E:XK)(t:TA):TE:=λσ H Q=>t σ H λvs H1=>sp (vs++ic) H1 Q E
def wO(C:Addr)(sp:Sp)(ic:List V)(E:XK)(t:TA):TE:=λσ H Q=>t σ H λvs H1=>∀ x dx,H1 x=none->H1 dx=none->dx≠x->
 sp (.ref x::(vs++ic)) (eT (eT H1 dx (.own x)) x (.ins C dx [])) (λv H2=>v=.non/\Q (.ref x) H2) E
def Binds(K:PySem.W.Frag)(fd:FuncData)(ps:List Str)(ds:List Value):Prop:=
 ∀(s:Shared)(us:List Value),K.In s.heap->(us++ds).length=ps.length->BindsTo s fd ⟨us,[]⟩ (ps.zip (us++ds))
theorem Binds.all{K:PySem.W.Frag}{fd:FuncData}{ps:List Str}(h:∀ us:List Value,us.length=ps.length->bindArgs fd ⟨us,[]⟩=pure (ps.zip us)):Binds K fd ps []:=λs us _ hl=>by
 rw[az]at hl ⊢
 exact .of_eq (h us hl)
def pv(CX:lq)(X:Cx)(E:XK):Prop:=∀(pins:List (Addr×Obj))(σ:St)(H:Hp)(s:Shared)(e:Value)(s':Shared),Inv X pins σ H s->CX X.stack H s E e s'->X.xe e s'
theorem Dl(F:FnOk X.prog X.w X.K X.mg X.base CX k f fd ps sp)(hr:Room k X.A)(hb:Binds X.K fd ps ds)(hd:Vals ic ds)(hx:pv CX X E)
 (I:Inv X pins σ H s) (r:Vals vs us) (h:sp (vs++ic) H Q E):wpAny (model X.prog X.w) X.A (call (.ref f) us) (EP X pins σ Q) X.xe s:=by
 have r2:=r.append hd
 have hl:(us++ds).length=ps.length:=by rw[← r2.length];exact F.len _ _ _ _ h
 refine wpAny_call (cU (F.run X.A X.stack s H ⟨us,[]⟩ (us++ds) (vs++ic) Q E hr I.env0 (hb s us I.kIn hl) r2 h) λr s' hq=>?_)
 cases r with
 | error e=>exact hx pins σ H s e s' I hq
 | ok fl=>
  cases fl with
  | ret u=>exact I.after hq
  | next=>exact False.elim hq
  | brk=>exact False.elim hq
  | cont=>exact False.elim hq
theorem A0(F:FnOk X.prog X.w X.K X.mg X.base CX k f fd ps sp)(hr:Room k X.A)(hg:Gl X x)(hm:X.mg x=some (.ref f))(hk:PySem.W.keepIn X.K (.ref f)=true)(hb:Binds X.K fd ps ds)(hd:Vals ic ds)(hx:pv CX X E)
 (ha:PA X (e::es) t) (ij:(x == ("__debug__":Str))=false:=by decide) (he:starEach (e::es) X.env=(false,eval e X.env)::starEach es X.env:=by rfl) (fc:(backTo pos (starEach es X.env)).any (·.1)=false:=by rfl):
 PE X (.Call (.Name x p) (e::es) [] pos) (wN sp ic E t):=by
 intro pins s σ H Q I h
 refine bJ (uS I hg hm ?_ ij)
 refine PySem.W.callWith_K I.ok.mod.kin hk (ef (ha pos pins s σ H _ I h) λus s1 ⟨vs,H1,I1,r,q⟩=>⟨I1.kIn,?_⟩) he fc
 exact Dl F hr hb hd hx I1 r q
structure Mk(K:PySem.W.Frag)(C f:Addr):Prop where
 makes:PySem.W.makesIn K C=true
 init:PySem.W.findIn K (.ref C) "__init__"=some (some (.ref f))
 fn:PySem.W.isFn K (.ref f)=true
 kp:PySem.W.keepIn K (.ref C)=true
theorem O3(M:Mk X.K C f)(F:FnOk X.prog X.w X.K X.mg X.base CX k f fd ps sp)(hr:Room (k+1) X.A)(hb:Binds X.K fd ps ds)(hd:Vals ic ds)
 (hx:pv CX X E) (I:Inv X pins σ H s) (r:Vals vs us)
 (h:∀ x dx,H x=none->H dx=none->dx≠x->sp (.ref x::(vs++ic)) (eT (eT H dx (.own x)) x (.ins C dx [])) (λv H2=>v=.non/\Q (.ref x) H2) E):
 wpAny (model X.prog X.w) X.A (call (.ref C) us) (EP X pins σ Q) X.xe s:=by
 have hq:=h (s.heap.objs.size+1) s.heap.objs.size (I.hok.fresh (Nat.le_succ _)) (I.hok.fresh (aJ _)) (ai (bf _))
 have I2:=Inv.made (C:=C) I
 have r2:Vals (V.ref (s.heap.objs.size+1)::(vs++ic)) (Value.ref (s.heap.objs.size+1)::(us++ds)):=.cons rfl (r.append hd)
 have hl:(Value.ref (s.heap.objs.size+1)::us++ds).length=ps.length:=by
  have e:=r2.length
  rw[F.len _ _ _ _ hq]at e
  exact e.symm
 refine wpAny_call (Nt I.kIn M.makes M.init (bj.mp M.fn) (cU (F.run _ X.stack _ _ ⟨Value.ref (s.heap.objs.size+1)::us,[]⟩ (Value.ref (s.heap.objs.size+1)::(us++ds)) _ _ E (hr.make C us [])
  (I2.env0.make C us []) (hb _ (Value.ref (s.heap.objs.size+1)::us) I2.kIn hl) r2 hq) λr s' wQ=>?_))
 cases r with
 | error e=>exact hx pins σ _ _ e s' I2 wQ
 | ok fl=>
  cases fl with
  | ret u=>
   obtain⟨v,H',I3,rv,ev,q3⟩:=I2.after wQ
   subst ev
   exact⟨rv,⟨V.ref (s.heap.objs.size+1),H',I3,rfl,q3⟩⟩
  | next=>exact False.elim wQ
  | brk=>exact False.elim wQ
  | cont=>exact False.elim wQ
theorem O4(M:Mk X.K C f)(F:FnOk X.prog X.w X.K X.mg X.base CX k f fd ps sp)(hr:Room (k+1) X.A)(hg:Gl X x)(hm:X.mg x=some (.ref C))(hb:Binds X.K fd ps ds)(hd:Vals ic ds)(hx:pv CX X E)
 (ha:PA X (e::es) t) (ij:(x == ("__debug__":Str))=false:=by decide) (he:starEach (e::es) X.env=(false,eval e X.env)::starEach es X.env:=by rfl) (fc:(backTo pos (starEach es X.env)).any (·.1)=false:=by rfl):
 PE X (.Call (.Name x p) (e::es) [] pos) (wO C sp ic E t):=by
 intro pins s σ H Q I h
 refine bJ (uS I hg hm ?_ ij)
 refine PySem.W.callWith_K I.ok.mod.kin M.kp (ef (ha pos pins s σ H _ I h) λus s1 ⟨vs,H1,I1,r,q⟩=>⟨I1.kIn,?_⟩) he fc
 exact O3 M F hr hb hd hx I1 r q
structure Qo(N P:List Str)(sc:Scope):Prop where
 kind:sc.kind=.function
 co:sc.isCoroutine=false
 gen:sc.isGenerator=false
 nd:N.Nodup
 pre:N.take P.length=P
 par:∀ x∈P,sc.names.lookup x=some .local∨sc.names.lookup x=some .cell
 nofree:∀ y∈sc.names,y.2≠.free
theorem J1{kindOf:Str->Option NameKind}{x:Str}:∀{binds:List (Str×Value)}{m:Str->Option Value},(∀ v,(x,v)∉binds)->bindL kindOf binds m x=m x
 | [],_,_=>rfl
 | (n,v)::r,m,h=>by
  unfold bindL
  rw[J1 λw hw=>h w (aG _ hw)]
  split
  ·have:x≠n:=by rintro rfl;exact h v aR
   simp[this]
  ·rfl
theorem J2{kindOf:Str->Option NameKind}{x:Str}:∀{binds:List (Str×Value)}{m:Str->Option Value},(∀ v,(x,v)∉binds)->bindC kindOf binds m x=m x
 | [],_,_=>rfl
 | (n,v)::r,m,h=>by
  unfold bindC
  rw[J2 λw hw=>h w (aG _ hw)]
  split
  ·rfl
  ·have:x≠n:=by rintro rfl;exact h v aR
   simp[this]
theorem J3{kindOf:Str->Option NameKind}{x:Str}{v:Value}:∀{P:List Str}{vs:List Value}{i:Nat}{m:Str->Option Value},P.Nodup->P[i]?=some x->vs[i]?=some v->kindOf x=some .local->
 bindL kindOf (P.zip vs) m x=some v
 | [],_,_,_,_,h,_,_=>by simp at h
 | _::_,[],_,_,_,_,h,_=>by simp at h
 | p::P,w::vs,0,m,nd,h1,h2,hk=>by
  simp at h1 h2;subst h1;subst h2
  show bindL kindOf ((p,w)::P.zip vs) m p=_
  unfold bindL
  rw[J1 λv hv=>(cb.mp nd).1 (cf hv).1,aA hk]
  simp
 | p::P,w::vs,i+1,m,nd,h1,h2,hk=>by
  unfold bindL
  exact J3 (cb.mp nd).2 (by simpa using h1) (by simpa using h2) hk
theorem J4{kindOf:Str->Option NameKind}{x:Str}{v:Value}:∀{P:List Str}{vs:List Value}{i:Nat}{m:Str->Option Value},P.Nodup->P[i]?=some x->vs[i]?=some v->kindOf x≠some .local->
 bindC kindOf (P.zip vs) m x=some v
 | [],_,_,_,_,h,_,_=>by simp at h
 | _::_,[],_,_,_,_,h,_=>by simp at h
 | p::P,w::vs,0,m,nd,h1,h2,hk=>by
  simp at h1 h2;subst h1;subst h2
  show bindC kindOf ((p,w)::P.zip vs) m p=_
  unfold bindC
  rw[J2 λv hv=>(cb.mp nd).1 (cf hv).1,aB hk]
  simp
 | p::P,w::vs,i+1,m,nd,h1,h2,hk=>by
  unfold bindC
  exact J4 (cb.mp nd).2 (by simpa using h1) (by simpa using h2) hk
noncomputable def start(N:List Str)(vs:List V):St:=vs.map some++List.replicate (N.length - vs.length) none
noncomputable def je(CX:lq)(P:Program)(w:World)(K:PySem.W.Frag)(mg:Str->Option Value)(base:Heap)(N:List Str)(qual:Str)(scope:Scope)(f:Addr)(cd:Value)(A:Around)(outer:List Env)(s:Shared)(H:Hp)(E:XK):Cx where
 prog:=P
 w:=w
 K:=K
 mg:=mg
 base:=base
 A:=A.deeper (envOfC qual scope s.heap.objs.size f cd)
 N:=N
 s₀:=s
 H₀:=H
 env:=envOfC qual scope s.heap.objs.size f cd
 outer:=outer
 stack:=envOfC qual scope s.heap.objs.size f cd::outer
 ex:=[]
 calm:=true
 fn:=λ_=>true
 pn:=[]
 xe:=λe s'=>wpAny (model P w) (A.deeper (envOfC qual scope s.heap.objs.size f cd)) (leaving (envOfC qual scope s.heap.objs.size f cd) e) (λ_ pD=>CX outer H s E e pD) (λe' pD=>CX outer H s E e' pD) s'
theorem J5{sc:Scope}{n:Nat}{x:Str}(h:sc.names.lookup x=some .cell):∃ c,(cellsFrom n sc.names []).lookup x=some c:=by
 have q:=PySem.W.cellsFrom_some sc.names n [] (.inl h)
 exact bP.mp q
theorem O5{CX:lq}{P:Program}{w:World}{K:PySem.W.Frag}{mg:Str->Option Value}{base:Heap}{N ps:List Str}{qual:Str}{scope:Scope}{f:Addr}{cd:Value}{A:Around}{outer:List Env}{s s1:Shared}{H:Hp}{E:XK}{us:List Value}{vs:List V}
 (S:Qo N ps scope) (hd:A.handled=none) (e0:Env0 P w K mg base A outer s H) (hl:vs.length=ps.length) (r:Vals vs us)
 (x:InCallC s s.heap.objs.size (bindL (envOfC qual scope s.heap.objs.size f cd).kindOf (ps.zip us) λ_=>none) (cellsFrom (s.heap.objs.size+1) scope.names []) (bindC (envOfC qual scope s.heap.objs.size f cd).kindOf (ps.zip us) λ_=>none) s1):
 Inv (je CX P w K mg base N qual scope f cd A outer s H E) [] (start N vs) H s1:=by
 have fc:ps.length<=N.length:=by have:=bO List.length S.pre;rw[bK]at this;omega
 obtain⟨h1,tk,rfl,hk⟩:=x.done
 have wR:∀ b:Addr,b∉(je CX P w K mg base N qual scope f cd A outer s H E).ex:=λb z=>absurd (show b∈([]:List Addr) from z) (by simp)
 refine⟨⟨e0.mod,S.kind,rfl,rfl,aJ _,λy z c h1 h2=>?_,λy hy=>?_,λy c _ h=>?_,λ_=>hd,Around.frames_deeper e0.frames,.inr ⟨rfl,rfl⟩,λb z=>absurd z (wR b),e0.bs,e0.bsz,λb _ _=>wR b,λb z=>absurd z (wR b),e0.funs,e0.frf⟩,
  rfl,e0.bare,Un.kept hk,⟨_,x.toInCall.ns,λi y v h1 h2 h3=>?_⟩,λy c h=>⟨_,x.cell y c h⟩,e0.hok.fresh (aJ _),λy c h=>?_,λp hp=>absurd (show p∈([]:List (Addr×Obj)) from hp) (by simp),e0.hok.kept hk,?_⟩
 ·exact name_of_addr x.apart (bc h1) (bc h2)
 ·have hy:=hy
  rcases hy with hy | hy
  ·exact J5 hy
  ·exact absurd rfl (S.nofree _ (bc hy))
 ·exact c8 (x.above y c (bc h))
 ·have hi:i<vs.length:=by
   unfold start at h2
   by_cases hi:i<vs.length
   ·exact hi
   ·rw[bT (by simpa using hi)]at h2
    rw[ba]at h2
    split at h2<;>cases h2
  have ha:vs[i]?=some v:=by
   unfold start at h2
   rw[bH (by simpa using hi),aH]at h2
   cases e:vs[i]? with
   | none=>rw[e]at h2;cases h2
   | some a=>rw[e]at h2;cases h2;rfl
  obtain⟨u,hu,rv⟩:=r.get ha
  have hp:ps[i]?=some y:=by
   rw[← S.pre,List.getElem?_take_of_lt (by lia)];exact h1
  have J6:ps.Nodup:=by rw[← S.pre];exact S.nd.sublist (List.take_sublist _ _)
  refine⟨u,rv,?_⟩
  rcases S.par y (bW hp) with k | k
  ·exact .inl ⟨k,J3 J6 hp hu k⟩
  ·obtain⟨c,e⟩:=J5 k
   refine .inr ⟨.inl k,c,e,?_⟩
   have q:=x.cell y c e
   rw[J4 J6 hp hu (by show scope.names.lookup y≠_;rw[k];decide)]at q
   exact q
 ·exact e0.hok.fresh (c8 (x.above y c (bc h)))
 ·unfold start
  show _=N.length
  rw[aV,aD,br]
  lia
theorem kG{CX:lq}{P:Program}{w:World}{K:PySem.W.Frag}{mg:Str->Option Value}{base:Heap}{k:Nat}{f:Addr}{name qual:Str}{params:Arguments}{body:List Stmt}{scope:Scope}{dV kV doc pm eE ct oc:Value}{an od:Option Addr}
 {lr:Array (Option Value)} {N ps:List Str} {sp:Sp} (lk:K.lookup f=some ⟨oc,od,.func (PySem.W.fnOf name qual params body scope dV kV doc pm an eE ct),lr⟩) (gR:PySem.W.codeIn K eE qual=true) (S:Qo N ps scope)
 (len:∀ vs H Q E,sp vs H Q E->vs.length=ps.length)
 (nr:∀(A:Around)(outer:List Env)(s:Shared)(H:Hp)(vs:List V)(Q:VK)(E:XK),Room k (A.deeper (envOfC qual scope s.heap.objs.size f eE))->sp vs H Q E->
  ∃ t,PSs (je CX P w K mg base N qual scope f eE A outer s H E) body t/\t { nx:=λ_ H'=>Q .non H',rt:=Q } (start N vs) H):
 FnOk P w K mg base CX (k+1) f (PySem.W.fnOf name qual params body scope dV kV doc pm an eE ct) ps sp:=by
 refine⟨len,λA outer s H args us vs Q E hr e0 hb r jC=>?_⟩
 have hl:=len _ _ _ _ jC
 have KX:=e0.mod.kin.keeps λb o e=>(e0.bs b o e).1
 have lim:=e0.mod.nolimit.keeps λb o e=>(e0.bs b o e).1
 have wU:∀ y∈ps.zip us,scope.names.lookup y.1=some .local∨(scope.names.lookup y.1=some .cell/\((cellsFrom (s.heap.objs.size+1) scope.names []).lookup y.1).isSome=true):=λ⟨n,v⟩ hy=>by
  rcases S.par n (cf hy).1 with q | q
  ·exact .inl q
  ·exact .inr ⟨q,PySem.W.cellsFrom_some _ _ _ (.inl q)⟩
 refine codeAny_call_function hr.depth (KX _ _ lk) rfl S.co S.gen rfl (PySem.W.codeRec_of KX gR) (hb _ _ _ _ ?_)
 refine wpAny_newFunctionEnv_cells S.kind wU λenv he s1 x=>?_
 subst he
 refine⟨lim.keeps x.toInCall.keep,codeAny_func ?_⟩
 obtain⟨t,ht,hq⟩:=nr A outer s H vs Q E (hr.deeper _) jC
 have I:Inv (je CX P w K mg base N qual scope f eE A outer s H E) [] (start N vs) H s1:=O5 S hr.hd e0 hl r x
 refine av (ht [] s1 (start N vs) H _ I hq) (λfl s' hs=>?_) λe s' hs=>hs
 have fin:∀{σ':St}{H':Hp}{v:V}{u:Value},Inv (je CX P w K mg base N qual scope f eE A outer s H E) [] σ' H' s'->RelV v u->Q v H'->CE outer P w H s Q u s':=
  λ{σ' H' v u} J rv q=>⟨v,H',J.os,J.bare,J.base,J.hok,rv,q⟩
 cases fl with
 | ret u=>
  obtain⟨v,σ',H',J,rv,q⟩:=hs
  exact fin J rv q
 | next=>
  obtain⟨σ',H',J,q⟩:=hs
  exact fin (v:=V.non) J rfl q
 | brk=>
  obtain⟨_,_,_,q⟩:=hs
  exact False.elim q
 | cont=>
  obtain⟨_,_,_,q⟩:=hs
  exact False.elim q
section
variable {id T:String}
def Dm(r:List V->Hp->VK->Prop)(t:TA):TE:=λσ H Q=>t σ H λvs H1=>r vs H1 Q
theorem Dp(hc:CallR X (.builtin id) r)(hg:Gl X x)(hm:X.mg x=none)(hv:bootBuiltins x=some (.builtin id))(ha:PA X (e::es) t)(hn:x≠"__name__":=by decide)(ij:(x == ("__debug__":Str))=false:=by decide)
 (he:starEach (e::es) X.env=(false,eval e X.env)::starEach es X.env:=by rfl) (fc:(backTo pos (starEach es X.env)).any (·.1)=false:=by rfl):PE X (.Call (.Name x p) (e::es) [] pos) (Dm r t):=by
 intro pins s σ H Q I h
 refine bJ (pB I hg hm hv ?_ hn ij)
 exact PyProof.Rows.callWith_builtin1 (ef (ha pos pins s σ H _ I h) λus s1 dm=>by obtain⟨vs,H1,I1,r1,q1⟩:=dm;exact hc pins s1 σ H1 vs us Q I1 r1 q1) he fc
theorem J7(hc:CallR X (.type T) r)(hg:Gl X x)(hm:X.mg x=none)(hv:bootBuiltins x=some (.type T))(ha:PA X (e::es) t)(hn:x≠"__name__":=by decide)(ij:(x == ("__debug__":Str))=false:=by decide)
 (he:starEach (e::es) X.env=(false,eval e X.env)::starEach es X.env:=by rfl) (fc:(backTo pos (starEach es X.env)).any (·.1)=false:=by rfl):PE X (.Call (.Name x p) (e::es) [] pos) (Dm r t):=by
 intro pins s σ H Q I h
 refine bJ (pB I hg hm hv ?_ hn ij)
 exact bE (ef (ha pos pins s σ H _ I h) λus s1 dm=>by obtain⟨vs,H1,I1,r1,q1⟩:=dm;exact hc pins s1 σ H1 vs us Q I1 r1 q1) he fc
end
end L2
namespace HT
open PySem PyProof.Rows
section
open PySem.SeqAt
open PySem.AutoSeq1 (wpAny_loadPart')
open PySem.MeetsSeq PySem.MeetsSeq2 PySem.MeetsSeq3
end
noncomputable def sIx(n d:Nat):Option Int->Nat
 | none=>d
 | some v=>if v<0 then(v+(n:Int)).toNat else min v.toNat n
theorem sIx_none(n d:Nat):sIx n d none=d:=rfl
theorem sIx_nat(n d k:Nat):sIx n d (some (k:Int))=min k n:=by
 show(if (k:Int)<0 then((k:Int)+(n:Int)).toNat else min (k:Int).toNat n)=min k n
 rw[aB (by omega),ax]
end HT
namespace L2
open PySem PySem.Spec PyProof.Rows
abbrev TO:=St->Hp->(Option Int->Hp->Prop)->Prop
def PO(X:Cx)(e:Option Expr)(t:TO):Prop:=
 ∀(pins:List (Addr×Obj))(s:Shared)(σ:St)(H:Hp)(Q:Option Int->Hp->Prop),Inv X pins σ H s->t σ H Q->
  wpAny (model X.prog X.w) X.A (evalPart e X.env) (λu s'=>∃ o H',Inv X pins σ H' s'/\IsPart u o/\Q o H') X.xe s
def O6:TO:=λ_ H Q=>Q none H
def wV(t:TE):TO:=λσ H Q=>t σ H λx H1=>∃ i,x=.int i/\Q (some i) H1
section
variable {lo hi:Option Expr}
theorem O7:PO X none O6:=by
 intro pins s σ H Q I h
 rw[evalPart_none]
 exact aX ⟨none,H,I,.none,h⟩
theorem O8(h:PE X e te):PO X (some e) (wV te):=by
 intro pins s σ H Q I hw
 rw[evalPart_some]
 refine ef (h pins s σ H _ I hw) λu s1 dm=>?_
 obtain⟨x,H1,I1,r1,q1⟩:=dm
 obtain⟨i,rfl,q⟩:=q1
 obtain⟨t,rfl⟩:=r1
 exact⟨some i,H1,I1,.int i t,q⟩
def J8(X:Cx)(r:V->Option Int->Option Int->Hp->VK->Prop):Prop:=
 ∀(pins:List (Addr×Obj))(s:Shared)(σ:St)(H:Hp)(x:V)(v vl vu:Value)(lo hi:Option Int)(sl:Addr)(Q:VK),Inv X pins σ H s->RelV x v->s.heap.IsSliceOf sl vl vu .none->IsPart vl lo->IsPart vu hi->r x lo hi H Q->
  ∃ T id,typeLookup (.type T) "__getitem__"=pure (some (.builtin id))/\s.TypeIs v T/\wpAny (model X.prog X.w) X.A (getItem v (.ref sl)) (EP X pins σ Q) X.xe s
def O9(r:V->Option Int->Option Int->Hp->VK->Prop)(te:TE)(tl th:TO):TE:=λσ H Q=>te σ H λx H1=>tl σ H1 λl H2=>th σ H2 λu H3=>r x l u H3 Q
theorem OA(hr:J8 X r)(he:PE X e te)(hl:PO X lo tl)(hu:PO X hi th):PE X (.Subscript e (.Slice lo hi none p2) pos) (O9 r te tl th):=by
 intro pins s σ H Q I h
 refine Subscript_ (ef (he pins s σ H _ I h) λv s1 dm=>?_)
 obtain⟨x,H1,I1,r1,q1⟩:=dm
 refine wpAny_Slice (ef (hl pins s1 σ H1 _ I1 q1) λvl s2 ⟨l,H2,I2,pl,q2⟩=>ef (hu pins s2 σ H2 _ I2 q2) λvu s3 dm=>?_)
 obtain⟨u,H3,I3,pu,q3⟩:=dm
 rw[evalPart_none]
 refine aX ?_
 have I4:Inv X pins σ H3 { s3 with heap:=s3.heap.push { cls:=.type "slice",data:=.fields #[vl,vu,.none] } }:=I3.kept (t':=s3.toks) λb ob q=>aI _ q
 obtain⟨T,id,hT,ht,hg⟩:=hr pins { s3 with heap:=s3.heap.push { cls:=.type "slice",data:=.fields #[vl,vu,.none] } } σ H3 x v vl vu l u s3.heap.objs.size Q I4 r1 (Heap.IsSliceOf.new ..) pl pu q3
 show wpAny (model X.prog X.w) X.A (subscriptTail e (.Slice lo hi none p2) v (.ref s3.heap.objs.size)) (EP X pins σ Q) X.xe { s3 with heap:=s3.heap.push { cls:=.type "slice",data:=.fields #[vl,vu,.none] } }
 exact tail_any (ops:=[.ref s3.heap.objs.size,v]) ht hT hg (by with_unfolding_all rfl)
def nu(xs:List V)(lo hi:Option Int):List V:=(xs.drop (HT.sIx xs.length 0 lo)).take (HT.sIx xs.length xs.length hi - HT.sIx xs.length 0 lo)
theorem OB(xs:List V)(lo hi:Option Int):(nu xs lo hi).length<=xs.length:=by
 unfold nu
 rw[bK,c9]
 lia
end
noncomputable def kW(n:Nat)(i:Int):Option Nat:=if 0<=i then(if i<n then some i.toNat else none) else if -(n:Int)<=i then some (i+n).toNat else none
def jW{α:Type}(xs:List α)(i:Int):Option α:=(kW xs.length i).bind λj=>xs[j]?
theorem J9(h:kW n i=some j):seqIndex? i n=some j/\j<n /\ -(n:Int)<=i/\i<n:=by
 unfold kW at h
 by_cases h0:0<=i
 ·rw[aA h0]at h
  by_cases h1:i<n
  ·rw[aA h1]at h
   have e:i.toNat=j:=ag h
   exact⟨by rw[seqIndex_of h0 h1,e],by omega,by omega,h1⟩
  ·rw[aB h1]at h;cases h
 ·rw[aB h0]at h
  by_cases h1 : -(n:Int)<=i
  ·rw[aA h1]at h
   have e:(i+n).toNat=j:=ag h
   exact⟨by rw[seqIndex_neg (by omega) h1,e],by omega,h1,by omega⟩
  ·rw[aB h1]at h;cases h
theorem Dq(h:jW xs i=some v):∃ j,seqIndex? i xs.length=some j/\xs[j]?=some v/\j<xs.length /\ -(xs.length:Int)<=i/\i<xs.length:=by
 unfold jW at h
 cases e:kW xs.length i with
 | none=>rw[e]at h;cases h
 | some j=>
  rw[e]at h
  obtain⟨h1,h2,h3,h4⟩:=J9 e
  exact⟨j,h1,h,h2,h3,h4⟩
theorem JA{α:Type}{xs:List α}{j:Nat}{v:α}(h:xs[j]?=some v):jW xs (j:Int)=some v:=by
 have hj:j<xs.length:=(aW.mp h).1
 have e:kW xs.length (j:Int)=some j:=by
  unfold kW
  rw[aA (by omega),aA (by omega)];simp
 unfold jW;rw[e];exact h
def A3(b:Expr):Prop:=∀ o i,subscripted b false o i=operate [o,i] (getItem o i)
def IxR(X:Cx)(r:R2):Prop:=
 ∀(value slice:Expr)(pins:List (Addr×Obj))(s:Shared)(σ:St)(H:Hp)(x y:V)(v u:Value)(Q:VK),Inv X pins σ H s->RelV x v->RelV y u->r x y H Q->
  subscripted slice false v u=operate [v,u] (getItem v u)->wpAny (model X.prog X.w) X.A (subscriptTail value slice v u) (EP X pins σ Q) X.xe s
def OC(X:Cx)(id:String)(r:V->List V->Hp->VK->Prop):Prop:=
 ∀(pins:List (Addr×Obj))(s:Shared)(σ:St)(H:Hp)(x:V)(xs:List V)(v:Value)(us:List Value)(Q:VK),Inv X pins σ H s->RelV x v->Vals xs us->r x xs H Q->
  wpAny (model X.prog X.w) X.A (call (.builtin id) (v::us)) (EP X pins σ Q) X.xe s
section
variable {pos:Pos}
theorem IxR.or{r r':R2}(h:IxR X r)(h':IxR X r'):IxR X (λx y H Q=>r x y H Q∨r' x y H Q):=by
 intro value slice pins s σ H x y v u Q I rx ry q hs
 rcases q with q | q
 ·exact h value slice pins s σ H x y v u Q I rx ry q hs
 ·exact h' value slice pins s σ H x y v u Q I rx ry q hs
theorem nv(hr:IxR X r)(ha:PE X a ta)(hb:PE X b tb)(hs:A3 b):PE X (.Subscript a b pos) (wF r ta tb):=by
 intro pins s σ H Q I h
 exact Subscript_ (t5 ha hb I h λv u s2 x y H2 I2 rx ry q=>hr a b pins s2 σ H2 x y v u Q I2 rx ry q (hs _ _))
def wW(K:PySem.W.Frag):R2:=λx y H Q=>∃ p xs i v,x=.ref p/\y=.int i/\SqL K H p xs/\jW xs i=some v/\Q v H
def wX(K:PySem.W.Frag):R2:=λx y H Q=>∃ p xs i v,x=.ref p/\y=.int i/\SqT K H p xs/\jW xs i=some v/\Q v H
def wY:R2:=λx y H Q=>∃ z i c,x=.str z/\y=.int i/\z.length<=sizeLine/\jW z.cps.toList i=some c/\Q (.str ⟨#[c]⟩) H
theorem Qxp:IxR X (wW X.K):=by
 intro value slice pins s σ H x y v u Q I rx ry h hs
 obtain⟨p,xs,i,z,rfl,rfl,hq,he,q⟩:=h
 cases rx
 obtain⟨t,rfl⟩:=ry
 obtain⟨its,r,pl,hz⟩:=I.list hq
 obtain⟨j,h1,h2,h3,h4,h5⟩:=Dq he
 obtain⟨w,ew,gJ⟩:=r.get h2
 have hl:=r.length
 have hn:=uU
 have fin:EP X pins σ Q w s:=⟨z,H,I,gJ,q⟩
 by_cases h0:0<=i
 ·have hj:i.toNat=j:=by
   rw[seqIndex_of h0 h5]at h1
   exact ag h1
  exact item_listR pl.isList h0 (by omega) (by rw[hj];simpa using ew) fin hs
 ·have hj:(i+(its.toArray.size:Int)).toNat=j:=by
   rw[seqIndex_neg (by omega) h4]at h1
   rw[aT, ← hl]
   exact ag h1
  exact subscriptTail_builtinR (x:=w) pl.isList.typeIs slot_list_getitem.lookup
   (wpAny_getItem_list_neg (Q:=λr s'=>r=w/\EP X pins σ Q r s') pl.isList (by omega) (by rw[aT]<;>omega) (by omega) (by rw[hj];simpa using ew) ⟨rfl,fin⟩) hs
theorem Qzq:IxR X (wX X.K):=by
 intro value slice pins s σ H x y v u Q I rx ry h hs
 obtain⟨p,xs,i,z,rfl,rfl,hq,he,q⟩:=h
 cases rx
 obtain⟨t,rfl⟩:=ry
 obtain⟨its,r,pl,hz⟩:=I.tuple hq
 obtain⟨j,h1,h2,h3,h4,h5⟩:=Dq he
 obtain⟨w,ew,gJ⟩:=r.get h2
 have hl:=r.length
 have hn:=uU
 have fin:EP X pins σ Q w s:=⟨z,H,I,gJ,q⟩
 exact subscriptTail_builtinR (x:=w) pl.typeIs slot_tuple_getitem.lookup
  (getItem_tuple (j:=j) (Q:=λr s'=>r=w/\EP X pins σ Q r s') pl (by omega) (by omega) (by rw[aT, ← hl];exact h1) (by simpa using ew) ⟨rfl,fin⟩) hs
theorem OD:IxR X wY:=by
 intro value slice pins s σ H x y v u Q I rx ry h hs
 obtain⟨z,i,c,rfl,rfl,hz,he,q⟩:=h
 obtain⟨t,rfl⟩:=rx
 obtain⟨t',rfl⟩:=ry
 obtain⟨j,h1,h2,h3,h4,h5⟩:=Dq he
 have hl:z.cps.toList.length=z.length:=by simp[Str.length]
 rw[hl]at h1 h4 h5
 have hn:=uU
 exact tail_any (typeIs_str s z t) slot_str_getitem.lookup (getItem_str (c:=c) (by
  have e1:decide (i < -(2 ^ 63:Int))=false:=aQ (by omega)
  have e2:decide (i ≥ 2 ^ 63)=false:=aQ (by omega)
  rw[e1,e2,Bool.or_false]) (by rw[h1];simpa using h2) ⟨.str ⟨#[c]⟩,H,I.tok _,⟨_,rfl⟩,q⟩) hs
def JB(K:PySem.W.Frag):R2:=λx y H Q=>wW K x y H Q∨wX K x y H Q∨wY x y H Q
theorem Dr:IxR X (JB X.K):=Qxp.or (Qzq.or OD)
theorem OE(its:List Value)(n j:Nat)(u:Value):Obj.mapSeq (·.setIfInBounds j u) { cls:=.type "list",data:=.seq its.toArray n }={ cls:=.type "list",data:=.seq (its.set j u).toArray n }:=by
 simp[Obj.mapSeq]
theorem Inv.lst{pins:List (Addr×Obj)}{σ:St}{H:Hp}{s:Shared}{p:Addr}{xs:List V}(I:Inv X pins σ H s)(h:H p=some (.lst xs)):
 ∃(its:List Value)(n:Nat),Vals xs its/\s.heap.get? p=some { cls:=.type "list",data:=.seq its.toArray n }/\xs.length<=sizeLine:=by
 obtain⟨z,its,n,r,e⟩:=I.hok p _ h
 exact⟨its,n,r,e,z⟩
theorem Inv.lstUpd{pins:List (Addr×Obj)}{σ:St}{H:Hp}{s:Shared}{p:Addr}{xs ys:List V}{its its':List Value}{n n':Nat}{f:Obj->Obj}(I:Inv X pins σ H s)(h:H p=some (.lst xs))
 (ho:s.heap.get? p=some { cls:=.type "list",data:=.seq its.toArray n }) (hf:f { cls:=.type "list",data:=.seq its.toArray n }={ cls:=.type "list",data:=.seq its'.toArray n' }) (r:Vals ys its') (hz:ys.length<=sizeLine) (t:Nat):
 Inv X pins σ (eT H p (.lst ys)) { s with heap:=s.heap.update p f,toks:=t }:=by
 have e:(s.heap.update p f).get? p=some { cls:=.type "list",data:=.seq its'.toArray n' }:=by
  rw[Heap.get?_update_self f ho (by rw[hf]<;>rfl),hf]
 refine I.write (x:=p) (e:=p) (by rw[h];trivial) (.inl rfl) (λb u hb q=>(Heap.get?_update_other _ _ (bR hb)).trans q) ⟨_,e⟩ ?_
 exact⟨hz,its',n',r,e⟩
def wZ:V->V->V->Hp->(Hp->Prop)->Prop:=λo i v H Q=>∃ p xs k j,o=.ref p/\i=.int k/\H p=some (.lst xs)/\kW xs.length k=some j/\Q (eT H p (.lst (xs.set j v)))
theorem JC:w9 X wZ:=by
 intro pins s σ H o i v ov iv u Q I ro ri rv h
 obtain⟨p,xs,k,j,rfl,rfl,hp,hj,q⟩:=h
 cases ro
 obtain⟨t,rfl⟩:=ri
 obtain⟨its,n,r,ho,hz⟩:=I.lst hp
 obtain⟨h1,h2,h3,h4⟩:=J9 hj
 have hl:=r.length
 have hn:=uU
 have I':Inv X pins σ (eT H p (.lst (xs.set j v))) { s with heap:=s.heap.update p (Obj.mapSeq (·.setIfInBounds j u)) }:=
  I.lstUpd hp ho (OE its n j u) (r.set rv j) (by rw[aw];exact hz) s.toks
 by_cases h0:0<=k
 ·have hk:k.toNat=j:=by
   rw[seqIndex_of h0 h4]at h1
   exact ag h1
  exact PySem.W.ki_setAt ho h0 (by omega) (by rw[aT, ← hl];exact h4) (by rw[hk];exact⟨_,I',q⟩)
 ·have hk:(k+(its.toArray.size:Int)).toNat=j:=by
   rw[seqIndex_neg (by omega) h3]at h1
   rw[aT, ← hl]
   exact ag h1
  exact PySem.W.ki_setBack ho (by omega) (by rw[aT, ← hl];exact h3) (by omega) (by rw[hk];exact⟨_,I',q⟩)
theorem OF(lo hi:Option Int)(n:Nat):(sliceBounds lo hi none n).1=((HT.sIx n 0 lo:Nat):Int)/\(sliceBounds lo hi none n).2.1=((HT.sIx n n hi:Nat):Int)/\(sliceBounds lo hi none n).2.2=1:=by
 refine⟨?_,?_,rfl⟩
 ·cases lo with
  | none=>simp[sliceBounds,HT.sIx]
  | some i=>
   simp only[sliceBounds,HT.sIx,Option.getD_none,show(1:Int) > 0 by decide,cv]
   by_cases h:i<0
   ·simp only[h,cv]<;>omega
   ·simp only[h,if_false]<;>omega
 ·cases hi with
  | none=>simp[sliceBounds,HT.sIx]
  | some i=>
   simp only[sliceBounds,HT.sIx,Option.getD_none,show(1:Int) > 0 by decide,cv]
   by_cases h:i<0
   ·simp only[h,cv]<;>omega
   ·simp only[h,if_false]<;>omega
theorem OG(its:List Value)(lo hi:Option Int):slicePick its.toArray lo hi none=((its.drop (HT.sIx its.length 0 lo)).take (HT.sIx its.length its.length hi - HT.sIx its.length 0 lo)).toArray:=by
 obtain⟨h1,h2,h3⟩:=OF lo hi its.toArray.size
 unfold slicePick
 rw[h1,h2,h3]
 simp only[sliceRange_one,pick_run,aT]<;>rfl
def Ds(K:PySem.W.Frag):V->Option Int->Option Int->Hp->VK->Prop:=λx lo hi H Q=>∃ a xs,x=.ref a/\SqL K H a xs/\∀ p,H p=none->Q (.ref p) (eT H p (.lst (nu xs lo hi)))
theorem OH:J8 X (Ds X.K):=by
 intro pins s σ H x v vl vu lo hi sl Q I rx hs pl pu h
 obtain⟨a,xs,rfl,hx,q⟩:=h
 cases rx
 obtain⟨its,r,ht,hz⟩:=I.list hx
 have hlen:=r.length
 refine⟨"list",_,slot_list_getitem.lookup,ht.isList.typeIs,?_⟩
 refine wpAny_getItem_list_slice ht.isList hs pl pu .none (by simp) ?_ (by rw[aT]<;>lia)
 rw[OG, ← hlen]
 refine⟨.ref s.heap.objs.size,_,I.laid (λb ob q=>aI _ q) (aJ _) ?_,rfl,q _ (I.hok.fresh (aJ _))⟩
 exact⟨b0 (OB xs lo hi) hz,_,0,(r.drop (HT.sIx xs.length 0 lo)).take (HT.sIx xs.length xs.length hi - HT.sIx xs.length 0 lo),af _ rfl⟩
noncomputable def iR:V->Bool
 | .non=>true
 | .bl _=>true
 | .int _=>true
 | .str _=>true
 | _=>false
noncomputable def pz:V->V->Bool
 | .non,.non=>true
 | .bl a,.bl b=>a == b
 | .bl a,.int b=>(if a then 1 else 0) == b
 | .int a,.bl b=>a == (if b then 1 else 0)
 | .int a,.int b=>a == b
 | .str a,.str b=>a == b
 | _,_=>false
theorem OI(ry:RelV y u)(rx:RelV x v)(fy:iR y=true)(fx:iR x=true):SeqAt.EqAt A s u v (pz y x):=by
 cases y with
 | non=>
  cases ry
  cases x with
  | non=>cases rx;exact SeqAt.EqAt.same _
  | bl b=>cases rx;exact SeqAt.EqAt.none_bool b
  | int b=>obtain⟨t,rfl⟩:=rx;exact SeqAt.EqAt.none_int b t
  | str b=>obtain⟨t,rfl⟩:=rx;exact SeqAt.EqAt.none_str b t
  | _=>exact absurd (fx) ak
 | bl a=>
  cases ry
  cases x with
  | non=>cases rx;exact SeqAt.EqAt.bool_none a
  | bl b=>cases rx;exact SeqAt.EqAt.bool_bool a b
  | int b=>obtain⟨t,rfl⟩:=rx;exact SeqAt.EqAt.bool_int a b t
  | str b=>obtain⟨t,rfl⟩:=rx;exact SeqAt.EqAt.bool_str a b t
  | _=>exact absurd (fx) ak
 | int a=>
  obtain⟨t',rfl⟩:=ry
  cases x with
  | non=>cases rx;exact SeqAt.EqAt.int_none a t'
  | bl b=>cases rx;exact SeqAt.EqAt.int_bool a t' b
  | int b=>obtain⟨t,rfl⟩:=rx;exact SeqAt.EqAt.int_int a t' b t
  | str b=>obtain⟨t,rfl⟩:=rx;exact SeqAt.EqAt.int_str a t' b t
  | _=>exact absurd (fx) ak
 | str a=>
  obtain⟨t',rfl⟩:=ry
  cases x with
  | non=>cases rx;exact SeqAt.EqAt.str_none a t'
  | bl b=>cases rx;exact SeqAt.EqAt.str_bool a t' b
  | int b=>obtain⟨t,rfl⟩:=rx;exact SeqAt.EqAt.str_int a t' b t
  | str b=>obtain⟨t,rfl⟩:=rx;exact SeqAt.EqAt.str_str a t' b t
  | _=>exact absurd (fx) ak
 | _=>exact absurd (fy) ak
def lu(x:V)(u:Value):Bool:=match u with
 | .none=>pz .non x
 | .bool b=>pz (.bl b) x
 | .int i _=>pz (.int i) x
 | .str z _=>pz (.str z) x
 | _=>false
theorem JD(r:RelV y u)(f:iR y=true):lu x u=pz y x:=by
 cases y with
 | non=>cases r;rfl
 | bl b=>cases r;rfl
 | int i=>obtain⟨t,rfl⟩:=r;rfl
 | str z=>obtain⟨t,rfl⟩:=r;rfl
 | _=>exact absurd (f) ak
theorem wa:∀{xs:List V}{us:List Value},Vals xs us->xs.all iR=true->us.any (lu x)=xs.any λy=>pz y x
 | _,_,.nil,_=>rfl
 | y::xs,u::us,.cons r t,f=>by
  rw[cF,aO]at f
  rw[cG,cG,JD r f.1,wa t f.2]
theorem wb(rx:RelV x v)(fx:iR x=true):∀{xs:List V}{us:List Value},Vals xs us->xs.all iR=true->∀ u∈us,SeqAt.EqAt A s u v (lu x u)
 | _,_,.nil,_=>λu hu=>by cases hu
 | y::xs,u::us,.cons r t,f=>λu' hu=>by
  rw[cF,aO]at f
  rcases aL.mp hu with rfl | hu
  ·rw[JD r f.1];exact OI r rx f.1 fx
  ·exact wb rx fx t f.2 u' hu
def jf(x:V)(xs:List V):Bool:=xs.any λy=>pz y x
def A4(K:PySem.W.Frag)(neg:Bool):R2:=λx y H Q=>∃ p xs,y=.ref p/\(SqL K H p xs∨SqT K H p xs)/\iR x=true/\xs.all iR=true/\Q (.bl (if neg then !jf x xs else jf x xs)) H
theorem OJ:OpR X (compareOp .In) (A4 X.K false):=by
 intro pins s σ H x y v u Q I rx ry h
 obtain⟨p,xs,rfl,hq,fx,fs,q⟩:=h
 cases ry
 rcases hq with hq | hq
 ·obtain⟨its,r,pl,hz⟩:=I.list hq
  refine SeqAt.in_listAt (lu x) pl.isList (λw hw=>wb rx fx r fs w (by simpa using hw)) ⟨.bl _,H,I,rfl,?_⟩
  rw[show its.toArray.any (lu x)=its.any (lu x) by simp,wa r fs]
  exact q
 ·obtain⟨its,r,pl,hz⟩:=I.tuple hq
  refine SeqAt.in_tupleAt (lu x) pl (λw hw=>wb rx fx r fs w (by simpa using hw)) ⟨.bl _,H,I,rfl,?_⟩
  rw[show its.toArray.any (lu x)=its.any (lu x) by simp,wa r fs]
  exact q
theorem OK:OpR X (compareOp .NotIn) (A4 X.K true):=by
 intro pins s σ H x y v u Q I rx ry h
 obtain⟨p,xs,rfl,hq,fx,fs,q⟩:=h
 cases ry
 rcases hq with hq | hq
 ·obtain⟨its,r,pl,hz⟩:=I.list hq
  refine SeqAt.notIn_listAt (lu x) pl.isList (λw hw=>wb rx fx r fs w (by simpa using hw)) ⟨.bl _,H,I,rfl,?_⟩
  rw[show its.toArray.any (lu x)=its.any (lu x) by simp,wa r fs]
  exact q
 ·obtain⟨its,r,pl,hz⟩:=I.tuple hq
  refine SeqAt.notIn_tupleAt (lu x) pl (λw hw=>wb rx fx r fs w (by simpa using hw)) ⟨.bl _,H,I,rfl,?_⟩
  rw[show its.toArray.any (lu x)=its.any (lu x) by simp,wa r fs]
  exact q
theorem QoC:CallR X (.builtin "len") (λxs H Q=>∃ p ys,xs=[.ref p]/\(SqL X.K H p ys∨SqT X.K H p ys)/\Q (.int ys.length) H):=by
 intro pins s σ H xs us Q I r h
 obtain⟨p,ys,rfl,hq,q⟩:=h
 obtain⟨u,rfl,rx⟩:=iQ r
 cases rx
 have hn:=uU
 rcases hq with hq | hq
 ·obtain⟨its,r',pl,hz⟩:=I.list hq
  have hlen:=r'.length
  exact Calls.call_len_list pl.isList (by simp only[aT]<;>omega) ⟨.int ys.length,H,I.tok _,⟨s.toks+1,by rw[aT,hlen]⟩,q⟩
 ·obtain⟨its,r',pl,hz⟩:=I.tuple hq
  have hlen:=r'.length
  exact len_tuple pl (by simp only[aT]<;>omega) ⟨.int ys.length,H,I.tok _,⟨s.toks+1,by rw[aT,hlen]⟩,q⟩
theorem OL:CallR X (.builtin "len") (λxs H Q=>∃ z,xs=[.str z]/\z.length<=sizeLine/\Q (.int z.length) H):=by
 intro pins s σ H xs us Q I r h
 obtain⟨z,rfl,hz,q⟩:=h
 obtain⟨u,rfl,t,rfl⟩:=iQ r
 have hn:=uU
 exact len_str (by omega) ⟨.int z.length,H,I.tok _,⟨_,rfl⟩,q⟩
theorem CallR.or(h:CallR X f r)(h':CallR X f r'):CallR X f (λxs H Q=>r xs H Q∨r' xs H Q):=by
 intro pins s σ H xs us Q I rs q
 rcases q with q | q
 ·exact h pins s σ H xs us Q I rs q
 ·exact h' pins s σ H xs us Q I rs q
theorem OM:CallR X (.type "list") (λxs H Q=>∃ p ys,xs=[.ref p]/\(SqL X.K H p ys∨SqT X.K H p ys)/\∀ l,H l=none->Q (.ref l) (eT H l (.lst ys))):=by
 intro pins s σ H xs us Q I r h
 obtain⟨p,ys,rfl,hq,q⟩:=h
 obtain⟨u,rfl,rx⟩:=iQ r
 cases rx
 have fin:∀(its:List Value),Vals ys its->ys.length<=sizeLine->∀(h':Heap)(c':Nat),(∀ b o',s.heap.get? b=some o'->h'.get? b=some o')->
  h'.get? s.heap.objs.size=some { cls:=.type "list",dict:=none,data:=.seq its.toArray c',slots := #[] }->EP X pins σ Q (.ref s.heap.objs.size) { s with heap:=h' }:=λits r' hz h' c' kp e=>
  ⟨.ref s.heap.objs.size,_,I.laid (t':=s.toks) kp (aJ _) (show ObjOk X.prog X.w _ h' _ (.lst ys) from⟨hz,its,c',r',e⟩),rfl,q _ (I.hok.fresh (aJ _))⟩
 rcases hq with hq | hq
 ·obtain⟨its,r',pl,hz⟩:=I.list hq
  have hlen:=r'.length
  obtain⟨o,ho,hc,n,hd⟩:=pl.isList
  exact call_list_seq p (.inl rfl) ho hc hd (λh' c' kp e=>fin its r' hz h' c' kp e) (by simp only[aT]<;>omega)
 ·obtain⟨its,r',pl,hz⟩:=I.tuple hq
  have hlen:=r'.length
  obtain⟨o,ho,hc,n,hd⟩:=pl
  exact call_list_seq p (.inr rfl) ho hc hd (λh' c' kp e=>fin its r' hz h' c' kp e) (by simp only[aT]<;>omega)
def JE(K:PySem.W.Frag)(T:String)(x:V)(H:Hp):Prop:=match x with
 | .str _=>T="str"
 | .int _=>T="int"
 | .ref p=>(T="list"/\∃ xs,SqL K H p xs)∨(T="tuple"/\∃ o,K.lookup p=some o/\o.cls=.type "tuple"/\o.dict=none)∨
  (T="dict"/\((∃ kvs,H p=some (.dK kvs))∨∃ kvs,H p=some (.dT kvs)))∨(T="set"/\∃ S n,H p=some (.set S n))
 | _=>False
theorem ON(I:Inv X pins σ H s)(r:RelV x v)(ty:JE X.K T x H):
 s.TypeIs v T/\∀ a,v=.ref a->∃ ob,s.heap.get? a=some ob/\ob.dict=none:=by
 cases x with
 | str z=>
  obtain⟨t,rfl⟩:=r
  cases (show T="str" from ty)
  exact⟨typeIs_str s z t,λ_ e=>nomatch e⟩
 | int i=>
  obtain⟨t,rfl⟩:=r
  cases (show T="int" from ty)
  exact⟨typeIs_int s i t,λ_ e=>nomatch e⟩
 | ref p=>
  cases r
  rcases ty with⟨rfl,xs,hq⟩ | ⟨rfl,o,hk,hc,hd⟩ | ⟨rfl,hk⟩ | ⟨rfl,S,n,hk⟩
  ·obtain⟨its,_,pl,_⟩:=I.list hq
   refine⟨pl.isList.typeIs,λa e=>?_⟩
   cases e
   obtain⟨o,n,e,c,hd,_⟩:=pl
   exact⟨o,e,hd⟩
  ·refine⟨⟨o,I.kIn p o hk,hc⟩,λa e=>?_⟩
   cases e
   exact⟨o,I.kIn _ o hk,hd⟩
  ·have z:∃ o,s.heap.get? p=some o/\o.ExactDict:=by
    rcases hk with⟨kvs,hk⟩ | ⟨kvs,hk⟩
    ·obtain⟨_,_,_,_,o,_,_,e,ex,_⟩:=I.hok p _ hk
     exact⟨o,e,ex⟩
    ·obtain⟨_,_,_,_,o,_,_,e,ex,_⟩:=I.hok p _ hk
     exact⟨o,e,ex⟩
   obtain⟨o,e,ex⟩:=z
   refine⟨⟨o,e,ex.1⟩,λa e2=>?_⟩
   cases e2
   exact⟨o,e,ex.2.1⟩
  ·obtain⟨o,_,_,_,e,ex,_⟩:=I.hok p _ hk
   refine⟨⟨o,e,ex.1⟩,λa e2=>?_⟩
   cases e2
   exact⟨o,e,ex.2.1⟩
 | _=>exact False.elim ty
def OO(K:PySem.W.Frag)(T:String)(r:V->List V->Hp->VK->Prop)(to:TE)(t:TA):TE:=λσ H Q=>to σ H λx H1=>JE K T x H1/\t σ H1 λxs H2=>r x xs H2 Q
variable {T id:String}
theorem qx(pa:PlainAttrs T)(slot:Slot T name id)(OP:typeOf (.builtin id)=pure (.type "method_descriptor"))(hm:OC X id r)(ho:PE X o to)(ha:PA X (e::es) t)
 (ik:attributeBase o name X.env (eval o X.env)=eval o X.env:=by rfl)
 (l6:((backTo cpos (starEach (e::es) X.env)).all (λx => !x.1)&&(backToKw cpos (keywordEach [] X.env)).all (λx=>x.1.isSome)
  && decide ((e::es).length+([]:List Keyword).length+(if ([]:List Keyword).isEmpty then 0 else 1)<30))=true:=by rfl)
 (jg:(apos.endLine == cpos.line)=true:=by rfl) (hs:starEach (e::es) X.env=(false,eval e X.env)::starEach es X.env:=by rfl) (jh:(backTo cpos (starEach es X.env)).any (·.1)=false:=by rfl):
 PE X (.Call (.Attribute o name apos) (e::es) [] cpos) (OO X.K T r to t):=by
 intro pins s σ H Q I h
 refine wpAny_Call_method_late ik l6 jg rfl (ef (ho pins s σ H _ I h) λv s1 dm=>?_)
 obtain⟨x,H1,I1,r1,ty,q1⟩:=dm
 obtain⟨h1,h2⟩:=ON I1 r1 ty
 refine⟨T,id,pa,slot,OP,h1,h2,?_⟩
 have hA:=ha cpos pins s1 σ H1 _ I1 q1
 rw[hs]at hA ⊢
 refine Calls.callWith_builtin (by show(false||(backTo cpos (starEach es X.env)).any (·.1))=false;rw[jh]<;>rfl) (Calls.evalArgs_plain ?_)
 exact ef hA λus s2 dm=>by obtain⟨vs,H2,I2,r2,q2⟩:=dm;exact hm pins s2 σ H2 x vs v us Q I2 r1 r2 q2
end
def JF(X:Cx)(id:String)(r:V->List V->Hp->VK->Prop):Prop:=
 ∀(pins:List (Addr×Obj))(s:Shared)(σ:St)(H:Hp)(x:V)(xs:List V)(v:Value)(us:List Value)(Q:VK),Inv X pins σ H s->RelV x v->Vals xs us->r x xs H Q->
  wpAny (model X.prog X.w) X.A (call (.builtin id) (v::us)) (EP X pins σ Q) X.xe s
theorem Vals.one:∀{x:V}{us:List Value},Vals [x] us->∃ u,us=[u]/\RelV x u
 | _,_,.cons r .nil=>⟨_,rfl,r⟩
theorem Vals.reverse{xs:List V}{us:List Value}(h:Vals xs us):Vals xs.reverse us.reverse:=by
 induction h with
 | nil=>exact .nil
 | cons r t ih=>rw[d7,d7];exact Vals.append ih (.cons r .nil)
theorem Vals.rep(h:Vals xs us):∀ k:Nat,Vals (List.replicate k xs).flatten (List.replicate k us).flatten
 | 0=>.nil
 | k+1=>by
  rw[bS,bS,bx,bx]
  exact Vals.append h (Vals.rep h k)
theorem JG(its:List Value):∀(k:Nat)(acc:List Value),
 List.foldl (λx1 x2=>x1++x2) acc.toArray (List.replicate k its.toArray)=(acc++(List.replicate k its).flatten).toArray
 | 0,acc=>by simp
 | k+1,acc=>by
  have e:acc.toArray++its.toArray=(acc++its).toArray:=by simp
  have e2:(acc++its)++(List.replicate k its).flatten=acc++(List.replicate (k+1) its).flatten:=by
   rw[bS,bx,List.append_assoc]
  rw[← e2, ← JG its k (acc++its), ← e,bS,List.foldl_cons]
theorem Inv.lset{its its':List Value}{n:Nat}{f:Array Value->Array Value}{t':Nat}(I:Inv X pins σ H s)(hH:H l=some (.lst xs))
 (e:s.heap.get? l=some { cls:=.type "list",data:=.seq its.toArray n }) (hf:f its.toArray=its'.toArray) (hv:Vals ys its') (hz:ys.length<=sizeLine):
 Inv X pins σ (eT H l (.lst ys)) { s with heap:=s.heap.update l (Obj.mapSeq f),toks:=t' }:=by
 have q:=PySem.IsL.update e f
 rw[hf]at q
 refine I.write (x:=l) (e:=l) (by rw[hH];exact trivial) (.inl rfl) (λb' u hb hu=>(Heap.get?_update_other s.heap (Obj.mapSeq f) (bR hb)).trans hu) ⟨_,q⟩ ?_
 exact⟨hz,its',_,hv,q⟩
theorem Inv.lnew(I:Inv X pins σ H s)(hv:Vals ys its)(hz:ys.length<=sizeLine):
 Inv X pins σ (eT H s.heap.objs.size (.lst ys)) { s with heap:=s.heap.push { cls:=.type "list",data:=.seq its.toArray },toks:=t' }:=
 I.laid (λ_ _ q=>aI _ q) (aJ _) ⟨hz,its,0,hv,af _ rfl⟩
theorem Inv.fresh(I:Inv X pins σ H s):H s.heap.objs.size=none:=I.hok.fresh (aJ _)
theorem Inv.lstM(I:Inv X pins σ H s)(hH:H l=some (.lst xs)):xs.length<=sizeLine/\∃(its:List Value)(n:Nat),Vals xs its/\xs.length=its.length/\s.heap.get? l=some { cls:=.type "list",data:=.seq its.toArray n }:=by
 obtain⟨z,its,n,r,e⟩:=I.hok l _ hH
 exact⟨z,its,n,r,r.length,e⟩
theorem JH{n:Nat}(h:n<=sizeLine):Builtin.List.listTooLong n=false:=by
 unfold Builtin.List.listTooLong
 exact aQ (by omega)
def OQ:V->List V->Hp->VK->Prop:=λx vs H Q=>∃ l xs y,x=.ref l/\vs=[y]/\H l=some (.lst xs)/\xs.length<sizeLine/\Q .non (eT H l (.lst (xs++[y])))
theorem JI:JF X "list.append" OQ:=by
 intro pins s σ H x vs v us Q I rx rv h
 obtain⟨l,xs,y,rfl,rfl,hH,hz,q⟩:=h
 cases rx
 obtain⟨u,rfl,ru⟩:=rv.one
 obtain⟨z,its,n,r,hl,e⟩:=I.lstM hH
 refine call_meets F.slot_list_append ⟨_,e,rfl⟩ F.entry_list_append (F.args_list_append_2 _ _) (PySem.list_append l its.toArray n u (by rw[aT];lia)) ⟨e,?_⟩
 refine⟨.non,_,I.lset hH e (by simp) (r.append (.cons ru .nil)) ?_,rfl,q⟩
 rw[aV,List.length_singleton]
 lia
def OR:V->List V->Hp->VK->Prop:=λx vs H Q=>∃ l b xs zs,x=.ref l/\vs=[.ref b]/\H l=some (.lst xs)/\H b=some (.lst zs)/\xs.length+zs.length<=sizeLine/\Q .non (eT H l (.lst (xs++zs)))
theorem OS:JF X "list.extend" OR:=by
 intro pins s σ H x vs v us Q I rx rv h
 obtain⟨l,b,xs,zs,rfl,rfl,hH,hB,hz,q⟩:=h
 cases rx
 obtain⟨u,rfl,ru⟩:=rv.one
 cases ru
 obtain⟨z,its,n,r,hl,e⟩:=I.lstM hH
 obtain⟨z2,its2,n2,r2,A5,e2⟩:=I.lstM hB
 have pq:its.toArray.size+its2.toArray.size<=sizeLine:=by rw[aT,aT];lia
 have ny:¬ (!its.toArray.isEmpty&&Builtin.List.listTooLong (its.toArray.size+its2.toArray.size))=true:=by
  rw[JH pq,Bool.and_false]
  exact ak
 refine call_meets F.slot_list_extend ⟨_,e,rfl⟩ F.entry_list_extend (F.args_list_extend_2 _ _)
  (AutoSeq1.list_extend_list_list_0 l its.toArray n b its2.toArray n2 ny (by rw[aT];lia) (by lia)) ⟨e,e2,?_⟩
 refine⟨.non,_,I.lset hH e (by simp) (r.append r2) ?_,rfl,q⟩
 rw[aV]
 lia
def Dt:R2:=λx y H Q=>∃ l k xs,x=.ref l/\y=.int k/\H l=some (.lst xs) /\ -(2 ^ 63)<=k/\k<2 ^ 63/\xs.length * k.toNat<=sizeLine/\
 ∀ p,H p=none->Q (.ref p) (eT H p (.lst (List.replicate k.toNat xs).flatten))
theorem OT(xs:List α)(k:Nat):(List.replicate k xs).flatten.length=k * xs.length:=by
 induction k with
 | zero=>simp
 | succ k ih=>rw[bS,bx,aV,ih,Nat.succ_mul,Nat.add_comm]
theorem OU:OpR X (binaryOp .Mult) Dt:=by
 intro pins s σ H x y v u Q I rx ry h
 obtain⟨l,k,xs,rfl,rfl,hH,h1,h2,hz,q⟩:=h
 cases rx
 obtain⟨t,rfl⟩:=ry
 obtain⟨z,its,n,r,hl,e⟩:=I.lstM hH
 have hlen:its.toArray.size * k.toNat<=sizeLine:=by rw[aT, ← hl];exact hz
 have Du:¬ its.toArray.size * k.toNat > (2 ^ 63 - 1) / 8:=by
  have:sizeLine<=(2 ^ 63 - 1) / 8:=by decide
  lia
 have Dv:¬ (!Builtin.List.listFitsIndex k)=true:=by
  rw[fitsIndex_both h1 h2]
  exact ak
 have ny:¬ Builtin.List.listTooLong (its.toArray.size * k.toNat)=true:=by
  rw[JH hlen]
  exact ak
 have Dw:List.foldl (λx1 x2=>x1++x2) #[] (List.replicate (if its.toArray.isEmpty=true then 0 else k.toNat) its.toArray)=(List.replicate k.toNat its).flatten.toArray:=by
  have f0:=λm=>by
   have:=JG its m []
   rw[cg]at this
   exact this
  rw[f0]
  cases its with
  | nil=>simp
  | cons a r'=>rw[aB (by simp)]
 refine wpAny_binaryOp_repeat_ref (by decide) ⟨_,e,rfl⟩ (λs'=>typeIs_int s' k t) noFill_list_mul F.fills_int_mul F.slot_int_rmul repeat_list F.slot_int_index.lookup
  (call_meets F.slot_int_rmul (typeIs_int s k t) F.entry_int_rmul (F.args_int_rmul_2 _ _) (int___rmul___int_list k t l its.toArray n)
   ⟨e,rfl,⟨_,e,rfl⟩,call_meets F.slot_list_mul ⟨_,e,rfl⟩ F.entry_list_mul (F.args_list_mul_2 _ _) (AutoListH.list___mul___list_int_3 l its.toArray n k t Dv Du ny) ⟨e,?_⟩⟩)
 rw[Dw]
 exact⟨.ref _,_,I.lnew (r.rep k.toNat) (by rw[OT,Nat.mul_comm];exact hz),rfl,q _ I.fresh⟩
end L2
namespace Att
open PySem PySem.W PySem.Calls PyProof.Rows
theorem OV{P:Params}{h:Heap}:∀(ns:List Int)(vs:List Value),WellAll P h vs (ns.map WData.int)->IntsAre vs ns:=by
 intro ns
 induction ns with
 | nil=>
  intro vs w
  rw[List.map_nil]at w
  cases w
  exact .nil
 | cons n ns ih=>
  intro vs w
  rw[aj]at w
  cases w with
  | cons a b=>
   cases a
   exact .cons _ _ (ih _ b)
theorem script_of{l:OpenLaw}{n:Nat}(hn:l.most=some n){P:Params}{h:Heap}{args:List WData}{vals:List Value}
 (qA:l.row.toRowW.claim.pre args=true) (Dx:WellAll P h vals args):
 ∃ a vs ns,vals=[Value.ref a]/\args=[WData.list (ns.map WData.int)]/\h.get? a=some { cls:=.type "list",data:=.seq vs.toArray }/\IntsAre vs ns/\ns.length<=n:=by
 have OW:WShape.hasAll [] args [.list .int]=true:=(pre_splitW qA).1
 have hc:l.pre.holds [] { args:=args }=true:=(pre_splitW qA).2
 obtain⟨d,r,rfl,h1,h2⟩:=hasAllW_cons OW
 obtain rfl:=hasAllW_nil h2
 obtain⟨xs,rfl,h3⟩:=hasW_list h1
 obtain⟨ns,rfl⟩:=items_int h3
 have hlen:ns.length<=n:=by
  unfold OpenLaw.pre at hc
  have h4:(WTm.not (.lt (.lit (.int (n:Int))) (.len (.arg 0)))).holds [] { args:=[.list (ns.map .int)] }=true:=by
   have h4:=(holds_andW hc).1
   rw[hn]at h4
   exact h4
  have h5:=condW_of h4 (w_not (w_lt w_lit (w_len_list (w_arg rfl))))
  rw[aD]at h5
  refine Nat.le_of_not_lt λq=>?_
  have q':(n:Int)<((ns.length:Nat):Int):=by omega
  first
   | (rw[aF q']at h5;exact absurd h5 (by decide))
   | (simp at h5;omega)
 cases Dx with
 | cons w1 w2=>
  cases w2
  cases w1 with
  | list ho hall=>exact⟨_,_,ns,rfl,rfl,ho,OV ns _ hall,hlen⟩
theorem post_true(l:OpenLaw)(args:List WData):l.row.toRowW.claim.post args (.bool true) args=true:=
 postW_of
  (by first | rfl | decide | simp[WShape.has,WShape.arms,WShape.armsAll])
  (w_eq_bool (w_res rfl) w_lit) rfl
section
variable {K:Frag}
end
end Att
namespace L2
open PySem PySem.Spec PyProof.Rows
theorem JJ:∀{vs:List Value}{ns:List Int},IntsAre vs ns->Vals (ns.map V.int) vs
 | _,_,.nil=>.nil
 | _,_,.cons n t h=>.cons ⟨t,rfl⟩ (JJ h)
def t8(H:Hp):Prop:=∀ b,H b=none∨∃ o xs,H b=some (.frz o (.lst xs))
theorem OX{P:Program}{w:World}{K:PySem.W.Frag}{mg mb:Str->Option Value}{CX:lq}{k:Nat}{fa a:Addr}{fd:FuncData}{x:Str}{sp:Sp}{s₁:Shared}{vs:List Value}{ns:List Int}
 (KX:K.In s₁.heap) (JK:s₁.heap.Ns mainGlobals mg) (hb:s₁.heap.Ns builtinsNs mb) (OY:∀ x:Str,x≠"__name__"->mb x=bootBuiltins x) (Dy:s₁.heap.NoLimit) (hg:s₁.gens = #[])
 (ha:s₁.heap.get? a=some { cls:=.type "list",data:=.seq vs.toArray }) (hi:IntsAre vs ns) (hl:ns.length<=sizeLine) (hr:Room k callerA)
 (F:∀ base:Heap,K.In base->base.Ns mainGlobals mg->FnOk P w K mg base CX k fa fd [x] sp) (wc:∀(s:Shared)(u:Value),BindsTo s fd ⟨[u],[]⟩ [(x,u)])
 (jC:∀ H:Hp,t8 H->SqL K H a (ns.map V.int)->sp [.ref a] H (λv _=>v=.bl true) λ_ _ _=>False)
 (Dz:∀ H e s',CX [] H s₁ (λ_ _ _=>False) e s'->False):
 codeAny (model P w) callerA (.call (.ref fa) ⟨[.ref a],[]⟩) (λr s'=>r=.ok (.ret (.bool true))/\OldK s₁.heap s'.heap/\s'.os=s₁.os/\AllBare s'.gens) s₁:=by
 have rv:=JJ hi
 have E1:=hi.length
 have core:∀ H:Hp,t8 H->SqL K H a (ns.map V.int)->HOk P w H s₁.heap->(∀ b,H b≠none->b=a)->(H a≠none->K.lookup a=none)->
  codeAny (model P w) callerA (.call (.ref fa) ⟨[.ref a],[]⟩) (λr s'=>r=.ok (.ret (.bool true))/\OldK s₁.heap s'.heap/\s'.os=s₁.os/\AllBare s'.gens) s₁:=by
  intro H hO hS hok hA hK
  have mJ:∀{b:Addr}{o:Obj},s₁.heap.get? b=some o->H b=none->(kU s₁.heap H).get? b=some o:=λe n=>Mt e n
  have wR:∀{b:Addr}{o:Obj}{es:Array DictEntry}{ep:Nat},s₁.heap.get? b=some o->o.data=.dict es ep->H b=none:=λ{b o es ep} e d=>by
   cases q:H b with
   | none=>rfl
   | some u=>
    have e':b=a:=hA b (by rw[q];simp)
    subst e'
    rw[ha]at e;cases e
    have d':Data.seq vs.toArray _=Data.dict es ep:=d
    cases d'
  have A6:∀{b:Addr}{m:Str->Option Value},s₁.heap.Ns b m->(kU s₁.heap H).Ns b m:=λ{b m} dm=>by obtain⟨o,es,ep,e,d,r⟩:=dm;exact⟨o,es,ep,mJ e (wR e d),d,r⟩
  have JL:K.In (kU s₁.heap H):=λb o e=>mJ (KX b o e) (by
   cases q:H b with
   | none=>rfl
   | some u=>
    have e':b=a:=hA b (by rw[q];simp)
    subst e'
    rw[hK (by rw[q];simp)]at e;cases e)
  have hM:Mod K mg (kU s₁.heap H):=⟨JL,A6 JK,⟨mb,A6 hb,OY⟩,let ⟨mc,h1,h2⟩:=Dy;⟨mc,A6 h1,h2⟩⟩
  have e0:Env0 P w K mg (kU s₁.heap H) callerA [] s₁ H:=⟨rfl,hM,λb o e=>Mu e,Nat.le_of_eq (Ms _ _),trivial,λb hb=>absurd (show b∈([]:List Addr) from hb) (by simp),hok,.of_eq hg⟩
  refine cU ((F _ JL (A6 JK)).run callerA [] s₁ H ⟨[.ref a],[]⟩ [.ref a] [.ref a] _ _ hr e0 (wc s₁ (.ref a)) (.cons rfl .nil) (jC H hO hS)) λr s' h=>?_
  cases r with
  | error e=>exact(Dz H e s' h).elim
  | ok fl=>
   cases fl with
   | next=>exact False.elim h
   | brk=>exact False.elim h
   | cont=>exact False.elim h
   | ret u=>
    obtain⟨v,H',os,bare,un,hok',r',q⟩:=h
    have q':v=.bl true:=q
    subst q'
    obtain rfl:u=Value.bool true:=r'
    refine⟨rfl,OldK.of_keep λb o e=>?_,os,bare⟩
    cases q:H b with
    | none=>exact un.keep b o e q (by intro z;exact absurd (show b∈([]:List Addr) from z) (by simp)) (by simp)
    | some u=>
     rcases hO b with z | ⟨ob,xs,z⟩
     ·rw[q]at z;cases z
     ·have z2:=un.frzs b ob _ z
      obtain⟨e1,_⟩:=hok b _ z
      obtain⟨e2,_⟩:=hok' b _ z2
      rw[e]at e1;cases e1
      exact e2
 cases hk:K.lookup a with
 | some o=>
  have e:=KX a o hk
  rw[ha]at e
  cases e
  refine core (λ_=>none) (λ_=>.inl rfl) (.inr ⟨_,vs.toArray,_,hk,rfl,rfl,rfl,by rw[aT,E1];exact hl,by simpa using rv⟩) (λb u z=>by have z':(none:Option HO)=some u:=z;cases z') (λb z=>absurd rfl z) λz=>absurd rfl z
 | none=>
  refine core (λb=>if b=a then some (.frz { cls:=.type "list",data:=.seq vs.toArray } (.lst (ns.map V.int))) else none) (λb=>?_) (.inl (.inr ⟨{ cls:=.type "list",data:=.seq vs.toArray },aA rfl⟩)) (λb u z=>?_) (λb z=>?_) λ_=>hk
  ·by_cases hb:b=a
   ·exact .inr ⟨_,_,aA hb⟩
   ·exact .inl (aB hb)
  ·by_cases hb:b=a
   ·have z':=(aA hb).symm.trans z
    cases z'
    subst hb
    exact⟨ha,by rw[aD];exact hl,vs,_,rv,ha⟩
   ·have z':=(aB hb).symm.trans z
    cases z'
  ·by_cases hb:b=a
   ·exact hb
   ·exact absurd (aB hb) z
noncomputable def qy(s:Stmt):Arguments:=match s with
 | .FunctionDef _ a _ _ _ _ _ _ _ _=>a
 | _=>{ posonlyargs:=[],args:=[],vararg:=none,kwonlyargs:=[],kw_defaults:=[],kwarg:=none,defaults:=[] }
noncomputable def mL(s:Stmt):List Stmt:=match s with
 | .FunctionDef _ _ b _ _ _ _ _ _ _=>b
 | _=>[]
noncomputable def Qc(s:Stmt):Scope:=match s with
 | .FunctionDef _ _ _ _ _ _ sc _ _ _=>sc
 | _=>{ kind:=.function,names:=[],isGenerator:=false,isCoroutine:=false }
abbrev g8:lq:=λ_ _ _ _ _ _=>False
abbrev E0:XK:=λ_ _ _=>False
theorem kH:pv g8 X E0:=λ_ _ _ _ _ _ _ h=>h.elim
structure Fun(K:PySem.W.Frag)(x qual:Str)(st:Stmt)(f:Addr)(fd:FuncData):Prop where
 ex:∃(oc:Value)(od:Option Addr)(kV doc pm:Value)(an:Option Addr)(eE ct:Value)(lr:Array (Option Value)),
  fd=PySem.W.fnOf x qual (qy st) (mL st) (Qc st) .none kV doc pm an eE ct/\K.lookup f=some ⟨oc,od,.func fd,lr⟩/\PySem.W.codeIn K eE qual=true
 kp:PySem.W.keepIn K (.ref f)=true
section
variable{P:Program}{w:World}{K:PySem.W.Frag}{mg:Str->Option Value}{base:Heap}
theorem Fun.ok{x qual:Str}{st:Stmt}{f:Addr}{fd:FuncData}{N ps:List Str}{k:Nat}{sp:Sp}(F:Fun K x qual st f fd)(S:Qo N ps (Qc st))(len:∀ vs H Q E,sp vs H Q E->vs.length=ps.length)
 (nr:∀(eE:Value)(A:Around)(outer:List Env)(s:Shared)(H:Hp)(vs:List V)(Q:VK)(E:XK),Room k (A.deeper (envOfC qual (Qc st) s.heap.objs.size f eE))->sp vs H Q E->
  ∃ t,PSs (je g8 P w K mg base N qual (Qc st) f eE A outer s H E).nox (mL st) t/\t { nx:=λ_ H'=>Q .non H',rt:=Q } (start N vs) H):FnOk P w K mg base g8 (k+1) f fd ps sp:=by
 obtain⟨oc,od,kV,doc,pm,an,eE,ct,lr,rfl,lk,gR⟩:=F.ex
 refine kG lk gR S len λA outer s H vs Q E hr jC=>?_
 obtain⟨t,h,q⟩:=nr eE A outer s H vs Q E hr jC
 exact⟨t,h.nox,q⟩
end
theorem kX{A B:Prop}(h:B):if false=true then A else B:=by
 rw[aB ak]
 exact h
theorem kY{A B:Prop}(h:A):if true=true then A else B:=by
 rw[aA rfl]
 exact h
def Same(H H':Hp):Prop:=∀ b o,H b=some o->H' b=some o
theorem Same.refl(H:Hp):Same H H:=λ_ _ h=>h
abbrev dC:=@Same.refl
theorem Same.trans{H H1 H2:Hp}(a:Same H H1)(b:Same H1 H2):Same H H2:=λc o h=>b c o (a c o h)
theorem Same.free{H H':Hp}(e:Same H H'){l:Addr}(h:H' l=Option.none):H l=Option.none:=by
 cases q:H l with
 | none=>rfl
 | some o=>
  rw[e l o q]at h
  cases h
theorem Same.seq{K:PySem.W.Frag}{H H':Hp}{a:Addr}{xs:List V}(e:Same H H')(h:SqL K H a xs):SqL K H' a xs:=by
 rcases h with(h | ⟨o,h⟩) | h
 ·exact .inl (.inl (e _ _ h))
 ·exact .inl (.inr ⟨o,e _ _ h⟩)
 ·exact .inr h
section
variable [DecidableEq κ]
noncomputable def gB(kvs:List (κ×V))(k:κ):Option V:=(kvs.find? λkv=>decide (kv.1=k)).map (·.2)
noncomputable def il(kvs:List (κ×V))(k:κ)(v:V):List (κ×V):=
 if (kvs.any λkv=>decide (kv.1=k))=true then kvs.map (λkv=>if kv.1=k then(kv.1,v) else kv) else kvs++[(k,v)]
theorem E3{k:κ}(e:p.1=k):gB (p::r) k=some p.2:=by simp[gB,bC,e]
theorem E4{k:κ}(e:¬ p.1=k):gB (p::r) k=gB r k:=by simp[gB,bC,e]
theorem JM(k:κ):∀ kvs:List (κ×V),(kvs.any λkv=>decide (kv.1=k))=(gB kvs k).isSome
 | []=>rfl
 | p::r=>by
  rw[cG]
  by_cases e:p.1=k
  ·simp only[E3 e,aF e,Bool.true_or,Option.isSome_some]
  ·rw[E4 e,aQ e,Bool.false_or];exact JM k r
theorem JN(kvs:List (κ×V))(k:κ)(v:V):(il kvs k v).length<=kvs.length+1:=by
 unfold il
 split
 ·rw[aD];omega
 ·rw[aV,aZ,cI];omega
theorem RelO.isSome_eq(r:RelO o u):o.isSome=u.isSome:=by
 cases o with
 | none=>cases u with
  | none=>rfl
  | some _=>exact(r).elim
 | some _=>cases u with
  | none=>exact(r).elim
  | some _=>rfl
theorem RelO.getD(r:RelO o u)(rd:RelV d d'):RelV (o.getD d) (u.getD d'):=by
 cases o with
 | none=>cases u with
  | none=>exact rd
  | some _=>exact(r).elim
 | some _=>cases u with
  | none=>exact(r).elim
  | some _=>exact r
theorem KV.val{vs:List (κ×Value)}(r:KV kvs vs)(k:κ):RelO (gB kvs k) (valueAt vs k):=by
 unfold KV at r
 induction r with
 | nil=>exact True.intro
 | @cons p q ps qs h t ih=>
  obtain⟨h1,h2⟩:=h
  by_cases e:p.1=k
  ·have e':=h1.symm.trans e
   have b:valueAt (q::qs) k=some q.2:=by simp[valueAt,bC,e']
   rw[E3 e,b];exact h2
  ·have e':¬ q.1=k:=λz=>e (h1.trans z)
   have b:valueAt (q::qs) k=valueAt qs k:=by simp[valueAt,bC,e']
   rw[E4 e,b];exact ih
theorem KV.any(r:KV kvs vs)(k:κ):(kvs.any λkv=>decide (kv.1=k))=vs.any λkv=>decide (kv.1=k):=by
 unfold KV at r
 induction r with
 | nil=>rfl
 | cons h t ih=>rw[cG,cG,ih,h.1]
theorem KV.repl(r:KV kvs vs)(k:κ)(ry:RelV y u):
 KV (kvs.map λkv=>if kv.1=k then(kv.1,y) else kv) (vs.map λkv=>if kv.1=k then(kv.1,u) else kv):=by
 unfold KV at r ⊢
 induction r with
 | nil=>exact .nil
 | @cons p q ps qs h t ih=>
  rw[aj,aj]
  refine .cons ?_ ih
  obtain⟨h1,h2⟩:=h
  by_cases e:p.1=k
  ·rw[aA e,aA (h1.symm.trans e)];exact⟨h1,ry⟩
  ·rw[aB e,aB (λz=>e (h1.trans z))];exact⟨h1,h2⟩
theorem KV.put(r:KV kvs vs)(k:κ)(ry:RelV y u):KV (il kvs k y) (stored vs k u):=by
 unfold il stored
 rw[r.any k]
 by_cases e:(vs.any λkv=>decide (kv.1=k))=true
 ·rw[aA e,aA e];exact r.repl k ry
 ·rw[aB e,aB e];exact Paired.snoc r ⟨rfl,ry⟩
theorem KV.length(r:KV kvs vs):kvs.length=vs.length:=Paired.length r
end
theorem mM(r:RelV (kV k) u):(lj P w).is k u=true:=by
 cases k with
 | inl i=>obtain⟨t,e⟩:=(r);subst e;exact Mp P w i t
 | inr x=>obtain⟨t,e⟩:=(r);subst e;exact Mq P w x t
theorem JO:∀{ks:List f9}{us:List Value},Vals (ks.map kV) us->ItemsAre (lj P w) ks us
 | [],_,r=>by rw[List.map_nil]at r;cases r;exact .nil
 | k::ks,_,r=>by
  rw[aj]at r
  cases r with
  | cons h t=>exact .cons (mM h) (JO t)
abbrev KT(H:Hp):List (List f9×V)->List (List f9×Addr×Value)->Prop:=Paired λp q=>p.1=q.1/\H q.2.1=some (.tup (p.1.map kV))/\RelV p.2 q.2.2
theorem KT.val{xs:List (List f9×Addr×Value)}(r:KT H kvs xs)(k:List f9):RelO (gB kvs k) ((atKey xs k).map (·.2)):=by
 induction r with
 | nil=>exact True.intro
 | @cons p q ps qs h t ih=>
  obtain⟨h1,_,h2⟩:=h
  by_cases e:p.1=k
  ·have e':=h1.symm.trans e
   have b:atKey (q::qs) k=some q.2:=by simp[atKey,bC,e']
   rw[E3 e,b];exact h2
  ·have e':¬ q.1=k:=λz=>e (h1.trans z)
   have b:atKey (q::qs) k=atKey qs k:=by simp[atKey,bC,e']
   rw[E4 e,b];exact ih
theorem KT.repl(r:KT H kvs xs)(k:List f9)(ry:RelV y u):
 KT H (kvs.map λkv=>if kv.1=k then(kv.1,y) else kv) (xs.map (putAt k u)):=by
 induction r with
 | nil=>exact .nil
 | @cons p q ps qs h t ih=>
  rw[aj,aj]
  refine .cons ?_ ih
  obtain⟨h1,h2,h3⟩:=h
  unfold putAt
  by_cases e:p.1=k
  ·rw[aA e,aA (h1.symm.trans e)];exact⟨h1,h2,ry⟩
  ·rw[aB e,aB (λz=>e (h1.trans z))];exact⟨h1,h2,h3⟩
theorem KT.put(r:KT H kvs xs)(k:List f9)(hb:H b=some (.tup (k.map kV)))(ry:RelV y u):
 KT H (il kvs k y) (storedH xs k b u):=by
 have e:(kvs.any λkv=>decide (kv.1=k))=(atKey xs k).isSome:=by
  rw[JM,(r.val k).isSome_eq,Option.isSome_map]
 unfold il storedH
 rw[e]
 by_cases q:(atKey xs k).isSome=true
 ·rw[aA q,aA q];exact r.repl k ry
 ·rw[aB q,aB q];exact Paired.snoc r ⟨rfl,hb,ry⟩
theorem KT.keeps(r:KT H kvs xs)(ht:∀ b ys,H b=some (.tup ys)->H' b=some (.tup ys)):KT H' kvs xs:=
 Paired.mapP r λ_ _ z=>⟨z.1,ht _ _ z.2.1,z.2.2⟩
theorem qz(ok:HOk P w H h)(e:Rd H a u):ObjOk P w H h a u:=e.ok ok
theorem l7(ok:HOk P w H h)(e:Rd H a (.dK kvs)):kvs.length<=sizeLine/\(a == sysModules)=false/\∃ vs,KV kvs vs/\h.DictOf (lj P w) a vs:=
 qz ok e
theorem we(ok:HOk P w H h)(e:H a=some (.dK kvs)):kvs.length<=sizeLine/\(a == sysModules)=false/\∃ vs,KV kvs vs/\h.DictOf (lj P w) a vs:=l7 ok (.inl e)
theorem A7(ok:HOk P w H h)(e:H a=some (.tup (ks.map kV))):(tupleKind (lj P w)).is h ks a:=by
 obtain⟨_,its,r,o,h1,h2,n,h3⟩:=(ok a _ e)
 exact⟨o,its.toArray,n,h1,h2,h3,by simpa using JO r⟩
theorem l8(ok:HOk P w H h)(e:Rd H a (.dT kvs)):kvs.length<=sizeLine/\(a == sysModules)=false/\
 ∃ xs,KT H kvs xs/\h.DictOfH (tupleKind (lj P w)) a xs:=by
 obtain⟨z,y,xs,r,o,es,ep,h1,h2,h3,h4,h5⟩:=(qz ok e)
 refine⟨z,y,xs,r,o,es,ep,h1,h2,h3,h4,λx hx=>?_,h5⟩
 have all:∀{l:List (List f9×V)}{m:List (List f9×Addr×Value)},KT H l m->∀ x∈m,(tupleKind (lj P w)).is h x.1 x.2.1:=by
  intro l m q
  induction q with
  | nil=>intro x hx;exact nomatch hx
  | @cons p q ps qs hq t ih=>
   intro x hx
   rcases aL.mp hx with e | hx
   ·subst e
    exact A7 ok (by rw[← hq.1];exact hq.2.1)
   ·exact ih x hx
 exact all r x hx
theorem wg(ok:HOk P w H h)(e:H a=some (.dT kvs)):kvs.length<=sizeLine/\(a == sysModules)=false/\
 ∃ xs,KT H kvs xs/\h.DictOfH (tupleKind (lj P w)) a xs:=l8 ok (.inl e)
def DGet(H:Hp)(a:Addr)(y:V)(r:Option V):Prop:=
 (∃ kvs k,Rd H a (.dK kvs)/\y=kV k/\r=gB kvs k)∨∃ kvs k b,Rd H a (.dT kvs)/\y=.ref b/\H b=some (.tup (k.map kV))/\r=gB kvs k
def DPut(H:Hp)(a:Addr)(y v:V)(H':Hp):Prop:=
 (∃ kvs k,H a=some (.dK kvs)/\y=kV k/\kvs.length<sizeLine/\H'=eT H a (.dK (il kvs k v)))∨
 ∃ kvs k b,H a=some (.dT kvs)/\y=.ref b/\H b=some (.tup (k.map kV))/\kvs.length<sizeLine/\H'=eT H a (.dT (il kvs k v))
theorem DGet.k{k:f9}(e:H a=some (.dK kvs)):DGet H a (kV k) (gB kvs k):=.inl ⟨kvs,k,.inl e,rfl,rfl⟩
theorem DGet.t{k:List f9}(e:H a=some (.dT kvs))(eb:H b=some (.tup (k.map kV))):DGet H a (.ref b) (gB kvs k):=.inr ⟨kvs,k,b,.inl e,rfl,eb,rfl⟩
theorem DPut.k{k:f9}(e:H a=some (.dK kvs))(hl:kvs.length<sizeLine):DPut H a (kV k) v (eT H a (.dK (il kvs k v))):=.inl ⟨kvs,k,e,rfl,hl,rfl⟩
theorem DPut.t{k:List f9}(e:H a=some (.dT kvs))(eb:H b=some (.tup (k.map kV)))(hl:kvs.length<sizeLine):
 DPut H a (.ref b) v (eT H a (.dT (il kvs k v))):=.inr ⟨kvs,k,b,e,rfl,eb,hl,rfl⟩
theorem OZ(hu:A.units+1<cLine)(I:Inv X pins σ H s)(g:DGet H a y (some v))(ry:RelV y u)(h:∀ w' s',Inv X pins σ H s'->RelV v w'->Q w' s'):
 wpAny (model X.prog X.w) A (getItem (.ref a) u) Q E s:=by
 rcases g with⟨kvs,k,e,ey,l⟩ | ⟨kvs,k,b,e,ey,eb,l⟩
 ·subst ey
  obtain⟨z,hd,vs,rel,dd⟩:=l7 I.hok e
  obtain⟨w',hw,gJ⟩:=RelO.some_of (by rw[l];exact rel.val k)
  exact wpAny_getItem_of (mM ry) dd.mapOf hw (h w' _ (I.tok _) gJ)
 ·subst ey
  cases (ry)
  obtain⟨z,hd,xs,rel,dd⟩:=l8 I.hok e
  obtain⟨w',hw,gJ⟩:=RelO.some_of (by rw[l];exact rel.val k)
  obtain⟨p,hp,hp2⟩:=Option.map_eq_some_iff.mp hw
  refine wpAny_getItem_heap (tupleKind_room_in1 hu) (A7 I.hok eb) dd hp ?_
  rw[hp2]
  exact h w' _ (I.tok _) gJ
theorem JP(I:Inv X pins σ H s)(mu:vQ (H a))(hs:Heap.SameBut a s.heap h')(he:∃ q,h'.get? a=some q)(new:ObjOk X.prog X.w (eT H a ob) h' a ob):
 Inv X pins σ (eT H a ob) { s with heap:=h',toks:=t' }:=
 I.write mu (.inl rfl) (λb q hb z=>(hs.2 b hb).trans z) he new
theorem Oa(z:kvs.length<=sizeLine)(hd:(a == sysModules)=false)(rel:KV kvs vs)(dd:h'.DictOf (lj P w) a vs):
 ObjOk P w H' h' a (.dK kvs):=⟨z,hd,vs,rel,dd⟩
theorem Ob(hu:A.units+1<cLine)(I:Inv X pins σ H s)(g:DPut H a y v H')(ry:RelV y u)(rv:RelV v r)(h:∀ s',Inv X pins σ H' s'->Q () s'):
 wpAny (model X.prog X.w) A (setItem (.ref a) u r) Q E s:=by
 rcases g with⟨kvs,k,e,ey,l,eH⟩ | ⟨kvs,k,b,e,ey,eb,l,eH⟩
 ·subst ey eH
  obtain⟨z,hd,vs,rel,dd⟩:=we I.hok e
  have hz:vs.length<=sizeLine:=by rw[← rel.length];exact z
  have hl:(il kvs k v).length<=sizeLine:=by have:=JN kvs k v;omega
  refine wpAny_setItem_pairs (mM ry) dd λh' A8 hs=>h _ ?_
  have he:∃ q,h'.get? a=some q:=let ⟨q,_,_,hq,_⟩:=A8;⟨q,hq⟩
  exact JP I (by rw[e];exact True.intro) hs he (Oa hl hd (rel.put k rv) A8)
 ·subst ey eH
  cases (ry)
  obtain⟨z,hd,xs,rel,dd⟩:=wg I.hok e
  have hz:xs.length<=sizeLine:=by rw[← Paired.length rel];exact z
  have hl:(il kvs k v).length<=sizeLine:=by have:=JN kvs k v;omega
  refine wpAny_setItem_heap (tupleKind_room_in1 hu) (A7 I.hok eb) dd λh' A8 hs=>h _ ?_
  obtain⟨q,es,ep,hq,h2,h3,h4,_,h5⟩:=A8
  refine JP I (by rw[e];exact True.intro) hs ⟨q,hq⟩ ⟨hl,hd,_,(rel.put k eb rv).keeps λc ys ec=>?_,q,es,ep,hq,h2,h3,h4,h5⟩
  rw[Qk (vP ec e (λz=>nomatch z))]
  exact ec
def t9(i:Expr):Prop:=∀ ov iv,subscripted i false ov iv=operate [ov,iv] (getItem ov iv)
theorem Oc{T id:String}
 (hl:typeLookup (.type T) "__getitem__"=pure (some (.builtin id))) (hs:t9 slice)
 (h:wpAny (model prog w) A (eval value env) (λo s₁=>wpAny (model prog w) A (eval slice env) (λi s₂ => s₂.TypeIs o T/\wpAny (model prog w) A (getItem o i) Q E s₂) E s₁) E s):
 wpAny (model prog w) A (eval (.Subscript value slice pos) env) Q E s:=by
 refine Subscript_ (av h (λo s₁ h₁=>av h₁ (λi s₂ h₂ => ?_) λ_ _ x=>x) λ_ _ x=>x)
 obtain⟨hT,h₂⟩:=h₂
 unfold subscriptTail
 refine aP ?_
 rw[getitemInPython_of_ne hT.not_modules]
 refine aP (wpAny_specialOf hT hl ?_)
 have fin:wpAny (model prog w) A (subscripted slice false o i) (λr s₃ => wpAny (model prog w) A (letTemporaryGo value o r>>=λ_=>pure r) Q E s₃) E s₂ := by
  rw[hs o i]
  exact wpAny_operating (av h₂ (λr s₃ h₃ => aP (wpAny_letTemporaryGo (aX h₃))) λ_ _ x=>x)
 first
  | exact aX (aP fin)
  | exact aP (aX (aP fin))
  | exact aP fin
theorem Od(I:Inv X pins σ H s)(g:DGet H a y o):s.TypeIs (.ref a) "dict":=by
 rcases g with⟨kvs,k,e,_,_⟩ | ⟨kvs,k,b,e,_,_,_⟩
 ·obtain⟨_,_,vs,_,dd⟩:=l7 I.hok e
  exact dd.typeIs
 ·obtain⟨_,_,xs,_,dd⟩:=l8 I.hok e
  exact dd.typeIs
def wj(td ty:TE):TE:=λσ H Q=>td σ H λx H1=>ty σ H1 λy H2=>∃ a v,x=.ref a/\DGet H2 a y (some v)/\Q v H2
def wk(td ty tv:TE):TS:=λD σ H=>tv σ H λv H1=>td σ H1 λx H2=>ty σ H2 λy H3=>∃ a H4,x=.ref a/\DPut H3 a y v H4/\D.nx σ H4
theorem Oe(hu:X.A.units+1<cLine)(ho:PE X o td)(hi:PE X i ty)(hs:t9 i):PE X (.Subscript o i pos) (wj td ty):=by
 intro pins s σ H Q I h
 refine Oc PySem.F.slot_dict_getitem.lookup hs (ef (ho pins s σ H _ I h) λu s1 ⟨x,H1,I1,rx,q1⟩=>ef (hi pins s1 σ H1 _ I1 q1) λiv s2 dm=>?_)
 obtain⟨y,H2,I2,ry,a,v,ex,g,q2⟩:=dm
 subst ex
 obtain rfl:=rx
 exact⟨Od I2 g,OZ hu I2 g ry λw' s3 I3 gJ=>⟨v,H2,I3,gJ,q2⟩⟩
theorem Of(hu:X.A.units+1<cLine)(ho:PE X o td)(hi:PE X i ty)(hv:PE X value tv)(hs:swapsWith value (some (.Subscript o i pos')) pos.line X.env=pure false):
 PS X (.Assign [.Subscript o i pos'] value pos) (wk td ty tv):=by
 intro pins s σ H D I h
 refine wpAny_Assign_Subscript (ef (hv pins s σ H _ I h) λr s1 ⟨v,H1,I1,rv,q1⟩=>ef (ho pins s1 σ H1 _ I1 q1) λu s2 ⟨x,H2,I2,rx,q2⟩=>ef (hi pins s2 σ H2 _ I2 q2) λiv s3 dm=>?_) hs
 obtain⟨y,H3,I3,ry,a,H4,ex,g,q3⟩:=dm
 subst ex
 obtain rfl:=rx
 exact Ob hu I3 g ry rv λs4 I4=>⟨σ,H4,I4,q3⟩
structure M1(X:Cx)(o:Expr)(m:Str)(apos:Pos)(e:Expr)(cpos:Pos):Prop where
 base:attributeBase o m X.env (eval o X.env)=eval o X.env
 few:((backTo cpos (starEach [e] X.env)).all (λx => !x.1)&&(backToKw cpos (keywordEach [] X.env)).all (λx=>x.1.isSome)
  && decide (([e]:List Expr).length+([]:List Keyword).length+(if ([]:List Keyword).isEmpty then 0 else 1)<30))=true
 line:(apos.endLine == cpos.line)=true
 trees:backTo cpos (starEach [e] X.env)=[(false,eval e X.env)]
def JQ(H:Hp)(a:Addr):Prop:=(∃ kvs,Rd H a (.dK kvs))∨∃ kvs,Rd H a (.dT kvs)
theorem Og(I:Inv X pins σ H s)(d:JQ H a):
 s.TypeIs (.ref a) "dict"/\(∀ b,Value.ref a=.ref b->∃ ob,s.heap.get? b=some ob/\ob.dict=none)/\(a == sysModules)=false:=by
 rcases d with⟨kvs,e⟩ | ⟨kvs,e⟩
 ·obtain⟨_,hd,vs,_,dd⟩:=l7 I.hok e
  refine⟨dd.typeIs,λb q=>?_,hd⟩
  cases q
  obtain⟨ob,_,_,h1,h2,_⟩:=dd
  exact⟨ob,h1,h2.2.1⟩
 ·obtain⟨_,hd,xs,_,dd⟩:=l8 I.hok e
  refine⟨dd.typeIs,λb q=>?_,hd⟩
  cases q
  obtain⟨ob,_,_,h1,h2,_⟩:=dd
  exact⟨ob,h1,h2.2.1⟩
theorem Oh(hu:A.units+1<cLine)(I:Inv X pins σ H s)(g:DGet H a y o)(ry:RelV y u)(h:∀ w' s',Inv X pins σ H s'->RelV (o.getD .non) w'->Q w' s'):
 wpAny (model X.prog X.w) A (call (.builtin "dict.get") [.ref a,u]) Q E s:=by
 rcases g with⟨kvs,k,e,ey,l⟩ | ⟨kvs,k,b,e,ey,eb,l⟩
 ·subst ey
  obtain⟨z,hd,vs,rel,dd⟩:=l7 I.hok e
  refine call_meetsIn PySem.F.slot_dict_get dd.typeIs PySem.F.entry_dict_get (PySem.F.args_dict_get_2 _ _) (meets_dict_get (lj X.prog X.w) a (mM ry) hd) ⟨_,dd.mapOf,h _ _ (I.tok _) ?_⟩
  rw[l]
  exact(rel.val k).getD rfl
 ·subst ey
  cases (ry)
  obtain⟨z,hd,xs,rel,dd⟩:=l8 I.hok e
  refine call_meetsIn PySem.F.slot_dict_get dd.typeIs PySem.F.entry_dict_get (PySem.F.args_dict_get_2 _ _) (meetsH_dict_get (tupleKind (lj X.prog X.w)) a b hd) ⟨tupleKind_room_in1 hu,k,xs,A7 I.hok eb,dd,h _ _ (I.tok _) ?_⟩
  rw[l]
  exact(rel.val k).getD rfl
def Oi(td ty:TE):TE:=λσ H Q=>td σ H λx H1=>∃ a,x=.ref a/\JQ H1 a/\ty σ H1 λy H2=>∃ o,DGet H2 a y o/\Q (o.getD .non) H2
theorem Oj(hu:X.A.units+1<cLine)(ho:PE X o td)(he:PE X e ty)(m:M1 X o "get" apos e cpos):PE X (.Call (.Attribute o "get" apos) [e] [] cpos) (Oi td ty):=by
 intro pins s σ H Q I h
 refine wpAny_Call_method m.base m.few m.line PySem.F.plainAttrs_dict PySem.F.slot_dict_get PySem.F.type_dict_get (ef (ho pins s σ H _ I h) λu s1 dm=>?_)
 obtain⟨x,H1,I1,rx,a,ex,d,q1⟩:=dm
 subst ex
 obtain rfl:=rx
 obtain⟨t1,t2,_⟩:=Og I1 d
 refine⟨t1,t2,?_⟩
 rw[m.trees]
 refine Calls.callWith_builtin rfl (Calls.evalArgs_plain (cq (ef (he pins s1 σ H1 _ I1 q1) λiv s2 ⟨y,H2,I2,ry,ov,g,q2⟩=>d6 ?_)))
 exact Oh hu I2 g ry λw' s3 I3 gJ=>⟨_,H2,I3,gJ,q2⟩
end L2
namespace L2
open PySem PySem.Spec
def Mild{α:Type}:Sem α->Prop
 | .pure _=>True
 | .raise _=>True
 | .unsupported _=>True
 | .finish _=>True
 | .rule _ k=>Mild (k ())
 | .at _ k=>Mild (k ())
 | .load _ _ k=>∀ o,Mild (k o)
 | .update _ _ f k=>(∀ o,(f o).cls=o.cls/\(f o).dict=o.dict/\(o.isFreed=false->(f o).isFreed=false))/\Mild (k ())
 | .alloc _ k=>∀ a,Mild (k a)
 | .loadIfAlive _ k=>∀ o,Mild (k o)
 | .point _ k=>Mild (k ())
 | .register _ _=>False
 | .fresh k=>∀ t,Mild (k t)
 | .ask k=>∀ t,Mild (k t)
 | .choose _ _ _=>False
 | .os _ _ _=>False
 | .call _ _ _ _ _=>False
 | .handled _ k=>∀ t,Mild (k t)
 | .newGen _ _=>False
 | .genState _ _=>False
 | .resume _ _ _ _=>False
 | .yield _ _ _ _=>False
 | .stack k=>∀ t,Mild (k t)
 | .fork _ _=>False
 | .thread _=>False
 | .await _ _ _ _ _=>False
def DK(h h':Heap):Prop:=∀ b o,h.get? b=some o->∃ o',h'.get? b=some o'/\o'.cls=o.cls/\o'.dict=o.dict
theorem DK.refl(h:Heap):DK h h:=λb o e=>⟨o,e,rfl,rfl⟩
theorem DK.trans{h1 h2 h3:Heap}(a:DK h1 h2)(b:DK h2 h3):DK h1 h3:=λx o e=>by
 obtain⟨o',e1,c1,d1⟩:=a x o e
 obtain⟨o2,e2,c2,d2⟩:=b x o' e1
 exact⟨o2,e2,c2.trans c1,d2.trans d1⟩
theorem Ol{h:Heap}{a:Addr}{f:Obj->Obj}(hf:∀ o,(f o).cls=o.cls/\(f o).dict=o.dict/\(o.isFreed=false->(f o).isFreed=false)):DK h (h.update a f):=λb o e=>by
 by_cases hb:a=b
 ·subst hb
  have hl:=(Heap.get?_some_iff.mp e).2
  exact⟨f o,Heap.get?_update_self f e ((hf o).2.2 hl),(hf o).1,(hf o).2.1⟩
 ·exact⟨o,(Heap.get?_update_other h f hb).trans e,rfl,rfl⟩
theorem Om{α:Type}{M:Model}{Γ : PySem.Ctx}{h0:Heap}{Q:α->Pos->Shared->Prop}{E:Value->Pos->Shared->Prop}:∀(t:Sem α)(p:Pos)(s:Shared),Mild t->DK h0 s.heap->Sem.wp M Γ t Q E p s->
 Sem.wp M Γ t (λa p s'=>Q a p s'/\DK h0 s'.heap) (λe p s'=>E e p s'/\DK h0 s'.heap) p s:=by
 intro t
 induction t with
 | pure a=>intro p s _ d h;rw[Sem.wp]at h ⊢;exact⟨h,d⟩
 | raise e=>intro p s _ d h;rw[Sem.wp]at h ⊢;exact⟨h,d⟩
 | unsupported w=>intro p s _ d h;rw[Sem.wp]at h;exact h.elim
 | finish w=>intro p s _ d h;rw[Sem.wp]at h;exact h.elim
 | rule t k ih=>intro p s m d h;rw[Sem.wp]at h ⊢;exact ih () p s m d h
 | «at» t k ih=>intro p s m d h;rw[Sem.wp]at h ⊢;exact ih () t s m d h
 | load a q k ih=>intro p s m d h;rw[Sem.wp]at h ⊢;obtain⟨o,e,h⟩:=h;exact⟨o,e,ih o p s (m o) d h⟩
 | update a q f k ih=>intro p s m d h;rw[Sem.wp]at h ⊢;exact⟨h.1,ih () p _ m.2 (d.trans (Ol m.1)) h.2⟩
 | alloc o k ih=>intro p s m d h;rw[Sem.wp]at h ⊢;exact ih _ p _ (m _) (d.trans λb o' e=>⟨o',aI _ e,rfl,rfl⟩) h
 | loadIfAlive a k ih=>intro p s m d h;rw[Sem.wp]at h ⊢;exact ih _ p s (m _) d h
 | point l k ih=>intro p s m d h;rw[Sem.wp]at h ⊢;exact ih () p s m d h
 | fresh k ih=>intro p s m d h;rw[Sem.wp]at h ⊢;exact ih _ p _ (m _) d h
 | ask k ih=>intro p s m d h;rw[Sem.wp]at h ⊢;exact ih _ p s (m _) d h
 | handled o k ih=>intro p s m d h;rw[Sem.wp]at h ⊢;exact ih _ p s (m _) d h
 | stack k ih=>intro p s m d h;rw[Sem.wp]at h ⊢;exact ih _ p s (m _) d h
 | _=>intro p s m;exact m.elim
theorem On{α:Type}{M:Model}{A:Around}{t:Sem α}{Q:α->Shared->Prop}{E:Value->Shared->Prop}{s:Shared}(m:Mild t)(h:wpAny M A t Q E s):
 wpAny M A t (λa s'=>Q a s'/\DK s.heap s'.heap) (λe s'=>E e s'/\DK s.heap s'.heap) s:=fun Γ p hΓ => Om t p s m (DK.refl _) (h Γ p hΓ)
theorem uV{α:Type}{M:Model}{A:Around}{t:Sem α}{Q:α->Shared->Prop}{E:Value->Shared->Prop}{s:Shared}(m:Mild t)(h:wpAny M A t (λa s'=>DK s.heap s'.heap->Q a s') E s):wpAny M A t Q E s:=
 av (On m h) (λ_ _ z=>z.1 z.2) λ_ _ z=>z.1
theorem Mild.bind{α β:Type}{k:α->Sem β}:∀{t:Sem α},Mild t->(∀ a,Mild (k a))->Mild (t>>=k):=by
 intro t
 show Mild t->(∀ a,Mild (k a))->Mild (t.bind k)
 induction t with
 | pure a=>exact λ_ h=>h a
 | raise e=>exact λ_ _=>True.intro
 | unsupported w=>exact λ_ _=>True.intro
 | finish w=>exact λ_ _=>True.intro
 | rule t k ih=>exact λm h=>ih () m h
 | «at» t k ih=>exact λm h=>ih () m h
 | load a q k ih=>exact λm h o=>ih o (m o) h
 | update a q f k ih=>exact λm h=>⟨m.1,ih () m.2 h⟩
 | alloc o k ih=>exact λm h a=>ih a (m a) h
 | loadIfAlive a k ih=>exact λm h o=>ih o (m o) h
 | point l k ih=>exact λm h=>ih () m h
 | fresh k ih=>exact λm h o=>ih o (m o) h
 | ask k ih=>exact λm h o=>ih o (m o) h
 | handled o k ih=>exact λm h o=>ih o (m o) h
 | stack k ih=>exact λm h o=>ih o (m o) h
 | _=>exact λm _=>m.elim
section
variable{α β:Type}
theorem lx(a:α):Mild (pure a:Sem α):=True.intro
theorem r6(w:String):Mild (unsupported w:Sem α):=True.intro
theorem E5(a:Addr):Mild (load a):=λ_=>True.intro
theorem QhK:Mild stack:=λ_=>True.intro
theorem Oo(a:Addr)(g:Array Value->Array Value):Mild (update a (Obj.mapFields g)):=by
 refine⟨λo=>?_,True.intro⟩
 obtain⟨c,d,dt,sl⟩:=o
 cases dt<;>exact⟨rfl,rfl,λh=>by first | exact h | rfl⟩
theorem pE{c:Prop}[Decidable c]{t u:Sem α}(h1:Mild t)(h2:Mild u):Mild (if c then t else u):=by split<;>assumption
theorem Oq(v:Value):Mild (fieldsOf v):=by
 unfold fieldsOf
 cases v<;>first | exact r6 _ | (refine(E5 _).bind λo=>?_;split<;>trivial)
theorem A9(v:Value)(i:Nat):Mild (field v i):=by
 unfold field
 refine(Oq v).bind λvs=>?_
 split<;>trivial
theorem E6(v:Value)(i:Nat)(x:Value):Mild (setField v i x):=by
 unfold setField
 cases v<;>first | exact r6 _ | skip
 unfold updateField
 refine(E5 _).bind λo=>?_
 split
 ·exact pE (Oo _ _) (r6 _)
 ·exact r6 _
theorem QlL:Mild frameEnvs:=by
 unfold frameEnvs
 exact QhK.bind λ_=>lx _
theorem Qsq:Mild underTheClaimsCaller:=by
 unfold underTheClaimsCaller
 exact QhK.bind λ_=>lx _
theorem Os(env:Env)(l:List Env):Mild (behindIsImport env l):=by
 unfold behindIsImport
 refine pE (lx _) (pE (lx _) ?_)
 exact(A9 _ _).bind λ_=>lx _
theorem Ot(env:Env)(b:Bool)(l:List Env):Mild (keptBack env b l):=by
 cases l with
 | nil=>exact pE (lx _) (Qsq.bind λ_=>lx _)
 | cons a l=>exact lx _
theorem JR:∀ l:List Env,Mild (readyFrames l)
 | []=>True.intro
 | env::outer=>by
  unfold readyFrames
  split
  ·refine(E5 _).bind λo=>pE (lx _) ?_
   refine(Os _ _).bind λ_=>(Ot _ _ _).bind λ_=>?_
   refine Mild.bind (t:=update _ _) ⟨λo=>⟨rfl,rfl,λh=>?_⟩,True.intro⟩ λ_=>JR outer
   obtain⟨c,d,dt,sl⟩:=o
   cases dt<;>first | exact h | rfl
  ·exact r6 _
theorem Ou(env:Env):Mild (frameOf env):=by
 unfold frameOf
 refine QlL.bind λl=>?_
 refine Mild.bind ?_ λr=>?_
 ·cases List.dropWhile _ l with
  | nil=>exact lx _
  | cons a l=>exact(JR (a::l)).bind λ_=>lx _
 ·split<;>trivial
theorem Ov(f:Addr)(b:Bool):Mild (entryPlaceOf f b):=by
 unfold entryPlaceOf
 refine QhK.bind λl=>?_
 split<;>exact lx _
theorem Ow(a b c d e:Value)(pl:List Value):Mild (EntryCells.newEntry a b c d e pl):=by
 unfold EntryCells.newEntry newFields newObj newObjAsIs
 first
  | (refine Mild.bind (pE (r6 _) (lx _)) λ_=>?_;exact λ_=>True.intro)
  | (refine pE (r6 _) ?_;exact λ_=>True.intro)
theorem E7(e:Value)(f:Option Addr):Mild (setFlight e f):=by
 unfold setFlight
 exact(A9 _ _).bind λ_=>pE (E6 _ _ _) (lx _)
theorem JS(e:Value)(env:Env):Mild (noteFrame e env):=by
 unfold noteFrame
 split
 ·refine(A9 _ _).bind λhead=>?_
  have last:∀ fr:Addr,Mild (do setField e 1 (← EntryCells.newEntry head (← frameOf env) .none (rawInt fr) .none (← entryPlaceOf fr (head != .none)))):=λfr=>
   (Ou env).bind λ_=>(Ov _ _).bind λ_=>(Ow _ _ _ _ _ _).bind λ_=>E6 _ _ _
  refine pE ?_ (last _)
  exact(A9 _ _).bind λ_=>pE (lx _) ((E6 _ _ _).bind λ_=>last _)
 ·exact r6 _
theorem E8(env:Env)(e:Value):Mild (leaving env e):=by
 unfold leaving
 exact(JS e env).bind λ_=>E7 e none
end
end L2
namespace L2
open PySem PySem.Spec PyProof.Rows
theorem ObjOk.obj(x:ObjOk P w H h a o):∃ u,h.get? a=some u:=by
 cases o with
 | lst xs=>obtain⟨_,_,_,_,e⟩:=x;exact⟨_,e⟩
 | tup xs=>obtain⟨_,_,_,ob,e,_⟩:=x;exact⟨_,e⟩
 | dK kvs=>obtain⟨_,_,_,_,o,_,_,e,_⟩:=x;exact⟨_,e⟩
 | dT kvs=>obtain⟨_,_,_,_,o,_,_,e,_⟩:=x;exact⟨_,e⟩
 | set S n=>obtain⟨o,_,_,_,e,_⟩:=x;exact⟨_,e⟩
 | ins C dx fs=>obtain⟨_,_,_,e,_⟩:=x;exact⟨_,e⟩
 | own y=>obtain⟨_,e⟩:=x;exact⟨_,e⟩
 | xd fs=>obtain⟨_,⟨_,_,_,e,_⟩,_⟩:=x;exact⟨_,e⟩
 | rng lo hi=>obtain⟨_,_,_,e⟩:=x;exact⟨_,e⟩
 | frz ob u=>obtain⟨e,_⟩:=x;exact⟨_,e⟩
 | tbl ps=>exact⟨_,(x)⟩
 | met f y=>exact⟨_,(x)⟩
 | ext φ => obtain⟨_,⟨_,e⟩,_⟩:=x;exact⟨_,e⟩
theorem HOk.none_of(x:HOk P w H h)(e:h.get? a=none):H a=none:=by
 cases q:H a with
 | none=>rfl
 | some u=>obtain⟨o,h2⟩:=(x a u q).obj;rw[e]at h2;cases h2
structure FlyS(P:Program)(w:World)(l:List Env)(H:Hp)(s:Shared)(ea C t:Addr)(H':Hp)(B:Heap)(s':Shared):Prop where
 os:s'.os=s.os
 bare:AllBare s'.gens
 un:Un (iO l) [] H H' s.heap s'.heap
 kb:∀ b o,s.heap.get? b=some o->H b=none->b∉iO l->B.get? b=some o
 th:∀ b o,s.heap.get? b=some o->b∉iO l->∃ o',B.get? b=some o'
 hok:HOk P w H' B
 fly:Heap.FlyingW B l ea (.ref C) (.ref t) s'.heap
def HasD(h:Heap)(ea:Addr)(dx:Option Addr):Prop:=∃ oe,h.get? ea=some oe/\oe.dict=dx
theorem HasD.go{h h':Heap}{ea:Addr}{dx:Option Addr}(x:HasD h ea dx)(k:DK h h'):HasD h' ea dx:=let ⟨oe,e,d⟩:=x;let ⟨o',e',_,d'⟩:=k ea oe e;⟨o',e',d'.trans d⟩
def i7(P:Program)(w:World):lq:=λl H s E e s'=>∃ ea C t dx H' B,e=.ref ea/\FlyS P w l H s ea C t H' B s'/\HasD s'.heap ea dx/\E (.ref C) dx H'
theorem FlyS.land(F:FlyS P w l H s ea C t H' B s')(fl:Heap.FlyingW B l ea (.ref C) (.ref t) h')(up:s'.heap.UpToSlots h')(fs:∀ b∈iO l,∀ o,s.heap.get? b=some o->∀ vs,o.data≠.fields vs):
 FlyS P w l H s ea C t H' B { s' with heap:=h',toks:=tk } where
 os:=F.os
 bare:=F.bare
 un:={
  keep:=λb o e n hb _=>fl.1 b o (F.kb b o e n hb)
  slot:=λb o e n hb hx=>by
   obtain⟨sl,h1⟩:=F.un.slot b o e n hb hx
   obtain⟨pF,h2⟩:=up b _ h1 (fs b hb o e)
   exact⟨pF,h2⟩
  free:=F.un.free
  there:=λb o e hx=>by
   by_cases hb:b∈iO l
   ·by_cases n:H b=none
    ·obtain⟨sl,h1⟩:=F.un.slot b o e n hb hx
     obtain⟨pF,h2⟩:=up b _ h1 (fs b hb o e)
     exact⟨_,h2⟩
    ·obtain⟨_,⟨o',h2,_⟩⟩:=fl.2.2.1.mem hb
     exact⟨_,h2⟩
   ·obtain⟨o',h2⟩:=F.th b o e hb
    exact⟨o',fl.1 b o' h2⟩
  tups:=F.un.tups
  frzs:=F.un.frzs
  tbls:=F.un.tbls }
 kb:=F.kb
 th:=F.th
 hok:=F.hok
 fly:=fl
theorem wm(I:Inv X pins σ H1 s1):∀ b o,X.s₀.heap.get? b=some o->b∉X.fs->b∉iO X.stack:=λb o e hb z=>by
 rcases aL.mp (I.stkSub b z) with q | q
 ·have:=aS e
  rw[q]at this
  exact absurd (aa this I.ok.above) (bL _)
 ·exact hb q
theorem Ox(I:Inv X pins σ H1 s1):HOk X.prog X.w H1 (PySem.W.hideAll s1.heap (iO X.stack)):=λa o e=>
 (I.hok a o e).stay (λb u hb q=>PySem.W.hideAll_get _ q λz=>by
  have:=I.stkFree b z
  rcases hb with rfl | hb
  ·rw[this]at e;cases e
  ·rw[this]at hb;cases hb) (λ_ q=>q) λ_ _ q=>q
theorem E9(I:Inv X pins σ H1 s1):∀ b∈X.fs,∀ o,X.s₀.heap.get? b=some o->∀ vs,o.data≠.fields vs:=λb hb o e=>by
 obtain⟨_,o',h1,h2⟩:=I.ok.funs.mem hb
 rw[e]at h1;cases h1
 exact h2
theorem JT(I:Inv X pins σ H1 s1)(gH:X.stack=X.env::X.outer)(nz:X.env.frame=some X.env.locals)(hex:X.ex=[])(hx:Heap.MadeExcOf s1.heap h' ea (.ref C) vs)(hE:E (.ref C) none H1):
 wpAny M X.A (leaving X.env (.ref ea)) (λ_ pD=>i7 X.prog X.w X.outer X.H₀ X.s₀ E (.ref ea) pD) Ex { s1 with heap:=h' }:=by
 have mO:∀ env∈X.stack,∀ b,env.frame=some b->b∈iO X.stack:=λenv he b hb=>bU.mpr ⟨env,he,hb⟩
 have st:=I.stack
 refine uV (E8 _ _) (wpAny_leaves_madeW (base:=PySem.W.hideAll s1.heap (iO X.stack)) (h:=s1.heap) (env:=X.env) (outer:=X.outer) (by rw[← gH];exact I.ok.frames) nz (λb o q=>PySem.W.of_hideAll _ q)
  (by rw[← gH];exact PySem.W.funFrames_hide st mO) hx λh2 t fl tp nt up dk=>?_)
 have nx:∀ b:Addr,b∉X.ex:=λb z=>by rw[hex]at z;cases z
 have r9:=λb o e n hb=>PySem.W.hideAll_get _ (I.base.keep b o e n hb (nx b)) (wm I b o e hb)
 have rA:∀ b o,X.s₀.heap.get? b=some o->b∉X.fs->∃ o',(PySem.W.hideAll s1.heap (iO X.stack)).get? b=some o':=λb o e hb=>by
  obtain⟨o',q⟩:=I.base.there b o e (nx b)
  exact⟨o',PySem.W.hideAll_get _ q (wm I b o e hb)⟩
 have slot:∀ b o,X.s₀.heap.get? b=some o->X.H₀ b=none->b∈X.fs->∃ sl,h2.get? b=some { o with slots:=sl }:=λb o e n hb=>by
  obtain⟨sl,q⟩:=I.base.slot b o e n hb (nx b)
  obtain⟨pF,q2⟩:=up b _ (hx.keeps _ _ q) (E9 I b hb o e)
  exact⟨pF,q2⟩
 have hd0:HasD h' ea none:=let ⟨_,q,_⟩:=hx.there;⟨_,q,rfl⟩
 refine⟨ea,C,t,none,H1,_,rfl,⟨I.os,I.bare,⟨λb o e n hb _=>fl.1 b o (r9 b o e n hb),λb o e n hb _=>slot b o e n hb,λb o e n _=>I.base.free b o e n (nx b),λb o e _=>?_,I.base.tups,I.base.frzs,I.base.tbls⟩,r9,rA,Ox I,fl⟩,hd0.go dk,hE⟩
 by_cases hb:b∈X.fs
 ·obtain⟨sl,q⟩:=slot b o e (I.ok.frf b hb) hb
  exact⟨_,q⟩
 ·obtain⟨o',q⟩:=rA b o e hb
  exact⟨o',fl.1 b o' q⟩
theorem Oy(I:Inv X pins σ H1 s1)(gH:X.stack=X.env::X.outer)(nz:X.env.frame=some X.env.locals)(hex:X.ex=[])(h:i7 X.prog X.w X.stack H1 s1 E e s'):
 wpAny M X.A (leaving X.env e) (λ_ pD=>i7 X.prog X.w X.outer X.H₀ X.s₀ E e pD) Ex s':=by
 obtain⟨ea,C,t,dx,H',B,rfl,F,hD,hE⟩:=h
 have fl:=F.fly
 rw[gH]at fl
 refine uV (E8 _ _) (wpAny_leaves_onW (by rw[← gH];exact I.ok.frames) nz fl λh2 wo up dk=>?_)
 have nx:∀ b:Addr,b∉X.ex:=λb z=>by rw[hex]at z;cases z
 have nn:∀ b:Addr,b∉([]:List Addr):=λb z=>by cases z
 have r9:=λb o e n hb=>
  F.kb b o (I.base.keep b o e n hb (nx b)) (I.base.free b o e n (nx b)) (wm I b o e hb)
 have rA:∀ b o,X.s₀.heap.get? b=some o->b∉X.fs->∃ o',B.get? b=some o':=λb o e hb=>by
  obtain⟨o',q⟩:=I.base.there b o e (nx b)
  exact F.th b o' q (wm I b o e hb)
 have slot:∀ b o,X.s₀.heap.get? b=some o->X.H₀ b=none->b∈X.fs->∃ sl,h2.get? b=some { o with slots:=sl }:=λb o e n hb=>by
  obtain⟨sl,q⟩:=I.base.slot b o e n hb (nx b)
  have hs:b∈iO X.stack:=by
   rw[gH]
   obtain⟨env,h1,h2⟩:=bU.mp hb
   exact bU.mpr ⟨env,aG _ h1,h2⟩
  obtain⟨sl1,q1⟩:=F.un.slot b _ q (I.base.free b o e n (nx b)) hs (nn b)
  obtain⟨pF,q2⟩:=up b _ q1 (E9 I b hb o e)
  exact⟨pF,q2⟩
 refine⟨ea,C,t,dx,H',B,rfl,⟨F.os.trans I.os,F.bare,⟨λb o e n hb _=>wo.1 b o (r9 b o e n hb),λb o e n hb _=>slot b o e n hb,λb o e n _=>?_,λb o e _=>?_,λb xs e=>F.un.tups b xs (I.base.tups b xs e),λb o u e=>F.un.frzs b o u (I.base.frzs b o u e),λb ps e=>?_⟩,r9,rA,F.hok,wo⟩,hD.go dk,hE⟩
 ·obtain⟨o',q⟩:∃ o',s1.heap.get? b=some o':=I.base.there b o e (nx b)
  exact F.un.free b o' q (I.base.free b o e n (nx b)) (nn b)
 ·by_cases hb:b∈X.fs
  ·obtain⟨sl,q⟩:=slot b o e (I.ok.frf b hb) hb
   exact⟨_,q⟩
  ·obtain⟨o',q⟩:=rA b o e hb
   exact⟨o',wo.1 b o' q⟩
 ·obtain⟨m1,q1⟩:=I.base.tbls b ps e
  obtain⟨m2,q2⟩:=F.un.tbls b _ q1
  exact⟨m1++m2,by rw[q2,Array.append_assoc]⟩
section
variable {K:PySem.W.Frag}
theorem rB:pv (i7 P w) (je (i7 P w) P w K mg base N qual scope f cd A outer s H E) E:=λpins σ H1 s1 e s' I h=>Oy I rfl rfl rfl h
end
abbrev tD:List Value:=[.type "ValueError",.type "Exception",.type "BaseException",.type "object"]
def pG(K:PySem.W.Frag)(C:Addr):Prop:=PySem.W.excIn K C tD "ValueError.__new__"=true
theorem wq{K:PySem.W.Frag}(X:K.In h)(q:pG K C):∃ bm ns nm qn bs hd sn sub ab col dd k0 k1 k2 k3 k5 mN,
 h.get? C=some (excClassObj nm qn C ns bs bm hd sn sub ab col dd k0 k1 k2 k3 k5 "ValueError.__new__")/\h.Ns ns mN/\mN "__init__"=none/\OwnTail h tD bm:=by
 unfold pG PySem.W.excIn at q
 split at q
 ·rename_i dd cd sl ho
  split at q
  ·rename_i C' bm k0 k1 k2 k3 n k5 hm hs
   simp only[aO,bj,cQ]at q
   obtain⟨⟨⟨⟨⟨rfl,rfl⟩,hdel⟩,ht⟩,hok⟩,hni⟩:=q
   obtain⟨nm,bs,mro,ns,qn,hd,sn,sub,ab,col,del⟩:=cd
   dsimp only at hm hdel hok hni
   subst hm hdel
   have tE:sl = #[k0,k1,k2,k3,some (.builtin "ValueError.__new__"),k5]:=by
    obtain⟨l⟩:=sl
    simp only at hs
    rw[hs]
   subst tE
   exact⟨bm,ns,nm,qn,bs,hd,sn,sub,ab,col,dd,k0,k1,k2,k3,k5,_,X _ _ ho,.of_isNs (PySem.W.isNs_of_in X hok),PySem.W.nsMap_none_of_in X hok hni,PySem.W.tail_of_in X ht⟩
  ·cases q
 ·cases q
def Oz(C:Addr)(E:XK)(ta:TA):TS:=λ_ σ H=>ta σ H λvs H1=>vs.length<=sizeLine/\E (.ref C) none H1
section
variable {eY:List Expr}
theorem P0(P1:∀ pins σ H1 s1 ea h' vs,Inv X pins σ H1 s1->Heap.MadeExcOf s1.heap h' ea (.ref C) vs->E (.ref C) none H1->X.xe (.ref ea) { s1 with heap:=h' })(hc:X.calm=true)
 (hg:Gl X x) (hm:X.mg x=some (.ref C)) (hX:pG X.K C) (ha:PA X (e₀::eY) ta) (he:starEach (e₀::eY) X.env=(false,eval e₀ X.env)::starEach eY X.env:=by rfl)
 (jh:(backTo cpos (starEach eY X.env)).any (·.1)=false:=by rfl) (hd:(x == ("__debug__":Str))=false:=by decide):
 PS X (.Raise (some (.Call (.Name x np) (e₀::eY) [] cpos)) none pos) (Oz C E ta):=by
 intro pins s σ H D I h
 obtain⟨bm,ns,nm,qn,bs,hdct,sn,sub,ab,col,dd,k0,k1,k2,k3,k5,mN,hC,hN,hni,T⟩:=wq I.ok.mod.kin hX
 have FB:=PySem.F.excBase_ValueError
 refine wpAny_Raise_call_subT (nm:=nm) (q:=qn) (N:=ns) (bs:=bs) (hdct:=hdct) (sn:=sn) (sub:=sub) (ab:=ab) (col:=col) (dd:=dd) (k0:=k0) (k1:=k1) (k2:=k2) (k3:=k3) (k5:=k5)
  FB (T.hasType FB.hasBase) (I.ok.hd hc) (by rw[he];show(false||(backTo cpos (starEach eY X.env)).any (·.1))=false;rw[jh];rfl) hni (uS I hg hm ⟨rfl,?_⟩ hd)
 have q:=ha cpos pins s σ H _ I h
 rw[he]at q ⊢
 exact Calls.evalArgs_plain (av q (λus s₂ dm=>by obtain⟨vs,H1,I1,r,hl,hE⟩:=dm;exact⟨rfl,by rw[← r.length];exact hl,I1.bk _ _ hC,hN.keeps I1.bk,T.keeps I1.bk,λh' e P2=>P1 pins σ H1 s₂ e h' us I1 P2 hE⟩) λ_ _ y=>y)
end
theorem P3
 {os:OsState}
 (hD:h.get? D=some (excClassObj nm q D N bs bm hdct sn sub ab col dd k0 k1 k2 k3 k5 newId)) (he:h.get? e=some oe) (nc:oe.cls=.ref C) (ik:bm.contains (.type "BaseException")=true)
 (hs:PySem.W.Looks M h (isSubtype (.ref C) (.ref D)) true)
 (hq:Q true ⟨h,g,d,t,os⟩):wpAny M A (excMatches (.ref e) (.ref D)) Q E ⟨h,g,d,t,os⟩:=by
 have P4:(Value.ref D::bm).contains (.type "BaseException")=true:=by rw[List.contains_cons,ik,Bool.or_true]
 have f:=tc_notTuple
 unfold excMatches
 repeat (first | (with_reducible refine wpAny_loadPart_at he ?_;rw[nc]) | with_reducible refine wpAny_loadPart_at hD ?_ | (with_reducible refine wpAny_isSubtype_exc hD ?_;rw[P4]) | (with_reducible refine aP (hs.at ?_)) | wp_step)
 exact hq
noncomputable def rC(ea C:Addr)(dx:Option Addr:=none):HO:=.ext λh=>∃ o vs,h.get? ea=some o/\o.cls=.ref C/\o.data=.fields vs/\o.dict=dx
abbrev Cx.marked(X:Cx)(ea:Addr):Cx:={ X with A:=X.A.mark (some (.ref ea)),calm:=false,xe:=λ_ _=>False }
section
variable{X:Cx}{pins:List (Addr×Obj)}{σ:St}{H H':Hp}{s s':Shared}{ea C t:Addr}{dx:Option Addr}{B:Heap}
theorem Inv.mark(I:Inv X pins σ H s)(ea:Addr):Inv (X.marked ea) pins σ H s:=
 ⟨⟨I.ok.mod,I.ok.kind,I.ok.glob,I.ok.blt,I.ok.above,I.ok.inj,I.ok.has,I.ok.cab,λh=>(nomatch h),I.ok.frames,I.ok.stk,I.ok.exf,I.ok.bs,I.ok.bsz,I.ok.noex,I.ok.exfs,I.ok.funs,I.ok.frf⟩,I.os,I.bare,I.base,I.loc,I.cell,I.free,I.freeC,I.pin,I.hok,I.len⟩
theorem Inv.unmark(J:X.Ok)(I:Inv (X.marked ea) pins σ H s):Inv X pins σ H s:=⟨J,I.os,I.bare,I.base,I.loc,I.cell,I.free,I.freeC,I.pin,I.hok,I.len⟩
theorem JU(I:Inv X pins σ H s)(F:FlyS X.prog X.w X.stack H s ea C t H' B s')(hD:HasD s'.heap ea dx):H' ea=none/\Inv X pins σ (eT H' ea (rC ea C dx)) s':=by
 obtain⟨f1,f2,f3,f4⟩:=F.fly
 obtain⟨oe,ws,T,oT,ts,e1,⟨e2,_⟩,e3,_⟩:=f4
 have pH:H' ea=none:=F.hok.none_of f2
 have EA:oe.dict=dx:=by obtain⟨o2,q1,q2⟩:=hD;rw[e1]at q1;cases q1;exact q2
 refine⟨pH,I.call' (H':=eT H' ea (rC ea C dx)) (ch:=[]) F.os ⟨F.un.keep,F.un.slot,λb o e n hx=>?_,F.un.there,λb xs e=>?_,λb o u e=>?_,λb ps e=>?_⟩ ?_ F.bare (λb z=>by cases z)⟩
 ·have fT:b≠ea:=by
   rintro rfl
   by_cases hb:b∈iO X.stack
   ·obtain⟨_,o',h1,h2⟩:=f3.mem hb
    rw[e1]at h1;cases h1
    exact h2 _ e3
   ·have:=F.kb b o e n hb
    rw[f2]at this;cases this
  rw[Qk fT]
  exact F.un.free b o e n hx
 ·have:=F.un.tups b xs e
  rw[Qk (QF this pH)];exact this
 ·have:=F.un.frzs b o u e
  rw[Qk (QF this pH)];exact this
 ·obtain⟨m,this⟩:=F.un.tbls b ps e
  exact⟨m,by rw[Qk (QF this pH)];exact this⟩
 ·intro a o e
  by_cases ha:a=ea
  ·subst ha
   rw[QC]at e
   cases e
   refine⟨⟨oe,ws,e1,e2,e3,EA⟩,⟨oe,e1⟩,λh1 h2 ⟨o,vs,p1,p2,p3⟩ k=>⟨o,vs,k o p1,p2,p3⟩⟩
  ·rw[Qk ha]at e
   refine((F.hok a o e).stay (λb u _ q=>f1 b u q) (λb q=>?_) λb xs q=>?_)
   ·rw[Qk (QF q pH)];exact q
   ·rw[Qk (QF q pH)];exact q
theorem P5(I:Inv X pins σ H s):∀ b∈iO X.stack,∀ o,s.heap.get? b=some o->∀ vs,o.data≠.fields vs:=λb hb o e=>by
 obtain⟨_,o',h1,h2⟩:=I.stack.mem hb
 rw[e]at h1;cases h1
 exact h2
end
section
variable{X:Cx}{pins:List (Addr×Obj)}{σ:St}{H H':Hp}{s s':Shared}{ea C DD t:Addr}{dx:Option Addr}{B:Heap}{x n:Str}{np k6:Pos}{b₀:Stmt}{jL:List Stmt}{eY:List ExceptHandler}{D:jd}{Ex:Value->Shared->Prop}{i:Nat}{ts:TS}
end
abbrev TX:=St->Hp->VK->XK->Prop
abbrev wu:=jd->St->Hp->(St->XK)->Prop
def XP(X:Cx)(pins:List (Addr×Obj))(σ:St)(R:XK)(ex:Value)(s':Shared):Prop:=∃ H1 s1,Inv X pins σ H1 s1/\i7 X.prog X.w X.stack H1 s1 R ex s'
def PX(X:Cx)(e:Expr)(t:TX):Prop:=∀(pins:List (Addr×Obj))(s:Shared)(σ:St)(H:Hp)(Q:VK)(R:XK),Inv X pins σ H s->t σ H Q R->wpAny (model X.prog X.w) X.A (eval e X.env) (EP X pins σ Q) (XP X pins σ R) s
def EB(X:Cx)(st:Stmt)(t:wu):Prop:=∀(pins:List (Addr×Obj))(s:Shared)(σ:St)(H:Hp)(D:jd)(R:St->XK),Inv X pins σ H s->t D σ H R->wpAny (model X.prog X.w) X.A (exec st X.env) (SP X pins D) (λex s'=>∃ σ1,XP X pins σ1 (R σ1) ex s') s
def tF(X:Cx)(st:List Stmt)(t:wu):Prop:=∀(pins:List (Addr×Obj))(s:Shared)(σ:St)(H:Hp)(D:jd)(R:St->XK),Inv X pins σ H s->t D σ H R->wpAny (model X.prog X.w) X.A (execs st X.env) (SP X pins D) (λex s'=>∃ σ1,XP X pins σ1 (R σ1) ex s') s
section
variable {ps:List Str} {sp:Sp}
theorem PA.nox(h:PA X.nox es t)(I:Inv X pins σ H s)(q:t σ H Q):
 wpAny (model X.prog X.w) X.A (spliced (backTo pos (starEach es X.env))) (AP X pins σ Q) E s:=
 av (h pos pins s σ H Q (I.wish _) q) (λ_ _ dm=>by obtain⟨v,H',I',r,q⟩:=dm;exact⟨v,H',I'.unwish,r,q⟩) λ_ _ z=>False.elim z
theorem P6(F:FnOk X.prog X.w X.K X.mg X.base (i7 X.prog X.w) k f fd ps sp)(hr:Room k X.A)(hb:Binds X.K fd ps ds)(hd:Vals ic ds)
 (I:Inv X pins σ H s) (r:Vals vs us) (h:sp (vs++ic) H Q R):wpAny (model X.prog X.w) X.A (call (.ref f) us) (EP X pins σ Q) (XP X pins σ R) s:=by
 have r2:=r.append hd
 have hl:(us++ds).length=ps.length:=by rw[← r2.length];exact F.len _ _ _ _ h
 refine wpAny_call (cU (F.run X.A X.stack s H ⟨us,[]⟩ (us++ds) (vs++ic) Q R hr I.env0 (hb s us I.kIn hl) r2 h) λr s' hq=>?_)
 cases r with
 | error e=>exact⟨H,s,I,hq⟩
 | ok fl=>
  cases fl with
  | ret u=>exact I.after hq
  | next=>exact False.elim hq
  | brk=>exact False.elim hq
  | cont=>exact False.elim hq
def P7(sp:Sp)(ic:List V)(t:TA):TX:=λσ H Q R=>t σ H λvs H1=>sp (vs++ic) H1 Q R
theorem P8(F:FnOk X.prog X.w X.K X.mg X.base (i7 X.prog X.w) k f fd ps sp)(hr:Room k X.A)(hg:Gl X x)(hm:X.mg x=some (.ref f))(hk:PySem.W.keepIn X.K (.ref f)=true)(hb:Binds X.K fd ps ds)(hd:Vals ic ds)
 (ha:PA X.nox (e::es) ta) (ij:(x == ("__debug__":Str))=false:=by decide) (he:starEach (e::es) X.env=(false,eval e X.env)::starEach es X.env:=by rfl) (fc:(backTo pos (starEach es X.env)).any (·.1)=false:=by rfl):
 PX X (.Call (.Name x p) (e::es) [] pos) (P7 sp ic ta):=by
 intro pins s σ H Q R I h
 refine bJ (uS I hg hm ?_ ij)
 refine PySem.W.callWith_K I.ok.mod.kin hk (ef (PA.nox ha I h) λus s1 ⟨vs,H1,I1,r,q⟩=>⟨I1.kIn,?_⟩) he fc
 exact P6 F hr hb hd I1 r q
variable {st:Stmt} {eY:List Stmt}
def wx(i:Nat)(te:TX):wu:=λD σ H R=>te σ H (λv H1=>D.nx (σ.set i (some v)) H1) (R σ)
theorem P9(hN:X.N.Nodup)(hi:X.N[i]?=some x)(hx:mI X.env.scope x)(he:PX X e te)(hs:swapsWith e (some (.Name x px)) pos.line X.env=pure false:=by rfl)(hf:X.fn x=true∨X.env.scope.names.lookup x=some .local:=by fail"V2"):
 EB X (.Assign [.Name x px] e pos) (wx i te):=by
 intro pins s σ H D R I h
 refine wpAny_Assign_Name (av (he pins s σ H _ _ I h) (λv s1 dm=>?_) λex s' z=>⟨σ,z⟩) hs
 obtain⟨y,H1,I1,r1,q1⟩:=dm
 exact D9 I1 hN hi hx r1 (λs2 I2=>⟨_,H1,I2,q1⟩) hf
theorem PB(h:EB X st t):tF X [st] t:=by
 intro pins s σ H D R I hw
 refine wpAny_execs_cons (av (h pins s σ H D R I hw) (λf s1 q=>?_) λ_ _ z=>z)
 cases f with
 | next=>exact cH q
 | brk=>exact q
 | cont=>exact q
 | ret u=>exact q
def wy(K:PySem.W.Frag)(DD:Addr)(c:Value)(C:Addr):Prop:=c=.ref C/\PySem.W.subIn K (.ref C) (.ref DD)=some true
end
def nA(x D:Addr)(h:Heap):Prop:=∃ o vs,h.get? x=some o/\o.cls=.ref D/\o.data=.fields vs
section
open PySem.W PySem.Calls Builtin Builtin.ObjectAttr Builtin.Getset_descriptor
variable{K:PySem.W.Frag}
theorem wz{M:Model}{h:Heap}(I:nA x D h):Looks M h (typeOf (.ref x)) (.ref D):=by
 obtain⟨o,vs,h1,h2,_⟩:=I
 exact h2 ▸ (Looks.ld h1).andThen .now
theorem PC(X:K.In h)(ha:findIn K (.ref D) name=some (some a))(hg:specialIn K a "__get__"=some (some g))(ht:takesIn K a=some true):
 Looks M h (find (.ref x) (.ref D) name) (.bind g a):=by
 have L1:=looks_findIn (M:=M) X ha
 have L2:Looks M h (getOf (some a)) (some g):=looks_specialIn X hg
 have L3:=looks_takesIn (M:=M) X ht
 exact L1.andThen (L2.andThen ((show Looks M h (dataDescriptor? (some a) (some g)) (some (g,a)) from L3.andThen .now).andThen (Looks.tag .now)))
theorem PD{M:Model}{x4:Value}{Q:Unit->Shared->Prop}(X:K.In s.heap)(I:nA x D s.heap)(hb:mroIn K D (.type "BaseException")=some true)(hq:Q () s):wpAny M A (checkBuiltinCall "BaseException.__getattribute__" ⟨[.ref x,x4],[]⟩) Q E s:=by
 obtain⟨hh,g,dr,t,os⟩:=s
 have hk:builtinKind "BaseException.__getattribute__"=some .slot:=dk
 have tG:splitId "BaseException.__getattribute__"=some ("BaseException","__getattribute__"):=dk
 have L0:=wz (M:=M) I
 have L1:=looks_mroIn (M:=M) X hb
 simp only[checkBuiltinCall,hk,tG]
 refine aP ?_
 unfold isInstance
 repeat (first | lk | wp_step)
 exact hq
theorem PF(X:K.In s.heap)(I:nA x D s.heap)(hm:mroIn K D (.type "object")=some true)
 (h:R (.ok (.ret (.ref D))) s):codeAny (model prog w) A (.call (.builtin "getset_descriptor.__get__") ⟨[.builtin "object.__class__",.ref x,tp],[]⟩) R s:=by
 obtain⟨hh,g,dr,t,os⟩:=s
 have L0:=wz (M:=model prog w) I
 have L1:=looks_mroIn (M:=model prog w) X hm
 refine codeAny_call_builtin KF.slot_gs.plain KF.entry_gs (KF.slot_gs.check _ _ _ _ _ _ _ _ KF.type_class (KF.args_gs _ _ _) ?_)
 unfold Builtin.«getset_descriptor.__get__» descrGet
 rw[dga_obj]
 refine aP (aX ?_)
 unfold descrGetter descrCheckInstance descrNameAndClass isInstance
 simp only[KF.owner_class]
 repeat lk
 refine⟨Code.quiet_builtin _ (dk),codeAny_builtin KF.entry_class ?_⟩
 unfold Builtin.«object.__class__» shownTypeOf
 repeat lk
 exact h
theorem PH{g a:Value}{tk:Tok}{Q:Fin->Shared->Prop}(X:K.In s.heap)(I:nA x D s.heap)(ha:findIn K (.ref D) "__class__"=some (some (.builtin "object.__class__")))
 (hn:specialIn K (.builtin "object.__class__") "__get__"=some (some (.builtin "getset_descriptor.__get__"))) (ht:takesIn K (.builtin "object.__class__")=some true) (hm:mroIn K D (.type "object")=some true)
 (hq:Q (.done (.ret (.ref D))) s):wpAny (model prog w) A (Builtin.«object.__getattribute__» ⟨[.ref x,.str "__class__" tk],[]⟩) Q E s:=by
 have L3:=PC (x:=x) (M:=model prog w) X ha hn ht
 have L0:=wz (M:=model prog w) I
 obtain⟨hh,gg,d,t,os⟩:=s
 refine aP (aX ?_)
 refine aP (aX (aP (L0.at (aP (L3.at ?_)))))
 exact aP (bw (wpAny_call (PF X I hm (aX hq))))
theorem PJ{Q:Option Value->Shared->Prop}(X:K.In s.heap)(I:nA x D s.heap)(g1:findIn K (.ref D) "__getattribute__"=some (some (.builtin "BaseException.__getattribute__")))(hb:mroIn K D (.type "BaseException")=some true)
 (g2:findIn K (.ref D) "__getattr__"=some none) (ha:findIn K (.ref D) "__class__"=some (some (.builtin "object.__class__")))
 (hn:specialIn K (.builtin "object.__class__") "__get__"=some (some (.builtin "getset_descriptor.__get__"))) (ht:takesIn K (.builtin "object.__class__")=some true) (hm:mroIn K D (.type "object")=some true)
 (h:Q (some (.ref D)) { s with toks:=s.toks+1 }):wpAny (model prog w) A (getAttr? (.ref x) "__class__") Q E s:=by
 obtain⟨hh,g,d,t,os⟩:=s
 have L0:=wz (M:=model prog w) I
 have L1:=looks_findIn (M:=model prog w) X g1
 have L2:=looks_findIn (M:=model prog w) X g2
 have f3:=PySem.F.attr_ValueError.ga.bind (.ref x)
 have uW:(Value.builtin "BaseException.__getattribute__" == Value.builtin "object.__getattribute__")=false:=dk
 have AB:(onTheHeap (Value.ref D)&&Value.builtin "BaseException.__getattribute__" == Value.builtin "object.__getattribute__")=false:=by rw[uW];rfl
 unfold getAttr? getAttrBy? getAttrBy
 refine aP (wpAny_mkText (aP (wpAny_attempt (bw (aP (L0.at (aP (L1.at ?_))))))))
 show wpAny _ _ (if (onTheHeap (Value.ref D)&&Value.builtin "BaseException.__getattribute__" == Value.builtin "object.__getattribute__")=true then _ else getAttrByItsOwn _ _ _ _ _ _) _ _ _
 rw[AB,aB (by decide)]
 unfold getAttrByItsOwn
 refine aP ?_
 refine L2.at ?_
 refine aP (wpAny_attempt ?_)
 refine bw ?_
 show wpAny _ _ (boundAndCalled (.builtin "BaseException.__getattribute__") (.ref x) _) _ _ _
 unfold boundAndCalled
 refine aP (wpAny_of_eq f3 ?_)
 refine wpAny_call (codeAny_call_builtin PySem.F.attr_ValueError.ga.plain F.entry_bexc_ga (PD X I hb (PH (g:=.none) (a:=.none) X I ha hn ht hm ?_)))
 exact handed_on rfl (aX h)
structure rD(K:PySem.W.Frag)(D:Addr):Prop where
 cl:(clsIn K D).isSome=true
 g1:findIn K (.ref D) "__getattribute__"=some (some (.builtin "BaseException.__getattribute__"))
 hb:mroIn K D (.type "BaseException")=some true
 g2:findIn K (.ref D) "__getattr__"=some none
 ha:findIn K (.ref D) "__class__"=some (some (.builtin "object.__class__"))
 hn:specialIn K (.builtin "object.__class__") "__get__"=some (some (.builtin "getset_descriptor.__get__"))
 htk:takesIn K (.builtin "object.__class__")=some true
 hm:mroIn K D (.type "object")=some true
theorem PK(e:rD K D):KitX K (.ref x) (.ref D) (nA x D) where
 ty:=λ_ _ _ I=>wz I
 it:=λ_ _ X _=>by
  obtain⟨PM,hcD⟩:=bP.mp e.cl
  unfold clsIn at hcD
  split at hcD
  ·rename_i c' d' PN vS ho
   intro A' Q' E' s' k q
   unfold isType loadHead
   exact aP (wpAny_loadPart (k _ _ (X _ _ ho)) (aX q))
  ·cases hcD
 ne:=λh tp dd its n sl X x5=>by
  obtain⟨PM,hcD⟩:=bP.mp e.cl
  refine Bool.eq_false_iff.mpr λq=>?_
  have e:=Value.ref.inj (bj.mp q)
  subst e
  unfold clsIn at hcD
  split at hcD
  ·rename_i c' d' PN vS ho
   have z:=(X _ _ ho).symm.trans x5
   cases z
  ·cases hcD
 ca:=λX I k=>PJ X I e.g1 e.hb e.g2 e.ha e.hn e.htk e.hm k
end
end L2
namespace L2
open PySem PySem.Spec
section
variable{prog:Program}{w:World}{A:Around}{E:Value->Shared->Prop}{h:Heap}{g:Array GenState}{d:Drawn}{t:Nat}{os:OsState}
variable{nm q:Str}{C N:Addr}{bs bm bmB:List Value}{hdct:Bool}{sn:List Str}{sub:List Value}{ab:Bool}{col:Option Bool}{dd:Option Addr}{k0 k1 k2 k3 k5:Option Value}{B newId EC:String}
end
section
variable{M:Model}{A:Around}{E:Value->Shared->Prop}{env:Env}{nm q:Str}{C N:Addr}{bs bm:List Value}{hdct:Bool}{sn:List Str}{sub:List Value}{ab:Bool}{col:Option Bool}{dd:Option Addr}{k0 k1 k2 k3 k5:Option Value}{newId:String}
end
section
variable{prog:Program}{w:World}{A:Around}{s:Shared}{K:PySem.W.Frag}{x C:Addr}{R:Result->Shared->Prop}{E:Value->Shared->Prop}
end
end L2
namespace L2
open PySem PySem.Spec PySem.W
section
variable{prog:Program}{w:World}{A:Around}{E:Value->Shared->Prop}{s:Shared}{K:PySem.W.Frag}{x D:Addr}{ox od:Obj}{name:Str}{expr:Bool}{Q:Value->Shared->Prop}{v:Value}
end
end L2
namespace L2
open PySem PySem.Spec PyProof.Rows
abbrev x6(C t:Addr)(dx:Option Addr):Obj:={ cls:=.ref C,dict:=dx,data:=.fields #[.ref t,.none,.none,.none,.bool false,.none] }
noncomputable def ED(ea C t:Addr)(dx:Option Addr):HO:=.ext λh=>h.get? ea=some (x6 C t dx)
section
variable{X:Cx}{pins:List (Addr×Obj)}{σ:St}{H:Hp}{s:Shared}{ea C t:Addr}{h':Heap}{us:List Value}
end
section
variable{X:Cx}{pins:List (Addr×Obj)}{σ:St}{H:Hp}{s:Shared}{a C t:Addr}{f:Str}{y:V}{u:Value}{A:Around}{E:Value->Shared->Prop}
end
section
variable{X:Cx}{o value:Expr}{f:Str}{pos pos':Pos}{ta tv:TE}
end
noncomputable def ip(H:Hp)(ea:Addr):Hp:=λb=>if b=ea then none else H b
theorem x8{H:Hp}{ea b:Addr}(h:b≠ea):ip H ea b=H b:=aB h
theorem PP{H:Hp}{ea b:Addr}(h:H b=none):ip H ea b=none:=by unfold ip;split<;>first | rfl | exact h
theorem PQ{H:Hp}{ea b:Addr}{o:HO}(h:ip H ea b=some o):b≠ea/\H b=some o:=by
 unfold ip at h
 split at h
 ·cases h
 ·exact⟨by assumption,h⟩
section
variable{X:Cx}{pins:List (Addr×Obj)}{σ:St}{H:Hp}{s:Shared}{E:XK}{ea C t:Addr}{dx:Option Addr}{Ex:Value->Shared->Prop}{M:Model}
theorem JV(I:Inv X pins σ H s)(gH:X.stack=X.env::X.outer)(nz:X.env.frame=some X.env.locals)(hex:X.ex=[])(e:H ea=some (ED ea C t dx))(PR:X.s₀.heap.get? ea=none)(hE:E (.ref C) dx (ip H ea)):
 wpAny M X.A (leaving X.env (.ref ea)) (λ_ pD=>i7 X.prog X.w X.outer X.H₀ X.s₀ E (.ref ea) pD) Ex s:=by
 obtain⟨hx,_,_⟩:=(show ObjOk X.prog X.w H s.heap ea (ED ea C t dx) from I.hok ea _ e)
 have mO:∀ env∈X.stack,∀ b,env.frame=some b->b∈ea::iO X.stack:=λenv he b hb=>aG _ (bU.mpr ⟨env,he,hb⟩)
 have st:=I.stack
 have nx:∀ b:Addr,b∉X.ex:=λb z=>by rw[hex]at z;cases z
 have pH:∀ b o,X.s₀.heap.get? b=some o->b≠ea:=λb o q z=>by rw[z,PR]at q;cases q
 have ne2:∀ b o,X.s₀.heap.get? b=some o->b∉X.fs->b∉ea::iO X.stack:=λb o q hb z=>by
  rcases aL.mp z with z | z
  ·exact pH b o q z
  ·exact wm I b o q hb z
 refine uV (E8 _ _) (wpAny_leaving_firstW (base:=PySem.W.hideAll s.heap (ea::iO X.stack)) (env:=X.env) (outer:=X.outer) (a0:=.ref t) (by rw[← gH];exact I.ok.frames)
  (by rw[← gH];exact PySem.W.funFrames_hide st mO) nz hx (λb o q=>PySem.W.of_hideAll _ q) (PySem.W.hideAll_none _ (aR ..)) rfl rfl rfl λh2 hL dk=>?_)
 obtain⟨k1,⟨_,_,k2⟩,k3,up⟩:=hL
 have fl:Heap.FlyingW (PySem.W.hideAll s.heap (ea::iO X.stack)) X.outer ea (.ref C) (.ref t) h2:=⟨k1,PySem.W.hideAll_none _ (aR ..),k2,k3⟩
 have r9:∀ b o,X.s₀.heap.get? b=some o->X.H₀ b=none->b∉X.fs->(PySem.W.hideAll s.heap (ea::iO X.stack)).get? b=some o:=λb o q n hb=>PySem.W.hideAll_get _ (I.base.keep b o q n hb (nx b)) (ne2 b o q hb)
 have rA:∀ b o,X.s₀.heap.get? b=some o->b∉X.fs->∃ o',(PySem.W.hideAll s.heap (ea::iO X.stack)).get? b=some o':=λb o q hb=>by
  obtain⟨o',z⟩:=I.base.there b o q (nx b)
  exact⟨o',PySem.W.hideAll_get _ z (ne2 b o q hb)⟩
 have slot:∀ b o,X.s₀.heap.get? b=some o->X.H₀ b=none->b∈X.fs->∃ sl,h2.get? b=some { o with slots:=sl }:=λb o q n hb=>by
  obtain⟨sl,z⟩:=I.base.slot b o q n hb (nx b)
  obtain⟨pF,z2⟩:=up b _ z (E9 I b hb o q)
  exact⟨pF,z2⟩
 have EF:HOk X.prog X.w (ip H ea) (PySem.W.hideAll s.heap (ea::iO X.stack)):=λa o q=>by
  obtain⟨ha,q⟩:=PQ q
  refine(I.hok a o q).stay (λb u hb z=>PySem.W.hideAll_get _ z λm=>?_) (λb z=>?_) λb xs z=>?_
  ·rcases aL.mp m with m | m
   ·subst m
    rcases hb with rfl | hb
    ·exact ha rfl
    ·rw[e]at hb;cases hb
   ·have:=I.stkFree b m
    rcases hb with rfl | hb
    ·rw[this]at q;cases q
    ·rw[this]at hb;cases hb
  ·rw[x8 (by rintro rfl;rw[e]at z;cases z)];exact z
  ·rw[x8 (by rintro rfl;rw[e]at z;cases z)];exact z
 refine⟨ea,C,t,dx,ip H ea,_,rfl,⟨I.os,I.bare,⟨λb o q n hb _=>fl.1 b o (r9 b o q n hb),λb o q n hb _=>slot b o q n hb,λb o q n _=>PP (I.base.free b o q n (nx b)),λb o q _=>?_,λb xs q=>?_,λb o u q=>?_,λb ps q=>?_⟩,r9,rA,EF,fl⟩,HasD.go ⟨_,hx,rfl⟩ dk,hE⟩
 ·by_cases hb:b∈X.fs
  ·obtain⟨sl,z⟩:=slot b o q (I.ok.frf b hb) hb
   exact⟨_,z⟩
  ·obtain⟨o',z⟩:=rA b o q hb
   exact⟨o',fl.1 b o' z⟩
 ·have z:=I.base.tups b xs q
  rw[x8 (by rintro rfl;rw[e]at z;cases z)];exact z
 ·have z:=I.base.frzs b o u q
  rw[x8 (by rintro rfl;rw[e]at z;cases z)];exact z
 ·obtain⟨m,z⟩:=I.base.tbls b ps q
  exact⟨m,by rw[x8 (by rintro rfl;rw[e]at z;cases z)];exact z⟩
end
section
variable{X:Cx}{pins:List (Addr×Obj)}{σ:St}{H:Hp}{s:Shared}{C f:Addr}{k:Nat}{fd:FuncData}{ps:List Str}{sp:Sp}{ic vs:List V}{ds us:List Value}{Q:Addr->Addr->Hp->Prop}
end
section
variable{X:Cx}{C f:Addr}{E:XK}{x:Str}{k:Nat}{fd:FuncData}{ps:List Str}{sp:Sp}{ic:List V}{ds:List Value}{e₀:Expr}{eY:List Expr}{ta:TA}{np cpos pos:Pos}
end
section
variable{X:Cx}{e:Expr}{f:Str}{pos:Pos}{ta:TE}
end
end L2
namespace L2
open PySem PySem.Spec
end L2
set_option maxHeartbeats 1000000
namespace L2
open PySem PySem.Spec PyProof.Rows
theorem PU(I:Nat->Shared->Prop)(NB:Value->Shared->Prop)(uX:∀ e s',NB e s'->notedBy (model prog w) A env (λe s'=>R (.error e) s') e s')
 (turn:∀ n s,I n s->wpAny (model prog w) A (pyNext it) (λr s₁=>match r with
  | none=>R (.ok .next) s₁
  | some v=>wpAny (model prog w) A (letOwnedTupleGo target it v) (λ_ rE=>wpAny (model prog w) A (assign target env v) (λ_ s₂ =>
   wpAny (model prog w) A (forIn ifs true λc r=>if r=true then do let ok ← isTrue c env (eval c env);pure (ForInStep.yield ok) else pure (ForInStep.yield r)) (λok s₃ =>
    if ok=true then wpAny (model prog w) A (eval elt env) (λx s₄ =>
     wpAny (model prog w) A (call (.builtin "list.append") [acc,x]) (λ_ s₅ => ∃ m,m<n/\I m s₅) NB s₄) NB s₃
    else ∃ m,m<n/\I m s₃) NB s₂) NB rE) NB s₁) NB s)
 (n:Nat) (h:I n s):
 codeAny (model prog w) A (.compLoop (.ListComp elt [⟨target,iter,ifs,0⟩] scope pos) 0 it acc env) R s:=by
 refine codeAny_loop rfl I (λn s hI=>?_) n h
 refine wpAny_noted ?_
 rw[compTurn_list]
 refine aP (wpAny_standAt (aP (av (turn n s hI) (λr s₁ h₁=>?_) uX)))
 cases r with
 | none=>exact aX h₁
 | some v=>
  refine aP (av h₁ (λ_ rE x9=>?_) uX)
  refine aP (av x9 (λ_ s₂ h₂ => aP (av h₂ (λok s₃ h₃ => ?_) uX)) uX)
  cases ok with
  | false=>exact aX ⟨rfl,h₃⟩
  | true=>
   exact aP (aP (av h₃ (λx s₄ h₄ => aP (av h₄ (λ_ s₅ h₅ => aX (aX ⟨rfl,h₅⟩)) uX)) uX))
noncomputable def tH(scope outer:Scope):Scope:=
 { scope with names:=scope.names.map λ(n,k)=>if (k == .free&&outer.kind == .function&&outer.names.lookup n == some .cell) then(n,.cell) else(n,k) }
theorem JW(c:Str->NameKind->Bool)(x:Str):∀ names:List (Str×NameKind),(names.map λ(n,k)=>if c n k=true then(n,NameKind.cell) else(n,k)).lookup x=(names.lookup x).map λk=>if c x k=true then NameKind.cell else k
 | []=>rfl
 | (n,k)::r=>by
  have ih:=JW c x r
  show List.lookup x ((if c n k=true then(n,NameKind.cell) else(n,k))::_)=_
  by_cases hx:x=n
  ·subst hx
   by_cases hc:c x k=true
   ·rw[aA hc,bt,bt];simp[hc]
   ·rw[aB hc,bt,bt];simp[hc]
  ·have hb:(x == n)=false:=by simpa using hx
   by_cases hc:c n k=true
   ·rw[aA hc,aK,aK,hb];exact ih
   ·rw[aB hc,aK,aK,hb];exact ih
theorem JX(scope outer:Scope)(x:Str):(tH scope outer).names.lookup x=(scope.names.lookup x).map λk=>if (k == .free&&outer.kind == .function&&outer.names.lookup x == some .cell)=true then NameKind.cell else k:=
 JW (λn k=>k == .free&&outer.kind == .function&&outer.names.lookup n == some .cell) x scope.names
theorem PV(h:scope.names.lookup x=some .free):(tH scope outer).names.lookup x=some .cell∨(tH scope outer).names.lookup x=some .free:=by
 rw[JX,h]
 show some (if _ then _ else _)=_∨some (if _ then _ else _)=_
 split
 ·exact .inl rfl
 ·exact .inr rfl
theorem PY(h:(tH scope outer).names.lookup x=some .cell∨(tH scope outer).names.lookup x=some .free):scope.names.lookup x=some .cell∨scope.names.lookup x=some .free:=by
 rw[JX]at h
 cases e:scope.names.lookup x with
 | none=>rw[e]at h;rcases h with h | h<;>cases h
 | some k=>
  rw[e]at h
  cases k with
  | free=>exact .inr rfl
  | cell=>exact .inl rfl
  | _=>rcases h with h | h<;>cases h
noncomputable def l9(env:Env):List (Str×NameKind)->List (Str×Addr)->List (Str×Addr)
 | [],acc=>acc
 | (n,k)::r,acc=>if (k == .free)=true then l9 env r ((n,(env.cells.lookup n).getD 0)::acc) else l9 env r acc
theorem JY(h:∀ y∈scope.names,y.2=.free->(env.cells.lookup y.1).isSome=true):closureFor scope env=pure (l9 env scope.names []):=by
 have go:∀ names acc,(∀ y∈names,y.2=.free->(env.cells.lookup y.1).isSome=true)->
  (forIn names acc λx r=>if (x.2 == NameKind.free)=true then(cellOf env x.1>>=λa=>pure (ForInStep.yield ((x.1,a)::r))) else pure (ForInStep.yield r):Sem (List (Str×Addr)))=pure (l9 env names acc):=by
  intro names
  induction names with
  | nil=>intro acc _;rfl
  | cons y r ih=>
   intro acc hy
   obtain⟨n,k⟩:=y
   rw[List.forIn_cons]
   unfold l9
   by_cases hk:(k == NameKind.free)=true
   ·obtain⟨c,hc⟩:=bP.mp (hy (n,k) aR (bj.mp hk))
    have e:cellOf env n=pure c:=by unfold cellOf;rw[hc]
    simp only[hk,cv,e]
    rw[show(env.cells.lookup n).getD 0=c from by rw[hc];rfl]
    exact ih _ λy hm=>hy y (aG _ hm)
   ·simp only[hk]
    exact ih _ λy hm=>hy y (aG _ hm)
 have e:=go scope.names [] h
 unfold closureFor
 exact bO (λm=>m>>=λs=>(pure s)) e
theorem AC:∀{names:List (Str×NameKind)}{acc:List (Str×Addr)},p∈l9 env names acc->p∈acc∨p.2=(env.cells.lookup p.1).getD 0/\∃ y∈names,y.1=p.1/\y.2=.free
 | [],_,h=>.inl h
 | (n,k)::r,acc,h=>by
  unfold l9 at h
  split at h
  ·rename_i hk
   rcases AC h with h | ⟨h,y,hy,e⟩
   ·rcases aL.mp h with h | h
    ·subst h;exact .inr ⟨rfl,(n,k),aR,rfl,bj.mp hk⟩
    ·exact .inl h
   ·exact .inr ⟨h,y,aG _ hy,e⟩
  ·rcases AC h with h | ⟨h,y,hy,e⟩
   ·exact .inl h
   ·exact .inr ⟨h,y,aG _ hy,e⟩
theorem AD:∀{names:List (Str×NameKind)}{acc:List (Str×Addr)},(acc.lookup x).isSome=true∨(∃ y∈names,y.1=x/\y.2=.free)->((l9 env names acc).lookup x).isSome=true
 | [],_,h=>h.elim id λ⟨_,hy,_⟩=>nomatch hy
 | (n,k)::r,acc,h=>by
  unfold l9
  split
  ·rename_i hk
   refine AD ?_
   rcases h with h | ⟨y,hy,e1,e2⟩
   ·refine .inl ?_
    rw[aK]
    split
    ·rfl
    ·exact h
   ·rcases aL.mp hy with rfl | hy
    ·refine .inl ?_
     have e1:=e1
     subst e1
     rw[bt];rfl
    ·exact .inr ⟨y,hy,e1,e2⟩
  ·rename_i hk
   refine AD ?_
   rcases h with h | ⟨y,hy,e1,e2⟩
   ·exact .inl h
   ·rcases aL.mp hy with rfl | hy
    ·have e2:=e2
     subst e2
     exact absurd rfl hk
    ·exact .inr ⟨y,hy,e1,e2⟩
theorem qB{α:Type}{l:List (Str×α)}{c:α}(h:l.lookup x=some c):(x,c)∈l:=bc h
theorem AE:∀{names:List (Str×NameKind)}{n:Nat}{acc:List (Str×Addr)},p∈cellsFrom n names acc->p∈acc∨n<=p.2
 | [],_,_,h=>.inl h
 | (y,k)::r,n,acc,h=>by
  unfold cellsFrom at h
  split at h
  ·rcases AE h with h | h
   ·rcases aL.mp h with h | h
    ·subst h;exact .inr (aJ _)
    ·exact .inl h
   ·exact .inr (d8 h)
  ·exact AE h
theorem EG:∀{names:List (Str×NameKind)}{n:Nat}{acc:List (Str×Addr)},(∀ p∈acc,p.2<n)->(∀ p∈acc,∀ q∈acc,p.2=q.2->p.1=q.1)->∀ p∈cellsFrom n names acc,∀ q∈cellsFrom n names acc,p.2=q.2->p.1=q.1
 | [],_,_,_,h=>h
 | (y,k)::r,n,acc,hl,hi=>by
  unfold cellsFrom
  split
  ·refine EG (λp hp=>?_) λp hp q hq e=>?_
   ·rcases aL.mp hp with rfl | hp
    ·exact bf _
    ·exact bZ (hl p hp)
   ·rcases aL.mp hp with rfl | hp<;>rcases aL.mp hq with rfl | hq
    ·rfl
    ·exact absurd e (cm (hl q hq))
    ·exact absurd e (ai (hl p hp))
    ·exact hi p hp q hq e
  ·exact EG hl hi
theorem EH:∀{names:List (Str×NameKind)}{h:Heap}{acc:List (Str×Addr)},(∀ p∈acc,∃ v,h.IsCell p.2 v)->∀ p∈cellsFrom h.objs.size names acc,∃ v,(pushCells h names).IsCell p.2 v
 | [],_,_,h=>h
 | (y,k)::r,h,acc,hc=>by
  unfold cellsFrom pushCells
  split
  ·have:=EH (names:=r) (h:=h.push { cls:=.type "cell",data:=.cell none }) (acc:=(y,h.objs.size)::acc) λp hp=>by
    rcases aL.mp hp with rfl | hp
    ·exact⟨none,_,af _ rfl,rfl⟩
    ·obtain⟨v,q⟩:=hc p hp
     exact⟨v,q.keeps λb o e=>aI _ e⟩
   rwa [c7]at this
  ·exact EH hc
theorem EI:∀{names:List (Str×NameKind)}{n:Nat}{acc:List (Str×Addr)},(∀ y∈names,y.1=x->y.2=.free)->(cellsFrom n names acc).lookup x=acc.lookup x
 | [],_,_,_=>rfl
 | (y,k)::r,n,acc,h=>by
  unfold cellsFrom
  split
  ·rename_i hk
   rw[EI λz hz=>h z (aG _ hz),aK]
   split
   ·rename_i hb
    have hx:=bj.mp hb
    have:=h (y,k) aR hx.symm
    have this:=this
    subst this
    exact absurd hk (by decide)
   ·rfl
  ·exact EI λz hz=>h z (aG _ hz)
def EJ(scope:Scope)(cl:List (Str×Addr))(L:Addr)(env:Env):Env:=
 { scope:=tH scope env.scope,locals:=L,globals:=env.globals,cells:=cellsFrom (L+1) scope.names cl,qual:=env.qual,func:=none,code:=env.code,frame:=env.frame,builtins:=env.builtins }
theorem PZ
 (h:∀ c,{ c with scope:=relabel scope env }=EJ scope cl s.heap.objs.size env->c.locals=s.heap.objs.size->Q c { s with heap:=pushCells (s.heap.push { cls:=.type "dict",data:=.dict #[] }) scope.names }):
 wpAny M A (newFunctionEnv scope env.globals cl [] env.qual none .none (some env)) Q E s:=by
 simp only[newFunctionEnv,Option.isSome_some,cv]
 refine aP (wpAny_alloc ?_)
 refine aP (wpAny_layCells _ (λname kind cells=>by cases hkc:kind == NameKind.cell<;>simp[hkc]) _ _ _ _ ?_)
 rw[c7 ..]
 refine aP (aX (aX (h _ ?_ rfl)))
 rfl
noncomputable def lA(js:List (Option Nat))(σ:St):St:=js.map λj=>j.bind λj=>(σ[j]?).join
structure Qu(N':List Str)(js:List (Option Nat))(scope outer:Scope)(N:List Str):Prop where
 kind:scope.kind=.function
 uniq:∀ y∈scope.names,scope.names.lookup y.1=some y.2
 nd:N'.Nodup
 len:js.length=N'.length
 free:∀ y∈scope.names,y.2=.free->outer.names.lookup y.1=some .cell∨outer.names.lookup y.1=some .free
 cap:((N'.zip js).all λp=>match p.2 with
  | none=>true
  | some j=>decide (N[j]?=some p.1)&&decide (scope.names.lookup p.1=some .free))=true
theorem Qu.capOf(S:Qu N' js scope outer N){i j:Nat}(h1:N'[i]?=some x)(h2:js[i]?=some (some j)):
 N[j]?=some x/\scope.names.lookup x=some .free/\∀ y∈scope.names,y.1=x->y.2=.free:=by
 have h:=cA.mp S.cap (x,some j) (by
  refine bW (i:=i) ?_
  rw[List.getElem?_zip_eq_some]
  exact⟨h1,h2⟩)
 simp only[aO,d9]at h
 exact⟨h.1,h.2,λy hy e=>by
  have:=S.uniq y hy
  rw[e,h.2]at this
  exact(ag this).symm⟩
theorem Qu.names(S:Qu N' js scope outer N):∀ y∈scope.names,y.2=.local->scope.names.lookup y.1=some .local:=λy hy e=>by
 rw[S.uniq y hy,e]
def uY(X:Cx)(N':List Str)(scope:Scope)(fp:List Addr)(s:Shared)(H:Hp):Cx:=
 { X with N:=N',s₀:=s,H₀:=H,env:=EJ scope (l9 X.env scope.names []) s.heap.objs.size X.env,outer:=X.stack,ex:=fp,
          fn:=λx=>match scope.names.lookup x with | some .cell=>true | _=>false,pn:=[],xe:=λ_ _=>False }
theorem Pa{X:Cx}{N':List Str}{js:List (Option Nat)}(S:Qu N' js scope X.env.scope X.N)(I:Inv X pins σ H s)(hf:∀ b∈fp,jB X pins H b)
 (ly:∀ b∈fp,b<s.heap.objs.size):
 Inv (uY X N' scope fp s H) [] (lA js σ) H { s with heap:=pushCells (s.heap.push { cls:=.type "dict",data:=.dict #[] }) scope.names }:=by
 have hk:∀ b o,s.heap.get? b=some o->(pushCells (s.heap.push { cls:=.type "dict",data:=.dict #[] }) scope.names).get? b=some o:=λb o e=>pushCells_keeps _ _ b o (aI _ e)
 have sz:(s.heap.push { cls:=.type "dict",data:=.dict #[] }).objs.size=s.heap.objs.size+1:=c7 ..
 have out:∀ x,(∃ y∈scope.names,y.1=x/\y.2=.free)->∃ c,X.env.cells.lookup x=some c:=λx dm=>by
  obtain⟨y,hy,e1,e2⟩:=dm
  subst e1
  exact I.ok.has y.1 (S.free y hy e2)
 have uZ:∀ p∈l9 X.env scope.names [],X.env.cells.lookup p.1=some p.2:=λp hp=>by
  rcases AC hp with h | ⟨h,hy⟩
  ·cases h
  ·obtain⟨c,hc⟩:=out p.1 hy
   rw[hc]at h ⊢
   rw[h];rfl
 have EK:∀ p∈l9 X.env scope.names [],p.2<s.heap.objs.size:=λp hp=>by
  obtain⟨v,q⟩:=I.cell p.1 p.2 (uZ p hp)
  exact q.lt
 have cin:∀ x c,(cellsFrom (s.heap.objs.size+1) scope.names (l9 X.env scope.names [])).lookup x=some c->X.env.cells.lookup x=some c∨s.heap.objs.size+1<=c:=λx c e=>by
  rcases AE (qB e) with h | h
  ·exact .inl (uZ _ h)
  ·exact .inr h
 have EL:∀ x,scope.names.lookup x=some .free->(∀ y∈scope.names,y.1=x->y.2=.free)->(cellsFrom (s.heap.objs.size+1) scope.names (l9 X.env scope.names [])).lookup x=X.env.cells.lookup x:=λx hx hy=>by
  rw[EI hy]
  have hs:=AD (env:=X.env) (acc:=[]) (.inr ⟨_,qB hx,rfl,rfl⟩)
  obtain⟨c,hc⟩:=bP.mp hs
  rw[hc,uZ _ (qB hc)]
 refine⟨⟨I.ok.mod,S.kind,I.ok.glob,I.ok.blt,aJ _,λx y c h1 h2=>?_,λx hx=>?_,λx c hx h=>?_,I.ok.hd,I.ok.frames,.inl rfl,λb hb=>?_,I.bs,b0 I.ok.bsz I.sz,λb o e hb=>?_,λb hb hz=>?_,I.stack,I.stkFree⟩,
  rfl,I.bare,Un.kept hk,?_,λx c h=>?_,I.hok.fresh (aJ _),λx c h=>?_,λp hp=>absurd (show p∈([]:List (Addr×Obj)) from hp) (by simp),I.hok.kept hk,?_⟩
 ·refine EG (λp hp=>bZ (EK p hp)) (λp hp q hq e=>?_) (x,c) (qB h1) (y,c) (qB h2) rfl
  have a:=uZ p hp
  have b:=uZ q hq
  rw[← e]at b
  exact I.ok.inj _ _ _ a b
 ·have xA:=PY (hx)
  refine bP.mp (PySem.W.cellsFrom_some scope.names _ _ ?_)
  rcases xA with h | h
  ·exact .inl h
  ·exact .inr (AD (.inr ⟨_,qB h,rfl,rfl⟩))
 ·rcases AE (qB h) with hm | hm
  ·-- an own cell's name is captured too: its first entry is the own one
   have xA:scope.names.lookup x=some .cell:=by
    have uW:(match scope.names.lookup x with | some .cell=>true | _=>false)=true:=hx
    split at uW
    ·assumption
    ·cases uW
   rcases AC hm with q | ⟨_,y,hy,e1,e2⟩
   ·cases q
   ·have:=S.uniq y hy
    have e1:=e1
    rw[e1,xA,e2]at this
    cases this
  ·exact d8 hm
 ·refine⟨ai (ly b hb),λx c h e=>?_⟩
  rcases cin x c h with q | q
  ·exact(hf b hb).2.2.2.2.1 x c q e
  ·have:=ly b hb
   rw[← e]at this
   exact absurd (aa this (d8 q)) (bL _)
 ·rcases(hf b hb).2.2.2.1 with z | z
  ·exact I.ok.noex b o e z
  ·exact absurd (aa (aS (I.ok.bs b o e).1) z) (bL _)
 ·rcases aL.mp (I.stkSub b hz) with e | e
  ·exact(hf b hb).2.1 e
  ·exact(hf b hb).2.2.1 e
 ·obtain⟨m,hn,hl⟩:=I.loc
  refine⟨λ_=>none,(Heap.Ns.new s.heap (.type "dict")).keeps (pushCells_keeps _ _),λi x v h1 h2 h3=>?_⟩
  have o3:((js[i]?).map λj=>j.bind λj=>(σ[j]?).join)=some (some v):=by
   unfold lA at h2
   rw[aH]at h2
   exact h2
  cases e:js[i]? with
  | none=>rw[e]at o3;cases o3
  | some o=>
   rw[e]at o3
   cases o with
   | none=>cases o3
   | some j=>
    have h4:(σ[j]?).join=some v:=ag o3
    have h5:σ[j]?=some (some v):=by
     cases z:σ[j]? with
     | none=>rw[z]at h4;cases h4
     | some o=>rw[z]at h4;have h4:o=some v:=h4;rw[h4]
    obtain⟨hN,hx,hy⟩:=S.capOf h1 e
    have xB:=S.free _ (qB hx) rfl
    obtain⟨u,r,lk⟩:=hl j x v hN h5 (.inr xB)
    refine⟨u,r,.inr ⟨PV hx,?_⟩⟩
    rcases lk with⟨k,_⟩ | ⟨_,c,hc,z⟩
    ·have k:X.env.scope.names.lookup x=some .local:=k
     rcases xB with q | q
     ·rw[k]at q;cases q
     ·rw[k]at q;cases q
    ·exact⟨c,(EL x hx hy).trans hc,z.keeps hk⟩
 ·have:=EH (names:=scope.names) (h:=s.heap.push { cls:=.type "dict",data:=.dict #[] }) (acc:=l9 X.env scope.names []) (λp hp=>by
   obtain⟨v,q⟩:=I.cell p.1 p.2 (uZ p hp)
   exact⟨v,q.keeps λb o e=>aI _ e⟩) (x,c) (by rw[sz];exact qB h)
  exact this
 ·rcases cin x c h with q | q
  ·exact I.freeC x c q
  ·exact I.hok.fresh (d8 q)
 ·show(js.map _).length=N'.length
  rw[aD];exact S.len
def xC(X:Cx)(e:Expr):TE:=λσ H Q=>∃ t,PE X e t/\t σ H Q
theorem Pb:PE X e (xC X e):=λpins s σ H Q I ⟨t,ht,h⟩=>ht pins s σ H Q I h
def xD(X:Cx)(e:Expr):TG:=λv σ H Q=>∃ t,PG X e t/\t v σ H Q
theorem Pc:PG X e (xD X e):=λpins s σ H v u Q I r ⟨t,ht,h⟩=>ht pins s σ H v u Q I r h
def PIf(X:Cx)(ifs:List Expr)(tc:TT):Prop:=(ifs=[]/\tc=λ_ H Q=>Q true H)∨∃ c,ifs=[c]/\PT X c tc
theorem Pd:PIf X [] (λ_ H Q=>Q true H):=.inl ⟨rfl,rfl⟩
theorem Pe(h:PT X c tc):PIf X [c] tc:=.inr ⟨c,rfl,h⟩
theorem PIf.run(h:PIf X ifs tc)(I:Inv X pins σ H s)(q:tc σ H Q):
 wpAny (model X.prog X.w) X.A (forIn ifs true λc r=>if r=true then do let ok ← isTrue c X.env (eval c X.env);pure (ForInStep.yield ok) else pure (ForInStep.yield r)) (TP X pins σ Q) X.xe s:=by
 rcases h with⟨rfl,rfl⟩ | ⟨c,rfl,h⟩
 ·exact wpAny_tests_nil ⟨H,I,q⟩
 ·exact wpAny_tests_one (h pins s σ H Q I q)
def EM(X:Cx)(ifs:List Expr):TT:=λσ H Q=>∃ t,PIf X ifs t/\t σ H Q
def o7(X':Cx)(js:List (Option Nat))(tg elt:Expr)(ifs:List Expr)(σ:St)(H1:Hp)(J:It)(p:Addr)(Q:VK):Prop:=
 ∃ W:Nat->Nat->St->Hp->Prop,(∃ m,W 0 m (lA js σ) (eT H1 p (.lst [])))/\∀ i m τ H',W i m τ H'->
 (J.stop i H'/\Q (.ref p) H')∨(J.go i H'/\∃ N:St->Hp->Prop,(∀ τ' o8,N τ' o8->∃ m',m'<m/\W (i+1) m' τ' o8)/\∀ x o8,J.yld i H' x o8->xD X' tg x τ o8 λτ2 H2=>EM X' ifs τ2 H2 λb H3=>
  if b=true then xC X' elt τ2 H3 λy H4=>∃ ys,H4 p=some (.lst ys)/\ys.length<sizeLine/\N τ2 (eT H4 p (.lst (ys++[y]))) else N τ2 H3)
def o9(X:Cx)(N':List Str)(js:List (Option Nat))(scope:Scope)(tg elt:Expr)(ifs:List Expr)(wi:TI):TE:=λσ H Q=>wi σ H λJ H1=>∀ p,H1 p=none->∀ fp s,
 o7 (uY X N' scope fp s (eT H1 p (.lst []))) js tg elt ifs σ H1 J p Q
theorem JZ(hc:X.calm=true)(S:Qu N' js scope X.env.scope X.N)
 (I2:Inv X pins σ H s) (T:lp X.prog X.w X.K tg J fp it tn) (st:tn 0 s.heap) (hf:∀ b∈fp,jB X pins H b)
 (hW:∀ p,H p=none->∀ fp s,o7 (uY X N' scope fp s (eT H p (.lst []))) js tg elt ifs σ H J p R)
 {RR:Value->Addr->Result->Shared->Prop}
 (Pf:∀(D C:Addr)(s':Shared)(H':Hp),Inv X pins σ H' s'->(∃ m,s'.heap.Ns C m)->H' C=none->C≠X.env.locals->X.s₀.heap.objs.size<=C->(∀ x c,X.env.cells.lookup x=some c->c≠C)->(∀ p∈X.pn++pins,p.1≠C)->R (.ref D) H'->RR (.ref D) C (.ok .next) s'):
 wpAny (model X.prog X.w) X.A (newList []) (λacc s₃ => wpAny (model X.prog X.w) X.A (newFunctionEnv scope X.env.globals (l9 X.env scope.names []) [] X.env.qual none .none (some X.env)) (λcenv s₄ =>
  codeAny (model X.prog X.w) X.A (.compStart (.ListComp elt [⟨tg,iter,ifs,0⟩] scope pos) 0 (.ref it) acc { cenv with scope:=relabel scope X.env }) (RR acc cenv.locals) s₄) E s₃) E s:=by
 refine wpAny_newObj_type ?_
 have tI:=I2.hok.fresh (aJ _)
 have I3:=I2.lnew (t':=s.toks) .nil (bV _)
 generalize AF:({ s with heap:=s.heap.push { cls:=.type "list",data:=.seq ([]).toArray } }:Shared)=s3 at I3 ⊢
 have EN:s3.heap.objs.size=s.heap.objs.size+1:=by rw[← AF];exact c7 ..
 have Pg:∀ b o,s.heap.get? b=some o->s3.heap.get? b=some o:=λb o e=>by rw[← AF];exact aI _ e
 have flt:∀ b∈fp,b<s.heap.objs.size:=λb hb=>by
  obtain⟨o,e,_⟩:=T.obj _ _ st b hb
  exact aS e
 have EO:∀ b∈fp,jB X pins (eT H s.heap.objs.size (.lst [])) b:=λb hb=>⟨by rw[Qk (ai (flt b hb))];exact(hf b hb).1,(hf b hb).2⟩
 have zy:=T.keep _ _ _ st λb _ o e=>Pg b o e
 refine PZ λcenv xE el=>?_
 rw[xE,el]
 have I4:=Pa S I3 EO λb hb=>by rw[EN];exact bZ (flt b hb)
 obtain⟨W,⟨m0,w0⟩,turn⟩:=hW _ tI fp s3
 generalize nR:uY X N' scope fp s3 (eT H s.heap.objs.size (.lst []))=X' at I4 turn
 generalize Ph:({ s3 with heap:=pushCells (s3.heap.push { cls:=.type "dict",data:=.dict #[] }) scope.names }:Shared)=s4 at I4 ⊢
 have xF:EJ scope (l9 X.env scope.names []) s3.heap.objs.size X.env=X'.env:=by rw[← nR];rfl
 have mP:X'.prog=X.prog:=by rw[← nR];rfl
 have ew:X'.w=X.w:=by rw[← nR];rfl
 have eK:X'.K=X.K:=by rw[← nR];rfl
 have eA:X'.A=X.A:=by rw[← nR];rfl
 have rF:X'.calm=true:=by rw[← nR];exact hc
 have Pi:∀ e s',X'.xe e s'->False:=λe s' h=>by rw[← nR]at h;exact h
 have AG:X'.ex=fp:=by rw[← nR];rfl
 have Pj:X'.fs=iO X.stack:=by rw[← nR];rfl
 have Pl:X'.pn=[]:=by rw[← nR];rfl
 have Ja:X'.s₀=s3:=by rw[← nR];rfl
 have Pm:X'.H₀=eT H s.heap.objs.size (.lst []):=by rw[← nR];rfl
 have xG:X'.env.locals=s3.heap.objs.size:=by rw[← xF];rfl
 rw[xF]
 have Jb:tn 0 s4.heap:=T.keep _ _ _ zy λb _ o e=>by rw[← Ph];exact pushCells_keeps _ _ b o (aI _ e)
 have tJ:∀{H':Hp},(∀ b∈fp,H' b=none)->∀ b∈fp,jB X' [] H' b:=λ{H'} hn b hb=>by
  obtain⟨h1,h2⟩:=I4.ok.exf b (by rw[AG];exact hb)
  exact⟨hn b hb,h1,λz=>I4.ok.exfs b (by rw[AG];exact hb) z,.inl (by rw[AG];exact hb),h2,λp hp=>by rw[Pl]at hp;cases hp⟩
 have loop:∀ s5,s5=s4->codeAny (model X.prog X.w) X.A (.compLoop (.ListComp elt [⟨tg,iter,ifs,0⟩] scope pos) 0 (.ref it) (.ref s.heap.objs.size) X'.env) (RR (.ref s.heap.objs.size) s3.heap.objs.size) s5:=by
  rintro s5 rfl
  refine PU (λn s'=>∃ i τ H',Inv X' [] τ H' s'/\tn i s'.heap/\(∀ b∈fp,H' b=none)/\W i n τ H') (λ_ _=>False) (λ_ _ h=>h.elim) ?_ m0 ⟨0,_,_,I4,Jb,λb hb=>(EO b hb).1,w0⟩
  rintro n s6 ⟨i,τ,H6,I6,st6,fr6,w6⟩
  have A1:∀{α:Type}{t:Sem α}{Q:α->Shared->Prop}{s:Shared},wpAny (model X'.prog X'.w) X'.A t Q X'.xe s->wpAny (model X.prog X.w) X.A t Q (λ_ _=>False) s:=λ{α t Q s} h=>by
   rw[mP,ew,eA]at h
   exact av h (λ_ _ q=>q) Pi
  rcases turn i n τ H6 w6 with⟨stop,qn⟩ | ⟨go,N,hN,step⟩
  ·have h7:=T.done X' mP ew eK rF i [] s6 τ H6 (λ_ _=>False) I6 (tJ fr6) st6 stop
   rw[eA]at h7
   refine ef h7 λr s7 ⟨hr,I7⟩=>?_
   subst hr
   have un:=I7.base
   rw[Ja,Pm,Pj,AG]at un
   have ER:=I3.call' (by rw[I7.os,Ja]) un (by have:=I7.hok;rw[mP,ew]at this;exact this) I7.bare λb hb=>by
    obtain⟨f0,f1,f2,f3,f4,f5⟩:=EO b hb
    exact⟨f3,f1,f4,f5⟩
   refine Pf _ _ s7 H6 ER ?_ ?_ ?_ ?_ ?_ ?_ qn
   ·obtain⟨m,hn,_⟩:=I7.loc
    rw[xG]at hn
    exact⟨m,hn⟩
   ·have:=I7.free
    rw[xG]at this
    exact this
   ·exact cm I3.lt
   ·exact I3.sz
   ·intro x c e z
    obtain⟨v,q⟩:=I3.cell x c e
    exact absurd q.lt (by rw[z];exact bL _)
   ·intro p hp z
    exact absurd (aS (I3.pin p hp).1) (by rw[z];exact bL _)
  ·have h6:=T.item X' mP ew eK rF i [] s6 τ H6 (λ_ _=>False) I6 (tJ fr6) st6 go
   rw[eA]at h6
   refine ef h6 λr s7 ⟨u,hr,h7⟩=>?_
   subst hr
   refine ef h7 λ_ s8 dm=>?_
   obtain⟨x,H8,I8,r8,y8,st8,fr8⟩:=dm
   have Pn:=I8.pinned (tJ fr8) (T.obj _ _ st8)
   refine ef (A1 (Pc _ s8 τ H8 x u _ Pn r8 (step x H8 y8))) λ_ s9 dm=>?_
   obtain⟨τ9,H9,I9,q9⟩:=dm
   obtain⟨Jc,hif,q9⟩:=q9
   refine ef (A1 (hif.run I9 q9)) λok Po ⟨Pp,I10,q10⟩=>?_
   have again:∀{τ':St}{H':Hp}{s':Shared},Inv X' ([]++wD fp s8.heap) τ' H' s'->N τ' H'->∃ m,m<n/\∃ i τ H',Inv X' [] τ H' s'/\tn i s'.heap/\(∀ b∈fp,H' b=none)/\W i m τ H':=λ{τ' H' s'} I' n'=>by
    obtain⟨m',hm,w'⟩:=hN τ' H' n'
    refine⟨m',hm,i+1,τ',H',I'.unpinned,T.keep _ _ _ st8 λb hb o e=>(I'.pin (b,o) (ay _ (ay _ (zx hb e)))).1,λb hb=>?_,w'⟩
    obtain⟨o,e,d⟩:=T.obj _ _ st8 b hb
    exact(I'.pin (b,o) (ay _ (ay _ (zx hb e)))).2.1
   cases ok with
   | false=>
    rw[aB ak]at q10 ⊢
    exact again I10 q10
   | true=>
    rw[aA rfl]at q10 ⊢
    refine ef (A1 (Pb _ Po τ9 Pp _ I10 q10)) λy Pq dm=>?_
    obtain⟨yv,H11,I11,r11,ys,hp11,hz,n11⟩:=dm
    refine ef (A1 (JI _ Pq τ9 H11 (.ref s.heap.objs.size) [yv] (.ref s.heap.objs.size) [y] (λ_ H'=>N τ9 H') I11 rfl (.cons r11 .nil) ⟨_,ys,yv,rfl,rfl,hp11,hz,n11⟩)) λ_ s12 dm=>?_
    obtain⟨v12,H12,I12,_,n12⟩:=dm
    exact again I12 n12
 exact codeAny_compStart_list (loop _ rfl) (T.self _ 0 _ _ _ Jb (loop _ rfl))
theorem Pr(hc:X.calm=true)(S:Qu N' js scope X.env.scope X.N)(hi:PI X tg iter wi)
 (hs:∀ x,foldedSetIterable iter X.env x=pure x:=by fail"V3"):PE X (.ListComp elt [⟨tg,iter,ifs,0⟩] scope pos) (o9 X N' js scope tg elt ifs wi):=by
 intro pins s σ H Q I h
 rw[eval_ListComp]
 have xH:=JY λy hy e=>by
  obtain⟨c,hc⟩:=I.ok.has y.1 (S.free y hy e)
  rw[hc];rfl
 refine wpAny_comprehension_free rfl hs xH S.kind S.names (ef (hi pins s σ H _ I h) λv s1 h1=>ef h1 λzu s2 h2=>?_)
 obtain⟨it,fp,tn,J,H2,e,I2,T,sv,f2,hW⟩:=h2
 subst e
 refine JZ hc S I2 T sv f2 hW ?_
 rintro D C s' H' I' ⟨m,hn⟩ hC h1 h2 h3 h4 q
 refine⟨m,hn,λh' ES=>⟨.ref D,H',?_,rfl,q⟩⟩
 exact I'.turned (λb o hb e=>(ES.2 b hb).trans e) hC (bR (bR h1)) (.inr h2) h3 h4
theorem Jd(hc:X.calm=true)(S:Qu N' js scope X.env.scope X.N)(hi:PI X tg iter wi)
 (hN:X.N.Nodup) (hx:X.N[i]?=some x) (hl:mI X.env.scope x)
 (lz:swapsWith (.ListComp elt [⟨tg,iter,ifs,0⟩] scope pos) (some (.Name x px)) spos.line X.env=pure true)
 (hf:X.fn x=true∨X.env.scope.names.lookup x=some .local:=by fail"V2")
 (hs:∀ x,foldedSetIterable iter X.env x=pure x:=by fail"V3"):PS X (.Assign [.Name x px] (.ListComp elt [⟨tg,iter,ifs,0⟩] scope pos) spos) (sr (o9 X N' js scope tg elt ifs wi) (ng i)):=by
 intro pins s σ H D I h
 rw[exec_Assign_Name_used _ _ _ _ lz]
 refine aP (wpAny_standAt (aP ?_))
 have xH:=JY λy hy e=>by
  obtain⟨c,hc⟩:=I.ok.has y.1 (S.free y hy e)
  rw[hc];rfl
 refine aP (av (wpAny_comprehension_free rfl hs xH S.kind S.names
  (ef (hi pins s σ H _ I h) λv s1 h1=>ef h1 λzu s2 h2=>?_)) (λ_ s' hq=>aX (aX hq)) λ_ _ e=>e)
 obtain⟨it,fp,tn,J,H2,e,I2,T,sv,f2,hW⟩:=h2
 subst e
 refine JZ hc S I2 T sv f2 hW ?_
 rintro DD C s' H' I' ⟨m,hn⟩ hC h1 h2 h3 h4 q
 refine wpAny_assign_Name (Ij (v:=.ref DD) I' hN hx hl rfl (λpD I'' ⟨a,ES,ha⟩=>?_) hf)
 have Pt:C≠a:=by
  rcases ha with rfl | ha
  ·exact h1
  ·exact bR (h3 x a ha)
 refine⟨m,hn.sameBut ES Pt,λh' ET=>⟨_,H',?_,q⟩⟩
 exact I''.turned (λb o hb e=>(ET.2 b hb).trans e) hC h1 (.inr h2) h3 h4
end L2
namespace DL
open PySem PySem.Spec PyProof.Rows L2
inductive D where
 | non | bl (b:Bool) | int (i:Int) | str (x:Str)
 | lst (xs:List D) | tup (xs:List D) | dic (kvs:List (f9×D)) | ins (c:Str) (fs:List (Str×D)) | err (c:Str) (fs:List (Str×V):=[])
instance:Inhabited D:=⟨.non⟩
def PayOk(H:Hp)(dx:Option Addr)(fs:List (Str×V)):Prop:=(fs=[]/\dx=none)∨∃ b,dx=some b/\H b=some (.xd fs)
def PayN(H0 H:Hp)(dx:Option Addr)(fs:List (Str×V)):Prop:=(fs=[]/\dx=none)∨∃ b,dx=some b/\H0 b=none/\H b=some (.xd fs)
theorem PayOk.mono{H H':Hp}{dx:Option Addr}{fs:List (Str×V)}(x:PayOk H dx fs)(e:∀ b o,H b=some o->H' b=some o):PayOk H' dx fs:=by
 rcases x with x | ⟨b,x,y⟩
 ·exact .inl x
 ·exact .inr ⟨b,x,e _ _ y⟩
theorem PayN.back{H0 H1 H:Hp}{dx:Option Addr}{fs:List (Str×V)}(x:PayN H1 H dx fs)(e:∀ b,H1 b=none->H0 b=none):PayN H0 H dx fs:=by
 rcases x with x | ⟨b,x,y,z⟩
 ·exact .inl x
 ·exact .inr ⟨b,x,e _ y,z⟩
theorem EU{H0 H:Hp}:PayN H0 H none []:=.inl ⟨rfl,rfl⟩
abbrev eU:=Str->Option Addr
section
variable(K:PySem.W.Frag)(CT:eU)(H:Hp)
mutual
def Rep:D->V->Prop
 | .non,v=>v=.non
 | .bl b,v=>v=.bl b
 | .int i,v=>v=.int i
 | .str x,v=>v=.str x
 | .lst ds,v=>∃ a vs,v=.ref a/\SqL K H a vs/\RepL ds vs
 | .tup ds,v=>∃ a vs,v=.ref a/\SqT K H a vs/\RepL ds vs
 | .dic kds,v=>∃ a kvs,v=.ref a/\Rd H a (.dK kvs)/\RepK kds kvs
 | .ins c fds,v=>∃ a C dx fs,v=.ref a/\CT c=some C/\H a=some (.ins C dx fs)/\RepF fds fs
 | .err c fs,v=>∃ a C dx,v=.ref a/\CT c=some C/\H a=some (rC a C dx)/\PayOk H dx fs
def RepL:List D->List V->Prop
 | [],vs=>vs=[]
 | d::ds,vs=>∃ v r,vs=v::r/\Rep d v/\RepL ds r
def RepK:List (f9×D)->List (f9×V)->Prop
 | [],kvs=>kvs=[]
 | (k,d)::ds,kvs=>∃ v r,kvs=(k,v)::r/\Rep d v/\RepK ds r
def RepF:List (Str×D)->List (Str×V)->Prop
 | [],kvs=>kvs=[]
 | (k,d)::ds,kvs=>∃ v r,kvs=(k,v)::r/\Rep d v/\RepF ds r
end
end
section
variable{K:PySem.W.Frag}
theorem Same.sqT(e:Same H H')(h:SqT K H a xs):SqT K H' a xs:=by
 rcases h with(h | ⟨o,h⟩) | h
 ·exact .inl (.inl (e _ _ h))
 ·exact .inl (.inr ⟨o,e _ _ h⟩)
 ·exact .inr h
theorem Same.rd(e:Same H H')(h:Rd H a u):Rd H' a u:=by
 rcases h with h | ⟨o,h⟩
 ·exact .inl (e _ _ h)
 ·exact .inr ⟨o,e _ _ h⟩
mutual
theorem Rep.mono(e:Same H H'):∀(d:D)(v:V),Rep K CT H d v->Rep K CT H' d v
 | .non,_,h=>h
 | .bl _,_,h=>h
 | .int _,_,h=>h
 | .str _,_,h=>h
 | .lst ds,_,⟨a,vs,h1,h2,h3⟩=>⟨a,vs,h1,e.seq h2,RepL.mono e ds vs h3⟩
 | .tup ds,_,⟨a,vs,h1,h2,h3⟩=>⟨a,vs,h1,Same.sqT e h2,RepL.mono e ds vs h3⟩
 | .dic ds,_,⟨a,vs,h1,h2,h3⟩=>⟨a,vs,h1,Same.rd e h2,RepK.mono e ds vs h3⟩
 | .ins c ds,_,⟨a,C,dx,fs,h1,h2,h3,h4⟩=>⟨a,C,dx,fs,h1,h2,e _ _ h3,RepF.mono e ds fs h4⟩
 | .err c fs,_,⟨a,C,dx,h1,h2,h3,h4⟩=>⟨a,C,dx,h1,h2,e _ _ h3,h4.mono e⟩
theorem RepL.mono(e:Same H H'):∀(ds:List D)(vs:List V),RepL K CT H ds vs->RepL K CT H' ds vs
 | [],_,h=>h
 | d::ds,_,dm=>by obtain⟨v,r,h1,h2,h3⟩:=dm;exact⟨v,r,h1,Rep.mono e d v h2,RepL.mono e ds r h3⟩
theorem RepK.mono(e:Same H H'):∀(ds:List (f9×D))(vs:List (f9×V)),RepK K CT H ds vs->RepK K CT H' ds vs
 | [],_,h=>h
 | (k,d)::ds,_,dm=>by obtain⟨v,r,h1,h2,h3⟩:=dm;exact⟨v,r,h1,Rep.mono e d v h2,RepK.mono e ds r h3⟩
theorem RepF.mono(e:Same H H'):∀(ds:List (Str×D))(vs:List (Str×V)),RepF K CT H ds vs->RepF K CT H' ds vs
 | [],_,h=>h
 | (k,d)::ds,_,dm=>by obtain⟨v,r,h1,h2,h3⟩:=dm;exact⟨v,r,h1,Rep.mono e d v h2,RepF.mono e ds r h3⟩
end
abbrev dD:=@Rep.mono
abbrev dE:=@RepL.mono
theorem RepL.length:∀{ds:List D}{vs:List V},RepL K CT H ds vs->ds.length=vs.length
 | [],_,h=>by cases h;rfl
 | d::ds,_,dm=>by obtain⟨v,r,h1,h2,h3⟩:=dm;subst h1;simp[RepL.length h3]
theorem RepL.get:∀{ds:List D}{vs:List V}{i:Nat}{d:D},RepL K CT H ds vs->ds[i]?=some d->∃ v,vs[i]?=some v/\Rep K CT H d v
 | [],_,_,_,_,e=>by simp at e
 | d::ds,_,0,_,dm,e=>by obtain⟨v,r,h1,h2,h3⟩:=dm;subst h1;simp at e;subst e;exact⟨v,rfl,h2⟩
 | d::ds,_,i+1,x,dm,e=>by
  obtain⟨v,r,h1,h2,h3⟩:=dm
  subst h1
  obtain⟨u,a,b⟩:=RepL.get h3 (by simpa using e)
  exact⟨u,by simpa using a,b⟩
theorem RepL.append:∀{ds es:List D}{vs us:List V},RepL K CT H ds vs->RepL K CT H es us->RepL K CT H (ds++es) (vs++us)
 | [],_,_,_,h,k=>by cases h;exact k
 | d::ds,_,_,_,dm,k=>by obtain⟨v,r,h1,h2,h3⟩:=dm;subst h1;exact⟨v,_,rfl,h2,RepL.append h3 k⟩
theorem RepL.take:∀(n:Nat){ds:List D}{vs:List V},RepL K CT H ds vs->RepL K CT H (ds.take n) (vs.take n)
 | 0,_,_,_=>by simp[RepL]
 | n+1,[],_,h=>by cases h;simp[RepL]
 | n+1,d::ds,_,dm=>by obtain⟨v,r,h1,h2,h3⟩:=dm;subst h1;exact⟨v,_,rfl,h2,RepL.take n h3⟩
theorem RepL.drop:∀(n:Nat){ds:List D}{vs:List V},RepL K CT H ds vs->RepL K CT H (ds.drop n) (vs.drop n)
 | 0,_,_,h=>h
 | n+1,[],_,h=>by cases h;simp[RepL]
 | n+1,d::ds,_,dm=>by obtain⟨v,r,h1,h2,h3⟩:=dm;subst h1;exact RepL.drop n h3
theorem RepL.set(q:Rep K CT H d v):∀(i:Nat){ds:List D}{vs:List V},RepL K CT H ds vs->RepL K CT H (ds.set i d) (vs.set i v)
 | _,[],_,h=>by cases h;simp[RepL]
 | 0,_::ds,_,dm=>by obtain⟨w,r,h1,h2,h3⟩:=dm;subst h1;exact⟨v,r,rfl,q,h3⟩
 | i+1,e::ds,_,dm=>by obtain⟨w,r,h1,h2,h3⟩:=dm;subst h1;exact⟨w,_,rfl,h2,RepL.set q i h3⟩
theorem RepL.reverse:∀{ds:List D}{vs:List V},RepL K CT H ds vs->RepL K CT H ds.reverse vs.reverse
 | [],_,h=>by cases h;simp[RepL]
 | d::ds,_,dm=>by
  obtain⟨v,r,h1,h2,h3⟩:=dm
  subst h1
  rw[d7,d7]
  exact RepL.append (RepL.reverse h3) ⟨v,[],rfl,h2,rfl⟩
theorem RepL.rep(h:RepL K CT H ds vs):∀ k:Nat,RepL K CT H (List.replicate k ds).flatten (List.replicate k vs).flatten
 | 0=>rfl
 | k+1=>by
  rw[bS,bS,bx,bx]
  exact h.append (h.rep k)
theorem RepL.one(h:Rep K CT H d v):RepL K CT H [d] [v]:=⟨v,[],rfl,h,rfl⟩
theorem RepL.map_int:∀(ns:List Int),RepL K CT H (ns.map D.int) (ns.map V.int)
 | []=>rfl
 | n::ns=>⟨_,_,rfl,rfl,RepL.map_int ns⟩
end
inductive Out(α:Type) where
 | ok (a:α) | exc (x:D) | stuck
namespace Out
noncomputable def bind{α β:Type}:Out α->(α->Out β)->Out β
 | .ok a,f=>f a
 | .exc x,_=>.exc x
 | .stuck,_=>.stuck
instance:Monad Out where
 pure:=.ok
 bind:=bind
def post{α:Type}(o:Out α)(k:α->Prop)(x:D->Prop):Prop:=match o with
 | .ok a=>k a
 | .exc e=>x e
 | .stuck=>False
@[simp] theorem bind_ok(a:α)(f:α->Out β):(Out.ok a>>=f)=f a:=rfl
@[simp] theorem bind_exc(x:D)(f:α->Out β):((Out.exc x:Out α)>>=f)=.exc x:=rfl
@[simp] theorem bind_stuck(f:α->Out β):((Out.stuck:Out α)>>=f)=.stuck:=rfl
@[simp] theorem QAj(a:α)(f:α->Out β):(Out.ok a).bind f=f a:=rfl
@[simp] theorem QAi(x:D)(f:α->Out β):(Out.exc x:Out α).bind f=.exc x:=rfl
@[simp] theorem Qz6(f:α->Out β):(Out.stuck:Out α).bind f=.stuck:=rfl
@[simp] theorem pure_eq(a:α):(pure a:Out α)=.ok a:=rfl
theorem post_bind(o:Out α)(f:α->Out β)(k:β->Prop)(x:D->Prop):(o>>=f).post k x↔o.post (λa=>(f a).post k x) x:=by
 cases o<;>exact Iff.rfl
theorem post_mono{o:Out α}(h:o.post k x)(hk:∀ a,k a->k' a):o.post k' x:=by
 cases o with
 | ok a=>exact hk a h
 | exc e=>exact h
 | stuck=>exact h
end Out
abbrev dQ:=@Out.bind_ok
abbrev dR:=@Out.post_bind
abbrev dS:=@Out.post_mono
abbrev St:=L2.St
inductive SM where
 | k | o | l | s
abbrev SD:=List (Option (SM×D))
structure Dc where
 X:Cx
 CT:eU
 G0:Hp
 XD:D->Prop
 B:Hp
 M:Addr->Prop
 W:Nat->Option Addr:=λ_=>none
 H0:Hp:=X.H₀
abbrev Dc.K(C:Dc):PySem.W.Frag:=C.X.K
def Own(K:PySem.W.Frag)(CT:eU)(G H:Hp)(p:Addr):D->Prop
 | .lst ds=>∃ vs,H p=some (.lst vs)/\RepL K CT G ds vs
 | .dic ds=>∃ kvs,H p=some (.dK kvs)/\RepK K CT G ds kvs
 | .ins c ds=>∃ A dx fs,CT c=some A/\H p=some (.ins A dx fs)/\RepF K CT G ds fs
 | _=>False
theorem Own.there{K:PySem.W.Frag}{CT:eU}{G H:Hp}{p:Addr}:∀{d:D},Own K CT G H p d->∃ o,H p=some o
 | .lst _,dm=>by obtain⟨_,h,_⟩:=dm;exact⟨_,h⟩
 | .dic _,dm=>by obtain⟨_,h,_⟩:=dm;exact⟨_,h⟩
 | .ins _ _,dm=>by obtain⟨_,_,_,_,h,_⟩:=dm;exact⟨_,h⟩
 | .non,h=>h.elim
 | .bl _,h=>h.elim
 | .int _,h=>h.elim
 | .str _,h=>h.elim
 | .tup _,h=>h.elim
theorem Own.mono{K:PySem.W.Frag}{CT:eU}{G G' H H':Hp}{p:Addr}(g:Same G G')(h:∀ o,H p=some o->H' p=some o):∀{d:D},Own K CT G H p d->Own K CT G' H' p d
 | .lst ds,dm=>by obtain⟨vs,a,b⟩:=dm;exact⟨vs,h _ a,dE g ds vs b⟩
 | .dic ds,dm=>by obtain⟨vs,a,b⟩:=dm;exact⟨vs,h _ a,RepK.mono g ds vs b⟩
 | .ins _ ds,dm=>by obtain⟨A,dx,fs,e,a,b⟩:=dm;exact⟨A,dx,fs,e,h _ a,RepF.mono g ds fs b⟩
 | .non,h=>h.elim
 | .bl _,h=>h.elim
 | .int _,h=>h.elim
 | .str _,h=>h.elim
 | .tup _,h=>h.elim
theorem Own.rep{K:PySem.W.Frag}(g:Same G H):∀{d:D},Own K CT G H p d->Rep K CT H d (.ref p)
 | .lst ds,dm=>by obtain⟨vs,a,b⟩:=dm;exact⟨p,vs,rfl,SqL.of a,dE g ds vs b⟩
 | .dic ds,dm=>by obtain⟨vs,a,b⟩:=dm;exact⟨p,vs,rfl,Rd.of a,RepK.mono g ds vs b⟩
 | .ins _ ds,dm=>by obtain⟨A,dx,fs,e,a,b⟩:=dm;exact⟨p,A,dx,fs,rfl,e,a,RepF.mono g ds fs b⟩
 | .non,h=>h.elim
 | .bl _,h=>h.elim
 | .int _,h=>h.elim
 | .str _,h=>h.elim
 | .tup _,h=>h.elim
structure GH(C:Dc)(G H:Hp):Prop where
 sub:Same G H
 g0:Same C.G0 G
 new:∀ b,C.G0 b=none->G b≠none->C.H0 b=none
 fr:∀ b o,C.H0 b=some o->¬ C.M b->H b=some o
 dom:∀ b,H b=none->C.H0 b=none
 bs:Same C.B H
 bh:∀ b,C.H0 b=none->C.B b=none
structure StR(C:Dc)(G H:Hp)(σ:St)(ς:SD):Prop extends GH C G H where
 len:σ.length=ς.length
 fz:∀(i:Nat) d,ς[i]?=some (some (.k,d))->∃ v,σ[i]?=some (some v)/\Rep C.X.K C.CT G d v
 ow:∀(i:Nat) d,ς[i]?=some (some (.o,d))->∃ p,σ[i]?=some (some (.ref p))/\G p=none/\C.H0 p=none/\Own C.X.K C.CT G H p d
 ln:∀(i:Nat) d,ς[i]?=some (some (.l,d))->∃ v,σ[i]?=some (some v)/\Rep C.X.K C.CT C.B d v/\∀ p,C.W i=some p->v=.ref p
 inj:∀(i j:Nat) d e p,i≠j->ς[i]?=some (some (.o,d))->ς[j]?=some (some (.o,e))->σ[i]?=some (some (.ref p))->σ[j]?≠some (some (.ref p))
 sf:∀(i:Nat) d,ς[i]?=some (some (.s,d))->∃ p,σ[i]?=some (some (.ref p))/\G p=none/\C.H0 p≠none/\(C.M p/\C.W i=some p)/\C.B p=none/\Own C.X.K C.CT G H p d
 su:∀(i j:Nat) d e p,i≠j->ς[i]?=some (some (.s,d))->ς[j]?=some (some (.s,e))->σ[i]?=some (some (.ref p))->σ[j]?≠some (some (.ref p))
theorem GH.gnone(S:GH C G H)(h:H p=none):G p=none:=S.sub.free h
theorem GH.h0none(S:GH C G H){p:Addr}(h:H p=none):C.H0 p=none:=S.dom p h
theorem Qv(h:H p=none):Same H (eT H p o):=λb u e=>by
 rw[Qk (QF e h)];exact e
theorem EV(s:Same G H):Same (eT G p o) (eT H p o):=λb u e=>by
 by_cases hb:b=p
 ·subst hb;rw[QC]at e ⊢;exact e
 ·rw[Qk hb]at e ⊢;exact s b u e
theorem GH.grow(S:GH C G H)(hH:Same H H')(hG:Same G G')(hs:Same G' H')(hn:∀ b,G b=none->G' b≠none->H b=none):GH C G' H' where
 sub:=hs
 g0:=S.g0.trans hG
 new:=λb h0 h1=>by
  cases q:G b with
  | none=>exact S.h0none (hn b q h1)
  | some o=>exact S.new b h0 (by rw[q];simp)
 fr:=λb o e m=>hH b o (S.fr b o e m)
 dom:=λb e=>S.dom b (hH.free e)
 bs:=S.bs.trans hH
 bh:=S.bh
theorem StR.own_ne(S:StR C G H σ ς){i:Nat}(h:ς[i]?=some (some (.o,d)))(hp:σ[i]?=some (some (.ref p))):∃ o,H p=some o:=by
 obtain⟨q,e,_,_,o⟩:=S.ow i d h
 rw[hp]at e;cases e
 exact o.there
theorem StR.grow(S:StR C G H σ ς)(hH:Same H H')(hG:Same G G')(hs:Same G' H')(hn:∀ b,G b=none->G' b≠none->H b=none):StR C G' H' σ ς where
 toGH:=S.toGH.grow hH hG hs hn
 len:=S.len
 fz:=λi d e=>let ⟨v,a,b⟩:=S.fz i d e;⟨v,a,dD hG d v b⟩
 ow:=λi d e=>by
  obtain⟨p,a,b,c,o⟩:=S.ow i d e
  refine⟨p,a,?_,c,o.mono hG λu q=>hH _ _ q⟩
  cases q:G' p with
  | none=>rfl
  | some u=>
   obtain⟨w,hw⟩:=o.there
   have:=hn p b (by rw[q];simp)
   rw[hw]at this;cases this
 ln:=S.ln
 inj:=S.inj
 sf:=λi d e=>by
  obtain⟨p,a,b,c,m,z,o⟩:=S.sf i d e
  refine⟨p,a,?_,c,m,z,o.mono hG λu q=>hH _ _ q⟩
  cases q:G' p with
  | none=>rfl
  | some u=>
   obtain⟨w,hw⟩:=o.there
   have:=hn p b (by rw[q];simp)
   rw[hw]at this;cases this
 su:=S.su
theorem StR.alloc(S:StR C G H σ ς)(h:H p=none):StR C (eT G p o) (eT H p o) σ ς:=
 S.grow (Qv h) (Qv (S.sub.free h)) (EV S.sub) λb g n=>by
  by_cases hb:b=p
  ·subst hb;exact h
  ·rw[Qk hb,g]at n;exact absurd rfl n
theorem StR.allocO(S:StR C G H σ ς)(h:H p=none):StR C G (eT H p o) σ ς:=
 S.grow (Qv h) (dC G) (S.sub.trans (Qv h)) λb g n=>absurd g n
def KD(C:Dc)(G H:Hp)(σ:St)(ς:SD)(Q:VK)(d:D):Prop:=∀ v H' G',StR C G' H' σ ς->Same H H'->Same G G'->Rep C.X.K C.CT G' d v->Q v H'
def KB(C:Dc)(G H:Hp)(σ:St)(ς:SD)(Q:VK)(d:D):Prop:=∀ v H' G',StR C G' H' σ ς->Same H H'->Same G G'->Rep C.X.K C.CT H' d v->Q v H'
def KF(C:Dc)(G H:Hp)(σ:St)(ς:SD)(Q:VK)(d:D):Prop:=∀ p H' G',StR C G' H' σ ς->Same H H'->Same G G'->H p=none->G' p=none->Own C.X.K C.CT G' H' p d->Q (.ref p) H'
def DE(C:Dc)(e:Expr)(E:SD->Out D):Prop:=∃ t,PE C.X e t/\∀ G H σ ς Q,StR C G H σ ς->(E ς).post (KD C G H σ ς Q) C.XD->t σ H Q
def DB(C:Dc)(e:Expr)(E:SD->Out D):Prop:=∃ t,PE C.X e t/\∀ G H σ ς Q,StR C G H σ ς->(E ς).post (KB C G H σ ς Q) C.XD->t σ H Q
def DF(C:Dc)(e:Expr)(E:SD->Out D):Prop:=∃ t,PE C.X e t/\∀ G H σ ς Q,StR C G H σ ς->(E ς).post (KF C G H σ ς Q) C.XD->t σ H Q
def KT(C:Dc)(G H:Hp)(σ:St)(ς:SD)(Q:Bool->Hp->Prop)(b:Bool):Prop:=∀ H' G',StR C G' H' σ ς->Same H H'->Same G G'->Q b H'
def DT(C:Dc)(e:Expr)(T:SD->Out Bool):Prop:=∃ t,PT C.X e t/\∀ G H σ ς Q,StR C G H σ ς->(T ς).post (KT C G H σ ς Q) C.XD->t σ H Q
def DW(C:Dc)(e:Expr)(T:SD->Out Bool):Prop:=∃ t,PW C.X e t/\∀ G H σ ς Q,StR C G H σ ς->(T ς).post (KT C G H σ ς Q) C.XD->t σ H Q
def DA(C:Dc)(es:List Expr)(A:SD->Out (List D)):Prop:=∃ t,PA C.X es t/\∀ G H σ ς Q,StR C G H σ ς->
 (A ς).post (λds=>∀ vs H' G',StR C G' H' σ ς->Same H H'->Same G G'->RepL C.X.K C.CT G' ds vs->Q vs H') C.XD->t σ H Q
def nS(C:Dc)(es:List Expr)(A:SD->Out (List D)):Prop:=∃ t,PA C.X es t/\∀ G H σ ς Q,StR C G H σ ς->
 (A ς).post (λds=>∀ vs H' G',StR C G' H' σ ς->Same H H'->Same G G'->RepL C.X.K C.CT H' ds vs->Q vs H') C.XD->t σ H Q
inductive Fl where
 | nx (ς:SD) | rt (fr:Bool) (d:D) | bk (ς:SD) | ct (ς:SD)
def EW(K:PySem.W.Frag)(CT:eU)(fr:Bool)(H0 G' H':Hp)(d:D)(v:V):Prop:=
 if fr=true then ∃ p,v=.ref p/\H0 p=none/\G' p=none/\Own K CT G' H' p d else Rep K CT G' d v
def FlK(C:Dc)(G:Hp)(W:jd):Fl->Prop
 | .nx ς'=>∀ σ' H' G',StR C G' H' σ' ς'->Same G G'->W.nx σ' H'
 | .bk ς'=>∀ σ' H' G',StR C G' H' σ' ς'->Same G G'->W.bk σ' H'
 | .ct ς'=>∀ σ' H' G',StR C G' H' σ' ς'->Same G G'->W.ct σ' H'
 | .rt fr d=>∀ v H' G',GH C G' H'->Same G G'->EW C.X.K C.CT fr C.H0 G' H' d v->W.rt v H'
def DS(C:Dc)(st:Stmt)(T:SD->Out Fl):Prop:=∃ t,PS C.X st t/\∀ G H σ ς W,StR C G H σ ς->(T ς).post (FlK C G W) C.XD->t W σ H
def lY(C:Dc)(st:List Stmt)(T:SD->Out Fl):Prop:=∃ t,PSs C.X st t/\∀ G H σ ς W,StR C G H σ ς->(T ς).post (FlK C G W) C.XD->t W σ H
theorem StR.freeze(S:StR C G H σ ς)(hp:H p=some o)(hg:G p=none)(h0:C.H0 p=none)(hn:∀(i:Nat) d,ς[i]?=some (some (.o,d))->σ[i]?≠some (some (.ref p))):StR C (eT G p o) H σ ς where
 sub:=λb u q=>by
  by_cases hb:b=p
  ·subst hb;rw[QC]at q;cases q;exact hp
  ·rw[Qk hb]at q;exact S.sub b u q
 g0:=S.g0.trans (Qv hg)
 new:=λb h1 h2=>by
  by_cases hb:b=p
  ·subst hb;exact h0
  ·rw[Qk hb]at h2;exact S.new b h1 h2
 fr:=S.fr
 dom:=S.dom
 bs:=S.bs
 bh:=S.bh
 len:=S.len
 fz:=λi d q=>let ⟨v,a,b⟩:=S.fz i d q;⟨v,a,dD (Qv hg) d v b⟩
 ow:=λi d q=>by
  obtain⟨r,a,b,c,w⟩:=S.ow i d q
  refine⟨r,a,?_,c,w.mono (Qv hg) λ_ z=>z⟩
  rw[Qk (by rintro rfl;exact hn i d q a)];exact b
 ln:=S.ln
 inj:=S.inj
 sf:=λi d q=>by
  obtain⟨r,a,b,c,m,z,w⟩:=S.sf i d q
  refine⟨r,a,?_,c,m,z,w.mono (Qv hg) λ_ z=>z⟩
  rw[Qk (by rintro rfl;exact c h0)];exact b
 su:=S.su
theorem Own.known{K:PySem.W.Frag}(hg:G p=none)(hp:H p=some o):∀{d:D},Own K CT G H p d->Rep K CT (eT G p o) d (.ref p)
 | .lst ds,dm=>by obtain⟨vs,a,b⟩:=dm;rw[hp]at a;cases a;exact⟨p,vs,rfl,SqL.of QC,dE (Qv hg) ds vs b⟩
 | .dic ds,dm=>by obtain⟨vs,a,b⟩:=dm;rw[hp]at a;cases a;exact⟨p,vs,rfl,Rd.of QC,RepK.mono (Qv hg) ds vs b⟩
 | .ins _ ds,dm=>by obtain⟨A,dx,fs,e,a,b⟩:=dm;rw[hp]at a;cases a;exact⟨p,A,dx,fs,rfl,e,QC,RepF.mono (Qv hg) ds fs b⟩
 | .non,h=>h.elim
 | .bl _,h=>h.elim
 | .int _,h=>h.elim
 | .str _,h=>h.elim
 | .tup _,h=>h.elim
theorem StR.new_ne(S:StR C G H σ ς)(h:H p=none):∀(i:Nat) d,ς[i]?=some (some (.o,d))->σ[i]?≠some (some (.ref p)):=λi d q z=>by
 obtain⟨o,w⟩:=S.own_ne q z
 rw[h]at w;cases w
theorem KD.ofF(S:StR C G H σ ς)(k:KD C G H σ ς Q d):KF C G H σ ς Q d:=λp H' G' S' hH hG hp hg ow=>by
 obtain⟨o,ho⟩:=ow.there
 exact k _ _ _ (S'.freeze ho hg (S.h0none hp) (S.new_ne hp)) hH (hG.trans (Qv hg)) (ow.known hg ho)
theorem DF.de(h:DF C e E):DE C e E:=by
 obtain⟨t,h1,h2⟩:=h
 refine⟨t,h1,λG H σ ς Q S q=>h2 G H σ ς Q S (dS q λd k=>KD.ofF S k)⟩
abbrev dF:=@DF.de
theorem DE.db(h:DE C e E):DB C e E:=by
 obtain⟨t,h1,h2⟩:=h
 refine⟨t,h1,λG H σ ς Q S q=>h2 G H σ ς Q S (dS q λd k v H' G' S' a b r=>k v H' G' S' a b (dD S'.sub d v r))⟩
abbrev dG:=@DE.db
noncomputable def D.scal:D->Bool
 | .non=>true
 | .bl _=>true
 | .int _=>true
 | .str _=>true
 | _=>false
theorem Rep.scal{K:PySem.W.Frag}:∀{d:D}{v:V},d.scal=true->Rep K CT H d v->Rep K CT G d v
 | .non,_,_,h=>h
 | .bl _,_,_,h=>h
 | .int _,_,_,h=>h
 | .str _,_,_,h=>h
theorem KD.now(k:KD C G H σ ς Q d)(S:StR C G H σ ς)(r:Rep C.X.K C.CT G d v):Q v H:=k v H G S (dC H) (dC G) r
abbrev dH:=@KD.now
theorem KB.now(k:KB C G H σ ς Q d)(S:StR C G H σ ς)(r:Rep C.X.K C.CT H d v):Q v H:=k v H G S (dC H) (dC G) r
theorem KT.now(k:KT C G H σ ς Q b)(S:StR C G H σ ς):Q b H:=k H G S (dC H) (dC G)
theorem KD.later(k:KD C G H σ ς Q d)(hH:Same H H1)(hG:Same G G1):KD C G1 H1 σ ς Q d:=λv H' G' S a b r=>k v H' G' S (hH.trans a) (hG.trans b) r
abbrev dJ:=@KD.later
theorem KB.later(k:KB C G H σ ς Q d)(hH:Same H H1)(hG:Same G G1):KB C G1 H1 σ ς Q d:=λv H' G' S a b r=>k v H' G' S (hH.trans a) (hG.trans b) r
theorem KT.later(k:KT C G H σ ς Q d)(hH:Same H H1)(hG:Same G G1):KT C G1 H1 σ ς Q d:=λH' G' S a b=>k H' G' S (hH.trans a) (hG.trans b)
theorem KF.later(k:KF C G H σ ς Q d)(hH:Same H H1)(hG:Same G G1):KF C G1 H1 σ ς Q d:=λp H' G' S a b hp hg ow=>k p H' G' S (hH.trans a) (hG.trans b) (hH.free hp) hg ow
abbrev dM:=@KF.later
theorem KF.lst(k:KF C G H σ ς Q (.lst ds))(S:StR C G H σ ς)(r:RepL C.X.K C.CT G ds vs):∀ p,H p=none->Q (.ref p) (eT H p (.lst vs)):=λp hp=>
 k p _ G (S.allocO hp) (Qv hp) (dC G) hp (S.gnone hp) ⟨vs,QC,r⟩
theorem KD.lst(k:KD C G H σ ς Q (.lst ds))(S:StR C G H σ ς)(r:RepL C.X.K C.CT G ds vs):∀ p,H p=none->Q (.ref p) (eT H p (.lst vs)):=λp hp=>
 k _ _ _ (S.alloc hp) (Qv hp) (Qv (S.gnone hp)) ⟨p,vs,rfl,SqL.of QC,dE (Qv (S.gnone hp)) ds vs r⟩
theorem KD.tup(k:KD C G H σ ς Q (.tup ds))(S:StR C G H σ ς)(r:RepL C.X.K C.CT G ds vs):∀ p,H p=none->Q (.ref p) (eT H p (.tup vs)):=λp hp=>
 k _ _ _ (S.alloc hp) (Qv hp) (Qv (S.gnone hp)) ⟨p,vs,rfl,SqT.of QC,dE (Qv (S.gnone hp)) ds vs r⟩
noncomputable def dU(i:Nat):SD->Out D:=λς=>match ς[i]? with | some (some (.k,d))=>.ok d | _=>.stuck
noncomputable def fg(i:Nat):SD->Out D:=λς=>match ς[i]? with | some (some (_,d))=>.ok d | _=>.stuck
noncomputable def eC(d:D):SD->Out D:=λ_=>.ok d
theorem Pu(h:(dU i ς).post k x):∃ d,ς[i]?=some (some (.k,d))/\k d:=by
 unfold dU at h
 split at h
 ·rename_i d e;exact⟨d,e,h⟩
 ·exact h.elim
theorem Pw(h:(fg i ς).post k x):∃ b d,ς[i]?=some (some (b,d))/\k d:=by
 unfold fg at h
 split at h
 ·rename_i b d e;exact⟨b,d,e,h⟩
 ·exact h.elim
theorem Qa(i:Nat)(hN:C.X.N[i]?=some x:=by rfl)(hv:ll C.X.env.scope x:=by fail"V1")
 (hd:(x == ("__debug__":Str))=false:=by decide) (gR:(x == ("__classdict__":Str))=false:=by decide):DE C (.Name x pos) (dU i):=by
 refine⟨_,n8 hN hv hd gR,λG H σ ς Q S q=>?_⟩
 obtain⟨d,e,k⟩:=Pu q
 obtain⟨v,a,b⟩:=S.fz i d e
 exact⟨v,a,k.now S b⟩
theorem qC(i:Nat)(hN:C.X.N[i]?=some x:=by rfl)(hv:ll C.X.env.scope x:=by fail"V1")
 (hd:(x == ("__debug__":Str))=false:=by decide) (gR:(x == ("__classdict__":Str))=false:=by decide):DB C (.Name x pos) (fg i):=by
 refine⟨_,n8 hN hv hd gR,λG H σ ς Q S q=>?_⟩
 obtain⟨b,d,e,k⟩:=Pw q
 cases b with
 | k=>
  obtain⟨v,a,b⟩:=S.fz i d e
  exact⟨v,a,k.now S (dD S.sub d v b)⟩
 | o=>
  obtain⟨p,a,b,c,w⟩:=S.ow i d e
  exact⟨_,a,k.now S (w.rep S.sub)⟩
 | l=>
  obtain⟨v,a,b,_⟩:=S.ln i d e
  exact⟨v,a,k.now S (dD S.bs d v b)⟩
 | s=>
  obtain⟨p,a,b,c,m,z,w⟩:=S.sf i d e
  exact⟨_,a,k.now S (w.rep S.sub)⟩
theorem Qg:DE C (.Constant (.int i) j pos) (eC (.int i)):=⟨_,Mx,λG H σ ς Q S q=>dH q S rfl⟩
theorem gX:DE C (.Constant (.bool b) j pos) (eC (.bl b)):=⟨_,vW,λG H σ ς Q S q=>dH q S rfl⟩
theorem AH:DE C (.Constant .none j pos) (eC .non):=⟨_,Mz,λG H σ ς Q S q=>dH q S rfl⟩
theorem qD:DE C (.Constant (.str x) j pos) (eC (.str x)):=⟨_,N0,λG H σ ς Q S q=>dH q S rfl⟩
noncomputable def gO:D->V
 | .bl b=>.bl b
 | .int i=>.int i
 | .str x=>.str x
 | _=>.non
theorem EY{K:PySem.W.Frag}:∀{d:D},d.scal=true->Rep K CT H d (gO d)
 | .non,_=>rfl
 | .bl _,_=>rfl
 | .int _,_=>rfl
 | .str _,_=>rfl
theorem nB(hg:Gl C.X x)(hm:C.X.mg x=some u)(hs:d.scal=true)(r:RelV (gO d) u)(hd:(x == ("__debug__":Str))=false:=by decide):DE C (.Name x pos) (eC d):=
 ⟨_,vX hg hm r hd,λG H σ ς Q S q=>dH q S (EY hs)⟩
def e1(f:D->Out D)(a:SD->Out D):SD->Out D:=λς=>a ς>>=f
def e2(f:D->D->Out D)(a b:SD->Out D):SD->Out D:=λς=>a ς>>=λx=>b ς>>=λy=>f x y
def km(C:Dc)(r:R2)(f:D->D->Out D):Prop:=∀ G H σ ς (Q:VK) x y vx vy,StR C G H σ ς->Rep C.X.K C.CT H x vx->Rep C.X.K C.CT H y vy->
 (f x y).post (λd=>d.scal=true/\Q (gO d) H) (λ_=>False)->r vx vy H Q
def fq(f:D->D->Out D):Prop:=∀ x y,match f x y with | .ok d=>d.scal=true | .exc _=>False | .stuck=>True
theorem EZ{o:Out D}(S:StR C G H σ ς)(hs:match o with | .ok d=>d.scal=true | .exc _=>False | .stuck=>True)(q:o.post (KD C G H σ ς Q) C.XD):
 o.post (λd=>d.scal=true/\Q (gO d) H) (λ_=>False):=by
 cases o with
 | ok d=>exact⟨hs,dH q S (EY hs)⟩
 | exc _=>exact hs
 | stuck=>exact q
theorem Ea{t:TE}(hr:km C r f)(hs:fq f)
 (h1:∀ G H σ ς Q,StR C G H σ ς->(A ς).post (KB C G H σ ς Q) C.XD->ta σ H Q) (h2:∀ G H σ ς Q,StR C G H σ ς->(B ς).post (KB C G H σ ς Q) C.XD->tb σ H Q):
 ∀ G H σ ς Q,StR C G H σ ς->(e2 f A B ς).post (KD C G H σ ς Q) C.XD->wF r ta tb σ H Q:=by
 intro G H σ ς Q S q
 unfold e2 at q
 rw[dR]at q
 refine h1 G H σ ς _ S (dS q λx k v1 H1 G1 S1 a1 b1 r1=>?_)
 rw[dR]at k
 refine h2 G1 H1 σ ς _ S1 (dS k λy k2 v2 H2 G2 S2 a2 b2 r2=>?_)
 refine hr G2 H2 σ ς _ x y v1 v2 S2 (dD a2 x v1 r1) r2 (EZ S2 (hs x y) ?_)
 exact dS k2 λd kd=>dJ kd (a1.trans a2) (b1.trans b2)
theorem jM{op:Operator}(ho:OpR C.X (binaryOp op) r)(hr:km C r f)(hs:fq f)(ha:DB C a A)(hb:DB C b B):DE C (.BinOp a op b pos) (e2 f A B):=by
 obtain⟨ta,p1,q1⟩:=ha
 obtain⟨tb,p2,q2⟩:=hb
 exact⟨_,nk ho p1 p2,Ea (t:=ta) hr hs q1 q2⟩
theorem AI{op:CmpOp}(ho:OpR C.X (compareOp op) r)(hr:km C r f)(hs:fq f)(ha:DB C a A)(hb:DB C b B)(hm:behindInMarks op b=false):DE C (.Compare a [op] [b] pos) (e2 f A B):=by
 obtain⟨ta,p1,q1⟩:=ha
 obtain⟨tb,p2,q2⟩:=hb
 exact⟨_,Nh ho p1 p2 hm,Ea (t:=ta) hr hs q1 q2⟩
def eD(a:SD->Out D):SD->Out Bool:=λς=>a ς>>=λd=>match d with | .bl b=>.ok b | _=>.stuck
theorem Eb{o:Out D}(q:(o>>=λd=>match d with | .bl b=>Out.ok b | _=>.stuck).post (KT C G H σ ς Q) C.XD):
 o.post (KD C G H σ ς λx H'=>∃ k,x=.bl k/\Q k H') C.XD:=by
 rw[dR]at q
 refine dS q λd k v H' G' S' a b r=>?_
 cases d with
 | bl c=>exact⟨c,r,k H' G' S' a b⟩
 | _=>exact k.elim
theorem rG{op:CmpOp}(ho:OpR C.X (compareOp op) r)(hr:km C r f)(hs:fq f)(ha:DB C a A)(hb:DB C b B)(hm:behindInMarks op b=false):DT C (.Compare a [op] [b] pos) (eD (e2 f A B)):=by
 obtain⟨ta,p1,q1⟩:=ha
 obtain⟨tb,p2,q2⟩:=hb
 exact⟨_,Iu ho p1 p2 hm,λG H σ ς Q S q=>Ea (t:=ta) hr hs q1 q2 G H σ ς _ S (Eb q)⟩
theorem jz(h:DE C a A)(he:∀ iP,isTrue a C.X.env iP=(do let v ← iP;standAt a.pos;holding [v] (truthy v)):=by fail"V3"):DT C a (eD A):=by
 obtain⟨ta,p1,q1⟩:=h
 exact⟨_,N2 p1 he,λG H σ ς Q S q=>q1 G H σ ς _ S (Eb q)⟩
def mQ(f g:D->D->Out D)(a b c:SD->Out D):SD->Out D:=λς=>a ς>>=λx=>b ς>>=λy=>f x y>>=λz=>match z with
 | .bl true=>c ς>>=λw=>g y w
 | .bl false=>.ok (.bl false)
 | _=>.stuck
theorem Je{r r':R2}(hr:km C r f)(hs:fq f)(xI:km C r' g)(lZ:fq g)
 (h1:∀ G H σ ς Q,StR C G H σ ς->(A ς).post (KB C G H σ ς Q) C.XD->ta σ H Q) (h2:∀ G H σ ς Q,StR C G H σ ς->(B ς).post (KB C G H σ ς Q) C.XD->tb σ H Q)
 (h3:∀ G H σ ς Q,StR C G H σ ς->(A' ς).post (KB C G H σ ς Q) C.XD->tc σ H Q):
 ∀ G H σ ς Q,StR C G H σ ς->(mQ f g A B A' ς).post (KD C G H σ ς Q) C.XD->Df r r' ta tb tc σ H Q:=by
 intro G H σ ς Q S q
 unfold mQ at q
 rw[dR]at q
 refine h1 G H σ ς _ S (dS q λx k v1 H1 G1 S1 a1 b1 r1=>?_)
 rw[dR]at k
 refine h2 G1 H1 σ ς _ S1 (dS k λy k2 v2 H2 G2 S2 a2 b2 r2=>?_)
 rw[dR]at k2
 refine hr G2 H2 σ ς _ x y v1 v2 S2 (dD a2 x v1 r1) r2 ?_
 have AJ:=hs x y
 cases e:f x y with
 | exc _=>rw[e]at AJ;exact AJ
 | stuck=>rw[e]at k2;exact k2.elim
 | ok z=>
  rw[e]at k2
  refine⟨by rw[e]at AJ;exact AJ,?_⟩
  cases z with
  | bl cc=>
   refine⟨cc,rfl,?_⟩
   cases cc with
   | false=>exact kX (dH (dJ (k2) (a1.trans a2) (b1.trans b2)) S2 rfl)
   | true=>
    refine kY (h3 G2 H2 σ ς _ S2 ?_)
    have rH:(A' ς>>=λw=>g y w).post (KD C G H σ ς Q) C.XD:=k2
    rw[dR]at rH
    refine dS rH λw k3 v3 H3 G3 S3 a3 b3 r3=>?_
    refine xI G3 H3 σ ς _ y w v2 v3 S3 (dD a3 y v2 r2) r3 (EZ S3 (lZ y w) ?_)
    exact dS k3 λd kd=>dJ kd ((a1.trans a2).trans a3) ((b1.trans b2).trans b3)
  | _=>exact k2.elim
theorem Jf(ho:OpR C.X (compareOp op) r)(hr:km C r f)(hs:fq f)(jA:OpR C.X (compareOp nQ) r')(xI:km C r' g)(lZ:fq g)
 (ha:DB C a A) (hb:DB C b B) (hc:DB C c A') (hm:lastMarks [op,nQ] [b,c]=false:=by with_unfolding_all rfl):DE C (.Compare a [op,nQ] [b,c] pos) (mQ f g A B A'):=by
 obtain⟨ta,p1,q1⟩:=ha
 obtain⟨tb,p2,q2⟩:=hb
 obtain⟨tc,p3,q3⟩:=hc
 exact⟨_,Ni ho jA p1 p2 p3 hm,Je hr hs xI lZ q1 q2 q3⟩
theorem Jg{op nQ:CmpOp}(ho:OpR C.X (compareOp op) r)(hr:km C r f)(hs:fq f)(jA:OpR C.X (compareOp nQ) r')(xI:km C r' g)(lZ:fq g)
 (ha:DB C a A) (hb:DB C b B) (hc:DB C c A') (hm:lastMarks [op,nQ] [b,c]=false:=by with_unfolding_all rfl):DT C (.Compare a [op,nQ] [b,c] pos) (eD (mQ f g A B A')):=by
 obtain⟨ta,p1,q1⟩:=ha
 obtain⟨tb,p2,q2⟩:=hb
 obtain⟨tc,p3,q3⟩:=hc
 exact⟨_,Nj ho jA p1 p2 p3 hm,λG H σ ς Q S q=>Je hr hs xI lZ q1 q2 q3 G H σ ς _ S (Eb q)⟩
noncomputable def dI(AK:Int->Int->Bool)(g:Int->Int->D):D->D->Out D
 | .int i,.int j=>if AK i j=true then .ok (g i j) else .stuck
 | _,_=>.stuck
noncomputable def rJ(g:Int->Int->D):D->D->Out D
 | .int i,.int j=>.ok (g i j)
 | _,_=>.stuck
theorem QA[Decidable c]{a b:Out α}(h:(if c then a else b).post k x):(c/\a.post k x)∨(¬ c/\b.post k x):=by
 by_cases e:c
 ·rw[aA e]at h;exact .inl ⟨e,h⟩
 ·rw[aB e]at h;exact .inr ⟨e,h⟩
theorem ua[Decidable c](h:d.scal=true):match (if c then Out.ok d else Out.stuck:Out D) with | .ok d=>d.scal=true | .exc _=>False | .stuck=>True:=by
 by_cases e:c
 ·rw[aA e];exact h
 ·rw[aB e];exact True.intro
theorem ub(h:∀ i j,(g i j).scal=true):fq (dI AK g):=by
 intro x y
 cases x with
 | int i=>
  cases y with
  | int j=>exact ua (h i j)
  | _=>exact True.intro
 | _=>exact True.intro
theorem mR(h:∀ i j,(g i j).scal=true):fq (rJ g):=by
 intro x y
 cases x<;>cases y<;>simp[rJ,h]
theorem ud{P:Int->Int->Prop}(hP:∀ i j,AK i j=true->P i j):km C (rI P λi j=>gO (g i j)) (dI AK g):=by
 intro G H σ ς Q x y vx vy S hx hy q
 cases x with
 | int i=>
  cases y with
  | int j=>
   cases hx;cases hy
   refine⟨i,j,rfl,rfl,?_⟩
   rcases QA (q) with⟨hc,q⟩ | ⟨hc,q⟩
   ·exact⟨hP i j hc,q.2⟩
   ·exact q.elim
  | _=>exact q.elim
 | _=>exact q.elim
theorem mS:km C (ph λi j=>gO (g i j)) (rJ g):=by
 intro G H σ ς Q x y vx vy S hx hy q
 cases x with
 | int i=>
  cases y with
  | int j=>
   cases hx;cases hy
   exact⟨i,j,rfl,rfl,q.2⟩
  | _=>exact q.elim
 | _=>exact q.elim
def gC:D->D->Out D:=rJ λi j=>.int (i - j)
noncomputable def rK(i:Int):Bool:=decide (i.natAbs<2 ^ 9000)
def jX:D->D->Out D:=dI (λi j=>decide (Builtin.Int.intBits i+Builtin.Int.intBits j<=134217728)) λi j=>.int (i * j)
def fh:D->D->Out D:=dI (λi j=>decide (j≠0)&&rK j) λi j=>.int (i.fdiv j)
def fA:D->D->Out D:=dI (λi j=>decide (j≠0)) λi j=>.int (i.fmod j)
theorem Px(h:rK i=true):i.natAbs.log2<9000:=by
 have h':=aN h
 by_cases z:i.natAbs=0
 ·rw[z];decide
 ·exact(Nat.log2_lt z).mpr h'
theorem Py:OpR X (binaryOp .Mult) (rI IntMulOk λi j=>.int (i * j)):=uT λ_ _ _ _ _ _ _ hc q=>mul_int q hc
def xJ(i j:Int):Prop:=j≠0/\j.natAbs.log2<9000
theorem Pz:OpR X (binaryOp .FloorDiv) (rI xJ λi j=>.int (i.fdiv j)):=uT λ_ _ _ _ _ _ _ hc q=>floordiv_int hc.1 q (.inl (PyProof.noPylong_of_log2 hc.2))
theorem kZ(ha:DB C a A)(hb:DB C b B):DE C (.BinOp a .Sub b pos) (e2 gC A B):=jM NY mS (mR λ_ _=>rfl) ha hb
theorem tL(ha:DB C a A)(hb:DB C b B):DE C (.BinOp a .Mult b pos) (e2 jX A B):=jM Py (ud λi j h=>IntMulOk.of_le (aJ _) (aJ _) (aN h)) (ub λ_ _=>rfl) ha hb
theorem qE(ha:DB C a A)(hb:DB C b B):DE C (.BinOp a .FloorDiv b pos) (e2 fh A B):=jM Pz (ud λi j h=>by
 rw[aO]at h
 exact⟨aN h.1,Px h.2⟩) (ub λ_ _=>rfl) ha hb
theorem Q4(ha:DB C a A)(hb:DB C b B):DE C (.BinOp a .Mod b pos) (e2 fA A B):=jM NZ (ud λi j h=>aN h) (ub λ_ _=>rfl) ha hb
noncomputable def fB:D->D->Out D
 | .int i,.int j=>.ok (.int (i+j))
 | .str x,.str y=>if x.length+y.length<=sizeLine then .ok (.str (x++y)) else .stuck
 | _,_=>.stuck
theorem QZ(ha:DB C a A)(hb:DB C b B):DE C (.BinOp a .Add b pos) (e2 fB A B):=by
 refine jM (QyV.or Nk) ?_ ?_ ha hb
 ·intro G H σ ς Q x y vx vy S hx hy q
  cases x with
  | int i=>
   cases y with
   | int j=>
    cases hx;cases hy
    exact .inl ⟨i,j,rfl,rfl,q.2⟩
   | _=>exact q.elim
  | str i=>
   cases y with
   | str j=>
    cases hx;cases hy
    rcases QA (q) with⟨hc,q⟩ | ⟨hc,q⟩
    ·exact .inr ⟨i,j,rfl,rfl,hc,q.2⟩
    ·exact q.elim
   | _=>exact q.elim
  | _=>exact q.elim
 ·intro x y
  cases x with
  | int i=>
   cases y with
   | int j=>exact rfl
   | _=>exact True.intro
  | str i=>
   cases y with
   | str j=>exact ua rfl
   | _=>exact True.intro
  | _=>exact True.intro
def mT:D->D->Out D:=rJ λi j=>.bl (decide (i<j))
def nT:D->D->Out D:=rJ λi j=>.bl (decide (i<=j))
def oA:D->D->Out D:=rJ λi j=>.bl (decide (j<i))
def Ec:D->D->Out D:=rJ λi j=>.bl (decide (j<=i))
section
variable{C:Dc}
noncomputable def jD:D->Out D
 | .int i=>.ok (.int (-i))
 | _=>.stuck
theorem pI(ha:DB C a A):DE C (.UnaryOp .USub a pos) (e1 jD A):=by
 obtain⟨ta,p1,q1⟩:=ha
 refine⟨_,wG Nd p1,λG H σ ς Q S q=>?_⟩
 unfold e1 at q
 rw[dR]at q
 refine q1 G H σ ς _ S (dS q λx k v1 H1 G1 S1 a1 b1 r1=>?_)
 cases x with
 | int i=>cases r1;exact⟨i,rfl,dH (dJ k a1 b1) S1 rfl⟩
 | _=>exact k.elim
variable{TA TB:SD->Out Bool}{eY:List Expr}
def iS(a b:SD->Out Bool):SD->Out Bool:=λς=>a ς>>=λc=>if c=true then b ς else .ok false
def iZ(a b:SD->Out Bool):SD->Out Bool:=λς=>a ς>>=λc=>if c=true then .ok true else b ς
def f7(a:SD->Out Bool):SD->Out Bool:=λς=>a ς>>=λc=>.ok (!c)
theorem DW.dt(h:DW C e T):DT C e T:=let ⟨t,p,q⟩:=h;⟨t,p.pt,q⟩
theorem Ed(ha:DT C a TA):DW C (.BoolOp .And [a] pos) TA:=let ⟨t,p,q⟩:=ha;⟨t,N4 p,q⟩
theorem qF(ha:DT C a TA):DW C (.BoolOp .Or [a] pos) TA:=let ⟨t,p,q⟩:=ha;⟨t,N5 p,q⟩
theorem Ee(ha:DT C a TA)(hb:DW C (.BoolOp .And (b::eY) pos) TB):DW C (.BoolOp .And (a::b::eY) pos) (iS TA TB):=by
 obtain⟨t1,p1,q1⟩:=ha
 obtain⟨t2,p2,q2⟩:=hb
 refine⟨_,N6 p1 p2,λG H σ ς Q S q=>?_⟩
 unfold iS at q
 rw[dR]at q
 refine q1 G H σ ς _ S (dS q λx k H1 G1 S1 a1 b1=>?_)
 cases x with
 | true=>exact kY (q2 G1 H1 σ ς _ S1 (dS (k) λx k=>KT.later k a1 b1))
 | false=>exact kX (KT.now (KT.later (k) a1 b1) S1)
theorem iq(ha:DT C a TA)(hb:DW C (.BoolOp .Or (b::eY) pos) TB):DW C (.BoolOp .Or (a::b::eY) pos) (iZ TA TB):=by
 obtain⟨t1,p1,q1⟩:=ha
 obtain⟨t2,p2,q2⟩:=hb
 refine⟨_,vY p1 p2,λG H σ ς Q S q=>?_⟩
 unfold iZ at q
 rw[dR]at q
 refine q1 G H σ ς _ S (dS q λx k H1 G1 S1 a1 b1=>?_)
 cases x with
 | true=>exact kY (KT.now (KT.later (k) a1 b1) S1)
 | false=>exact kX (q2 G1 H1 σ ς _ S1 (dS (k) λx k=>KT.later k a1 b1))
theorem k4(ha:DT C a TA):DT C (.UnaryOp .Not a pos) (f7 TA):=by
 obtain⟨t1,p1,q1⟩:=ha
 refine⟨_,N7 p1,λG H σ ς Q S q=>?_⟩
 unfold f7 at q
 rw[dR]at q
 exact q1 G H σ ς _ S (dS q λx k H1 G1 S1 a1 b1=>k H1 G1 S1 a1 b1)
def iK(a b:SD->Out D):SD->Out D:=λς=>a ς>>=λd=>match d with | .bl true=>b ς | .bl false=>.ok (.bl false) | _=>.stuck
def Jh(a b:SD->Out D):SD->Out D:=λς=>a ς>>=λd=>match d with | .bl true=>.ok (.bl true) | .bl false=>b ς | _=>.stuck
def oB(a:SD->Out D):SD->Out D:=λς=>a ς>>=λd=>match d with | .bl c=>.ok (.bl (!c)) | _=>.stuck
theorem tM(h:DE C a A):DE C (.BoolOp op [a] pos) A:=let ⟨t,p,q⟩:=h;⟨t,N8 p,q⟩
theorem pJ(ha:DE C a A)(hb:DE C (.BoolOp .And (b::eY) pos) B):DE C (.BoolOp .And (a::b::eY) pos) (iK A B):=by
 obtain⟨t1,p1,q1⟩:=ha
 obtain⟨t2,p2,q2⟩:=hb
 refine⟨_,N9 p1 p2,λG H σ ς Q S q=>?_⟩
 unfold iK at q
 rw[dR]at q
 refine q1 G H σ ς _ S (dS q λx k v1 H1 G1 S1 a1 b1 r1=>?_)
 cases x with
 | bl c=>
  refine⟨c,r1,?_⟩
  cases c with
  | true=>exact kY (q2 G1 H1 σ ς _ S1 (dS (k) λx k=>dJ k a1 b1))
  | false=>exact kX (dH (dJ (k) a1 b1) S1 rfl)
 | _=>exact k.elim
theorem R0(ha:DE C a A):DE C (.UnaryOp .Not a pos) (oB A):=by
 obtain⟨t1,p1,q1⟩:=ha
 refine⟨_,NA p1,λG H σ ς Q S q=>?_⟩
 unfold oB at q
 rw[dR]at q
 refine q1 G H σ ς _ S (dS q λx k v1 H1 G1 S1 a1 b1 r1=>?_)
 cases x with
 | bl c=>exact⟨c,r1,dH (dJ (k) a1 b1) S1 rfl⟩
 | _=>exact k.elim
def qG(t:SD->Out Bool)(a b:SD->Out D):SD->Out D:=λς=>t ς>>=λc=>if c=true then a ς else b ς
theorem oC(ht:DT C t TA)(ha:DE C a A)(hb:DE C b B):DE C (.IfExp t a b pos) (qG TA A B):=by
 obtain⟨t0,p0,q0⟩:=ht
 obtain⟨t1,p1,q1⟩:=ha
 obtain⟨t2,p2,q2⟩:=hb
 refine⟨_,NF p0 p1 p2,λG H σ ς Q S q=>?_⟩
 unfold qG at q
 rw[dR]at q
 refine q0 G H σ ς _ S (dS q λx k H1 G1 S1 a1 b1=>?_)
 cases x with
 | true=>exact kY (q1 G1 H1 σ ς _ S1 (dS (k) λx k=>dJ k a1 b1))
 | false=>exact kX (q2 G1 H1 σ ς _ S1 (dS (k) λx k=>dJ k a1 b1))
end
noncomputable def dY:SD->Out (List D):=λ_=>.ok []
def dW(a:SD->Out D)(r:SD->Out (List D)):SD->Out (List D):=λς=>a ς>>=λx=>r ς>>=λxs=>.ok (x::xs)
theorem Qi:DA C [] dY:=⟨_,n9,λG H σ ς Q S q=>q [] H G S (dC H) (dC G) rfl⟩
theorem Qx:nS C [] dY:=⟨_,n9,λG H σ ς Q S q=>q [] H G S (dC H) (dC G) rfl⟩
theorem Qb(ha:DE C e E)(hr:DA C es A)(hs:starEach (e::es) C.X.env=(false,eval e C.X.env)::starEach es C.X.env:=by rfl):DA C (e::es) (dW E A):=by
 obtain⟨t1,p1,q1⟩:=ha
 obtain⟨t2,p2,q2⟩:=hr
 refine⟨_,l5 p1 p2 hs,λG H σ ς Q S q=>?_⟩
 unfold dW at q
 rw[dR]at q
 refine q1 G H σ ς _ S (dS q λx k v1 H1 G1 S1 a1 b1 r1=>?_)
 rw[dR]at k
 refine q2 G1 H1 σ ς _ S1 (dS k λxs k2 vs H2 G2 S2 a2 b2 r2=>?_)
 exact k2 (v1::vs) H2 G2 S2 (a1.trans a2) (b1.trans b2) ⟨v1,vs,rfl,dD b2 x v1 r1,r2⟩
theorem Qr(ha:DB C e E)(hr:nS C es A)(hs:starEach (e::es) C.X.env=(false,eval e C.X.env)::starEach es C.X.env:=by rfl):nS C (e::es) (dW E A):=by
 obtain⟨t1,p1,q1⟩:=ha
 obtain⟨t2,p2,q2⟩:=hr
 refine⟨_,l5 p1 p2 hs,λG H σ ς Q S q=>?_⟩
 unfold dW at q
 rw[dR]at q
 refine q1 G H σ ς _ S (dS q λx k v1 H1 G1 S1 a1 b1 r1=>?_)
 rw[dR]at k
 refine q2 G1 H1 σ ς _ S1 (dS k λxs k2 vs H2 G2 S2 a2 b2 r2=>?_)
 exact k2 (v1::vs) H2 G2 S2 (a1.trans a2) (b1.trans b2) ⟨v1,vs,rfl,dD a2 x v1 r1,r2⟩
noncomputable def i0(n:Nat):Bool:=decide (n<=sizeLine)
def i3(a:SD->Out (List D)):SD->Out D:=λς=>a ς>>=λxs=>if i0 xs.length=true then .ok (.tup xs) else .stuck
def fU(a:SD->Out (List D)):SD->Out D:=λς=>a ς>>=λxs=>if i0 xs.length=true then .ok (.lst xs) else .stuck
theorem nU(h:DA C es A):DE C (.Tuple es x1 pos) (i3 A):=by
 obtain⟨t,p,q⟩:=h
 refine⟨_,Iz p,λG H σ ς Q S k=>?_⟩
 unfold i3 at k
 rw[dR]at k
 refine q G H σ ς _ S (dS k λxs k2 vs H1 G1 S1 a1 b1 r1=>?_)
 rcases QA k2 with⟨hc,k3⟩ | ⟨_,k3⟩
 ·exact⟨by rw[← r1.length];exact aN hc,KD.tup (dJ k3 a1 b1) S1 r1⟩
 ·exact k3.elim
theorem k7(h:DA C es A):DF C (.List es pos) (fU A):=by
 obtain⟨t,p,q⟩:=h
 refine⟨_,O2 p,λG H σ ς Q S k=>?_⟩
 unfold fU at k
 rw[dR]at k
 refine q G H σ ς _ S (dS k λxs k2 vs H1 G1 S1 a1 b1 r1=>?_)
 rcases QA k2 with⟨hc,k3⟩ | ⟨_,k3⟩
 ·exact⟨by rw[← r1.length];exact aN hc,KF.lst (dM k3 a1 b1) S1 r1⟩
 ·exact k3.elim
theorem xK{K:PySem.W.Frag}(r:RepL K CT H ds vs)(h:jW ds i=some d):∃ v,jW vs i=some v/\Rep K CT H d v:=by
 unfold jW at h ⊢
 rw[← r.length]
 cases e:kW ds.length i with
 | none=>rw[e]at h;cases h
 | some j=>
  rw[e]at h
  exact r.get h
noncomputable def gq{α:Type}:Option α->Out α
 | some a=>.ok a
 | none=>.stuck
theorem oE(h:(gq o).post k x):∃ a,o=some a/\k a:=by
 cases o with
 | none=>exact h.elim
 | some a=>exact⟨a,rfl,h⟩
def eF:D->D->Out D
 | .lst xs,.int i=>gq (jW xs i)
 | .tup xs,.int i=>gq (jW xs i)
 | .str x,.int i=>if i0 x.length=true then gq ((jW x.cps.toList i).map λc=>D.str ⟨#[c]⟩) else .stuck
 | _,_=>.stuck
section
variable{C:Dc}
theorem R1{R:Hp->Hp}{G H:Hp}{σ:St}{ς:SD}{Q:VK}{x y:D}{vx vy:V}{k:D->Prop}(hx:Rep C.X.K C.CT H x vx)(hy:Rep C.X.K C.CT H y vy)
 (q:(eF x y).post k C.XD) (hk:∀ d v,k d->Rep C.X.K C.CT H d v->Q v H):JB C.X.K vx vy H Q:=by
 cases y with
 | int i=>
  cases hy
  cases x with
  | lst xs=>
   obtain⟨p,vs,rfl,h2,h3⟩:=hx
   obtain⟨d,e,kd⟩:=oE q
   obtain⟨v,e2,r⟩:=xK h3 e
   exact .inl ⟨p,vs,i,v,rfl,rfl,h2,e2,hk d v kd r⟩
  | tup xs=>
   obtain⟨p,vs,rfl,h2,h3⟩:=hx
   obtain⟨d,e,kd⟩:=oE q
   obtain⟨v,e2,r⟩:=xK h3 e
   exact .inr (.inl ⟨p,vs,i,v,rfl,rfl,h2,e2,hk d v kd r⟩)
  | str z=>
   cases hx
   rcases QA (q) with⟨hc,q⟩ | ⟨_,q⟩
   ·obtain⟨d,e,kd⟩:=oE q
    cases e3:jW z.cps.toList i with
    | none=>rw[e3]at e;cases e
    | some c=>
     rw[e3]at e
     cases e
     exact .inr (.inr ⟨z,i,c,rfl,rfl,aN hc,e3,hk _ _ kd rfl⟩)
   ·exact q.elim
  | _=>exact q.elim
 | _=>cases x<;>exact q.elim
theorem kI(ha:DB C a A)(hb:DB C b B)(hs:A3 b:=by fail"V4"):DB C (.Subscript a b pos) (e2 eF A B):=by
 obtain⟨ta,p1,q1⟩:=ha
 obtain⟨tb,p2,q2⟩:=hb
 refine⟨_,nv Dr p1 p2 hs,λG H σ ς Q S q=>?_⟩
 unfold e2 at q
 rw[dR]at q
 refine q1 G H σ ς _ S (dS q λx k v1 H1 G1 S1 a1 b1 r1=>?_)
 rw[dR]at k
 refine q2 G1 H1 σ ς _ S1 (dS k λy k2 v2 H2 G2 S2 a2 b2 r2=>?_)
 exact R1 (R:=id) (G:=G2) (σ:=σ) (ς:=ς) (dD a2 x v1 r1) r2 k2 λd v kd r=>KB.now (KB.later kd (a1.trans a2) (b1.trans b2)) S2 r
theorem dv(ha:DE C a A)(hb:DB C b B)(hs:A3 b:=by fail"V4"):DE C (.Subscript a b pos) (e2 eF A B):=by
 obtain⟨ta,p1,q1⟩:=ha
 obtain⟨tb,p2,q2⟩:=hb
 refine⟨_,nv Dr p1 p2 hs,λG H σ ς Q S q=>?_⟩
 unfold e2 at q
 rw[dR]at q
 refine q1 G H σ ς _ S (dS q λx k v1 H1 G1 S1 a1 b1 r1=>?_)
 rw[dR]at k
 refine q2 G1 H1 σ ς _ S1 (dS k λy k2 v2 H2 G2 S2 a2 b2 r2=>?_)
 have xM:=dD b2 x v1 r1
 cases y with
 | int i=>
  cases r2
  cases x with
  | lst xs=>
   obtain⟨p,vs,rfl,h2,h3⟩:=xM
   obtain⟨d,e,kd⟩:=oE k2
   obtain⟨v,e2,r⟩:=xK h3 e
   exact .inl ⟨p,vs,i,v,rfl,rfl,S2.sub.seq h2,e2,dH (dJ kd (a1.trans a2) (b1.trans b2)) S2 r⟩
  | tup xs=>
   obtain⟨p,vs,rfl,h2,h3⟩:=xM
   obtain⟨d,e,kd⟩:=oE k2
   obtain⟨v,e2,r⟩:=xK h3 e
   exact .inr (.inl ⟨p,vs,i,v,rfl,rfl,Same.sqT S2.sub h2,e2,dH (dJ kd (a1.trans a2) (b1.trans b2)) S2 r⟩)
  | str z=>
   cases xM
   rcases QA (k2) with⟨hc,q⟩ | ⟨_,q⟩
   ·obtain⟨d,e,kd⟩:=oE q
    cases e3:jW z.cps.toList i with
    | none=>rw[e3]at e;cases e
    | some c=>
     rw[e3]at e
     cases e
     exact .inr (.inr ⟨z,i,c,rfl,rfl,aN hc,e3,dH (dJ kd (a1.trans a2) (b1.trans b2)) S2 rfl⟩)
   ·exact q.elim
  | _=>exact k2.elim
 | _=>cases x<;>exact k2.elim
end
def k8{α:Type}(xs:List α)(lo hi:Option Int):List α:=(xs.drop (HT.sIx xs.length 0 lo)).take (HT.sIx xs.length xs.length hi - HT.sIx xs.length 0 lo)
theorem R3{K:PySem.W.Frag}(lo hi:Option Int)(r:RepL K CT H ds vs):RepL K CT H (k8 ds lo hi) (nu vs lo hi):=by
 unfold k8 nu
 rw[r.length]
 exact(r.drop _).take _
noncomputable def pK:SD->Out (Option Int):=λ_=>.ok none
def fV(e:SD->Out D):SD->Out (Option Int):=λς=>e ς>>=λd=>match d with | .int i=>.ok (some i) | _=>.stuck
def DO(C:Dc)(e:Option Expr)(T:SD->Out (Option Int)):Prop:=∃ t,PO C.X e t/\∀ G H σ ς Q,StR C G H σ ς->(T ς).post (λo=>∀ H' G',StR C G' H' σ ς->Same H H'->Same G G'->Q o H') C.XD->t σ H Q
section
variable {lo hi:Option Expr}
theorem Ef:DO C none pK:=⟨_,O7,λG H σ ς Q S q=>q H G S (dC H) (dC G)⟩
theorem qH(h:DB C a A):DO C (some a) (fV A):=by
 obtain⟨t,p,q⟩:=h
 refine⟨_,O8 p,λG H σ ς Q S k=>?_⟩
 unfold fV at k
 rw[dR]at k
 refine q G H σ ς _ S (dS k λx k2 v1 H1 G1 S1 a1 b1 r1=>?_)
 cases x with
 | int i=>cases r1;exact⟨i,rfl,k2 H1 G1 S1 a1 b1⟩
 | _=>exact k2.elim
def mU(a:SD->Out D)(l u:SD->Out (Option Int)):SD->Out D:=λς=>a ς>>=λx=>l ς>>=λi=>u ς>>=λj=>match x with
 | .lst xs=>.ok (.lst (k8 xs i j))
 | _=>.stuck
theorem lB(ha:DE C a A)(hl:DO C lo L)(hu:DO C hi U):DF C (.Subscript a (.Slice lo hi none p2) pos) (mU A L U):=by
 obtain⟨ta,p1,q1⟩:=ha
 obtain⟨tl,p3,q3⟩:=hl
 obtain⟨tu,p4,q4⟩:=hu
 refine⟨_,OA OH p1 p3 p4,λG H σ ς Q S q=>?_⟩
 unfold mU at q
 rw[dR]at q
 refine q1 G H σ ς _ S (dS q λx k v1 H1 G1 S1 a1 b1 r1=>?_)
 rw[dR]at k
 refine q3 G1 H1 σ ς _ S1 (dS k λi k2 H2 G2 S2 a2 b2=>?_)
 rw[dR]at k2
 refine q4 G2 H2 σ ς _ S2 (dS k2 λj k3 H3 G3 S3 a3 b3=>?_)
 cases x with
 | lst xs=>
  obtain⟨p,vs,rfl,h2,h3⟩:=dD (b2.trans b3) _ v1 r1
  exact⟨p,vs,rfl,S3.sub.seq h2,KF.lst (dM (k3) ((a1.trans a2).trans a3) ((b1.trans b2).trans b3)) S3 (R3 i j h3)⟩
 | _=>exact k3.elim
end
section
variable {id T:String}
def eA(f:List D->Out D)(a:SD->Out (List D)):SD->Out D:=λς=>a ς>>=f
def xN(C:Dc)(r:List V->Hp->VK->Prop)(f:List D->Out D):Prop:=∀ G H σ ς (Q:VK) xs vs,StR C G H σ ς->RepL C.X.K C.CT H xs vs->
 (f xs).post (λd=>d.scal=true/\Q (gO d) H) (λ_=>False)->r vs H Q
def lC(f:List D->Out D):Prop:=∀ xs,match f xs with | .ok d=>d.scal=true | .exc _=>False | .stuck=>True
theorem rL(hr:xN C r f)(hs:lC f)
 (h:∀ G H σ ς Q,StR C G H σ ς->(A ς).post (λds=>∀ vs H' G',StR C G' H' σ ς->Same H H'->Same G G'->RepL C.X.K C.CT H' ds vs->Q vs H') C.XD->t σ H Q):
 ∀ G H σ ς Q,StR C G H σ ς->(eA f A ς).post (KD C G H σ ς Q) C.XD->Dm r t σ H Q:=by
 intro G H σ ς Q S q
 unfold eA at q
 rw[dR]at q
 refine h G H σ ς _ S (dS q λds k vs H1 G1 S1 a1 b1 r1=>?_)
 exact hr G1 H1 σ ς Q ds vs S1 r1 (EZ S1 (hs ds) (dS k λd kd=>dJ kd a1 b1))
theorem xO(hc:CallR C.X (.builtin id) r)(hr:xN C r f)(hs:lC f)(hg:Gl C.X x)(hm:C.X.mg x=none)(hv:bootBuiltins x=some (.builtin id))(ha:nS C (e::es) A)(hn:x≠"__name__":=by decide)(ij:(x == ("__debug__":Str))=false:=by decide)
 (he:starEach (e::es) C.X.env=(false,eval e C.X.env)::starEach es C.X.env:=by rfl) (fc:(backTo pos (starEach es C.X.env)).any (·.1)=false:=by rfl):DE C (.Call (.Name x p) (e::es) [] pos) (eA f A):=by
 obtain⟨t,p1,q1⟩:=ha
 exact⟨_,Dp hc hg hm hv p1 hn ij he fc,rL hr hs q1⟩
theorem R4(hc:CallR C.X (.type T) r)(hr:xN C r f)(hs:lC f)(hg:Gl C.X x)(hm:C.X.mg x=none)(hv:bootBuiltins x=some (.type T))(ha:nS C (e::es) A)(hn:x≠"__name__":=by decide)(ij:(x == ("__debug__":Str))=false:=by decide)
 (he:starEach (e::es) C.X.env=(false,eval e C.X.env)::starEach es C.X.env:=by rfl) (fc:(backTo pos (starEach es C.X.env)).any (·.1)=false:=by rfl):DE C (.Call (.Name x p) (e::es) [] pos) (eA f A):=by
 obtain⟨t,p1,q1⟩:=ha
 exact⟨_,J7 hc hg hm hv p1 hn ij he fc,rL hr hs q1⟩
def eB:List D->Out D
 | [.lst xs]=>.ok (.int xs.length)
 | [.tup xs]=>.ok (.int xs.length)
 | [.str x]=>if i0 x.length=true then .ok (.int x.length) else .stuck
 | _=>.stuck
theorem R5:xN C (λxs H Q=>(∃ p ys,xs=[.ref p]/\(SqL C.X.K H p ys∨SqT C.X.K H p ys)/\Q (.int ys.length) H)∨∃ z,xs=[.str z]/\z.length<=sizeLine/\Q (.int z.length) H) eB:=by
 intro G H σ ς Q xs vs S r q
 cases xs with
 | nil=>exact q.elim
 | cons x xr=>
  obtain⟨v,vr,rfl,r1,r2⟩:=r
  cases xr with
  | cons y yr=>cases x<;>exact q.elim
  | nil=>
   cases r2
   cases x with
   | lst ys=>
    obtain⟨p,us,rfl,h2,h3⟩:=r1
    exact .inl ⟨p,us,rfl,.inl h2,by rw[← h3.length];exact q.2⟩
   | tup ys=>
    obtain⟨p,us,rfl,h2,h3⟩:=r1
    exact .inl ⟨p,us,rfl,.inr h2,by rw[← h3.length];exact q.2⟩
   | str z=>
    cases r1
    rcases QA (q) with⟨hc,q⟩ | ⟨_,q⟩
    ·exact .inr ⟨z,rfl,aN hc,q.2⟩
    ·exact q.elim
   | _=>exact q.elim
theorem R6:lC eB:=by
 intro xs
 cases xs with
 | nil=>exact True.intro
 | cons x xr=>
  cases xr with
  | cons y yr=>cases x<;>exact True.intro
  | nil=>
   cases x with
   | lst ys=>exact rfl
   | tup ys=>exact rfl
   | str z=>exact ua rfl
   | _=>exact True.intro
theorem QW(hg:Gl C.X "len")(hm:C.X.mg "len"=none)(ha:nS C (e::es) A)
 (he:starEach (e::es) C.X.env=(false,eval e C.X.env)::starEach es C.X.env:=by rfl) (fc:(backTo pos (starEach es C.X.env)).any (·.1)=false:=by rfl):DE C (.Call (.Name "len" p) (e::es) [] pos) (eA eB A):=
 xO (QoC.or OL) R5 R6 hg hm PySem.boot_len ha (by decide) (by decide) he fc
noncomputable def f1(g:D->Out D):List D->Out D
 | [x]=>g x
 | _=>.stuck
theorem AL(h:∀ x,match g x with | .ok d=>d.scal=true | .exc _=>False | .stuck=>True):lC (f1 g):=by
 intro xs
 match xs with
 | []=>exact True.intro
 | [x]=>exact h x
 | _::_::_=>exact True.intro
noncomputable def Eg:D->Out D
 | .int i=>.ok (.int (if i<0 then -i else i))
 | _=>.stuck
theorem AM(h:∀ G H σ ς (Q:VK) x v,StR C G H σ ς->Rep C.X.K C.CT H x v->(g x).post (λd=>d.scal=true/\Q (gO d) H) (λ_=>False)->r [v] H Q):xN C r (f1 g):=by
 intro G H σ ς Q xs vs S r q
 match xs,r with
 | [],_=>exact q.elim
 | [x],⟨v,vr,e1,r1,r2⟩=>cases r2;subst e1;exact h G H σ ς Q x v S r1 q
 | _::_::_,_=>exact q.elim
end
mutual
def D.py:D->PyData
 | .non=>.none
 | .bl b=>.bool b
 | .int i=>.int i
 | .str x=>.str x
 | .lst xs=>.list (D.pys xs)
 | .tup xs=>.tuple (D.pys xs)
 | .dic _=>.dict []
 | .ins _ _=>.dict []
 | .err _ _=>.dict []
def D.pys:List D->List PyData
 | []=>[]
 | x::xs=>D.py x::D.pys xs
end
mutual
theorem xP(I:Inv X pins σ H s):∀(d:D)(v:V)(u:Value),Rep X.K CT H d v->RelV v u->d.py.canLay0=true->∃ as,Reads s.heap u d.py as
 | .non,_,_,h,r,_=>by cases h;cases r;exact⟨_,.none⟩
 | .bl b,_,_,h,r,_=>by cases h;cases r;exact⟨_,.bool b⟩
 | .int i,_,_,h,r,_=>by cases h;obtain⟨t,rfl⟩:=r;exact⟨_,.int i t⟩
 | .str x,_,_,h,r,_=>by cases h;obtain⟨t,rfl⟩:=r;exact⟨_,.str x t⟩
 | .lst ds,_,_,⟨a,vs,h1,h2,h3⟩,r,c=>by
  subst h1;cases r
  obtain⟨its,q,⟨o,n,ho,hc,_,hd⟩,_⟩:=I.list h2
  obtain⟨as,ra⟩:=Eh I ds vs its h3 q (by simpa [D.py,PyData.canLay0] using c)
  exact⟨_,.list ho hc hd (by simpa using ra)⟩
 | .tup ds,_,_,⟨a,vs,h1,h2,h3⟩,r,c=>by
  subst h1;cases r
  obtain⟨its,q,⟨o,ho,hc,n,hd⟩,_⟩:=I.tuple h2
  obtain⟨as,ra⟩:=Eh I ds vs its h3 q (by simpa [D.py,PyData.canLay0] using c)
  exact⟨_,.tuple ho hc hd (by simpa using ra)⟩
 | .dic _,_,_,_,_,c=>by simp[D.py,PyData.canLay0]at c
 | .ins _ _,_,_,_,_,c=>by simp[D.py,PyData.canLay0]at c
 | .err _ _,_,_,_,_,c=>by simp[D.py,PyData.canLay0]at c
theorem Eh(I:Inv X pins σ H s):∀(ds:List D)(vs:List V)(us:List Value),RepL X.K CT H ds vs->Vals vs us->PyData.canLayAll0 (D.pys ds)=true->∃ as,ReadsAll s.heap us (D.pys ds) as
 | [],_,_,h,r,_=>by cases h;cases r;exact⟨_,.nil⟩
 | d::ds,_,_,⟨v,w,h1,h2,h3⟩,r,c=>by
  subst h1
  cases r with
  | cons r1 r2=>
   have c':d.py.canLay0=true/\PyData.canLayAll0 (D.pys ds)=true:=by simpa [D.pys,PyData.canLayAll0] using c
   obtain⟨as,q1⟩:=xP I d v _ h2 r1 c'.1
   obtain⟨bs,q2⟩:=Eh I ds w _ h3 r2 c'.2
   exact⟨_,.cons q1 q2⟩
end
noncomputable def m3(d:D):Bool:=SeqAt.shaped d.py
def iL(x y:D):Out D:=if (m3 x&&m3 y)=true then .ok (.bl (PyData.eqv x.py y.py)) else .stuck
def lD(x y:D):Out D:=if (m3 x&&m3 y)=true then .ok (.bl (!PyData.eqv x.py y.py)) else .stuck
def qI(C:Dc)(n:Bool):R2:=λvx vy H Q=>∃ x y,Rep C.X.K C.CT H x vx/\Rep C.X.K C.CT H y vy/\m3 x=true/\m3 y=true/\Q (.bl (n != PyData.eqv x.py y.py)) H
theorem Ji(hu:C.X.A.units+64<cLine):OpR C.X (compareOp .Eq) (qI C false):=by
 intro pins s σ H vx vy u w Q I rx ry h
 obtain⟨x,y,h1,h2,h3,h4,q⟩:=h
 obtain⟨as,ra⟩:=xP I x vx u h1 rx (cP h3)
 obtain⟨bs,rb⟩:=xP I y vy w h2 ry (cP h4)
 exact eq_dataH ra rb h3 h4 hu ⟨.bl _,H,I,rfl,by simpa using q⟩
theorem Jj(hu:C.X.A.units+64<cLine):OpR C.X (compareOp .NotEq) (qI C true):=by
 intro pins s σ H vx vy u w Q I rx ry h
 obtain⟨x,y,h1,h2,h3,h4,q⟩:=h
 obtain⟨as,ra⟩:=xP I x vx u h1 rx (cP h3)
 obtain⟨bs,rb⟩:=xP I y vy w h2 ry (cP h4)
 exact ne_dataH ra rb h3 h4 hu ⟨.bl _,H,I,rfl,by simpa using q⟩
theorem Jk:km C (qI C false) iL:=by
 intro G H σ ς Q x y vx vy S hx hy q
 rcases QA q with⟨hc,q⟩ | ⟨_,q⟩
 ·rw[aO]at hc
  exact⟨x,y,hx,hy,hc.1,hc.2,by simpa [gO] using q.2⟩
 ·exact q.elim
theorem Jl:km C (qI C true) lD:=by
 intro G H σ ς Q x y vx vy S hx hy q
 rcases QA q with⟨hc,q⟩ | ⟨_,q⟩
 ·rw[aO]at hc
  exact⟨x,y,hx,hy,hc.1,hc.2,by simpa [gO] using q.2⟩
 ·exact q.elim
theorem Jm:fq iL:=λx y=>ua rfl
theorem R7:fq lD:=λx y=>ua rfl
theorem xQ(ha:DB C a A)(hb:DB C b B):DE C (.Compare a [.Gt] [b] pos) (e2 oA A B):=AI qv mS (mR λ_ _=>rfl) ha hb (pC _)
theorem ji(ha:DB C a A)(hb:DB C b B):DT C (.Compare a [.Lt] [b] pos) (eD (e2 mT A B)):=rG wI mS (mR λ_ _=>rfl) ha hb (pC _)
theorem xR(ha:DB C a A)(hb:DB C b B):DT C (.Compare a [.LtE] [b] pos) (eD (e2 nT A B)):=rG ig mS (mR λ_ _=>rfl) ha hb (pC _)
theorem mV(ha:DB C a A)(hb:DB C b B):DT C (.Compare a [.Gt] [b] pos) (eD (e2 oA A B)):=rG qv mS (mR λ_ _=>rfl) ha hb (pC _)
theorem xS(ha:DB C a A)(hb:DB C b B):DT C (.Compare a [.GtE] [b] pos) (eD (e2 Ec A B)):=rG wJ mS (mR λ_ _=>rfl) ha hb (pC _)
theorem jk(hu:C.X.A.units+64<cLine)(ha:DB C a A)(hb:DB C b B):DE C (.Compare a [.Eq] [b] pos) (e2 iL A B):=AI (Ji hu) Jk Jm ha hb (pC _)
theorem ir(hu:C.X.A.units+64<cLine)(ha:DB C a A)(hb:DB C b B):DT C (.Compare a [.Eq] [b] pos) (eD (e2 iL A B)):=rG (Ji hu) Jk Jm ha hb (pC _)
theorem oF(hu:C.X.A.units+64<cLine)(ha:DB C a A)(hb:DB C b B):DT C (.Compare a [.NotEq] [b] pos) (eD (e2 lD A B)):=rG (Jj hu) Jl R7 ha hb (pC _)
end DL
namespace DL
open PySem PySem.Spec PyProof.Rows L2
noncomputable def AN:D->D->Bool
 | .non,.non=>true
 | .bl a,.bl b=>a == b
 | _,_=>false
noncomputable def xT:D->Bool
 | .non=>true
 | .bl _=>true
 | _=>false
def xU(x y:D):Out D:=if xT y=true then .ok (.bl (AN x y)) else .stuck
def Jn(C:Dc)(n:Bool):R2:=λvx vy H Q=>∃ x y,Rep C.X.K C.CT H x vx/\Rep C.X.K C.CT H y vy/\xT y=true/\Q (.bl (n != AN x y)) H
theorem R8{A:Around}(r:RelV x v)(h:Q (.bool (v == .bool c)) s):wpAny M A (compareOp .Is v (.bool c)) Q E s:=by
 cases x<;>first
  | (cases r;exact aX h)
  | (obtain⟨t,rfl⟩:=r;exact aX h)
theorem R9{K:PySem.W.Frag}(h:Rep K CT H x v)(r:RelV v u):(u == Value.none)=AN x .non:=by
 cases x with
 | non=>cases h;cases r;rfl
 | bl _=>cases h;cases r;rfl
 | int _=>cases h;obtain⟨t,rfl⟩:=r;rfl
 | str _=>cases h;obtain⟨t,rfl⟩:=r;rfl
 | lst _=>obtain⟨a,vs,rfl,_⟩:=h;cases r;rfl
 | tup _=>obtain⟨a,vs,rfl,_⟩:=h;cases r;rfl
 | dic _=>obtain⟨a,vs,rfl,_⟩:=h;cases r;rfl
 | ins _ _=>obtain⟨a,_,_,_,rfl,_⟩:=h;cases r;rfl
 | err _ _=>obtain⟨a,_,_,rfl,_⟩:=h;cases r;rfl
theorem RA{K:PySem.W.Frag}{CT:eU}{H:Hp}{x:D}{v:V}{u:Value}{c:Bool}(h:Rep K CT H x v)(r:RelV v u):(u == Value.bool c)=AN x (.bl c):=by
 cases x with
 | non=>cases h;cases r;rfl
 | bl d=>cases h;cases r;cases c<;>cases d<;>rfl
 | int _=>cases h;obtain⟨t,rfl⟩:=r;rfl
 | str _=>cases h;obtain⟨t,rfl⟩:=r;rfl
 | lst _=>obtain⟨a,vs,rfl,_⟩:=h;cases r;rfl
 | tup _=>obtain⟨a,vs,rfl,_⟩:=h;cases r;rfl
 | dic _=>obtain⟨a,vs,rfl,_⟩:=h;cases r;rfl
 | ins _ _=>obtain⟨a,_,_,_,rfl,_⟩:=h;cases r;rfl
 | err _ _=>obtain⟨a,_,_,rfl,_⟩:=h;cases r;rfl
theorem xV:OpR C.X (compareOp .Is) (Jn C false):=by
 intro pins s σ H vx vy u w Q I rx ry h
 obtain⟨x,y,h1,h2,h3,q⟩:=h
 cases y with
 | non=>cases h2;cases ry;exact is_none_gen ⟨.bl _,H,I,by rw[R9 h1 rx];rfl,by simpa using q⟩
 | bl c=>cases h2;cases ry;exact R8 rx ⟨.bl _,H,I,by rw[RA h1 rx];rfl,by simpa using q⟩
 | _=>cases h3
theorem RB:km C (Jn C false) xU:=by
 intro G H σ ς Q x y vx vy S hx hy q
 rcases QA q with⟨hc,q⟩ | ⟨_,q⟩
 ·exact⟨x,y,hx,hy,hc,by simpa [gO] using q.2⟩
 ·exact q.elim
theorem xW(ha:DB C a A)(hb:DB C b B):DT C (.Compare a [.Is] [b] pos) (eD (e2 xU A B)):=rG xV RB (λ_ _=>ua rfl) ha hb (pC _)
noncomputable def nC:D->String
 | .non=>"NoneType"
 | .bl _=>"bool"
 | .int _=>"int"
 | .str _=>"str"
 | .lst _=>"list"
 | .tup _=>"tuple"
 | .dic _=>"dict"
 | .ins _ _=>"object"
 | .err _ _=>"object"
structure ka(K:PySem.W.Frag)(A:Addr):Prop where
 cl:Cls K A
 ha:PySem.W.findIn K (.ref A) "__class__"=some (some (.builtin "object.__class__"))
 hn:PySem.W.specialIn K (.builtin "object.__class__") "__get__"=some (some (.builtin "getset_descriptor.__get__"))
 htk:PySem.W.takesIn K (.builtin "object.__class__")=some true
 hm:PySem.W.mroIn K A (.type "object")=some true
def tO(K:PySem.W.Frag)(CT:eU)(d:D)(uc:Value)(b:Bool):Prop:=match d with
 | .ins c _=>∀ A,CT c=some A->ka K A/\PySem.W.kitOne K (.ref A) uc=some b
 | .err c _=>∀ A,CT c=some A->rD K A/\PySem.W.kitOne K (.ref A) uc=some b
 | d=>PySem.W.kitOne K (.type (nC d)) uc=some b
section
variable{C:Dc}
theorem RD(I:Inv C.X pins σ H s)(h:Rep C.X.K C.CT H d v)(r:RelV v u)(k:tO C.X.K C.CT d uc b)
 (q:∀ tk,Q (.bool b) { s with toks:=tk }):wpAny (model C.X.prog C.X.w) A (call (.builtin "isinstance") [u,uc]) Q Ex s:=by
 cases d with
 | non=>cases h;cases r;exact PySem.W.kia_one PySem.W.kitx_none I.kIn True.intro k (λz=>nomatch z) q
 | bl y=>cases h;cases r;exact PySem.W.kia_one PySem.W.kitx_bool I.kIn True.intro k (λz=>nomatch z) q
 | int i=>cases h;obtain⟨t,rfl⟩:=r;exact PySem.W.kia_one PySem.W.kitx_int I.kIn True.intro k (λz=>nomatch z) q
 | str i=>cases h;obtain⟨t,rfl⟩:=r;exact PySem.W.kia_one PySem.W.kitx_str I.kIn True.intro k (λz=>nomatch z) q
 | lst ds=>
  obtain⟨a,vs,rfl,h2,_⟩:=h;cases r
  obtain⟨its,_,⟨o,n,ho,hc,_⟩,_⟩:=I.list h2
  exact PySem.W.kia_one PySem.W.kitx_list I.kIn ⟨o,ho,hc⟩ k (λz=>nomatch z) q
 | tup ds=>
  obtain⟨a,vs,rfl,h2,_⟩:=h;cases r
  obtain⟨its,_,⟨o,ho,hc,_⟩,_⟩:=I.tuple h2
  exact PySem.W.kia_one PySem.W.kitx_tuple I.kIn ⟨o,ho,hc⟩ k (λz=>nomatch z) q
 | dic ds=>
  obtain⟨a,kvs,rfl,h2,_⟩:=h;cases r
  obtain⟨_,_,vs,_,p⟩:=h2.ok I.hok
  obtain⟨o,es,ep,h1,h2,_⟩:=p
  exact PySem.W.kia_one PySem.W.kitx_dict I.kIn ⟨o,h1,h2.1⟩ k (λz=>nomatch z) q
 | ins c fs=>
  obtain⟨a,A',dx,kz,rfl,h1,h2,_⟩:=h;cases r
  obtain⟨cd,kk⟩:=k A' h1
  obtain⟨mA,O,_⟩:=wK I.hok h2
  obtain⟨od,J,_⟩:=O.look
  exact PySem.W.kia_one (PySem.W.kitx_own (cd.cl.get _) cd.cl.hd cd.ha cd.hn cd.htk cd.hm) I.kIn J kk (λz=>nomatch z) q
 | err c fs=>
  obtain⟨a,A',dx,rfl,h1,h2,_⟩:=h;cases r
  obtain⟨cd,kk⟩:=k A' h1
  obtain⟨⟨o,vs,p1,p2,p3,_⟩,_⟩:=(show ObjOk C.X.prog C.X.w H s.heap a (rC a A' dx) from I.hok a _ h2)
  exact PySem.W.kia_one (PK cd) I.kIn ⟨o,vs,p1,p2,p3⟩ kk (λz=>nomatch z) q
noncomputable def Ei:V->Option Value
 | .ty n=>some (.type n)
 | .ref a=>some (.ref a)
 | _=>none
def gS(f:D->Out Bool)(a:SD->Out D):SD->Out D:=λς=>a ς>>=λd=>f d>>=λb=>.ok (.bl b)
theorem RE(hc:PE C.X cx (tC vc))(rc:Ei vc=some uc)(hf:∀ d,match f d with | .ok b=>tO C.X.K C.CT d uc b | .exc _=>False | .stuck=>True)(hg:Gl C.X "isinstance")(hm:C.X.mg "isinstance"=none)(h:DB C e E)
 (he:starEach (e::[cx]) C.X.env=(false,eval e C.X.env)::starEach [cx] C.X.env:=by rfl) (xX:starEach (cx::[]) C.X.env=(false,eval cx C.X.env)::starEach [] C.X.env:=by rfl)
 (fc:(backTo pos (starEach [cx] C.X.env)).any (·.1)=false:=by rfl):DE C (.Call (.Name "isinstance" p) [e,cx] [] pos) (gS f E):=by
 obtain⟨t,p1,q1⟩:=h
 have hR:CallR C.X (.builtin "isinstance") (λxs H Q=>∃ d x b,xs=[x,vc]/\Rep C.X.K C.CT H d x/\tO C.X.K C.CT d uc b/\Q (.bl b) H):=by
  intro pins s σ H xs us Q I r h
  obtain⟨d,x,b,rfl,h1,h2,q⟩:=h
  obtain⟨u,w,rfl,r1,r2⟩:=nq r
  have:w=uc:=by
   cases vc<;>first
    | (cases rc;cases r2;rfl)
    | cases rc
  subst this
  exact RD I h1 r1 h2 λtk=>⟨.bl b,H,I.tok _,rfl,q⟩
 refine⟨_,Dp hR hg hm PyProof.Rows.Boot.«isinstance» (l5 p1 (l5 hc n9 xX) he) (by decide) (by decide) he fc,λG H σ ς Q S q=>?_⟩
 unfold gS at q
 rw[dR]at q
 refine q1 G H σ ς _ S (dS q λd k v1 H1 G1 S1 a1 b1 r1=>?_)
 rw[dR]at k
 have hd:=hf d
 cases e:f d with
 | exc _=>rw[e]at hd;exact hd.elim
 | stuck=>rw[e]at k;exact k.elim
 | ok b=>
  rw[e]at k hd
  exact⟨d,v1,b,rfl,r1,hd,dH (dJ (k) a1 b1) S1 rfl⟩
end
theorem QD{xs:List α}{i j:Nat}{x y:α}(h:(xs.set i x)[j]?=some y):(i=j/\y=x/\i<xs.length)∨(i≠j/\xs[j]?=some y):=by
 rw[cR]at h
 by_cases e:i=j
 ·rw[aA e]at h
  by_cases l:i<xs.length
  ·rw[aA l]at h;exact .inl ⟨e,(ag h).symm,l⟩
  ·rw[aB l]at h;cases h
 ·rw[aB e]at h;exact .inr ⟨e,h⟩
theorem rM{xs:List α}{i:Nat}{x:α}(h:i<xs.length):(xs.set i x)[i]?=some x:=by
 rw[cR,aA rfl,aA h]
theorem Qs{xs:List α}{i j:Nat}{x:α}(h:i≠j):(xs.set i x)[j]?=xs[j]?:=by
 rw[cR,aB h]
theorem StR.set(S:StR C G H σ ς){d:D}(i:Nat)(r:Rep C.X.K C.CT G d v):StR C G H (σ.set i (some v)) (ς.set i (some (.k,d))) where
 toGH:=S.toGH
 len:=by rw[aw,aw];exact S.len
 fz:=λj e h=>by
  rcases QD h with⟨rfl,h2,l⟩ | ⟨ne,h2⟩
  ·cases h2
   exact⟨v,rM (by rw[S.len];exact l),r⟩
  ·rw[Qs ne];exact S.fz j e h2
 ow:=λj e h=>by
  rcases QD h with⟨rfl,h2,l⟩ | ⟨ne,h2⟩
  ·cases h2
  ·rw[Qs ne];exact S.ow j e h2
 ln:=λj e h=>by
  rcases QD h with⟨rfl,h2,l⟩ | ⟨ne,h2⟩
  ·cases h2
  ·rw[Qs ne];exact S.ln j e h2
 inj:=λj k d1 d2 p kJ h1 h2 h3=>by
  rcases QD h1 with⟨rfl,q1,l⟩ | ⟨n1,q1⟩
  ·cases q1
  ·rcases QD h2 with⟨rfl,q2,l⟩ | ⟨n2,q2⟩
   ·cases q2
   ·rw[Qs n1]at h3
    rw[Qs n2];exact S.inj j k d1 d2 p kJ q1 q2 h3
 sf:=λj e h=>by
  rcases QD h with⟨rfl,h2,l⟩ | ⟨ne,h2⟩
  ·cases h2
  ·rw[Qs ne];exact S.sf j e h2
 su:=λj k d1 d2 p kJ h1 h2 h3=>by
  rcases QD h1 with⟨rfl,q1,l⟩ | ⟨n1,q1⟩
  ·cases q1
  ·rcases QD h2 with⟨rfl,q2,l⟩ | ⟨n2,q2⟩
   ·cases q2
   ·rw[Qs n1]at h3
    rw[Qs n2];exact S.su j k d1 d2 p kJ q1 q2 h3
theorem StR.setO(S:StR C G H σ ς){d:D}(i:Nat)(hg:G p=none)(h0:C.H0 p=none)(ow:Own C.X.K C.CT G H p d)(hn:∀(j:Nat) e,j≠i->ς[j]?=some (some (.o,e))->σ[j]?≠some (some (.ref p))):
 StR C G H (σ.set i (some (.ref p))) (ς.set i (some (.o,d))) where
 toGH:=S.toGH
 len:=by rw[aw,aw];exact S.len
 fz:=λj e h=>by
  rcases QD h with⟨rfl,h2,l⟩ | ⟨ne,h2⟩
  ·cases h2
  ·rw[Qs ne];exact S.fz j e h2
 ow:=λj e h=>by
  rcases QD h with⟨rfl,h2,l⟩ | ⟨ne,h2⟩
  ·cases h2
   exact⟨p,rM (by rw[S.len];exact l),hg,h0,ow⟩
  ·rw[Qs ne];exact S.ow j e h2
 ln:=λj e h=>by
  rcases QD h with⟨rfl,h2,l⟩ | ⟨ne,h2⟩
  ·cases h2
  ·rw[Qs ne];exact S.ln j e h2
 inj:=λj k d1 d2 q kJ h1 h2 h3=>by
  rcases QD h1 with⟨rfl,q1,l1⟩ | ⟨n1,q1⟩
  ·rcases QD h2 with⟨rfl,q2,l⟩ | ⟨n2,q2⟩
   ·exact absurd rfl kJ
   ·rw[rM (by rw[S.len];exact l1)]at h3
    cases h3
    rw[Qs n2];exact hn k d2 (bR n2) q2
  ·rcases QD h2 with⟨rfl,q2,l⟩ | ⟨n2,q2⟩
   ·rw[Qs n1]at h3
    rw[rM (by rw[S.len];exact l)]
    intro z;cases z
    exact hn j d1 (bR n1) q1 h3
   ·rw[Qs n1]at h3
    rw[Qs n2];exact S.inj j k d1 d2 q kJ q1 q2 h3
 sf:=λj e h=>by
  rcases QD h with⟨rfl,h2,l⟩ | ⟨ne,h2⟩
  ·cases h2
  ·rw[Qs ne];exact S.sf j e h2
 su:=λj k d1 d2 p kJ h1 h2 h3=>by
  rcases QD h1 with⟨rfl,q1,l⟩ | ⟨n1,q1⟩
  ·cases q1
  ·rcases QD h2 with⟨rfl,q2,l⟩ | ⟨n2,q2⟩
   ·cases q2
   ·rw[Qs n1]at h3
    rw[Qs n2];exact S.su j k d1 d2 p kJ q1 q2 h3
noncomputable def fH:SD->Out Fl:=λς=>.ok (.nx ς)
noncomputable def jN(U:SD->Out Fl):Fl->Out Fl
 | .nx ς=>U ς
 | .rt b d=>.ok (.rt b d)
 | .bk ς=>.ok (.bk ς)
 | .ct ς=>.ok (.ct ς)
def dj(T U:SD->Out Fl):SD->Out Fl:=λς=>T ς>>=jN U
section
variable {st:Stmt} {eY:List Stmt}
theorem FlK.later(h:FlK C G W f)(s:Same G G1):FlK C G1 W f:=by
 cases f with
 | nx ς=>exact λσ' H' G' S q=>h σ' H' G' S (s.trans q)
 | bk ς=>exact λσ' H' G' S q=>h σ' H' G' S (s.trans q)
 | ct ς=>exact λσ' H' G' S q=>h σ' H' G' S (s.trans q)
 | rt b d=>exact λσ' H' G' S q=>h σ' H' G' S (s.trans q)
abbrev dN:=@FlK.later
theorem QR:lY C [] fH:=⟨_,NG,λG H σ ς W S q=>q σ H G S (dC G)⟩
theorem Qf(h1:DS C st T)(h2:lY C eY U):lY C (st::eY) (dj T U):=by
 obtain⟨t1,p1,q1⟩:=h1
 obtain⟨t2,p2,q2⟩:=h2
 refine⟨_,Ik p1 p2,λG H σ ς W S q=>?_⟩
 unfold dj at q
 rw[dR]at q
 refine q1 G H σ ς _ S (dS q λf k=>?_)
 cases f with
 | nx ς'=>exact λσ' H' G' S' s'=>q2 G' H' σ' ς' W S' (dS (k) λf k=>dN k s')
 | bk ς'=>exact k
 | ct ς'=>exact k
 | rt b d=>exact k
theorem Qh(h1:DS C st T):lY C [st] T:=let ⟨t,p,q⟩:=h1;⟨t,Il p,q⟩
def e8(i:Nat)(E:SD->Out D):SD->Out Fl:=λς=>E ς>>=λd=>.ok (.nx (ς.set i (some (.k,d))))
def fL(i:Nat)(E:SD->Out D):SD->Out Fl:=λς=>E ς>>=λd=>.ok (.nx (ς.set i (some (.o,d))))
theorem Qy(hN:C.X.N.Nodup)(hi:C.X.N[i]?=some x)(hx:mI C.X.env.scope x)(he:DE C e E)(hs:swapsWith e (some (.Name x pos')) pos.line C.X.env=pure false:=by rfl)
 (hf:C.X.fn x=true∨C.X.env.scope.names.lookup x=some .local:=by fail"V2"):DS C (.Assign [.Name x pos'] e pos) (e8 i E):=by
 obtain⟨t,p,q⟩:=he
 refine⟨_,DZ hN hi hx p hs hf,λG H σ ς W S k=>?_⟩
 unfold e8 at k
 rw[dR]at k
 exact q G H σ ς _ S (dS k λd k v H1 G1 S1 a1 b1 r1=>k _ H1 G1 (S1.set i r1) b1)
theorem nV(hN:C.X.N.Nodup)(hi:C.X.N[i]?=some x)(hx:mI C.X.env.scope x)(he:DF C e E)(hs:swapsWith e (some (.Name x pos')) pos.line C.X.env=pure false:=by rfl)
 (hf:C.X.fn x=true∨C.X.env.scope.names.lookup x=some .local:=by fail"V2"):DS C (.Assign [.Name x pos'] e pos) (fL i E):=by
 obtain⟨t,p,q⟩:=he
 refine⟨_,DZ hN hi hx p hs hf,λG H σ ς W S k=>?_⟩
 unfold fL at k
 rw[dR]at k
 exact q G H σ ς _ S (dS k λd k p H1 G1 S1 a1 b1 hp hg ow=>k _ H1 G1 (S1.setO i hg (S.h0none hp) ow λj e _ z=>S.new_ne hp j e z) b1)
def xY(i j:Nat)(A:SD->Out (List D)):SD->Out Fl:=λς=>A ς>>=λds=>match ds with
 | [x,y]=>.ok (.nx ((ς.set i (some (.k,x))).set j (some (.k,y))))
 | _=>.stuck
noncomputable def Q8:List Nat->List D->SD->Out SD
 | [],[],ς=>.ok ς
 | i::is,d::ds,ς=>Q8 is ds (ς.set i (some (.k,d)))
 | _,_,_=>.stuck
def xZ(C:Dc)(es:List Expr)(is:List Nat):Prop:=∃ t,w5 C.X es t/\∀ G H σ ς ds vs ς' (Q:St->Hp->Prop),StR C G H σ ς->RepL C.X.K C.CT G ds vs->Q8 is ds ς=.ok ς'->
 (∀ σ',StR C G H σ' ς'->Q σ' H)->t vs σ H Q
theorem xa:xZ C [] []:=by
 refine⟨_,NK,λG H σ ς ds vs ς' Q S r h q=>?_⟩
 cases ds with
 | nil=>
  cases h
  exact⟨r,q σ S⟩
 | cons d ds=>cases h
theorem pL(hN:C.X.N.Nodup)(hi:C.X.N[i]?=some x)(hx:mI C.X.env.scope x)(h2:xZ C es is)
 (hf:C.X.fn x=true∨C.X.env.scope.names.lookup x=some .local:=by fail"V2")
 (hs:(assignEach (.Name x pos::es) C.X.env).map (·.2)=assign (.Name x pos) C.X.env::(assignEach es C.X.env).map (·.2):=by rfl):xZ C (.Name x pos::es) (i::is):=by
 obtain⟨t,p,q⟩:=h2
 refine⟨_,NL (Im hN hi hx hf) p hs,λG H σ ς ds vs ς' Q S r h k=>?_⟩
 cases ds with
 | nil=>cases h
 | cons d ds=>
  obtain⟨v,w,rfl,r1,r2⟩:=r
  exact⟨v,w,rfl,q G H _ _ ds w ς' Q (S.set i r1) r2 h k⟩
def m4(is:List Nat)(E:SD->Out D):SD->Out Fl:=λς=>E ς>>=λd=>match d with
 | .tup ds=>Q8 is ds ς>>=λς'=>.ok (.nx ς')
 | _=>.stuck
theorem Ej:∀{is:List Nat}{ds:List D}{ς ς':SD},Q8 is ds ς=.ok ς'->ds.length=is.length
 | [],[],_,_,_=>rfl
 | i::is,d::ds,ς,ς',h=>by
  have:=Ej (ds:=ds) h
  simp[this]
 | [],_::_,_,_,h=>by cases h
 | _::_,[],_,_,h=>by cases h
theorem RF(hc:C.X.calm=true)(he:DE C e E)(hg:xZ C es is)(hn:(assignEach es C.X.env).length=is.length:=by rfl)(gH:(assignEach es C.X.env).findIdx? (·.1)=none:=by rfl)
 (hs:swapsWithSole [.Tuple es k pt] e pos.line C.X.env=pure false:=by rfl) (hw:swappedStores [.Tuple es k pt] e C.X.env=pure none:=by rfl)
 (h1:(assignEach [.Tuple es k pt] C.X.env).map (·.2)=[assign (.Tuple es k pt) C.X.env]:=by rfl):DS C (.Assign [.Tuple es k pt] e pos) (m4 is E):=by
 obtain⟨t,p,q⟩:=he
 obtain⟨t2,p2,q2⟩:=hg
 refine⟨_,DY p (Io hc p2 hn gH) hs hw h1,λG H σ ς W S k=>?_⟩
 unfold m4 at k
 rw[dR]at k
 refine q G H σ ς _ S (dS k λd k v H1 G1 S1 a1 b1 r1=>?_)
 cases d with
 | tup ds=>
  obtain⟨a,vs,rfl,h2,h3⟩:=r1
  have k':=k
  rw[dR]at k'
  cases z:Q8 is ds ς with
  | exc _=>exact absurd z (by
   have:∀ is ds ς x,Q8 is ds ς≠.exc x:=by
    intro is
    induction is with
    | nil=>intro ds ς x h;cases ds<;>cases h
    | cons i is ih=>intro ds ς x h;cases ds with
     | nil=>cases h
     | cons d ds=>exact ih ds _ x h
   exact this is ds ς _)
  | stuck=>rw[z]at k';exact k'.elim
  | ok ς'=>
   rw[z]at k'
   refine⟨a,vs,rfl,Same.sqT S1.sub h2,by rw[← h3.length];exact Ej z,?_⟩
   exact q2 G1 H1 σ ς ds vs ς' _ S1 h3 z λσ' S'=>k' σ' H1 G1 S' b1
 | _=>exact k.elim
def eV(E:SD->Out D):SD->Out Fl:=λς=>E ς>>=λd=>.ok (.rt false d)
def fD(E:SD->Out D):SD->Out Fl:=λς=>E ς>>=λd=>.ok (.rt true d)
theorem QH(he:DE C e E):DS C (.Return (some e) pos) (eV E):=by
 obtain⟨t,p,q⟩:=he
 refine⟨_,zr p,λG H σ ς W S k=>?_⟩
 unfold eV at k
 rw[dR]at k
 exact q G H σ ς _ S (dS k λd k v H1 G1 S1 a1 b1 r1=>k v H1 G1 S1.toGH b1 r1)
theorem kc(he:DF C e E):DS C (.Return (some e) pos) (fD E):=by
 obtain⟨t,p,q⟩:=he
 refine⟨_,zr p,λG H σ ς W S k=>?_⟩
 unfold fD at k
 rw[dR]at k
 exact q G H σ ς _ S (dS k λd k p H1 G1 S1 a1 b1 hp hg ow=>k _ H1 G1 S1.toGH b1 ⟨p,rfl,S.h0none hp,hg,ow⟩)
noncomputable def iT(i:Nat):SD->Out Fl:=λς=>match ς[i]? with | some (some (.o,d))=>.ok (.rt true d) | _=>.stuck
theorem ue(i:Nat)(hN:C.X.N[i]?=some x:=by rfl)(hv:ll C.X.env.scope x:=by fail"V1")
 (hd:(x == ("__debug__":Str))=false:=by decide) (gR:(x == ("__classdict__":Str))=false:=by decide):DS C (.Return (some (.Name x px)) pos) (iT i):=by
 refine⟨_,zr (n8 hN hv hd gR),λG H σ ς W S k=>?_⟩
 unfold iT at k
 split at k
 ·rename_i d z
  obtain⟨p,a,b,c,w⟩:=S.ow i d z
  exact⟨_,a,k _ H G S.toGH (dC G) ⟨p,rfl,c,b,w⟩⟩
 ·exact k.elim
def gW(c:SD->Out Bool)(T U:SD->Out Fl):SD->Out Fl:=λς=>c ς>>=λb=>if b=true then T ς else U ς
theorem eX(hc:DT C c TC)(ha:lY C a T)(hb:lY C b U):DS C (.If c a b pos) (gW TC T U):=by
 obtain⟨t0,p0,q0⟩:=hc
 obtain⟨t1,p1,q1⟩:=ha
 obtain⟨t2,p2,q2⟩:=hb
 refine⟨_,qu p0 p1 p2,λG H σ ς W S k=>?_⟩
 unfold gW at k
 rw[dR]at k
 refine q0 G H σ ς _ S (dS k λb k H1 G1 S1 a1 b1=>?_)
 cases b with
 | true=>exact kY (q1 G1 H1 σ ς W S1 (dS (k) λf k=>dN k b1))
 | false=>exact kX (q2 G1 H1 σ ς W S1 (dS (k) λf k=>dN k b1))
noncomputable def qJ:SD->Out Fl:=λ_=>.stuck
theorem rN:DS C st qJ:=⟨_,NJ,λG H σ ς W S k=>k.elim⟩
end
def fM(body:D->SD->Out Fl):List D->SD->Out Fl
 | [],ς=>.ok (.nx ς)
 | x::xs,ς=>body x ς>>=λf=>match f with
  | .nx ς'=>fM body xs ς'
  | .ct ς'=>fM body xs ς'
  | .bk ς'=>.ok (.nx ς')
  | .rt b d=>.ok (.rt b d)
def DG(C:Dc)(tg:Expr)(g:D->SD->Out SD):Prop:=∃ t,PG C.X tg t/\∀ G H σ ς d v ς' (Q:St->Hp->Prop),StR C G H σ ς->Rep C.X.K C.CT G d v->g d ς=.ok ς'->(∀ σ',StR C G H σ' ς'->Q σ' H)->t v σ H Q
noncomputable def gN(i:Nat):D->SD->Out SD:=λd ς=>.ok (ς.set i (some (.k,d)))
def gT(is:List Nat):D->SD->Out SD:=λd ς=>match d with | .tup ds=>Q8 is ds ς | _=>.stuck
def iu{α β γ : Type}(g:α->β->Out γ):Prop:=∀ a b x,g a b≠.exc x
theorem Qn(i:Nat):iu (gN i):=λ_ _ _ h=>by cases h
theorem RG(is:List Nat):∀(ds:List D) (ς:SD) x,Q8 is ds ς≠.exc x:=by
 induction is with
 | nil=>intro ds ς x h;cases ds<;>cases h
 | cons i is ih=>intro ds ς x h;cases ds with
  | nil=>cases h
  | cons d ds=>exact ih ds _ x h
theorem AO(is:List Nat):iu (gT is):=λd ς x h=>by
 cases d with
 | tup ds=>exact RG is ds ς x h
 | _=>cases h
section
variable {T U:SD->Out Fl}
theorem Qq(hN:C.X.N.Nodup)(hi:C.X.N[i]?=some x)(hx:mI C.X.env.scope x)
 (hf:C.X.fn x=true∨C.X.env.scope.names.lookup x=some .local:=by fail"V2"):DG C (.Name x pos) (gN i):=
 ⟨_,Im hN hi hx hf,λG H σ ς d v ς' Q S r h k=>by cases h;exact k _ (S.set i r)⟩
theorem AQ(hc:C.X.calm=true)(hg:xZ C es is)(hn:(assignEach es C.X.env).length=is.length:=by rfl)(gH:(assignEach es C.X.env).findIdx? (·.1)=none:=by rfl):
 DG C (.Tuple es k pos) (gT is):=by
 obtain⟨t2,p2,q2⟩:=hg
 refine⟨_,Io hc p2 hn gH,λG H σ ς d v ς' Q S r h k=>?_⟩
 cases d with
 | tup ds=>
  obtain⟨a,vs,rfl,h2,h3⟩:=r
  exact⟨a,vs,rfl,Same.sqT S.sub h2,by rw[← h3.length];exact Ej h,q2 G H σ ς ds vs ς' Q S h3 h k⟩
 | _=>cases h
def gu(g:D->SD->Out SD)(its:SD->Out (List D))(T:SD->Out Fl):SD->Out Fl:=λς=>its ς>>=λxs=>fM (λx ς=>g x ς>>=λς'=>T ς') xs ς
def fJ(E:SD->Out D):SD->Out (List D):=λς=>E ς>>=λd=>match d with | .lst xs=>.ok xs | _=>.stuck
theorem xb{tb:TS}{tt:TG}(fT:iu g)
 (hg:∀ G H σ ς d v ς' (Q:St->Hp->Prop),StR C G H σ ς->Rep C.X.K C.CT G d v->g d ς=.ok ς'->(∀ σ',StR C G H σ' ς'->Q σ' H)->tt v σ H Q)
 (hb:∀ G H σ ς W,StR C G H σ ς->(T ς).post (FlK C G W) C.XD->tb W σ H)
 (S:StR C G H σ ς) (r:Rep C.X.K C.CT G x v) (q:(fM (λx ς=>g x ς>>=λς'=>T ς') (x::xs) ς).post (FlK C G W) C.XD)
 (hN:∀ σ' H' G' ς',StR C G' H' σ' ς'->Same G G'->(fM (λx ς=>g x ς>>=λς'=>T ς') xs ς').post (FlK C G' W) C.XD->N σ' H'):
 tt v σ H λσ2 H2=>tb { W with nx:=N,ct:=N,bk:=W.nx } σ2 H2:=by
 have q':((g x ς>>=λς'=>T ς')>>=λf=>match f with
  | .nx ς'=>fM (λx ς=>g x ς>>=λς'=>T ς') xs ς'
  | .ct ς'=>fM (λx ς=>g x ς>>=λς'=>T ς') xs ς'
  | .bk ς'=>.ok (.nx ς')
  | .rt b d=>.ok (.rt b d)).post (FlK C G W) C.XD:=q
 rw[dR,dR]at q'
 cases z:g x ς with
 | exc y=>exact absurd z (fT _ _ _)
 | stuck=>rw[z]at q';exact q'.elim
 | ok ς1=>
  rw[z]at q'
  refine hg G H σ ς x v ς1 _ S r z λσ1 S1=>hb G H σ1 ς1 _ S1 (dS q' λf k=>?_)
  cases f with
  | nx ς'=>exact λσ' H' G' S' s'=>hN σ' H' G' ς' S' s' (dS (k) λf k=>dN k s')
  | ct ς'=>exact λσ' H' G' S' s'=>hN σ' H' G' ς' S' s' (dS (k) λf k=>dN k s')
  | bk ς'=>exact λσ' H' G' S' s'=>(k) σ' H' G' S' s'
  | rt b d=>exact k
theorem Jo{xs:List α}(h:xs[i]?=some x):xs.drop i=x::xs.drop (i+1):=by
 obtain⟨l,e⟩:=aW.mp h
 rw[List.drop_eq_getElem_cons l,e]
noncomputable def k9(lo:Int)(n:Nat):List D:=(List.range n).map λ(i:Nat)=>D.int (lo+i)
theorem RH{lo:Int}(h:i<n):(k9 lo n)[i]?=some (D.int (lo+i)):=by
 unfold k9
 rw[aH,ae h];rfl
theorem Jp{lo:Int}:(k9 lo n).length=n:=by simp[k9]
noncomputable def xc(i:Int):Bool:=decide (-(2 ^ 62)<=i)&&decide (i<2 ^ 62)
def eR(A:SD->Out D):SD->Out (List D):=λς=>A ς>>=λd=>match d with
 | .int n=>if xc n=true then .ok (k9 0 n.toNat) else .stuck
 | _=>.stuck
theorem RI(h:xc i=true) : -(2 ^ 62)<=i/\i<2 ^ 62:=by
 unfold xc at h
 rw[aO]at h
 exact⟨aN h.1,aN h.2⟩
def QQ(c:SD->Out Bool)(b:SD->Out Fl):Nat->SD->Out Fl
 | 0,_=>.stuck
 | n+1,ς=>c ς>>=λt=>if t=true then b ς>>=λf=>match f with
  | .nx ς'=>QQ c b n ς'
  | .ct ς'=>QQ c b n ς'
  | .bk ς'=>.ok (.nx ς')
  | .rt b d=>.ok (.rt b d)
  else .ok (.nx ς)
def Ek(m:SD->Nat)(c:SD->Out Bool)(b:SD->Out Fl):SD->Out Fl:=λς=>QQ c b (m ς) ς
theorem RJ(m:SD->Nat)(hp:PassesOwn (model C.X.prog C.X.w) C.X.A C.X.env C.X.xe)(hc:DT C c TC)(hb:lY C body T):DS C (.While c body [] pos) (Ek m TC T):=by
 obtain⟨t0,p0,q0⟩:=hc
 obtain⟨t1,p1,q1⟩:=hb
 refine⟨_,NO hp p0 p1,λG H σ ς W S k=>?_⟩
 refine⟨λn σ' H'=>∃ G' ς',StR C G' H' σ' ς'/\(QQ TC T n ς').post (FlK C G' W) C.XD,⟨m ς,G,ς,S,k⟩,?_⟩
 rintro n σ' H' ⟨G',ς',S',k'⟩
 cases n with
 | zero=>exact k'.elim
 | succ n=>
  rw[QQ,dR]at k'
  refine q0 G' H' σ' ς' _ S' (dS k' λb k H1 G1 S1 a1 b1=>?_)
  cases b with
  | false=>exact kX ((k) σ' H1 G1 S1 b1)
  | true=>
   rw[aA rfl,dR]at k
   refine kY ⟨λσ2 H2=>∃ G2 ς2,StR C G2 H2 σ2 ς2/\(QQ TC T n ς2).post (FlK C G2 W) C.XD,λσ2 H2 h=>⟨n,bf n,h⟩,?_⟩
   refine q1 G1 H1 σ' ς' _ S1 (dS k λf k=>?_)
   cases f with
   | nx ς2=>exact λσ2 H2 G2 S2 s2=>⟨G2,ς2,S2,dS (k) λf k=>dN k (b1.trans s2)⟩
   | ct ς2=>exact λσ2 H2 G2 S2 s2=>⟨G2,ς2,S2,dS (k) λf k=>dN k (b1.trans s2)⟩
   | bk ς2=>exact λσ2 H2 G2 S2 s2=>(k) σ2 H2 G2 S2 (b1.trans s2)
   | rt b d=>exact dN (k) b1
noncomputable def mW(c:SD->Out Bool)(b:SD->Out Fl)(ς:SD):Nat:=by
 classical exact if h:∃ n,QQ c b n ς≠.stuck then Classical.choose h else 0
noncomputable def kK(c:SD->Out Bool)(b:SD->Out Fl):SD->Out Fl:=Ek (mW c b) c b
theorem El(hp:PassesOwn (model C.X.prog C.X.w) C.X.A C.X.env C.X.xe)(hc:DT C c TC)(hb:lY C body T):DS C (.While c body [] pos) (kK TC T):=RJ (mW TC T) hp hc hb
theorem Em:∀(n:Nat)(ς:SD),QQ c b n ς≠.stuck->QQ c b (n+1) ς=QQ c b n ς
 | 0,ς,h=>absurd rfl h
 | n+1,ς,h=>by
  rw[QQ,QQ]
  rw[QQ]at h
  cases hc:c ς with
  | stuck=>rfl
  | exc _=>rfl
  | ok t=>
   rw[hc]at h
   cases t with
   | false=>rfl
   | true=>
    have h':=h
    cases hb:b ς with
    | stuck=>rfl
    | exc _=>rfl
    | ok f=>
     rw[hb]at h'
     cases f with
     | nx ς'=>exact Em n ς' h'
     | ct ς'=>exact Em n ς' h'
     | bk _=>rfl
     | rt _ _=>rfl
theorem En(h:QQ c b n ς≠.stuck):∀ k,QQ c b (n+k) ς=QQ c b n ς
 | 0=>rfl
 | k+1=>by
  have ih:=En h k
  rw[← Nat.add_assoc,Em (n+k) ς (by rw[ih];exact h),ih]
theorem tP(n:Nat)(h:QQ c b n ς≠.stuck):kK c b ς=QQ c b n ς:=by
 have hx:∃ n,QQ c b n ς≠.stuck:=⟨n,h⟩
 have e:mW c b ς=Classical.choose hx:=by unfold mW;rw[dif_pos hx]
 unfold kK Ek
 rw[e]
 have h2:=Classical.choose_spec hx
 generalize Classical.choose hx=m at h2 ⊢
 rcases Nat.le_total n m with hl | hl
 ·obtain⟨k,rfl⟩:=Nat.exists_eq_add_of_le hl
  exact En h k
 ·obtain⟨k,rfl⟩:=Nat.exists_eq_add_of_le hl
  exact(En h2 k).symm
theorem AR(h:∀ n,QQ c b n ς=.stuck):kK c b ς=.stuck:=h _
theorem uf(c:SD->Out Bool)(b:SD->Out Fl)(ς:SD):kK c b ς=(c ς>>=λt=>if t=true then b ς>>=λf=>match f with
 | .nx ς'=>kK c b ς'
 | .ct ς'=>kK c b ς'
 | .bk ς'=>.ok (.nx ς')
 | .rt b d=>.ok (.rt b d)
 else .ok (.nx ς)):=by
 cases hc:c ς with
 | stuck=>exact AR λn=>by cases n with | zero=>rfl | succ n=>rw[QQ,hc];rfl
 | exc x=>exact(tP 1 (by rw[QQ,hc];exact λz=>nomatch z)).trans (by rw[QQ,hc];rfl)
 | ok t=>
  cases t with
  | false=>exact(tP 1 (by rw[QQ,hc];exact λz=>nomatch z)).trans (by rw[QQ,hc];rfl)
  | true=>
   cases hb:b ς with
   | stuck=>exact(AR λn=>by cases n with | zero=>rfl | succ n=>rw[QQ,hc];rw[hb];rfl).trans (by rfl)
   | exc x=>exact(tP 1 (by rw[QQ,hc];rw[hb];exact λz=>nomatch z)).trans (by rw[QQ,hc];rw[hb];rfl)
   | ok f=>
    have go:∀ ς',(f=.nx ς'∨f=.ct ς')->(∀ n,QQ c b (n+1) ς=QQ c b n ς')->kK c b ς=kK c b ς':=λς' _ e=>by
     by_cases hx:∃ n,QQ c b n ς'≠.stuck
     ·obtain⟨n,hn⟩:=hx
      rw[tP n hn,tP (n+1) (by rw[e];exact hn),e]
     ·have hs:=λn=>Classical.byContradiction λz=>hx ⟨n,z⟩
      rw[AR hs]
      exact AR λn=>by cases n with | zero=>rfl | succ n=>rw[e];exact hs n
    cases f with
    | nx ς'=>exact go ς' (.inl rfl) λn=>by rw[QQ,hc];rw[hb];rfl
    | ct ς'=>exact go ς' (.inr rfl) λn=>by rw[QQ,hc];rw[hb];rfl
    | bk ς'=>exact(tP 1 (by rw[QQ,hc];rw[hb];exact λz=>nomatch z)).trans (by rw[QQ,hc];rw[hb];rfl)
    | rt r d=>exact(tP 1 (by rw[QQ,hc];rw[hb];exact λz=>nomatch z)).trans (by rw[QQ,hc];rw[hb];rfl)
end
def gD(K:PySem.W.Frag)(CT:eU)(fr:Bool)(H0 G' H':Hp)(d:D)(v:V):Prop:=
 if (fr && !d.scal)=true then ∃ p,v=.ref p/\H0 p=none/\G' p=none/\Own K CT G' H' p d else Rep K CT G' d v
def eN(fr:Bool):Fl->Out D
 | .rt b d=>if (!fr||b||d.scal)=true then .ok d else .stuck
 | .nx _=>.ok .non
 | _=>.stuck
def dy(fr:Bool)(n len:Nat)(T:SD->Out Fl):List D->Out D:=λds=>
 if ds.length=n then T (ds.map (λd=>some (.k,d))++List.replicate (len - n) none)>>=eN fr else .stuck
def gY(K:PySem.W.Frag)(CT:eU)(fr:Bool)(m:List D->Out D):Sp:=λvs H Q _=>∃ ds G0,Same G0 H/\RepL K CT G0 ds vs/\
 (m ds).post (λd=>∀ v H' G',Same G0 G'->Same H H'->Same G' H'->(∀ b,G0 b=none->G' b≠none->H b=none)->gD K CT fr H G' H' d v->Q v H') (λ_=>False)
structure FunV(K:PySem.W.Frag)(x qual:Str)(st:Stmt)(f:Addr)(fd:FuncData)(dV:Value):Prop where
 ex:∃(oc:Value)(od:Option Addr)(kV doc pm:Value)(an:Option Addr)(eE ct:Value)(lr:Array (Option Value)),
  fd=PySem.W.fnOf x qual (qy st) (mL st) (Qc st) dV kV doc pm an eE ct/\K.lookup f=some ⟨oc,od,.func fd,lr⟩/\PySem.W.codeIn K eE qual=true
 kp:PySem.W.keepIn K (.ref f)=true
theorem funV_mk{K:PySem.W.Frag}{st:Stmt}{dV kV doc pm eE ct:Value}(l:K.lookup f=some ⟨oc,od,.func (PySem.W.fnOf x qual (qy st) (mL st) (Qc st) dV kV doc pm an eE ct),lr⟩)
 (c:PySem.W.codeIn K eE qual=true) (k:PySem.W.keepIn K (.ref f)=true):FunV K x qual st f (PySem.W.fnOf x qual (qy st) (mL st) (Qc st) dV kV doc pm an eE ct) dV:=⟨⟨oc,od,kV,doc,pm,an,eE,ct,lr,rfl,l,c⟩,k⟩
theorem FunV.binds{K:PySem.W.Frag}{st:Stmt}(F:FunV K x qual st f fd .none)
 (h:∀(kV doc pm:Value)(an:Option Addr)(eE ct:Value)(us:List Value),us.length=ps.length->bindArgs (PySem.W.fnOf x qual (qy st) (mL st) (Qc st) .none kV doc pm an eE ct) ⟨us,[]⟩=pure (ps.zip us)):Binds K fd ps []:=by
 obtain⟨oc,od,kV,doc,pm,an,eE,ct,lr,rfl,lk,gR⟩:=F.ex
 exact .all (h kV doc pm an eE ct)
abbrev xf(P:Program)(w:World)(K:PySem.W.Frag)(mg:Str->Option Value)(base:Heap)(CT:eU)(N:List Str)(qual:Str)(sc:Scope)(f:Addr)(eE:Value)(A:Around)(outer:List Env)(s:Shared)(H:Hp)(E:XK)(G:Hp):Dc:=
 { X:=(je g8 P w K mg base N qual sc f eE A outer s H E).nox,CT:=CT,G0:=G,XD:=λ_=>False,B:=H,M:=λ_=>False }
theorem nW{i:Nat}(h:vs[i]?=some v):(L2.start N vs)[i]?=some (some v):=by
 unfold L2.start
 have hi:=(aW.mp h).1
 rw[bH (by simpa using hi),aH,h];rfl
theorem nD{ds:List D}{i:Nat}(h:(ds.map (λd=>some (SM.k,d))++List.replicate k (none:Option (SM×D)))[i]?=some (some x)):∃ d,ds[i]?=some d/\x=(.k,d):=by
 by_cases hi:i<ds.length
 ·rw[bH (by simpa using hi),aH]at h
  cases e:ds[i]? with
  | none=>rw[e]at h;cases h
  | some d=>rw[e]at h;cases h;exact⟨d,rfl,rfl⟩
 ·rw[bT (by simpa using hi),ba]at h
  split at h<;>cases h
theorem GH.freezeR(S:GH C G' H')(hp:H' p=some o)(hg:G' p=none)(h0:C.H0 p=none):GH C (eT G' p o) H' where
 sub:=λb u q=>by
  by_cases hb:b=p
  ·subst hb;rw[QC]at q;cases q;exact hp
  ·rw[Qk hb]at q;exact S.sub b u q
 g0:=S.g0.trans (Qv hg)
 new:=λb h1 h2=>by
  by_cases hb:b=p
  ·subst hb;exact h0
  ·rw[Qk hb]at h2;exact S.new b h1 h2
 fr:=S.fr
 dom:=S.dom
 bs:=S.bs
 bh:=S.bh
theorem gE{P:Program}{w:World}{K:PySem.W.Frag}{mg:Str->Option Value}{base:Heap}{CT:eU}{fr:Bool}{x qual:Str}{st:Stmt}{f:Addr}{fd:FuncData}{dV:Value}{N ps:List Str}{k:Nat}{T:SD->Out Fl}
 (F:FunV K x qual st f fd dV) (S:Qo N ps (Qc st))
 (hb:∀(eE:Value)(A:Around)(outer:List Env)(s:Shared)(H:Hp)(E:XK)(G:Hp),Room k (A.deeper (envOfC qual (Qc st) s.heap.objs.size f eE))->lY (xf P w K mg base CT N qual (Qc st) f eE A outer s H E G) (mL st) T):
 FnOk P w K mg base g8 (k+1) f fd ps (gY K CT fr (dy fr ps.length N.length T)):=by
 obtain⟨oc,od,kV,doc,pm,an,eE,ct,lr,rfl,lk,gR⟩:=F.ex
 have len:∀ vs H Q E,gY K CT fr (dy fr ps.length N.length T) vs H Q E->vs.length=ps.length:=by
  rintro vs H Q E ⟨ds,G0,sub,r,q⟩
  unfold dy at q
  by_cases hl:ds.length=ps.length
  ·rw[← r.length];exact hl
  ·rw[aB hl]at q;exact q.elim
 refine kG lk gR S len λA outer s H vs Q E hr jC=>?_
 have hlen:=len vs H Q E jC
 obtain⟨ds,G0,sub,r,q⟩:=jC
 obtain⟨t,p1,q1⟩:=hb eE A outer s H E G0 hr
 have hl:ds.length=ps.length:=by rw[r.length];exact hlen
 refine⟨t,p1.nox,?_⟩
 unfold dy at q
 rw[aA hl,dR]at q
 have S0:StR (xf P w K mg base CT N qual (Qc st) f eE A outer s H E G0) G0 H (L2.start N vs) (ds.map (λd=>some (.k,d))++List.replicate (N.length - ps.length) none):={
  sub:=sub
  g0:=dC _
  new:=λb h1 h2=>absurd h1 h2
  fr:=λb o e _=>e
  dom:=λb e=>e
  bs:=dC _
  bh:=λb e=>e
  len:=by unfold L2.start;simp;omega
  fz:=λi d e=>by
   obtain⟨d',e1,e2⟩:=nD e
   cases e2
   obtain⟨v,e3,rv⟩:=r.get e1
   exact⟨v,nW e3,rv⟩
  ow:=λi d e=>by
   obtain⟨d',e1,e2⟩:=nD e
   cases e2
  ln:=λi d e=>by
   obtain⟨d',e1,e2⟩:=nD e
   cases e2
  inj:=λi j d e p _ h=>by
   obtain⟨d',e1,e2⟩:=nD h
   cases e2
  sf:=λi d e=>by
   obtain⟨d',e1,e2⟩:=nD e
   cases e2
  su:=λi j d e p _ h=>by
   obtain⟨d',e1,e2⟩:=nD h
   cases e2 }
 refine q1 G0 H (L2.start N vs) _ _ S0 (dS q λfl kk=>?_)
 cases fl with
 | nx ς'=>exact λσ' H' G' S' s'=>kk .non H' G' s' (λb o e=>S'.fr b o e id) S'.sub S'.new (by unfold gD;rw[aB (by cases fr<;>decide)];rfl)
 | bk ς'=>exact λσ' H' G' S' s'=>kk.elim
 | ct ς'=>exact λσ' H' G' S' s'=>kk.elim
 | rt b d=>
  intro v H' G' S' s' ret
  have Eo:=kk
  rcases QA Eo with⟨hc,k2⟩ | ⟨_,k2⟩
  ·have k3:=k2
   cases b with
   | false=>
    refine k3 v H' G' s' (λb o e=>S'.fr b o e id) S'.sub S'.new ?_
    unfold gD
    have hn:¬ (fr && !d.scal)=true:=by revert hc;cases fr<;>cases d.scal<;>simp
    rw[aB hn]
    exact ret
   | true=>
    obtain⟨p,rfl,h0,hg,ow⟩:=(ret)
    cases fr with
    | true=>
     refine k3 _ H' G' s' (λb o e=>S'.fr b o e id) S'.sub S'.new ?_
     have hs:d.scal=false:=by cases d<;>first | rfl | exact ow.elim
     unfold gD
     rw[aA (by rw[hs];rfl)]
     exact⟨p,rfl,h0,hg,ow⟩
    | false=>
     obtain⟨o,ho⟩:=ow.there
     have S2:=GH.freezeR S' ho hg h0
     refine k3 _ H' _ (s'.trans (Qv hg)) (λb o e=>S2.fr b o e id) S2.sub S2.new ?_
     unfold gD
     rw[aB (by simp)]
     exact ow.known hg ho
  ·exact k2.elim
theorem FnOk.as{P:Program}{w:World}{K:PySem.W.Frag}{mg:Str->Option Value}{base:Heap}{CT:eU}{fr:Bool}{k:Nat}{f:Addr}{fd:FuncData}{ps:List Str}{m m':List D->Out D}
 (F:FnOk P w K mg base g8 k f fd ps (gY K CT fr m)) (h:∀ ds,m' ds=.stuck∨m' ds=m ds):FnOk P w K mg base g8 k f fd ps (gY K CT fr m'):=by
 refine F.imp λvs H Q E ⟨ds,G0,sub,r,q⟩=>⟨ds,G0,sub,r,?_⟩
 rcases h ds with e | e
 ·rw[e]at q;exact q.elim
 ·rw[← e];exact q
def mX(P:Program)(w:World)(K:PySem.W.Frag)(mg:Str->Option Value)(base:Heap)(CT:eU)(x:Str)(k:Nat)(fr:Bool)(dd:List D)(m:List D->Out D):Prop:=
 ∃ f fd ps ds,FnOk P w K mg base g8 k f fd ps (gY K CT fr m)/\mg x=some (.ref f)/\PySem.W.keepIn K (.ref f)=true/\Binds K fd ps ds/\Vals (dd.map gO) ds
theorem AS{K:PySem.W.Frag}{CT:eU}{H:Hp}:∀{dd:List D},dd.all D.scal=true->RepL K CT H dd (dd.map gO)
 | [],_=>rfl
 | d::ds,h=>by
  rw[cF,aO]at h
  exact⟨_,_,rfl,EY h.1,AS h.2⟩
def AU(o:Out D):Out D:=o>>=λd=>if d.scal=true then .stuck else .ok d
theorem eI(h:mX C.X.prog C.X.w C.X.K C.X.mg C.X.base C.CT x k fr dd m)(hr:Room k C.X.A)(ha:DA C (e::es) A)(hg:Gl C.X x)(hs:dd.all D.scal=true:=by rfl)(hx:∀ x,¬ C.XD x:=by fail"V5")
 (ij:(x == ("__debug__":Str))=false:=by decide) (he:starEach (e::es) C.X.env=(false,eval e C.X.env)::starEach es C.X.env:=by rfl) (fc:(backTo pos (starEach es C.X.env)).any (·.1)=false:=by rfl):
 DE C (.Call (.Name x p) (e::es) [] pos) (eA (λxs=>m (xs++dd)) A):=by
 obtain⟨f,fd,ps,ds,F,hm,hk,hb,hd⟩:=h
 obtain⟨t,p1,q1⟩:=ha
 refine⟨_,A0 F hr hg hm hk hb hd kH p1 ij he fc,λG H σ ς Q S q=>?_⟩
 unfold eA at q
 rw[dR]at q
 refine q1 G H σ ς _ S (dS q λxs kk vs H1 G1 S1 a1 b1 r1=>⟨xs++dd,G1,S1.sub,r1.append (AS hs),?_⟩)
 cases z:m (xs++dd) with
 | stuck=>rw[z]at kk;exact kk.elim
 | exc y=>rw[z]at kk;exact absurd kk (hx y)
 | ok d=>
  rw[z]at kk
  intro v H' G' g1 h1 s1 n1 ret
  unfold gD at ret
  by_cases hc:(fr && !d.scal)=true
  ·rw[aA hc]at ret
   obtain⟨pp,rfl,h0,jE,ow⟩:=ret
   obtain⟨o,ho⟩:=ow.there
   have S2:=(S1.grow h1 g1 s1 n1).freeze ho jE (S1.h0none h0) (λi d' z1 z2=>by
    obtain⟨o',jA⟩:=S1.own_ne z1 z2
    rw[h0]at jA;cases jA)
   exact(kk) _ _ _ S2 (a1.trans h1) ((b1.trans g1).trans (Qv jE)) (ow.known jE ho)
  ·rw[aB hc]at ret
   exact(kk) v H' G' (S1.grow h1 g1 s1 n1) (a1.trans h1) (b1.trans g1) ret
theorem Ep(h:mX C.X.prog C.X.w C.X.K C.X.mg C.X.base C.CT x k true dd m)(hr:Room k C.X.A)(ha:DA C (e::es) A)(hg:Gl C.X x)(hs:dd.all D.scal=true:=by rfl)(hx:∀ x,¬ C.XD x:=by fail"V5")
 (ij:(x == ("__debug__":Str))=false:=by decide) (he:starEach (e::es) C.X.env=(false,eval e C.X.env)::starEach es C.X.env:=by rfl) (fc:(backTo pos (starEach es C.X.env)).any (·.1)=false:=by rfl):
 DF C (.Call (.Name x p) (e::es) [] pos) (λς=>AU (eA (λxs=>m (xs++dd)) A ς)):=by
 obtain⟨f,fd,ps,ds,F,hm,hk,hb,hd⟩:=h
 obtain⟨t,p1,q1⟩:=ha
 refine⟨_,A0 F hr hg hm hk hb hd kH p1 ij he fc,λG H σ ς Q S q=>?_⟩
 unfold AU eA at q
 rw[dR,dR]at q
 refine q1 G H σ ς _ S (dS q λxs kk vs H1 G1 S1 a1 b1 r1=>⟨xs++dd,G1,S1.sub,r1.append (AS hs),?_⟩)
 cases z:m (xs++dd) with
 | stuck=>rw[z]at kk;exact kk.elim
 | exc y=>rw[z]at kk;exact absurd kk (hx y)
 | ok d=>
  rw[z]at kk
  intro v H' G' g1 h1 s1 n1 ret
  rcases QA (kk) with⟨_,kk⟩ | ⟨hc,kk⟩
  ·exact kk.elim
  ·unfold gD at ret
   rw[aA (by cases hh:d.scal with | true=>exact absurd hh hc | false=>rfl)]at ret
   obtain⟨pp,rfl,h0,jE,ow⟩:=ret
   exact(kk) pp H' G' (S1.grow h1 g1 s1 n1) (a1.trans h1) (b1.trans g1) (a1.free h0) jE ow
abbrev gK(i:Int):Nat:=Builtin.Int.intBits i
theorem Jq:∀{xs:List PySem.W.WData}{x:PySem.W.WData},x∈xs->x.weight<=PySem.W.WData.weightAll xs
 | y::r,x,hx=>by
  rcases aL.mp hx with rfl | xA
  ·simp only[PySem.W.WData.weightAll];omega
  ·have:=Jq xA
   simp only[PySem.W.WData.weightAll];omega
theorem RK{ns:List Int}(h:PySem.W.WData.layableAll [PySem.W.WData.list (ns.map PySem.W.WData.int)]=true):∀ z∈ns,gK z<=1048576:=λz hz=>by
 have h1:(PySem.W.WData.list (ns.map PySem.W.WData.int)).layable=true:=by simpa [PySem.W.WData.layableAll] using h
 have h2:=aN (Bool.and_eq_true_iff.mp h1).2
 have h3:(PySem.W.WData.int z).weight<=PySem.W.WData.weightAll (ns.map PySem.W.WData.int):=Jq (ah.mpr ⟨z,hz,rfl⟩)
 have h4:(PySem.W.WData.int z).weight<=1048576:=by
  simp only[PySem.W.WData.weight]at h2
  omega
 simpa only[PySem.W.WData.weight,Builtin.Int.intBits] using h4
theorem walk_of{l:PySem.W.OpenLaw}{n k:Nat}{q:Program}{loose:List Str}{XP:(Str->Option Value)->Heap->Prop}{YP:World->Heap->Prop}{d:DefRec}{K:Params->PySem.W.Frag}{CX:World->lq}{sp:World->Sp}{x:Str}
 (hn:l.most=some n) (hn2:n<=sizeLine) (Er:d.params.defaults=[]) (hr:Room k callerA)
 (hY:∀(w:World)(h:Heap),YP w h->(K w.params).In h)
 (F:∀(w:World)(mg:Str->Option Value)(fa:Addr)(h:Heap),(K w.params).In h->h.Ns mainGlobals mg->mg d.name=some (.ref fa)->
  ∃ fd:FuncData,(∀(s:Shared)(u:Value),BindsTo s fd ⟨[u],[]⟩ [(x,u)])/\
   ∀ base:Heap,(K w.params).In base->base.Ns mainGlobals mg->FnOk l.prog w (K w.params) mg base (CX w) k fa fd [x] (sp w))
 (jC:∀(w:World)(H:Hp)(a:Addr)(ns:List Int),ns.length<=n->(∀ z∈ns,gK z<=1048576)->t8 H->SqL (K w.params) H a (ns.map V.int)->sp w [.ref a] H (λv _=>v=.bl true) λ_ _ _=>False)
 (Dz:∀(w:World)(H:Hp)(s:Shared)(e:Value)(s':Shared),CX w [] H s (λ_ _ _=>False) e s'->False):
 PySem.W.WalkO q loose XP YP l.row.toRowW d [] (λf vs=>PySem.call f vs):=by
 intro w s₀ s₁ mg mb G Y fa o pm cd doc dV kV ho hd gR hD hmg hg args vals as qA Es hrd Dx hlo
 obtain rfl:=PySem.W.Dflts.none hD Er
 obtain rfl:=PySem.W.Dflts.noKw hD
 obtain⟨a,vs,ns,rfl,rfl,hobj,hints,hlen⟩:=Att.script_of hn qA Dx
 have KX:=hY w _ Y
 obtain⟨fd,hb,hF⟩:=F w mg fa _ KX G.T.g hmg
 refine PySem.W.enter_call (cU (OX KX G.T.g G.T.b G.T.builtins G.T.nolimit hg hobj hints (b0 hlen hn2) hr hF hb (λH hO hS=>jC w H a ns hlen (RK Es) hO hS) λH e s'=>Dz w H s₁ e s') λr s' hq=>?_)
 obtain⟨rfl,h2,h3,h4⟩:=hq
 exact⟨.inl ⟨.bool true,.bool true,[],rfl,λ_=>rfl,.bool true,Att.post_true l _,λ_=>⟨List.Pairwise.nil,λ_ hm=>(nomatch hm)⟩⟩,h2,h3,h4⟩
def xg(K:PySem.W.Frag):R2:=λx y H Q=>∃ l b xs zs,x=.ref l/\y=.ref b/\SqL K H l xs/\SqL K H b zs/\xs.length+zs.length<=sizeLine/\∀ p,H p=none->Q (.ref p) (eT H p (.lst (xs++zs)))
theorem RL:OpR X (binaryOp .Add) (xg X.K):=by
 intro pins s σ H x y v u Q I rx ry h
 obtain⟨l,b,xs,zs,rfl,rfl,hH,hB,hz,q⟩:=h
 cases rx
 cases ry
 obtain⟨its,r,pl,hz1⟩:=I.list hH
 obtain⟨its2,r2,pl2,tQ⟩:=I.list hB
 obtain⟨⟨cls,dd,data,sl⟩,n,ho,hc,hdd,hd⟩:=pl
 obtain⟨⟨RM,dd2,data2,pF⟩,n2,ho2,xh,hdd2,hd2⟩:=pl2
 simp only at hc hd xh hd2
 subst hc hd xh hd2
 have e:its.toArray++its2.toArray=(its++its2).toArray:=by simp
 have h1:=r.length
 have h2:=r2.length
 refine concat_meets ⟨_,ho,rfl⟩ ⟨_,ho2,rfl⟩ noFill_list_add seq_list_add PySem.F.slot_list_add PySem.F.entry_list_add (PySem.F.args_list_add_2 _ _) (list_addW l b its.toArray its2.toArray n n2 dd dd2 sl pF (by rw[aT,aT];omega)) ⟨ho,ho2,?_⟩
 rw[e]
 exact⟨.ref _,_,I.lnew (r.append r2) (by rw[aV];omega),rfl,q _ I.fresh⟩
def kA:D->D->Out D
 | .lst xs,.lst ys=>if i0 (xs.length+ys.length)=true then .ok (.lst (xs++ys)) else .stuck
 | _,_=>.stuck
def oG:D->D->Out D
 | .lst xs,.int k=>if (decide (-(2 ^ 63)<=k)&&decide (k<2 ^ 63)&&i0 (xs.length * k.toNat))=true then .ok (.lst (List.replicate k.toNat xs).flatten) else .stuck
 | _,_=>.stuck
theorem tR(ha:DE C a A)(hb:DE C b B):DF C (.BinOp a .Add b pos) (e2 kA A B):=by
 obtain⟨ta,p1,q1⟩:=ha
 obtain⟨tb,p2,q2⟩:=hb
 refine⟨_,nk RL p1 p2,λG H σ ς Q S q=>?_⟩
 unfold e2 at q
 rw[dR]at q
 refine q1 G H σ ς _ S (dS q λx k v1 H1 G1 S1 a1 b1 r1=>?_)
 rw[dR]at k
 refine q2 G1 H1 σ ς _ S1 (dS k λy k2 v2 H2 G2 S2 a2 b2 r2=>?_)
 have xM:=dD b2 x v1 r1
 cases x with
 | lst xs=>
  cases y with
  | lst ys=>
   obtain⟨p,vs,rfl,h2,h3⟩:=xM
   obtain⟨p',rO,rfl,o3,h3'⟩:=r2
   rcases QA (k2) with⟨hc,k3⟩ | ⟨_,k3⟩
   ·exact⟨p,p',vs,rO,rfl,rfl,S2.sub.seq h2,S2.sub.seq o3,by rw[← h3.length, ← h3'.length];exact aN hc,
     KF.lst (dM (k3) (a1.trans a2) (b1.trans b2)) S2 (h3.append h3')⟩
   ·exact k3.elim
  | _=>exact k2.elim
 | _=>cases y<;>exact k2.elim
theorem Jr(ha:DF C a A)(hb:DB C b B):DF C (.BinOp a .Mult b pos) (e2 oG A B):=by
 obtain⟨ta,p1,q1⟩:=ha
 obtain⟨tb,p2,q2⟩:=hb
 refine⟨_,nk OU p1 p2,λG H σ ς Q S q=>?_⟩
 unfold e2 at q
 rw[dR]at q
 refine q1 G H σ ς _ S (dS q λx k p H1 G1 S1 a1 b1 hp hg ow=>?_)
 rw[dR]at k
 refine q2 G1 H1 σ ς _ S1 (dS k λy k2 v2 H2 G2 S2 a2 b2 r2=>?_)
 cases x with
 | lst xs=>
  cases y with
  | int i=>
   cases r2
   obtain⟨vs,h2,h3⟩:=ow
   rcases QA (k2) with⟨hc,k3⟩ | ⟨_,k3⟩
   ·rw[aO,aO]at hc
    have h3':=dE b2 xs vs h3
    exact⟨p,i,vs,rfl,rfl,a2 _ _ h2,aN hc.1.1,aN hc.1.2,by rw[← h3'.length];exact aN hc.2,
     KF.lst (dM (k3) (a1.trans a2) (b1.trans b2)) S2 (h3'.rep i.toNat)⟩
   ·exact k3.elim
  | _=>exact k2.elim
 | _=>cases y<;>exact k2.elim
noncomputable def fi:D->Out D
 | .lst xs=>.ok (.lst xs)
 | .tup xs=>.ok (.lst xs)
 | _=>.stuck
theorem pM(hg:Gl C.X "list")(hm:C.X.mg "list"=none)(ha:DE C a A)
 (he:starEach (a::[]) C.X.env=(false,eval a C.X.env)::starEach [] C.X.env:=by rfl):DF C (.Call (.Name "list" p) [a] [] pos) (e1 fi A):=by
 obtain⟨ta,p1,q1⟩:=ha
 refine⟨_,J7 OM hg hm PyProof.Rows.Boot.«list» (l5 p1 n9 he) (by decide) (by decide) he rfl,λG H σ ς Q S q=>?_⟩
 unfold e1 at q
 rw[dR]at q
 refine q1 G H σ ς _ S (dS q λx k v1 H1 G1 S1 a1 b1 r1=>?_)
 cases x with
 | lst xs=>
  obtain⟨p,vs,rfl,h2,h3⟩:=r1
  exact⟨p,vs,rfl,.inl (S1.sub.seq h2),KF.lst (dM (k) a1 b1) S1 h3⟩
 | tup xs=>
  obtain⟨p,vs,rfl,h2,h3⟩:=r1
  exact⟨p,vs,rfl,.inr (Same.sqT S1.sub h2),KF.lst (dM (k) a1 b1) S1 h3⟩
 | _=>exact k.elim
noncomputable def xi:List D->Out D
 | [.int i,.int j]=>.ok (.int (if j<i then j else i))
 | _=>.stuck
noncomputable def lE:List D->Out D
 | [.int i,.int j]=>.ok (.int (if j > i then j else i))
 | _=>.stuck
theorem Js(xs:List D):(∃ i j,xs=[D.int i,D.int j])∨(xi xs=.stuck/\lE xs=.stuck):=by
 match xs with
 | []=>exact .inr ⟨rfl,rfl⟩
 | [x]=>cases x<;>exact .inr ⟨rfl,rfl⟩
 | [x,y]=>
  cases x with
  | int i=>
   cases y with
   | int j=>exact .inl ⟨i,j,rfl⟩
   | _=>exact .inr ⟨rfl,rfl⟩
  | _=>exact .inr ⟨rfl,rfl⟩
 | x::y::z::r=>
  cases x with
  | int i=>cases y<;>exact .inr ⟨rfl,rfl⟩
  | _=>exact .inr ⟨rfl,rfl⟩
theorem Jt(hc:C.X.calm=true)(hg:Gl C.X "max")(hm:C.X.mg "max"=none)(ha:nS C (e::es) A)
 (he:starEach (e::es) C.X.env=(false,eval e C.X.env)::starEach es C.X.env:=by rfl) (fc:(backTo pos (starEach es C.X.env)).any (·.1)=false:=by rfl):DE C (.Call (.Name "max" p) (e::es) [] pos) (eA lE A):=by
 refine xO (Nl hc) ?_ ?_ hg hm PyProof.Rows.Boot.«max» ha (by decide) (by decide) he fc
 ·intro G H σ ς Q xs vs S r q
  rcases Js xs with⟨i,j,rfl⟩ | ⟨_,h⟩
  ·obtain⟨_,_,rfl,rfl,_,_,rfl,rfl,rfl⟩:=r
   exact⟨i,j,rfl,q.2⟩
  ·rw[h]at q;exact q.elim
 ·intro xs
  rcases Js xs with⟨i,j,rfl⟩ | ⟨_,h⟩
  ·exact rfl
  ·rw[h];exact True.intro
noncomputable def qK:D->Out D
 | .int i=>.ok (.int i)
 | .bl b=>.ok (.int (if b then 1 else 0))
 | _=>.stuck
theorem Ju(hg:Gl C.X "int")(hm:C.X.mg "int"=none)(ha:nS C (e::es) A)
 (he:starEach (e::es) C.X.env=(false,eval e C.X.env)::starEach es C.X.env:=by rfl) (fc:(backTo pos (starEach es C.X.env)).any (·.1)=false:=by rfl):DE C (.Call (.Name "int" p) (e::es) [] pos) (eA (f1 qK) A):=by
 refine R4 Nm (AM ?_) (AL ?_) hg hm PyProof.Rows.Boot.«int» ha (by decide) (by decide) he fc
 ·intro G H σ ς Q x v S r q
  cases x with
  | int i=>cases r;exact .inl ⟨i,rfl,q.2⟩
  | bl b=>cases r;exact .inr ⟨b,rfl,q.2⟩
  | _=>exact q.elim
 ·intro x
  cases x<;>first | exact rfl | exact True.intro
def fk(T:String):D->Out Bool
 | .ins _ _=>.stuck
 | .err _ _=>.stuck
 | .bl _=>.ok (T == "bool"||T == "int")
 | d=>.ok (nC d == T)
structure tS(K:PySem.W.Frag)(T:String):Prop where
 h:∀ d:D,(match d with | .ins _ _=>True | .err _ _=>True | .bl _=>PySem.W.kitOne K (.type "bool") (.type T)=some (T == "bool"||T == "int") | d=>PySem.W.kitOne K (.type (nC d)) (.type T)=some (nC d == T))
theorem pN(T:Str)(k:tS C.X.K T')(RN:Gl C.X T)(RO:C.X.mg T=none)(hb:bootBuiltins T=some (.type T'))(hg:Gl C.X "isinstance")(hm:C.X.mg "isinstance"=none)(h:DB C e E)
 (hn:T≠"__name__":=by decide) (ij:(T == ("__debug__":Str))=false:=by decide)
 (he:starEach (e::[.Name T pc]) C.X.env=(false,eval e C.X.env)::starEach [.Name T pc] C.X.env:=by rfl) (xX:starEach (.Name T pc::[]) C.X.env=(false,eval (.Name T pc) C.X.env)::starEach [] C.X.env:=by rfl)
 (fc:(backTo pos (starEach [.Name T pc] C.X.env)).any (·.1)=false:=by rfl):DE C (.Call (.Name "isinstance" p) [e,.Name T pc] [] pos) (gS (fk T') E):=by
 refine RE (vc:=.ty T') (N1 RN RO hb rfl hn ij) rfl (λd=>?_) hg hm h he xX fc
 have:=k.h d
 cases d<;>first | exact True.intro | exact this
theorem xj{K:PySem.W.Frag}(h1:PySem.W.kitOne K (.type "NoneType") (.type T)=some ("NoneType" == T))(h2:PySem.W.kitOne K (.type "bool") (.type T)=some (T == "bool"||T == "int"))
 (h3:PySem.W.kitOne K (.type "int") (.type T)=some ("int" == T)) (h4:PySem.W.kitOne K (.type "str") (.type T)=some ("str" == T)) (h5:PySem.W.kitOne K (.type "list") (.type T)=some ("list" == T))
 (h6:PySem.W.kitOne K (.type "tuple") (.type T)=some ("tuple" == T)) (h7:PySem.W.kitOne K (.type "dict") (.type T)=some ("dict" == T)):tS K T:=⟨λd=>by
 cases d with
 | non=>exact h1
 | bl _=>exact h2
 | int _=>exact h3
 | str _=>exact h4
 | lst _=>exact h5
 | tup _=>exact h6
 | dic _=>exact h7
 | ins _ _=>exact True.intro
 | err _=>exact True.intro⟩
theorem RP{K:PySem.W.Frag}:tS K "int":=xj (by rfl) (by rfl) (by rfl) (by rfl) (by rfl) (by rfl) (by rfl)
theorem RQ{K:PySem.W.Frag}:tS K "bool":=xj (by rfl) (by rfl) (by rfl) (by rfl) (by rfl) (by rfl) (by rfl)
theorem Jv{K:PySem.W.Frag}:tS K "str":=xj (by rfl) (by rfl) (by rfl) (by rfl) (by rfl) (by rfl) (by rfl)
theorem AV{K:PySem.W.Frag}:tS K "list":=xj (by rfl) (by rfl) (by rfl) (by rfl) (by rfl) (by rfl) (by rfl)
theorem Jw{K:PySem.W.Frag}:tS K "tuple":=xj (by rfl) (by rfl) (by rfl) (by rfl) (by rfl) (by rfl) (by rfl)
def nE(i:Nat)(E:SD->Out D):SD->Out Fl:=λς=>match ς[i]? with
 | some (some (.o,.lst xs))=>E ς>>=λd=>if decide (xs.length<sizeLine)=true then .ok (.nx (ς.set i (some (.o,.lst (xs++[d]))))) else .stuck
 | _=>.stuck
def lF(i:Nat)(I E:SD->Out D):SD->Out Fl:=λς=>E ς>>=λd=>match ς[i]? with
 | some (some (.o,.lst xs))=>I ς>>=λk=>match k with
  | .int k=>gq (kW xs.length k)>>=λj=>.ok (.nx (ς.set i (some (.o,.lst (xs.set j d)))))
  | _=>.stuck
 | _=>.stuck
theorem ug{xs:List α}(h:xs[i]?=some x):xs.set i x=xs:=by
 obtain⟨hi,e⟩:=aW.mp h
 rw[← e];exact List.set_getElem_self hi
theorem StR.write(S:StR C G H σ ς){p:Addr}(hi:ς[i]?=some (some (.o,.lst xs)))(hp:σ[i]?=some (some (.ref p)))(hH:H p=some (.lst vs))(r:RepL C.X.K C.CT G ys ws):
 StR C G (eT H p (.lst ws)) σ (ς.set i (some (.o,.lst ys))):=by
 obtain⟨p',e1,hg,h0,ow⟩:=S.ow i _ hi
 rw[hp]at e1;cases e1
 have ne:∀ b o,G b=some o->b≠p:=λb o e z=>by subst z;rw[hg]at e;cases e
 have S':StR C G (eT H p (.lst ws)) (σ.set i (some (.ref p))) (ς.set i (some (.o,.lst ys))):={
  sub:=λb o e=>by rw[Qk (ne b o e)];exact S.sub b o e
  g0:=S.g0
  new:=S.new
  fr:=λb o e m=>by
   rw[Qk (by rintro rfl;rw[h0]at e;cases e)];exact S.fr b o e m
  dom:=λb e=>by
   by_cases hb:b=p
   ·subst hb;exact h0
   ·rw[Qk hb]at e;exact S.dom b e
  bs:=λb o e=>by
   rw[Qk (by rintro rfl;rw[S.bh _ h0]at e;cases e)];exact S.bs b o e
  bh:=S.bh
  len:=by rw[aw,aw];exact S.len
  fz:=λj d h=>by
   rcases QD h with⟨rfl,h2,l⟩ | ⟨fT,h2⟩
   ·cases h2
   ·rw[Qs fT];exact S.fz j d h2
  ow:=λj d h=>by
   rcases QD h with⟨rfl,h2,l⟩ | ⟨fT,h2⟩
   ·cases h2
    exact⟨p,rM (by rw[S.len];exact l),hg,h0,⟨ws,QC,r⟩⟩
   ·rw[Qs fT]
    obtain⟨q,a,b,c,w⟩:=S.ow j d h2
    have qp:q≠p:=by
     rintro rfl
     exact S.inj i j _ _ q fT hi h2 hp a
    exact⟨q,a,b,c,w.mono (dC G) λo z=>by rw[Qk qp];exact z⟩
  ln:=λj d h=>by
   rcases QD h with⟨rfl,h2,l⟩ | ⟨fT,h2⟩
   ·cases h2
   ·rw[Qs fT];exact S.ln j d h2
  inj:=λj k d1 d2 q kJ h1 h2 h3=>by
   have get:∀(j:Nat) d,(ς.set i (some (.o,D.lst ys)))[j]?=some (some (.o,d))->∃ d',ς[j]?=some (some (.o,d')):=λj d h=>by
    rcases QD h with⟨rfl,h2,l⟩ | ⟨fT,h2⟩
    ·exact⟨_,hi⟩
    ·exact⟨_,h2⟩
   obtain⟨xl,g1⟩:=get j d1 h1
   obtain⟨xm,g2⟩:=get k d2 h2
   rw[ug hp]at h3 ⊢
   exact S.inj j k xl xm q kJ g1 g2 h3
  sf:=λj d h=>by
   rcases QD h with⟨rfl,h2,l⟩ | ⟨fT,h2⟩
   ·cases h2
   ·rw[Qs fT]
    obtain⟨q,a,b,c,m,z,w⟩:=S.sf j d h2
    have qp:q≠p:=by
     rintro rfl
     exact c h0
    exact⟨q,a,b,c,m,z,w.mono (dC G) λo z=>by rw[Qk qp];exact z⟩
  su:=λj k d1 d2 q kJ h1 h2 h3=>by
   rcases QD h1 with⟨rfl,q1,l⟩ | ⟨n1,q1⟩
   ·cases q1
   ·rcases QD h2 with⟨rfl,q2,l⟩ | ⟨n2,q2⟩
    ·cases q2
    ·rw[Qs n1]at h3
     rw[Qs n2];exact S.su j k d1 d2 q kJ q1 q2 h3 }
 rw[ug hp]at S'
 exact S'
theorem rP(i:Nat)(he:DE C e E)(hN:C.X.N[i]?=some x:=by rfl)(hv:ll C.X.env.scope x:=by fail"V1")
 (hd:(x == ("__debug__":Str))=false:=by decide) (gR:(x == ("__classdict__":Str))=false:=by decide)
 (ik:attributeBase (.Name x p1) "append" C.X.env (eval (.Name x p1) C.X.env)=eval (.Name x p1) C.X.env:=by rfl)
 (l6:((backTo p3 (starEach (e::[]) C.X.env)).all (λx => !x.1)&&(backToKw p3 (keywordEach [] C.X.env)).all (λx=>x.1.isSome)
  && decide ((e::[]).length+([]:List Keyword).length+(if ([]:List Keyword).isEmpty then 0 else 1)<30))=true:=by rfl)
 (jg:(p2.endLine == p3.line)=true:=by rfl) (hs:starEach (e::[]) C.X.env=(false,eval e C.X.env)::starEach [] C.X.env:=by rfl)
 (lz:swapsWith (.Call (.Attribute (.Name x p1) "append" p2) [e] [] p3) none pos.line C.X.env=pure false:=by rfl):
 DS C (.Expr (.Call (.Attribute (.Name x p1) "append" p2) [e] [] p3) pos) (nE i E):=by
 obtain⟨t,p,q⟩:=he
 refine⟨_,zq (qx PySem.F.plainAttrs_list PySem.F.slot_list_append PySem.F.type_list_append JI (n8 hN hv hd gR) (l5 p n9 hs) ik l6 jg hs rfl) lz,λG H σ ς W S k=>?_⟩
 unfold nE at k
 split at k
 ·rename_i xs z
  obtain⟨pp,e1,hg,h0,ow⟩:=S.ow i _ z
  obtain⟨vs,hv1,hv2⟩:=ow
  rw[dR]at k
  refine⟨_,e1,.inl ⟨rfl,vs,SqL.of hv1⟩,q G H σ ς _ S (dS k λd k2 v H1 G1 S1 a1 b1 r1=>?_)⟩
  rcases QA k2 with⟨hc,k3⟩ | ⟨_,k3⟩
  ·have hl:=hv2.length
   refine⟨pp,vs,v,rfl,rfl,a1 _ _ hv1,by rw[← hl];exact aN hc,?_⟩
   exact k3 σ _ G1 (S1.write z e1 (a1 _ _ hv1) ((dE b1 xs vs hv2).append (RepL.one r1))) b1
  ·exact k3.elim
 ·exact k.elim
theorem RS(i:Nat)(hi:DB C a A)(he:DE C e E)(hN:C.X.N[i]?=some x:=by rfl)(hv:ll C.X.env.scope x:=by fail"V1")
 (hd:(x == ("__debug__":Str))=false:=by decide) (gR:(x == ("__classdict__":Str))=false:=by decide)
 (gH:∀ v,assign (.Subscript (.Name x p1) a p2) C.X.env v=(do
  let ov ← holding [v] (eval (.Name x p1) C.X.env)
  let iv ← holding [v,ov] (eval a C.X.env)
  standAt p2
  holding [v,ov,iv] (setItem ov iv v)
  release [v,ov,iv] []):=by fail"V3")
 (hs:swapsWithSole [.Subscript (.Name x p1) a p2] e pos.line C.X.env=pure false:=by rfl) (hw:swappedStores [.Subscript (.Name x p1) a p2] e C.X.env=pure none:=by rfl)
 (h1:(assignEach [.Subscript (.Name x p1) a p2] C.X.env).map (·.2)=[assign (.Subscript (.Name x p1) a p2) C.X.env]:=by rfl):DS C (.Assign [.Subscript (.Name x p1) a p2] e pos) (lF i A E):=by
 obtain⟨t,p,q⟩:=he
 obtain⟨t2,p2,q2⟩:=hi
 refine⟨_,DY p (Ip (n8 hN hv hd gR) p2 JC gH) hs hw h1,λG H σ ς W S k=>?_⟩
 unfold lF at k
 rw[dR]at k
 refine q G H σ ς _ S (dS k λd k v H1 G1 S1 a1 b1 r1=>?_)
 split at k
 ·rename_i xs z
  obtain⟨pp,e1,hg,h0,ow⟩:=S1.ow i _ z
  obtain⟨vs,hv1,hv2⟩:=ow
  rw[dR]at k
  refine⟨_,e1,q2 G1 H1 σ ς _ S1 (dS k λy k2 w H2 G2 S2 a2 b2 r2=>?_)⟩
  cases y with
  | int j=>
   cases r2
   have rH:=k2
   rw[dR]at rH
   obtain⟨jj,ej,k3⟩:=oE rH
   refine⟨pp,vs,j,jj,rfl,rfl,a2 _ _ hv1,by rw[← hv2.length];exact ej,?_⟩
   exact k3 σ _ G2 (S2.write z e1 (a2 _ _ hv1) ((dE b2 xs vs hv2).set (dD b2 d v r1) jj)) (b1.trans b2)
  | _=>exact k2.elim
 ·exact k.elim
structure DIt(K:PySem.W.Frag)(CT:eU)(G1:Hp)(J:It)(ds:List D):Prop where
 go:∀ G H (i:Nat) d,Same G1 G->Same G H->ds[i]?=some d->J.go i H/\∀ x H',J.yld i H x H'->∃ G',Same G G'/\Same H H'/\Same G' H'/\(∀ b,G b=none->G' b≠none->H b=none)/\Rep K CT G' d x
 stop:∀ G H,Same G1 G->Same G H->J.stop ds.length H
structure oH(K:PySem.W.Frag)(CT:eU)(B1 G1:Hp)(J:It)(ds:List D):Prop where
 go:∀ G H (i:Nat) d,Same G1 G->Same G H->Same B1 H->ds[i]?=some d->J.go i H/\∀ x H',J.yld i H x H'->∃ G',Same G G'/\Same H H'/\Same G' H'/\(∀ b,G b=none->G' b≠none->H b=none)/\Rep K CT G' d x
 stop:∀ G H,Same G1 G->Same G H->Same B1 H->J.stop ds.length H
theorem DIt.b{K:PySem.W.Frag}{CT:eU}{B1 G1:Hp}{J:It}{ds:List D}(h:DIt K CT G1 J ds):oH K CT B1 G1 J ds:=⟨λG H i d a b _ e=>h.go G H i d a b e,λG H a b _=>h.stop G H a b⟩
def xn(C:Dc)(tg iter:Expr)(its:SD->Out (List D)):Prop:=∃ wi,PI C.X tg iter wi/\∀ G H σ ς (R:It->Hp->Prop),StR C G H σ ς->
 (its ς).post (λds=>∀ J H1 G1,StR C G1 H1 σ ς->Same H H1->Same G G1->oH C.X.K C.CT H1 G1 J ds->R J H1) C.XD->wi σ H R
def DI(C:Dc)(tg iter:Expr)(its:SD->Out (List D)):Prop:=∃ wi,PI C.X tg iter wi/\∀ G H σ ς (R:It->Hp->Prop),StR C G H σ ς->
 (its ς).post (λds=>∀ J H1 G1,StR C G1 H1 σ ς->Same H H1->Same G G1->DIt C.X.K C.CT G1 J ds->R J H1) C.XD->wi σ H R
theorem DI.b(h:DI C tg iter its):xn C tg iter its:=by
 obtain⟨wi,p,q⟩:=h
 exact⟨wi,p,λG H σ ς R S k=>q G H σ ς R S (dS k λds kd J H1 G1 S1 a b dit=>kd J H1 G1 S1 a b dit.b)⟩
abbrev dO:=@DI.b
theorem RT{K:PySem.W.Frag}(h:SqL K G1 a vs)(r:RepL K CT G1 ds vs):DIt K CT G1 (zv K a) ds where
 go:=λG H i d s1 sH hd=>by
  obtain⟨v,hv,rv⟩:=r.get hd
  have hq:=sH.seq (s1.seq h)
  refine⟨⟨vs,v,hq,hv⟩,λx H' ⟨e,y⟩=>?_⟩
  have ex:=y vs hq
  rw[hv]at ex;cases ex
  subst e
  exact⟨G,dC _,dC _,sH,λb g n=>absurd g n,dD s1 d v rv⟩
 stop:=λG H s1 sH=>⟨vs,sH.seq (s1.seq h),by rw[r.length];exact aJ _⟩
theorem RU{K:PySem.W.Frag}{lo:Int}:DIt K CT G1 (zw lo n) (k9 lo n) where
 go:=λG H i d s1 sH hd=>by
  have hi:i<n:=by
   have:=(aW.mp hd).1
   rw[Jp]at this;exact this
  rw[RH hi]at hd;cases hd
  exact⟨hi,λx H' ⟨e,y⟩=>by
   subst e y
   exact⟨G,dC _,dC _,sH,λb g n=>absurd g n,rfl⟩⟩
 stop:=λG H s1 sH=>by rw[Jp];exact aJ _
theorem QP(h:DE C iter E):DI C tg iter (fJ E):=by
 obtain⟨t,p,q⟩:=h
 refine⟨_,Ir p,λG H σ ς R S k=>?_⟩
 unfold fJ at k
 rw[dR]at k
 refine q G H σ ς _ S (dS k λd k v H1 G1 S1 a1 b1 r1=>?_)
 cases d with
 | lst xs=>
  obtain⟨a,vs,rfl,h2,h3⟩:=r1
  exact⟨a,rfl,⟨vs,S1.sub.seq h2⟩,k _ H1 G1 S1 a1 b1 (RT h2 h3)⟩
 | _=>exact k.elim
theorem QL(xo:Gl C.X "range")(hm:C.X.mg "range"=none)(ha:DB C a A)
 (gH:starEach [a] C.X.env=(false,eval a C.X.env)::starEach [] C.X.env:=by rfl):DI C tg (.Call (.Name "range" p1) [a] [] p2) (eR A):=by
 obtain⟨t,p,q⟩:=ha
 refine⟨_,NS xo hm (l5 p n9 gH) gH,λG H σ ς R S k=>?_⟩
 unfold eR at k
 rw[dR]at k
 refine q G H σ ς _ S (dS k λd k v H1 G1 S1 a1 b1 r=>?_)
 cases d with
 | int n=>
  cases r
  rcases QA k with⟨hc,k⟩ | ⟨_,k⟩
  ·obtain⟨c1,c2⟩:=RI hc
   exact⟨n,rfl,c1,c2,k _ H1 G1 S1 a1 b1 RU⟩
  ·exact k.elim
 | _=>exact k.elim
theorem mY(hp:PassesOwn (model C.X.prog C.X.w) C.X.A C.X.env C.X.xe)(hc:C.X.calm=true)(hi:DI C tg iter its)(hg:DG C tg g)(fT:iu g)(hb:lY C body T)
 (hs:∀ x,foldedSetIterable iter C.X.env x=pure x:=by fail"V3"):DS C (.For tg iter body [] pos) (gu g its T):=by
 obtain⟨t0,p0,q0⟩:=hi
 obtain⟨t1,p1,q1⟩:=hg
 obtain⟨t2,p2,q2⟩:=hb
 refine⟨_,NU hp hc p0 p1 p2 hs,λG H σ ς W S k=>?_⟩
 unfold gu at k
 rw[dR]at k
 refine q0 G H σ ς _ S (dS k λxs k J H1 G1 S1 a1 b1 dit=>?_)
 refine⟨λi m σ' H'=>m=xs.length - i/\i<=xs.length/\∃ G' ς',StR C G' H' σ' ς'/\Same G1 G'/\(fM (λx ς=>g x ς>>=λς'=>T ς') (xs.drop i) ς').post (FlK C G' W) C.XD,
  ⟨xs.length,by simp,bV _,G1,ς,S1,dC _,dS (by simpa using k) λf k=>dN k b1⟩,?_⟩
 rintro i m σ' H' ⟨rfl,hle,G',ς',S',s',q'⟩
 by_cases ly:i<xs.length
 ·have hd:xs[i]?=some xs[i]:=by simp[ly]
  obtain⟨Et,hy⟩:=dit.go G' H' i _ s' S'.sub hd
  refine .inr ⟨Et,λσ2 H2=>∃ G2 ς2,StR C G2 H2 σ2 ς2/\Same G1 G2/\(fM (λx ς=>g x ς>>=λς'=>T ς') (xs.drop (i+1)) ς2).post (FlK C G2 W) C.XD,
   λσ2 H2 h2=>⟨xs.length - (i+1),by lia,rfl,ly,h2⟩,λx o8 y=>?_⟩
  obtain⟨Eu,g1,h1,s1,n1,r⟩:=hy x o8 y
  rw[Jo hd]at q'
  exact xb fT q1 q2 (S'.grow h1 g1 s1 n1) r (dS q' λf k=>dN k g1) λσ2 H2 G2 ς2 S2 s2 q2=>⟨G2,ς2,S2,(s'.trans g1).trans s2,q2⟩
 ·have e:i=xs.length:=by lia
  subst e
  rw[dA]at q'
  exact .inl ⟨dit.stop G' H' s' S'.sub,q' σ' H' G' S' (dC _)⟩
def ft(f:D->Out (Option D)):List D->Out (List D)
 | []=>.ok []
 | x::xs=>f x>>=λo=>ft f xs>>=λys=>.ok (o.toList++ys)
noncomputable def kL(ς:SD)(j:Nat):Option (SM×D):=match ς[j]? with
 | some (some (.k,d))=>some (.k,d)
 | some (some (_,d))=>some (.l,d)
 | _=>none
def fC(js:List (Option Nat))(ς:SD):SD:=js.map λj=>j.bind (kL ς)
def fE(js:List (Option Nat))(g:D->SD->Out SD)(c:SD->Out Bool)(e:SD->Out D)(ς:SD)(x:D):Out (Option D):=
 g x (fC js ς)>>=λτ=>c τ>>=λb=>if b=true then e τ>>=λy=>.ok (some y) else .ok none
def dc(js:List (Option Nat))(its:SD->Out (List D))(g:D->SD->Out SD)(c:SD->Out Bool)(e:SD->Out D):SD->Out D:=λς=>
 its ς>>=λxs=>ft (fE js g c e ς) xs>>=λys=>if i0 ys.length=true then .ok (.lst ys) else .stuck
def tT(C:Dc)(ifs:List Expr)(T:SD->Out Bool):Prop:=∃ t,PIf C.X ifs t/\∀ G H σ ς Q,StR C G H σ ς->(T ς).post (KT C G H σ ς Q) C.XD->t σ H Q
noncomputable def da:SD->Out Bool:=λ_=>.ok true
theorem Qw:tT C [] da:=⟨_,Pd,λG H σ ς Q S q=>KT.now q S⟩
theorem RV(h:DT C c T):tT C [c] T:=let ⟨t,p,q⟩:=h;⟨t,Pe p,q⟩
def jl(g:D->SD->Out SD)(τ0:SD):Prop:=∀ x τ,g x τ0=.ok τ->τ.length=τ0.length/\∀(i:Nat) md,τ0[i]?=some (some md)->τ[i]?=some (some md)
theorem Qt(h:τ0[i]?=some none):jl (gN i) τ0:=by
 intro x τ e
 cases e
 refine⟨aw ..,λj md hj=>?_⟩
 rw[Qs (by rintro rfl;rw[h]at hj;cases hj)];exact hj
theorem RW:∀(is:List Nat)(ds:List D)(τ0 τ:SD),(∀ i∈is,∀ md,τ0[i]?=some (some md)->False)->Q8 is ds τ0=.ok τ->τ.length=τ0.length/\∀(i:Nat) md,τ0[i]?=some (some md)->τ[i]?=some (some md)
 | [],[],τ0,τ,_,e=>by cases e;exact⟨rfl,λ_ _ h=>h⟩
 | i::is,d::ds,τ0,τ,h,e=>by
  have e':=e
  have go:∀ is ds τ1 τ,τ1.length=τ0.length->(∀ i∈is,∀ md,τ0[i]?=some (some md)->False)->(∀(i:Nat) md,τ0[i]?=some (some md)->τ1[i]?=some (some md))->Q8 is ds τ1=.ok τ->
   τ.length=τ0.length/\∀(i:Nat) md,τ0[i]?=some (some md)->τ[i]?=some (some md):=by
   intro is
   induction is with
   | nil=>intro ds τ1 τ hl _ hk e;cases ds with
    | nil=>cases e;exact⟨hl,hk⟩
    | cons _ _=>cases e
   | cons i is ih=>intro ds τ1 τ hl hn hk e;cases ds with
    | nil=>cases e
    | cons d ds=>
     refine ih ds _ τ (by rw[aw];exact hl) (λj hj=>hn j (aG _ hj)) (λj md hj=>?_) e
     rw[Qs (by rintro rfl;exact hn _ aR md hj)];exact hk j md hj
  refine go is ds _ τ (aw ..) (λj hj=>h j (aG _ hj)) (λj md hj=>?_) e'
  rw[Qs (by rintro rfl;exact h _ aR md hj)];exact hj
 | [],_::_,_,_,_,e=>by cases e
 | _::_,[],_,_,_,e=>by cases e
theorem Jx(h:∀ i∈is,τ0[i]?=some none):jl (gT is) τ0:=by
 intro x τ e
 cases x with
 | tup ds=>exact RW is ds τ0 τ (λi hi md z=>by rw[h i hi]at z;cases z) e
 | _=>cases e
theorem Qm{i:Nat}(h:js[i]?=some none)(ς:SD):(fC js ς)[i]?=some none:=by
 unfold fC
 rw[aH,h];rfl
theorem StR.weak(S:StR C G H σ ς')(hl:ς'.length=ς.length)(h:∀(i:Nat) md,ς[i]?=some (some md)->ς'[i]?=some (some md)):StR C G H σ ς:=
 { S with len:=by rw[S.len,hl],fz:=λi d e=>S.fz i d (h i _ e),ow:=λi d e=>S.ow i d (h i _ e),ln:=λi d e=>S.ln i d (h i _ e),inj:=λi j d e p n h1 h2=>S.inj i j d e p n (h i _ h1) (h j _ h2),sf:=λi d e=>S.sf i d (h i _ e),su:=λi j d e p n h1 h2=>S.su i j d e p n (h i _ h1) (h j _ h2) }
theorem StR.updM(S:StR C G H σ ς)(hM:C.M p)(h0:C.H0 p≠none)(RX:∀(i:Nat) d,ς[i]?≠some (some (.s,d)))(hB:C.B p=none)(hg:G p=none):StR C G (eT H p o) σ ς where
 sub:=λb u e=>by rw[Qk (by rintro rfl;rw[hg]at e;cases e)];exact S.sub b u e
 g0:=S.g0
 new:=S.new
 fr:=λb u e m=>by rw[Qk (by rintro rfl;exact m hM)];exact S.fr b u e m
 dom:=λb e=>by
  by_cases hb:b=p
  ·subst hb;rw[QC]at e;cases e
  ·rw[Qk hb]at e;exact S.dom b e
 bs:=λb u e=>by rw[Qk (by rintro rfl;rw[hB]at e;cases e)];exact S.bs b u e
 bh:=S.bh
 len:=S.len
 fz:=S.fz
 ow:=λi d e=>by
  obtain⟨q,a,b,c,w⟩:=S.ow i d e
  exact⟨q,a,b,c,w.mono (dC G) λu z=>by rw[Qk (by rintro rfl;exact h0 c)];exact z⟩
 ln:=S.ln
 inj:=S.inj
 sf:=λi d e=>absurd e (RX i d)
 su:=S.su
abbrev gZ(C:Dc)(N':List Str)(scope:Scope)(fp:List Addr)(s:Shared)(H1 G1:Hp)(p:Addr):Dc:=
 { X:=uY C.X N' scope fp s (eT H1 p (.lst [])),CT:=C.CT,G0:=G1,XD:=λ_=>False,B:=H1,M:=λb=>b=p }
theorem xp{i:Nat}(h:(fC js ς)[i]?=some (some md)):∃ j,js[i]?=some (some j)/\kL ς j=some md:=by
 unfold fC at h
 rw[aH]at h
 cases e:js[i]? with
 | none=>rw[e]at h;cases h
 | some o=>
  rw[e]at h
  cases o with
  | none=>cases h
  | some j=>exact⟨j,rfl,ag h⟩
theorem AW{i j:Nat}(h:js[i]?=some (some j))(hv:σ[j]?=some (some v)):(lA js σ)[i]?=some (some v):=by
 unfold lA
 rw[aH,h]
 show some ((σ[j]?).join)=_
 rw[hv];rfl
theorem xq(h:kL ς j=some (m,d)):(m=.k/\ς[j]?=some (some (.k,d)))∨(m=.l/\(ς[j]?=some (some (.o,d))∨ς[j]?=some (some (.l,d))∨ς[j]?=some (some (.s,d)))):=by
 unfold kL at h
 split at h
 ·rename_i d' e;cases h;exact .inl ⟨rfl,e⟩
 ·rename_i m' d' fT e
  cases h
  cases m' with
  | k=>exact(fT rfl).elim
  | o=>exact .inr ⟨rfl,.inl e⟩
  | l=>exact .inr ⟨rfl,.inr (.inl e)⟩
  | s=>exact .inr ⟨rfl,.inr (.inr e)⟩
 ·cases h
theorem Ew{i:Nat}(h:(fC js ς)[i]?=some (some (.s,d))):False:=by
 obtain⟨j,h1,h2⟩:=xp h
 rcases xq h2 with⟨h3,_⟩ | ⟨h3,_⟩<;>cases h3
theorem StR.comp{s:Shared}(S:StR C G H σ ς)(hp:H p=none):StR (gZ C N' scope fp s H G p) G (eT H p (.lst [])) (lA js σ) (fC js ς) where
 sub:=S.sub.trans (Qv hp)
 g0:=dC _
 new:=λb h1 h2=>absurd h1 h2
 fr:=λb o e _=>e
 dom:=λb e=>e
 bs:=Qv hp
 bh:=λb e=>by
  have e':eT H p (.lst []) b=none:=e
  by_cases hb:b=p
  ·subst hb;exact hp
  ·rw[Qk hb]at e';exact e'
 len:=by unfold lA fC;rw[aD,aD]
 fz:=λi d e=>by
  obtain⟨j,h1,h2⟩:=xp e
  rcases xq h2 with⟨_,h3⟩ | ⟨h3,_⟩
  ·obtain⟨v,a,b⟩:=S.fz j d h3
   exact⟨v,AW h1 a,b⟩
  ·cases h3
 ow:=λi d e=>by
  obtain⟨j,h1,h2⟩:=xp e
  rcases xq h2 with⟨h3,_⟩ | ⟨h3,_⟩<;>cases h3
 ln:=λi d e=>by
  obtain⟨j,h1,h2⟩:=xp e
  rcases xq h2 with⟨h3,_⟩ | ⟨_,h3 | h3 | h3⟩
  ·cases h3
  ·obtain⟨q,a,_,_,w⟩:=S.ow j d h3
   exact⟨_,AW h1 a,w.rep S.sub,λ_ h=>nomatch h⟩
  ·obtain⟨v,a,b,_⟩:=S.ln j d h3
   exact⟨v,AW h1 a,dD S.bs d v b,λ_ h=>nomatch h⟩
  ·obtain⟨q,a,_,_,_,_,w⟩:=S.sf j d h3
   exact⟨_,AW h1 a,w.rep S.sub,λ_ h=>nomatch h⟩
 inj:=λi j d e q _ h=>by
  obtain⟨j,h1,h2⟩:=xp h
  rcases xq h2 with⟨h3,_⟩ | ⟨h3,_⟩<;>cases h3
 sf:=λi d e=>(Ew e).elim
 su:=λi j d e p _ h=>(Ew h).elim
theorem Ra{fp:List Addr}(S:StR C G H σ ς)(hp:H p=none)(dit:oH C.X.K C.CT H G J xs)(hx:∀ x,¬ C.XD x)(hk:jl g (fC js ς))(fT:iu g)
 (mO:DG (gZ C N' scope fp s H G p) tg g/\tT (gZ C N' scope fp s H G p) ifs c/\DE (gZ C N' scope fp s H G p) elt e)
 (q:(ft (fE js g c e ς) xs>>=λys=>if i0 ys.length=true then Out.ok (D.lst ys) else .stuck).post (λd=>∀ H' G',StR C G' H' σ ς->Same H H'->Same G G'->G' p=none->Own C.X.K C.CT G' H' p d->Q (.ref p) H') C.XD):
 o7 (uY C.X N' scope fp s (eT H p (.lst []))) js tg elt ifs σ H J p Q:=by
 obtain⟨⟨tt,pg,hg⟩,⟨Jc,pif,hcI⟩,⟨te,pe,he⟩⟩:=mO
 generalize hτ:fC js ς=τ0 at hk
 have S0:StR (gZ C N' scope fp s H G p) G (eT H p (.lst [])) (lA js σ) τ0:=by rw[← hτ];exact S.comp hp
 refine⟨λi m τ H'=>m=xs.length - i/\i<=xs.length/\∃ G' acc vs,StR (gZ C N' scope fp s H G p) G' H' τ τ0/\H' p=some (.lst vs)/\RepL C.X.K C.CT G' acc vs/\G' p=none/\
  (ft (fE js g c e ς) (xs.drop i)).post (λys=>(if i0 (acc++ys).length=true then Out.ok (D.lst (acc++ys)) else .stuck).post (λd=>∀ H' G',StR C G' H' σ ς->Same H H'->Same G G'->G' p=none->Own C.X.K C.CT G' H' p d->Q (.ref p) H') C.XD) C.XD,
  ⟨xs.length,by simp,bV _,G,[],[],S0,QC,rfl,S.sub.free hp,by rw[dR]at q;simpa using q⟩,?_⟩
 rintro i m τ H' ⟨rfl,hle,G',acc,vs,S',Ey,r',jE,q'⟩
 have Ez:(gZ C N' scope fp s H G p).H0 p≠none:=by
  show eT H p (.lst []) p≠none
  rw[QC];simp
 by_cases ly:i<xs.length
 ·have hd:xs[i]?=some xs[i]:=by simp[ly]
  obtain⟨Et,hy⟩:=dit.go G' H' i _ S'.g0 S'.sub S'.bs hd
  refine .inr ⟨Et,λτ2 H2=>i+1<=xs.length/\∃ G' acc vs,StR (gZ C N' scope fp s H G p) G' H2 τ2 τ0/\H2 p=some (.lst vs)/\RepL C.X.K C.CT G' acc vs/\G' p=none/\
   (ft (fE js g c e ς) (xs.drop (i+1))).post (λys=>(if i0 (acc++ys).length=true then Out.ok (D.lst (acc++ys)) else .stuck).post (λd=>∀ H' G',StR C G' H' σ ς->Same H H'->Same G G'->G' p=none->Own C.X.K C.CT G' H' p d->Q (.ref p) H') C.XD) C.XD,
   λτ2 H2 h2=>⟨xs.length - (i+1),by lia,rfl,h2⟩,λx o8 y=>?_⟩
  obtain⟨Eu,g1,h1,s1,n1,r⟩:=hy x o8 y
  have Rb:=S'.grow h1 g1 s1 n1
  rw[Jo hd,ft,dR]at q'
  have tu:fE js g c e ς xs[i]=(g xs[i] τ0>>=λτ=>c τ>>=λb=>if b=true then e τ>>=λy=>Out.ok (some y) else Out.ok none):=by unfold fE;rw[hτ]
  rw[tu,dR]at q'
  cases z:g xs[i] τ0 with
  | exc w=>exact absurd z (fT _ _ _)
  | stuck=>rw[z]at q';exact q'.elim
  | ok τ1=>
   rw[z]at q'
   obtain⟨Jy,hk1⟩:=hk _ _ z
   refine⟨tt,pg,hg Eu o8 τ τ0 xs[i] x τ1 _ Rb r z λτ2 S2=>?_⟩
   have q2:(c τ1>>=λb=>if b=true then e τ1>>=λy=>Out.ok (some y) else Out.ok none).post _ _:=q'
   rw[dR]at q2
   have q3:(c τ1).post (λb=>(if b=true then e τ1>>=λy=>Out.ok (some y) else Out.ok none).post (λo=>(ft (fE js g c e ς) (xs.drop (i+1))>>=λys=>Out.ok (o.toList++ys)).post (λys=>(if i0 (acc++ys).length=true then Out.ok (D.lst (acc++ys)) else .stuck).post (λd=>∀ H' G',StR C G' H' σ ς->Same H H'->Same G G'->G' p=none->Own C.X.K C.CT G' H' p d->Q (.ref p) H') C.XD) C.XD) C.XD) (λ_=>False):=by
    cases w:c τ1 with
    | ok b=>rw[w]at q2;exact q2
    | exc w'=>rw[w]at q2;exact absurd q2 (hx _)
    | stuck=>rw[w]at q2;exact q2.elim
   refine⟨Jc,pif,hcI Eu o8 τ2 τ1 _ S2 (dS q3 λb kb H3 G3 S3 a3 b3=>?_)⟩
   have AX:=a3 _ _ (h1 _ _ Ey)
   have Rc:G3 p=none:=by
    cases z3:G3 p with
    | none=>rfl
    | some o=>
     have e3:=S.sub.free hp
     exact absurd (S3.new p e3 (by rw[z3];simp)) Ez
   cases b with
   | false=>
    refine kX ⟨ly,G3,acc,vs,S3.weak (by rw[Jy]) hk1,AX,dE (g1.trans b3) acc vs r',Rc,?_⟩
    have Jz:(ft (fE js g c e ς) (xs.drop (i+1))>>=λys=>Out.ok ((none:Option D).toList++ys)).post (λys=>(if i0 (acc++ys).length=true then Out.ok (D.lst (acc++ys)) else .stuck).post (λd=>∀ H' G',StR C G' H' σ ς->Same H H'->Same G G'->G' p=none->Own C.X.K C.CT G' H' p d->Q (.ref p) H') C.XD) C.XD:=kb
    rw[dR]at Jz
    exact dS Jz λys k=>k
   | true=>
    have kb:(e τ1>>=λy=>Out.ok (some y)).post (λo=>(ft (fE js g c e ς) (xs.drop (i+1))>>=λys=>Out.ok (o.toList++ys)).post (λys=>(if i0 (acc++ys).length=true then Out.ok (D.lst (acc++ys)) else .stuck).post (λd=>∀ H' G',StR C G' H' σ ς->Same H H'->Same G G'->G' p=none->Own C.X.K C.CT G' H' p d->Q (.ref p) H') C.XD) C.XD) C.XD:=kb
    rw[dR]at kb
    have kb2:(e τ1).post (λy=>(ft (fE js g c e ς) (xs.drop (i+1))>>=λys=>Out.ok ((some y).toList++ys)).post (λys=>(if i0 (acc++ys).length=true then Out.ok (D.lst (acc++ys)) else .stuck).post (λd=>∀ H' G',StR C G' H' σ ς->Same H H'->Same G G'->G' p=none->Own C.X.K C.CT G' H' p d->Q (.ref p) H') C.XD) C.XD) (λ_=>False):=by
     cases w:e τ1 with
     | ok b=>rw[w]at kb;exact kb
     | exc w'=>rw[w]at kb;exact absurd kb (hx _)
     | stuck=>rw[w]at kb;exact kb.elim
    refine kY ⟨te,pe,he G3 H3 τ2 τ1 _ S3 (dS kb2 λy ky v4 H4 G4 S4 a4 b4 r4=>?_)⟩
    rw[dR]at ky
    have Re:=a4 _ _ AX
    have K0:G4 p=none:=by
     cases z3:G4 p with
     | none=>rfl
     | some o=>
      have e3:=S.sub.free hp
      exact absurd (S4.new p e3 (by rw[z3];simp)) Ez
    have rr:=dE ((g1.trans b3).trans b4) acc vs r'
    refine⟨vs,Re,?_,ly,G4,acc++[y],vs++[v4],?_,QC,rr.append (RepL.one r4),K0,?_⟩
    ·cases w:ft (fE js g c e ς) (xs.drop (i+1)) with
     | stuck=>rw[w]at ky;exact ky.elim
     | exc w'=>rw[w]at ky;exact absurd ky (hx _)
     | ok ys=>
      rw[w]at ky
      rcases QA (ky) with⟨hc,_⟩ | ⟨_,k⟩
      ·have uR:=aN hc
       rw[aV,aV]at uR
       have:(some y:Option D).toList.length=1:=rfl
       have hl:=r'.length
       lia
      ·exact k.elim
    ·exact(S4.weak (by rw[Jy]) hk1).updM rfl Ez (λi d z=>by rw[← hτ]at z;exact Ew z) hp K0
    ·exact dS ky λys k=>by
      have e5:acc++[y]++ys=acc++((some y).toList++ys):=by simp
      rw[e5];exact k
 ·have ei:i=xs.length:=by lia
  subst ei
  rw[dA]at q'
  refine .inl ⟨dit.stop G' H' S'.g0 S'.sub S'.bs,?_⟩
  have q2:=q'
  rcases QA q2 with⟨_,k⟩ | ⟨_,k⟩
  ·rw[az]at k
   have K1:=λb o eb=>S'.fr b o (by
    show eT H p (.lst []) b=some o
    rw[Qk (QF eb hp)];exact eb) (QF eb hp)
   have SG:=S.grow K1 S'.g0 S'.sub λb h1 h2=>by
    have:=S'.new b h1 h2
    have this:eT H p (.lst []) b=none:=this
    by_cases hb:b=p
    ·subst hb;exact hp
    ·rw[Qk hb]at this;exact this
   exact k H' G' SG K1 S'.g0 jE ⟨vs,Ey,r'⟩
  ·exact k.elim
theorem oI(hi:∃ wi,PI C.X tg iter wi/\∀ G H σ ς (R:It->Hp->Prop),StR C G H σ ς->(its ς).post (λds=>∀ J H1 G1,StR C G1 H1 σ ς->Same H H1->Same G G1->oH C.X.K C.CT H1 G1 J ds->R J H1) C.XD->wi σ H R)
 (hx:∀ x,¬ C.XD x) (hk:∀ ς,jl g (fC js ς)) (fT:iu g)
 (mO:∀ fp s H G p,DG (gZ C N' scope fp s H G p) tg g/\tT (gZ C N' scope fp s H G p) ifs c/\DE (gZ C N' scope fp s H G p) elt e):
 ∃ wi,PI C.X tg iter wi/\∀ G H σ ς Q,StR C G H σ ς->(dc js its g c e ς).post (KF C G H σ ς Q) C.XD->o9 C.X N' js scope tg elt ifs wi σ H Q:=by
 obtain⟨wi,pi,hq⟩:=hi
 refine⟨wi,pi,λG H σ ς Q S k=>?_⟩
 unfold dc at k
 rw[dR]at k
 refine hq G H σ ς _ S (dS k λxs k J H1 G1 S1 a1 b1 dit p hp fp s=>?_)
 refine Ra S1 hp dit hx (hk ς) fT (mO fp s H1 G1 p) (dS k λd kd H' G' S' h1 g1 hg ow=>?_)
 exact kd p H' G' S' (a1.trans h1) (b1.trans g1) (a1.free hp) hg ow
theorem QB(hc:C.X.calm=true)(S:Qu N' js scope C.X.env.scope C.X.N)(hi:xn C tg iter its)(hk:∀ ς,jl g (fC js ς))(fT:iu g)
 (mO:∀ fp s H G p,DG (gZ C N' scope fp s H G p) tg g/\tT (gZ C N' scope fp s H G p) ifs c/\DE (gZ C N' scope fp s H G p) elt e)
 (hx:∀ x,¬ C.XD x:=by fail"V5") (hs:∀ x,foldedSetIterable iter C.X.env x=pure x:=by fail"V3"):DF C (.ListComp elt [⟨tg,iter,ifs,0⟩] scope pos) (dc js its g c e):=by
 obtain⟨wi,pi,h⟩:=oI hi hx hk fT mO
 exact⟨_,Pr hc S pi hs,h⟩
theorem tU(hc:C.X.calm=true)(S:Qu N' js scope C.X.env.scope C.X.N)(hi:xn C tg iter its)(hk:∀ ς,jl g (fC js ς))(fT:iu g)
 (mO:∀ fp s H G p,DG (gZ C N' scope fp s H G p) tg g/\tT (gZ C N' scope fp s H G p) ifs c/\DE (gZ C N' scope fp s H G p) elt e)
 (hN:C.X.N.Nodup) (F0:C.X.N[i]?=some x) (hl:mI C.X.env.scope x)
 (lz:swapsWith (.ListComp elt [⟨tg,iter,ifs,0⟩] scope pos) (some (.Name x px)) spos.line C.X.env=pure true:=by rfl)
 (hf:C.X.fn x=true∨C.X.env.scope.names.lookup x=some .local:=by fail"V2")
 (hx:∀ x,¬ C.XD x:=by fail"V5") (hs:∀ x,foldedSetIterable iter C.X.env x=pure x:=by fail"V3"):DS C (.Assign [.Name x px] (.ListComp elt [⟨tg,iter,ifs,0⟩] scope pos) spos) (e8 i (dc js its g c e)):=by
 obtain⟨wi,pi,h⟩:=oI hi hx hk fT mO
 refine⟨_,Jd hc S pi hN F0 hl lz hf hs,λG H σ ς W S k=>?_⟩
 unfold e8 at k
 rw[dR]at k
 exact h G H σ ς _ S (dS k λd k=>KD.ofF S λv H1 G1 S1 a1 b1 r1=>k _ H1 G1 (S1.set i r1) b1)
theorem K2(hc:C.X.calm=true)(S:Qu N' js scope C.X.env.scope C.X.N)(hi:xn C tg iter its)(hk:∀ ς,jl g (fC js ς))(fT:iu g)
 (mO:∀ fp s H G p,DG (gZ C N' scope fp s H G p) tg g/\tT (gZ C N' scope fp s H G p) ifs c/\DE (gZ C N' scope fp s H G p) elt e)
 (hN:C.X.N.Nodup) (F0:C.X.N[i]?=some x) (hl:mI C.X.env.scope x)
 (lz:swapsWith (.ListComp elt [⟨tg,iter,ifs,0⟩] scope pos) (some (.Name x px)) spos.line C.X.env=pure true:=by rfl)
 (hf:C.X.fn x=true∨C.X.env.scope.names.lookup x=some .local:=by fail"V2")
 (hx:∀ x,¬ C.XD x:=by fail"V5") (hs:∀ x,foldedSetIterable iter C.X.env x=pure x:=by fail"V3"):DS C (.Assign [.Name x px] (.ListComp elt [⟨tg,iter,ifs,0⟩] scope pos) spos) (fL i (dc js its g c e)):=by
 obtain⟨wi,pi,h⟩:=oI hi hx hk fT mO
 refine⟨_,Jd hc S pi hN F0 hl lz hf hs,λG H σ ς W S k=>?_⟩
 unfold fL at k
 rw[dR]at k
 exact h G H σ ς _ S (dS k λd k p H1 G1 S1 a1 b1 hp hg ow=>k _ H1 G1 (S1.setO i hg (S.h0none hp) ow λj e _ z=>S.new_ne hp j e z) b1)
end DL
namespace L2
open PySem PySem.Spec PyProof.Rows
noncomputable def F7(x:Str):It:=⟨λi _=>i<x.cps.size,λi H v H'=>H'=H/\∃ c,x.cps[i]?=some c/\v=.str ⟨#[c]⟩,λi _=>x.cps.size<=i⟩
theorem K3{K:PySem.W.Frag}(it:Addr)(hn:["enumerate","zip","dict_itemiterator","dict_reverseitemiterator","odict_iterator","itertools.zip_longest","itertools.pairwise"].contains ty=false)
 (hs:∀(A:Around)(i:Nat)(s:Shared)(Q:Value->Shared->Prop)(E:Value->Shared->Prop),s.heap.IsStrIter it ty x t i->Q (.ref it) s->wpAny (model P w) A (pyIter (.ref it)) Q E s)
 (W:∀ A':Around,A'.handled=none->Walks P w A' it [it] [it] x.cps.size (SignAt x) (λi h=>h.IsStrIter it ty x t i)):lp P w K tg (F7 x) [it] it (λi h=>h.IsStrIter it ty x t i/\i<=x.cps.size) where
 mem:=by simp
 obj:=λi h st b hb=>by
  have e:b=it:=by simpa using hb
  subst e
  obtain⟨⟨o,e,c,d⟩,_⟩:=st
  exact⟨o,e,λv z=>by rw[d]at z;cases z⟩
 keep:=λi h h' st k=>⟨by obtain⟨⟨o,e,c,d⟩,_⟩:=st;exact⟨o,k it (by simp) o e,c,d⟩,st.2⟩
 item:=by
  intro X hP hw hK hc i pins s σ H E I hf st hg
  subst hP hw hK
  obtain⟨f0,f1,f2,f3,f4,f5⟩:=hf it (by simp)
  refine(W X.A (I.ok.hd hc)).item i s _ _ hg st.1 λv h' tk hv st' kk=>?_
  obtain⟨c,u,hcx,rfl⟩:=hv
  have I1:Inv X pins σ H { s with heap:=h',toks:=tk }:=I.turned (λb o hb e=>kk b o (by simpa using hb) e) f0 f1 f3 f4 f5
  obtain⟨o,e,c',d⟩:=id st'
  exact⟨_,rfl,nj e c' d hn ⟨.str ⟨#[c]⟩,H,I1,⟨u,rfl⟩,⟨rfl,c,hcx,rfl⟩,⟨st',hg⟩,λb hb=>(hf b hb).1⟩⟩
 done:=by
  intro X hP hw hK hc i pins s σ H E I hf st hg
  subst hP hw hK
  obtain⟨f0,f1,f2,f3,f4,f5⟩:=hf it (by simp)
  have jE:=hg
  have e:=Nat.le_antisymm st.2 jE
  subst e
  exact(W X.A (I.ok.hd hc)).done s _ _ st.1 λh' tk kk=>⟨rfl,I.turned (λb o hb e=>kk b o (by simpa using hb) e) f0 f1 f3 f4 f5⟩
 self:=λA i s Q E st h=>hs A i s Q E st.1 h
def F8(tl:TE):TI:=λσ H R=>tl σ H λx H1=>∃ z,x=.str z/\R (F7 z) H1
theorem Rf{l:Expr}(hl:PE X l tl):PI X tg l (F8 tl):=by
 intro pins s σ H R I h
 refine ef (hl pins s σ H _ I h) λv s1 dm=>?_
 obtain⟨x,H1,I1,r1,q1⟩:=dm
 obtain⟨z,e,q⟩:=q1
 subst e
 obtain⟨t,rfl⟩:=r1
 cases ha:z.cps.all (· < 128)
 ·refine wpAny_pyIter_wide ha ⟨s1.heap.objs.size,[s1.heap.objs.size],_,_,H1,rfl,I1.kept λb o e=>aI _ e,K3 _ (by decide) (λ_ _ _ _ _ st h=>wpAny_pyIter_striter_wide st h) (λA' hA=>Walks.strWide hA _ z t),⟨⟨_,af _ rfl,rfl,rfl⟩,bV _⟩,λb hb=>?_,q⟩
  have e:b=s1.heap.objs.size:=by simpa using hb
  subst e
  exact I1.fpOk (aJ _) (I1.hok.fresh (aJ _))
 ·refine wpAny_pyIter_ascii ha ⟨s1.heap.objs.size,[s1.heap.objs.size],_,_,H1,rfl,I1.kept λb o e=>aI _ e,K3 _ (by decide) (λ_ _ _ _ _ st h=>wpAny_pyIter_striter_ascii st h) (λA' hA=>Walks.strAscii hA _ z t),⟨⟨_,af _ rfl,rfl,rfl⟩,bV _⟩,λb hb=>?_,q⟩
  have e:b=s1.heap.objs.size:=by simpa using hb
  subst e
  exact I1.fpOk (aJ _) (I1.hok.fresh (aJ _))
theorem Rg(bs:List Bool):(List.range bs.length).all (λi=>(bs[i]?).getD false)=bs.all id:=by
 rw[Bool.eq_iff_iff,cA,cA]
 constructor
 ·intro h b hb
  obtain⟨i,hi,e⟩:=List.mem_iff_getElem.mp hb
  have:=h i (aU.mpr hi)
  rw[aE hi,bg,e]at this
  exact this
 ·intro h i hi
  have pO:=aU.mp hi
  rw[aE pO,bg]
  exact h _ (bG pO)
theorem Rh(bs:List Bool):(List.range bs.length).any (λi=>(bs[i]?).getD false)=bs.any id:=by
 rw[Bool.eq_iff_iff,cW,cW]
 constructor
 ·rintro ⟨i,hi,h⟩
  have pO:=aU.mp hi
  rw[aE pO,bg]at h
  exact⟨_,bG pO,h⟩
 ·rintro ⟨b,hb,h⟩
  obtain⟨i,hi,e⟩:=List.mem_iff_getElem.mp hb
  exact⟨i,aU.mpr hi,by rw[aE hi,bg,e];exact h⟩
theorem Ri(hc:X.calm=true):CallR X (.builtin "all") (λxs H Q=>∃(p:Addr)(bs:List Bool),xs=[.ref p]/\SqL X.K H p (bs.map V.bl)/\Q (.bl (bs.all id)) H):=by
 intro pins s σ H xs us Q I r h
 obtain⟨p,bs,rfl,hq,q⟩:=h
 obtain⟨u,rfl,rx⟩:=iQ r
 cases rx
 obtain⟨its,rv,pl,hz⟩:=I.list hq
 have hlen:=rv.length
 refine call_all_walk ?_
 refine cz pl.isList ?_
 have hp:p<s.heap.objs.size:=by obtain⟨o,n,ho,_⟩:=pl;exact aS ho
 have fT:=ai hp
 refine⟨_,_,_,_,_,_,λi=>(bs[i]?).getD false,rfl,Walks.list (A:=X.A.in1) (I.ok.hd hc) _ p fT its.toArray,⟨⟨_,af _ rfl,rfl,rfl⟩,pl.isList.at λo e=>aI _ e⟩,?_,λh' tk kk=>⟨.bl (bs.all id),H,?_,?_,q⟩⟩
 ·intro i v s2 Q2 E2 hv qL
  have t6:its[i]?=some v:=by simpa using hv
  have hi:i<bs.length:=by
   have:=(aW.mp t6).1
   rw[aD]at hlen
   lia
  obtain⟨y,hy,ry⟩:=rv.get (by rw[aH,aE hi];rfl)
  rw[t6]at hy
  cases hy
  cases ry
  have qL:Q2 ((bs[i]?).getD false) s2:=qL
  rw[aE hi,bg]at qL
  exact aX qL
 ·exact I.kept λb o e=>kk b o (by
   intro hb
   have e2:b=s.heap.objs.size:=by simpa using hb
   subst e2
   exact absurd (aS e) (bL _)) (aI _ e)
 ·rw[aT, ← hlen,aD,Rg];exact rfl
theorem Rj(hc:X.calm=true):CallR X (.builtin "any") (λxs H Q=>∃(p:Addr)(bs:List Bool),xs=[.ref p]/\SqL X.K H p (bs.map V.bl)/\Q (.bl (bs.any id)) H):=by
 intro pins s σ H xs us Q I r h
 obtain⟨p,bs,rfl,hq,q⟩:=h
 obtain⟨u,rfl,rx⟩:=iQ r
 cases rx
 obtain⟨its,rv,pl,hz⟩:=I.list hq
 have hlen:=rv.length
 refine call_any_walk ?_
 refine cz pl.isList ?_
 have hp:p<s.heap.objs.size:=by obtain⟨o,n,ho,_⟩:=pl;exact aS ho
 have fT:=ai hp
 refine⟨_,_,_,_,_,_,λi=>(bs[i]?).getD false,rfl,Walks.list (A:=X.A.in1) (I.ok.hd hc) _ p fT its.toArray,⟨⟨_,af _ rfl,rfl,rfl⟩,pl.isList.at λo e=>aI _ e⟩,?_,λh' tk kk=>⟨.bl (bs.any id),H,?_,?_,q⟩⟩
 ·intro i v s2 Q2 E2 hv qL
  have t6:its[i]?=some v:=by simpa using hv
  have hi:i<bs.length:=by
   have:=(aW.mp t6).1
   rw[aD]at hlen
   lia
  obtain⟨y,hy,ry⟩:=rv.get (by rw[aH,aE hi];rfl)
  rw[t6]at hy
  cases hy
  cases ry
  have qL:Q2 ((bs[i]?).getD false) s2:=qL
  rw[aE hi,bg]at qL
  exact aX qL
 ·exact I.kept λb o e=>kk b o (by
   intro hb
   have e2:b=s.heap.objs.size:=by simpa using hb
   subst e2
   exact absurd (aS e) (bL _)) (aI _ e)
 ·rw[aT, ← hlen,aD,Rh];exact rfl
end L2
namespace DL
open PySem PySem.Spec PyProof.Rows L2
noncomputable def iU(z:Str):List D:=z.cps.toList.map λc=>D.str ⟨#[c]⟩
def pP(E:SD->Out D):SD->Out (List D):=λς=>E ς>>=λd=>match d with | .str z=>.ok (iU z) | _=>.stuck
theorem Rk{K:PySem.W.Frag}:DIt K CT G1 (F7 z) (iU z) where
 go:=λG H i d s1 sH hd=>by
  unfold iU at hd
  rw[aH]at hd
  cases hc:z.cps.toList[i]? with
  | none=>rw[hc]at hd;cases hd
  | some c=>
   rw[hc]at hd
   cases hd
   have hi:i<z.cps.size:=by
    have:=(aW.mp hc).1
    simpa using this
   refine⟨hi,λx H' dm=>?_⟩
   obtain⟨e,c',h1,h2⟩:=dm
   subst e h2
   have rQ:z.cps.toList[i]?=some c':=by simpa using h1
   rw[hc]at rQ
   cases rQ
   exact⟨G,dC _,dC _,sH,λb g n=>absurd g n,rfl⟩
 stop:=λG H s1 sH=>by
  unfold iU
  show z.cps.size<=_
  rw[aD];simp
theorem F9(h:DB C iter E):DI C tg iter (pP E):=by
 obtain⟨t,p,q⟩:=h
 refine⟨_,Rf p,λG H σ ς R S k=>?_⟩
 unfold pP at k
 rw[dR]at k
 refine q G H σ ς _ S (dS k λd k v H1 G1 S1 a1 b1 r1=>?_)
 cases d with
 | str z=>cases r1;exact⟨z,rfl,k _ H1 G1 S1 a1 b1 Rk⟩
 | _=>exact k.elim
noncomputable def AY:D->D->Out D
 | .str x,.str y=>.ok (.bl (!(Builtin.Str.occurrences y x 0 y.length 1).isEmpty))
 | _,_=>.stuck
theorem Rl:km C (λx y H Q=>∃ i j,x=.str i/\y=.str j/\Q (.bl (!(Builtin.Str.occurrences j i 0 j.length 1).isEmpty)) H) AY:=by
 intro G H σ ς Q x y vx vy S hx hy q
 cases x with
 | str x=>
  cases y with
  | str y=>cases hx;cases hy;exact⟨x,y,rfl,rfl,q.2⟩
  | _=>exact q.elim
 | _=>cases y<;>exact q.elim
theorem Rn:fq AY:=λx y=>by cases x<;>cases y<;>first | exact rfl | exact True.intro
theorem xt(ha:DB C a A)(hb:DB C b B)(hm:behindInMarks .In b=false:=by rfl):DE C (.Compare a [.In] [b] pos) (e2 AY A B):=AI Ng Rl Rn ha hb hm
noncomputable def gb:List D->Option (List Bool)
 | []=>some []
 | .bl b::r=>(gb r).map (b :: ·)
 | _::_=>none
theorem FA{K:PySem.W.Frag}:∀{ds:List D}{bs:List Bool}{vs:List V},gb ds=some bs->RepL K CT H ds vs->vs=bs.map V.bl
 | [],bs,vs,h,r=>by cases h;exact r
 | d::ds,bs,vs,h,dm=>by
  obtain⟨v,w,h1,h2,h3⟩:=dm
  cases d with
  | bl b=>
   cases e:gb ds with
   | none=>rw[gb,e]at h;cases h
   | some cs=>
    rw[gb,e]at h
    cases h
    cases h2
    rw[h1,FA e h3];rfl
  | _=>cases h
def gc:D->Out D
 | .lst xs=>match gb xs with | some bs=>.ok (.bl (bs.all id)) | none=>.stuck
 | _=>.stuck
def ke:D->Out D
 | .lst xs=>match gb xs with | some bs=>.ok (.bl (bs.any id)) | none=>.stuck
 | _=>.stuck
theorem rR(hc:C.X.calm=true)(hg:Gl C.X "all")(hm:C.X.mg "all"=none)(ha:nS C (e::es) AA)
 (he:starEach (e::es) C.X.env=(false,eval e C.X.env)::starEach es C.X.env:=by rfl) (fc:(backTo pos (starEach es C.X.env)).any (·.1)=false:=by rfl):DE C (.Call (.Name "all" p) (e::es) [] pos) (eA (f1 gc) AA):=by
 refine xO (Ri hc) (AM ?_) (AL ?_) hg hm PyProof.Rows.Boot.«all» ha (by decide) (by decide) he fc
 ·intro G H σ ς Q x v S r q
  cases x with
  | lst xs=>
   cases eb:gb xs with
   | none=>rw[gc,eb]at q;exact q.elim
   | some bs=>
    rw[gc,eb]at q
    obtain⟨a,vs,rfl,h2,h3⟩:=r
    rw[FA eb h3]at h2
    exact⟨a,bs,rfl,h2,q.2⟩
  | _=>exact q.elim
 ·intro x
  cases x with
  | lst xs=>
   rw[gc]
   cases gb xs with
   | none=>exact True.intro
   | some bs=>exact rfl
  | _=>exact True.intro
theorem Ro(hc:C.X.calm=true)(hg:Gl C.X "any")(hm:C.X.mg "any"=none)(ha:nS C (e::es) AA)
 (he:starEach (e::es) C.X.env=(false,eval e C.X.env)::starEach es C.X.env:=by rfl) (fc:(backTo pos (starEach es C.X.env)).any (·.1)=false:=by rfl):DE C (.Call (.Name "any" p) (e::es) [] pos) (eA (f1 ke) AA):=by
 refine xO (Rj hc) (AM ?_) (AL ?_) hg hm PyProof.Rows.Boot.«any» ha (by decide) (by decide) he fc
 ·intro G H σ ς Q x v S r q
  cases x with
  | lst xs=>
   cases eb:gb xs with
   | none=>rw[ke,eb]at q;exact q.elim
   | some bs=>
    rw[ke,eb]at q
    obtain⟨a,vs,rfl,h2,h3⟩:=r
    rw[FA eb h3]at h2
    exact⟨a,bs,rfl,h2,q.2⟩
  | _=>exact q.elim
 ·intro x
  cases x with
  | lst xs=>
   rw[ke]
   cases gb xs with
   | none=>exact True.intro
   | some bs=>exact rfl
  | _=>exact True.intro
theorem Rp:PE X (.Dict [] [] pos) (λ_ H Q=>∀ p,H p=none->Q (.ref p) (eT H p (.dK []))):=λpins s σ H Q I h=>by
 have hb:sysModules<s.heap.objs.size:=Nat.lt_trans (by decide) ((I.mod.glob.keeps I.bk).lt)
 exact wpAny_Dict_empty ⟨.ref s.heap.objs.size,_,I.laid (o:=.dK []) (λ_ _ q=>aI _ q) (aJ _)
  ⟨bV _,cE.mpr (bR (ai hb)),[],.nil,Heap.DictOf.new s.heap⟩,rfl,h _ (I.hok.fresh (aJ _))⟩
noncomputable def oJ:SD->Out D:=λ_=>.ok (.dic [])
theorem Rq:DF C (.Dict [] [] pos) oJ:=⟨_,Rp,λG H σ ς Q S q p hp=>by
 have q:=q
 exact q p _ G (S.allocO hp) (Qv hp) (dC _) hp (S.gnone hp) ⟨[],QC,rfl⟩⟩
noncomputable def eg(K:PySem.W.Frag):eU:=λc=>match PySem.W.nsIn K mainGlobals c with | some (some (.ref a))=>some a | _=>none
theorem kM{K:PySem.W.Frag}{c:Str}{a:Addr}(h:PySem.W.nsIn K mainGlobals c=some (some (.ref a))):eg K c=some a:=by unfold eg;rw[h]
def xu(CT:eU)(E:XK)(H:Hp):D->Prop:=λd=>∃ c fs C,d=.err c fs/\CT c=some C/\∀ H' dx,Same H H'->PayN H H' dx fs->E (.ref C) dx H'
def AZ(K:PySem.W.Frag)(CT:eU)(fr:Bool)(m:List D->Out D):Sp:=λvs H Q E=>∃ ds G0,Same G0 H/\RepL K CT G0 ds vs/\
 (m ds).post (λd=>∀ v H' G',Same G0 G'->Same H H'->Same G' H'->(∀ b,G0 b=none->G' b≠none->H b=none)->gD K CT fr H G' H' d v->Q v H') (xu CT E H)
abbrev FC(P:Program)(w:World)(K:PySem.W.Frag)(mg:Str->Option Value)(base:Heap)(CT:eU)(N:List Str)(qual:Str)(sc:Scope)(f:Addr)(eE:Value)(A:Around)(outer:List Env)(s:Shared)(H:Hp)(E:XK)(G:Hp):Dc:=
 { X:=je (i7 P w) P w K mg base N qual sc f eE A outer s H E,CT:=CT,G0:=G,XD:=xu CT E H,B:=H,M:=λ_=>False }
structure Rz(C:Dc)(E:XK):Prop where
 pass:pv (i7 C.X.prog C.X.w) C.X E
 xd:∀ d,C.XD d->∃ c fs Cc,d=.err c fs/\C.CT c=some Cc/\∀ H' dx,(∀ b o,C.H0 b=some o->¬ C.M b->H' b=some o)->PayN C.H0 H' dx fs->E (.ref Cc) dx H'
 madeI:∀(Cc:Addr) pins σ H2 s2 ea t dx,Inv C.X pins σ H2 s2->H2 ea=some (ED ea Cc t dx)->C.X.s₀.heap.get? ea=none->E (.ref Cc) dx (ip H2 ea)->C.X.xe (.ref ea) s2
 made:∀(Cc:Addr) pins σ H1 s1 ea h' vs,Inv C.X pins σ H1 s1->Heap.MadeExcOf s1.heap h' ea (.ref Cc) vs->E (.ref Cc) none H1->C.X.xe (.ref ea) { s1 with heap:=h' }
 calm:C.X.calm=true
theorem Rr{K:PySem.W.Frag}:
 Rz (FC P w K mg base CT N qual sc f eE A outer s H E G) E where
 pass:=rB
 xd:=λd ⟨c,fs,Cc,h1,h2,h3⟩=>⟨c,fs,Cc,h1,h2,λH' dx k n=>h3 H' dx (λb o e=>k b o e id) n⟩
 madeI:=λCc pins σ H2 s2 ea t dx I e hn hE=>JV I rfl rfl rfl e hn hE
 made:=λCc pins σ H1 s1 ea h' vs I hx hE=>JT I rfl rfl rfl hx hE
 calm:=rfl
theorem rS{C:Dc}(hx:∀ d,¬ C.XD d:=by fail"V5")(hc:C.X.calm=true:=by rfl):Rz C E0 where
 pass:=λpins σ H s e s' I h=>by obtain⟨_,_,_,_,_,_,_,_,_,z⟩:=h;exact z.elim
 xd:=λd h=>absurd h (hx d)
 made:=λCc pins σ H1 s1 ea h' vs I hx hE=>hE.elim
 madeI:=λCc pins σ H2 s2 ea t dx I e hn hE=>hE.elim
 calm:=hc
theorem Rt{P:Program}{w:World}{K:PySem.W.Frag}{mg:Str->Option Value}{base:Heap}{CT:eU}{fr:Bool}{x qual:Str}{st:Stmt}{f:Addr}{fd:FuncData}{dV:Value}{N ps:List Str}{k:Nat}{T:SD->Out Fl}
 (F:FunV K x qual st f fd dV) (S:Qo N ps (Qc st))
 (hb:∀(eE:Value)(A:Around)(outer:List Env)(s:Shared)(H:Hp)(E:XK)(G:Hp),Room k (A.deeper (envOfC qual (Qc st) s.heap.objs.size f eE))->lY (FC P w K mg base CT N qual (Qc st) f eE A outer s H E G) (mL st) T):
 FnOk P w K mg base (i7 P w) (k+1) f fd ps (AZ K CT fr (dy fr ps.length N.length T)):=by
 obtain⟨oc,od,kV,doc,pm,an,eE,ct,lr,rfl,lk,gR⟩:=F.ex
 have len:∀ vs H Q E,AZ K CT fr (dy fr ps.length N.length T) vs H Q E->vs.length=ps.length:=by
  rintro vs H Q E ⟨ds,G0,sub,r,q⟩
  unfold dy at q
  by_cases hl:ds.length=ps.length
  ·rw[← r.length];exact hl
  ·rw[aB hl]at q;exact q.elim
 refine kG lk gR S len λA outer s H vs Q E hr jC=>?_
 have hlen:=len vs H Q E jC
 obtain⟨ds,G0,sub,r,q⟩:=jC
 obtain⟨t,p1,q1⟩:=hb eE A outer s H E G0 hr
 have hl:ds.length=ps.length:=by rw[r.length];exact hlen
 refine⟨t,p1,?_⟩
 unfold dy at q
 rw[aA hl,dR]at q
 have S0:StR (FC P w K mg base CT N qual (Qc st) f eE A outer s H E G0) G0 H (L2.start N vs) (ds.map (λd=>some (.k,d))++List.replicate (N.length - ps.length) none):={
  sub:=sub
  g0:=dC _
  new:=λb h1 h2=>absurd h1 h2
  fr:=λb o e _=>e
  dom:=λb e=>e
  bs:=dC _
  bh:=λb e=>e
  len:=by unfold L2.start;simp;lia
  fz:=λi d e=>by
   obtain⟨d',e1,e2⟩:=nD e
   cases e2
   obtain⟨v,e3,rv⟩:=r.get e1
   exact⟨v,nW e3,rv⟩
  ow:=λi d e=>by
   obtain⟨d',e1,e2⟩:=nD e
   cases e2
  ln:=λi d e=>by
   obtain⟨d',e1,e2⟩:=nD e
   cases e2
  inj:=λi j d e p _ h=>by
   obtain⟨d',e1,e2⟩:=nD h
   cases e2
  sf:=λi d e=>by
   obtain⟨d',e1,e2⟩:=nD e
   cases e2
  su:=λi j d e p _ h=>by
   obtain⟨d',e1,e2⟩:=nD h
   cases e2 }
 refine q1 G0 H (L2.start N vs) _ _ S0 (dS q λfl kk=>?_)
 cases fl with
 | nx ς'=>exact λσ' H' G' S' s'=>kk .non H' G' s' (λb o e=>S'.fr b o e id) S'.sub S'.new (by unfold gD;rw[aB (by cases fr<;>decide)];rfl)
 | bk ς'=>exact λσ' H' G' S' s'=>kk.elim
 | ct ς'=>exact λσ' H' G' S' s'=>kk.elim
 | rt b d=>
  intro v H' G' S' s' ret
  have Eo:=kk
  rcases QA Eo with⟨hc,k2⟩ | ⟨_,k2⟩
  ·have k3:=k2
   cases b with
   | false=>
    refine k3 v H' G' s' (λb o e=>S'.fr b o e id) S'.sub S'.new ?_
    unfold gD
    have hn:¬ (fr && !d.scal)=true:=by revert hc;cases fr<;>cases d.scal<;>simp
    rw[aB hn]
    exact ret
   | true=>
    obtain⟨p,rfl,h0,hg,ow⟩:=(ret)
    cases fr with
    | true=>
     refine k3 _ H' G' s' (λb o e=>S'.fr b o e id) S'.sub S'.new ?_
     have hs:d.scal=false:=by cases d<;>first | rfl | exact ow.elim
     unfold gD
     rw[aA (by rw[hs];rfl)]
     exact⟨p,rfl,h0,hg,ow⟩
    | false=>
     obtain⟨o,ho⟩:=ow.there
     have S2:=GH.freezeR S' ho hg h0
     refine k3 _ H' _ (s'.trans (Qv hg)) (λb o e=>S2.fr b o e id) S2.sub S2.new ?_
     unfold gD
     rw[aB (by simp)]
     exact ow.known hg ho
  ·exact k2.elim
def tV(P:Program)(w:World)(K:PySem.W.Frag)(mg:Str->Option Value)(base:Heap)(CT:eU)(x:Str)(k:Nat)(fr:Bool)(dd:List D)(m:List D->Out D):Prop:=
 ∃ f fd ps ds,FnOk P w K mg base (i7 P w) k f fd ps (AZ K CT fr m)/\mg x=some (.ref f)/\PySem.W.keepIn K (.ref f)=true/\Binds K fd ps ds/\Vals (dd.map gO) ds
abbrev Dc.nox(C:Dc):Dc:={ C with X:=C.X.nox,XD:=λ_=>False }
noncomputable def gv{α:Type}:Out α->Out α
 | .exc _=>.stuck
 | o=>o
theorem Ru(a:α):gv (.ok a)=.ok a:=rfl
theorem xv(h:(gv o).post k x):o.post k (λ_=>False):=by cases o<;>exact h
section
variable {st:Stmt}
theorem GH.nox(S:GH C G H):GH C.nox G H:=⟨S.sub,S.g0,S.new,S.fr,S.dom,S.bs,S.bh⟩
theorem GH.unnox(S:GH C.nox G H):GH C G H:=⟨S.sub,S.g0,S.new,S.fr,S.dom,S.bs,S.bh⟩
theorem StR.nox(S:StR C G H σ ς):StR C.nox G H σ ς:=⟨S.toGH.nox,S.len,S.fz,S.ow,S.ln,S.inj,S.sf,S.su⟩
theorem StR.unnox(S:StR C.nox G H σ ς):StR C G H σ ς:=⟨S.toGH.unnox,S.len,S.fz,S.ow,S.ln,S.inj,S.sf,S.su⟩
theorem DT.lift(h:DT C.nox e E):DT C e (λς=>gv (E ς)):=by
 obtain⟨t,p,q⟩:=h
 exact⟨t,p.nox,λG H σ ς Q S k=>q G H σ ς Q S.nox (dS (xv k) λd kd H' G' S' a b=>kd H' G' S'.unnox a b)⟩
theorem PA.nox'(h:PA X.nox es t):PA X es t:=λpos pins s σ H Q I q=>PA.nox h I q
theorem DA.lift(h:DA C.nox es A):DA C es (λς=>gv (A ς)):=by
 obtain⟨t,p,q⟩:=h
 exact⟨t,PA.nox' p,λG H σ ς Q S k=>q G H σ ς Q S.nox (dS (xv k) λd kd v H' G' S' a b r=>kd v H' G' S'.unnox a b r)⟩
theorem FlK.nox(h:FlK C G W f):FlK C.nox G W f:=by
 cases f with
 | nx ς=>exact λσ' H' G' S q=>h σ' H' G' S.unnox q
 | bk ς=>exact λσ' H' G' S q=>h σ' H' G' S.unnox q
 | ct ς=>exact λσ' H' G' S q=>h σ' H' G' S.unnox q
 | rt b d=>exact λv H' G' S q r=>h v H' G' S.unnox q r
theorem PS.nox'(h:PS X.nox st t):PS X st t:=λpins s σ H D I hw=>
 av (h pins s σ H D (I.wish _) hw) (λ_ _ q=>q.unwish) λ_ _ z=>False.elim z
theorem DS.lift(h:DS C.nox st T):DS C st (λς=>gv (T ς)):=by
 obtain⟨t,p,q⟩:=h
 exact⟨t,PS.nox' p,λG H σ ς W S k=>q G H σ ς W S.nox (dS (xv k) λf kf=>kf.nox)⟩
abbrev dP:=@DS.lift
def xw(c:Str)(A:SD->Out (List D)):SD->Out Fl:=λς=>A ς>>=λxs=>if i0 xs.length=true then .exc (.err c) else .stuck
theorem Rv(rz:Rz C E)(hg:Gl C.X c)(hm:C.X.mg c=some (.ref Cc))(nX:C.CT c=some Cc)(hX:pG C.X.K Cc)(ha:DA C (e::es) A)
 (he:starEach (e::es) C.X.env=(false,eval e C.X.env)::starEach es C.X.env:=by rfl) (jh:(backTo cpos (starEach es C.X.env)).any (·.1)=false:=by rfl) (hd:(c == ("__debug__":Str))=false:=by decide):
 DS C (.Raise (some (.Call (.Name c np) (e::es) [] cpos)) none pos) (xw c A):=by
 obtain⟨t,p1,q1⟩:=ha
 refine⟨_,P0 (rz.made Cc) rz.calm hg hm hX p1 he jh hd,λG H σ ς W S q=>?_⟩
 unfold xw at q
 rw[dR]at q
 refine q1 G H σ ς _ S (dS q λxs kk vs H1 G1 S1 a1 b1 r1=>?_)
 rcases QA kk with⟨hc,k2⟩ | ⟨_,k2⟩
 ·refine⟨by rw[← r1.length];exact aN hc,?_⟩
  obtain⟨c',kz,Cc',e1,e2,e3⟩:=rz.xd _ (show C.XD (.err c) from k2)
  cases e1
  rw[nX]at e2
  cases e2
  exact e3 H1 none (λb o q m=>S1.fr b o q m) EU
 ·exact k2.elim
end
inductive FX where
 | fl (f:Fl) | ex (c:Str) (fs:List (Str×V)) (ς:SD)
def FD(C:Dc)(G:Hp)(W:jd)(R:St->XK):FX->Prop
 | .fl f=>FlK C G W f
 | .ex c fs ς1=>∃ Cc,C.CT c=some Cc/\∀ σ1 H1 G1 dx,StR C G1 H1 σ1 ς1->Same G G1->PayOk G1 dx fs->R σ1 (.ref Cc) dx H1
def xx(C:Dc)(Aa:List Stmt)(T:SD->Out FX):Prop:=∃ t,tF C.X Aa t/\∀ G H σ ς W R,StR C G H σ ς->(T ς).post (FD C G W R) (λ_=>False)->t W σ H R
def K4(C:Dc)(st:Stmt)(T:SD->Out FX):Prop:=∃ t,EB C.X st t/\∀ G H σ ς W R,StR C G H σ ς->(T ς).post (FD C G W R) (λ_=>False)->t W σ H R
inductive EX where
 | v (d:D) | ex (c:Str) (fs:List (Str×V))
def FE(C:Dc)(G H:Hp)(σ:St)(ς:SD)(Q:VK)(R:XK):EX->Prop
 | .v d=>KD C G H σ ς Q d
 | .ex c fs=>∃ Cc,C.CT c=some Cc/\∀ H1 G1 dx,StR C G1 H1 σ ς->Same H H1->Same G G1->PayOk G1 dx fs->R (.ref Cc) dx H1
def DX(C:Dc)(e:Expr)(T:SD->Out EX):Prop:=∃ t,PX C.X e t/\∀ G H σ ς Q R,StR C G H σ ς->(T ς).post (FE C G H σ ς Q R) (λ_=>False)->t σ H Q R
def xy:Out D->Out EX
 | .ok d=>.ok (.v d)
 | .exc (.err c fs)=>.ok (.ex c fs)
 | _=>.stuck
section
variable {k:Nat} {fr:Bool} {dd:List D}
def i8(m:List D->Out D)(A:SD->Out (List D)):SD->Out EX:=λς=>A ς>>=λxs=>xy (m xs)
theorem FF(h:tV C.X.prog C.X.w C.X.K C.X.mg C.X.base C.CT x k fr dd m)(hr:Room k C.X.A)(ha:DA C.nox (e::es) A)(hg:Gl C.X x)(hs:dd.all D.scal=true:=by rfl)
 (ij:(x == ("__debug__":Str))=false:=by decide) (he:starEach (e::es) C.X.env=(false,eval e C.X.env)::starEach es C.X.env:=by rfl) (fc:(backTo pos (starEach es C.X.env)).any (·.1)=false:=by rfl):
 DX C (.Call (.Name x p) (e::es) [] pos) (i8 (λxs=>m (xs++dd)) A):=by
 obtain⟨f,fd,ps,ds,F,hm,hk,hb,hd⟩:=h
 obtain⟨t,p1,q1⟩:=ha
 refine⟨_,P8 F hr hg hm hk hb hd p1 ij he fc,λG H σ ς Q R S q=>?_⟩
 unfold i8 at q
 rw[dR]at q
 refine q1 G H σ ς _ S.nox (dS q λxs kk vs H1 G1 S1' a1 b1 r1=>?_)
 have S1:=S1'.unnox
 refine⟨xs++dd,G1,S1.sub,r1.append (AS hs),?_⟩
 have kk:(xy (m (xs++dd))).post (FE C G H σ ς Q R) (λ_=>False):=kk
 cases z:m (xs++dd) with
 | stuck=>rw[z]at kk;exact kk.elim
 | exc y=>
  rw[z]at kk
  cases y with
  | err c fs=>
   obtain⟨Cc,e1,e2⟩:=(show FE C G H σ ς Q R (.ex c fs) from kk)
   refine⟨c,fs,Cc,rfl,e1,λH' dx s' n=>?_⟩
   have Sg:=S1.grow s' (dC _) (S1.sub.trans s') λb g n=>absurd g n
   rcases n with n | ⟨b,rfl,h0,ho⟩
   ·exact e2 H' G1 dx Sg (a1.trans s') b1 (.inl n)
   ·have jE:=S1.sub.free h0
    have S2:=Sg.freeze ho jE (S1.h0none h0) (λi d' z1 z2=>by
     obtain⟨o',jA⟩:=S1.own_ne z1 z2
     rw[h0]at jA;cases jA)
    exact e2 H' _ (some b) S2 (a1.trans s') (b1.trans (Qv jE)) (.inr ⟨b,rfl,QC⟩)
  | _=>exact kk.elim
 | ok d=>
  rw[z]at kk
  have kk:=kk
  intro v H' G' g1 h1 s1 n1 ret
  unfold gD at ret
  by_cases hc:(fr && !d.scal)=true
  ·rw[aA hc]at ret
   obtain⟨pp,rfl,h0,jE,ow⟩:=ret
   obtain⟨o,ho⟩:=ow.there
   have S2:=(S1.grow h1 g1 s1 n1).freeze ho jE (S1.h0none h0) (λi d' z1 z2=>by
    obtain⟨o',jA⟩:=S1.own_ne z1 z2
    rw[h0]at jA;cases jA)
   exact kk _ _ _ S2 (a1.trans h1) ((b1.trans g1).trans (Qv jE)) (ow.known jE ho)
  ·rw[aB hc]at ret
   exact kk v H' G' (S1.grow h1 g1 s1 n1) (a1.trans h1) (b1.trans g1) ret
variable{T U:SD->Out FX}{TE:SD->Out EX}{st:Stmt}{Aa eY:List Stmt}{i:Nat}{px:Pos}
def jm(i:Nat)(E:SD->Out EX):SD->Out FX:=λς=>E ς>>=λr=>match r with | .v d=>.ok (.fl (.nx (ς.set i (some (.k,d))))) | .ex c fs=>.ok (.ex c fs ς)
theorem Rw(hN:C.X.N.Nodup)(hi:C.X.N[i]?=some x)(hx:mI C.X.env.scope x)(h:DX C e TE)(hs:swapsWith e (some (.Name x px)) pos.line C.X.env=pure false:=by rfl)
 (hf:C.X.fn x=true∨C.X.env.scope.names.lookup x=some .local:=by fail"V2"):K4 C (.Assign [.Name x px] e pos) (jm i TE):=by
 obtain⟨t,p1,q1⟩:=h
 refine⟨_,P9 hN hi hx p1 hs hf,λG H σ ς W R S q=>?_⟩
 unfold jm at q
 rw[dR]at q
 refine q1 G H σ ς _ _ S (dS q λr kr=>?_)
 cases r with
 | v d=>exact λv H' G' S' a b rv=>(show FlK C G W (.nx (ς.set i (some (.k,d)))) from kr) _ H' G' (S'.set i rv) b
 | ex c fs=>
  obtain⟨Cc,e1,e2⟩:=(show FD C G W R (.ex c fs ς) from kr)
  exact⟨Cc,e1,λH1 G1 dx S1 a b n=>e2 σ H1 G1 dx S1 b n⟩
theorem Rx(h:K4 C st T):xx C [st] T:=let ⟨t,p,q⟩:=h;⟨t,PB p,q⟩
abbrev Dc.marked(C:Dc)(ea:Addr):Dc:={ C with X:=C.X.marked ea,XD:=λ_=>False }
theorem GH.mark(S:GH C G H):GH (C.marked ea) G H:=⟨S.sub,S.g0,S.new,S.fr,S.dom,S.bs,S.bh⟩
theorem GH.unmark(S:GH (C.marked ea) G H):GH C G H:=⟨S.sub,S.g0,S.new,S.fr,S.dom,S.bs,S.bh⟩
theorem StR.mark(S:StR C G H σ ς):StR (C.marked ea) G H σ ς:=⟨S.toGH.mark,S.len,S.fz,S.ow,S.ln,S.inj,S.sf,S.su⟩
theorem StR.unmark(S:StR (C.marked ea) G H σ ς):StR C G H σ ς:=⟨S.toGH.unmark,S.len,S.fz,S.ow,S.ln,S.inj,S.sf,S.su⟩
end
end DL
namespace L2
open PySem PySem.Spec PyProof.Rows
end L2
namespace DL
open PySem PySem.Spec PyProof.Rows L2
end DL
namespace L2
open PySem PySem.Spec PyProof.Rows
def Ab(K:PySem.W.Frag)(a b:Addr):It:=
 ⟨λi H=>∃ xs ys x y,SqL K H a xs/\SqL K H b ys/\xs[i]?=some x/\ys[i]?=some y,
  λi H v H'=>∃ p x y,H p=none/\v=.ref p/\H'=eT H p (.tup [x,y])/\(∀ xs,SqL K H a xs->xs[i]?=some x)/\∀ ys,SqL K H b ys->ys[i]?=some y,
  λi H=>∃ xs ys,SqL K H a xs/\SqL K H b ys/\(xs.length<=i∨ys.length<=i)⟩
theorem Ry{K:PySem.W.Frag}{z TI TO i1 i2 l1 l2:Addr}(D:ZipApart z TI TO i1 i2 l1 l2):
 lp P w K (.Tuple elts k1 pos) (Ab K l1 l2) [z,TI,TO,i1,i2] z (λi h=>IsZip h z TI TO .none/\IsPair h TI (.ref i1) (.ref i2)/\(∃ a b,IsPair h TO a b)/\h.IsListIter i1 l1 i/\h.IsListIter i2 l2 i) where
 mem:=by simp
 obj:=λi h st b hb=>by
  obtain⟨s1,s2,⟨_,_,s3⟩,⟨o4,e4,c4,d4⟩,⟨o5,e5,c5,d5⟩⟩:=st
  simp only[aL,b9,cB]at hb
  rcases hb with rfl | rfl | rfl | rfl | rfl
  ·exact⟨_,s1,λv q=>by cases q⟩
  ·exact⟨_,s2,λv q=>by cases q⟩
  ·exact⟨_,s3,λv q=>by cases q⟩
  ·exact⟨_,e4,λv q=>by rw[d4]at q;cases q⟩
  ·exact⟨_,e5,λv q=>by rw[d5]at q;cases q⟩
 keep:=λi h h' st k=>by
  obtain⟨s1,s2,⟨a,b,s3⟩,s4,s5⟩:=st
  exact⟨k z (by simp) _ s1,k TI (by simp) _ s2,⟨a,b,k TO (by simp) _ s3⟩,s4.at λo e=>k i1 (by simp) o e,s5.at λo e=>k i2 (by simp) o e⟩
 item:=by
  intro X hP hw hK hc i pins s σ H E I hf st hg
  subst hP hw hK
  obtain⟨xs,ys,x,y,q1,q2,hx,hy⟩:=hg
  obtain⟨oK,rv1,p1,hz1⟩:=I.list q1
  obtain⟨its2,rv2,p2,tQ⟩:=I.list q2
  obtain⟨u1,hu1,ru1⟩:=rv1.get hx
  obtain⟨u2,hu2,ru2⟩:=rv2.get hy
  obtain⟨s1,s2,⟨a,b,s3⟩,s4,s5⟩:=st
  refine wpAny_pyNext_zip_item D s1 s2 s3 s4 s5 p1.isList p2.isList (by simpa using hu1) (by simpa using hu2) λh' a1 a2 a3 a4 a5 a6 hk=>?_
  have hT:=I.hok.fresh (aJ _)
  have fp:∀ c∈[z,TO,i1,i2],jB X pins H c:=λc hc=>hf c (by
   simp only[aL,b9,cB]at hc ⊢
   rcases hc with rfl | rfl | rfl | rfl<;>simp)
  have out:∀ c,c∉[z,TO,i1,i2]->∀ o,s.heap.get? c=some o->h'.get? c=some o:=λc hc o e=>hk c o (λq=>hc (by simp[q])) (λq=>hc (by simp[q])) (λq=>hc (by simp[q])) (λq=>hc (by simp[q])) e
  have lX:∀ c o,H c=some o->c∉[z,TO,i1,i2]:=λc o e hc=>by rw[(fp c hc).1]at e;cases e
  have hok:HOk X.prog X.w (eT H s.heap.objs.size (.tup [x,y])) h':=λc o e=>by
   by_cases hcT:c=s.heap.objs.size
   ·subst hcT
    rw[QC]at e
    cases e
    exact⟨by show 2<=sizeLine;decide,[u1,u2],.cons ru1 (.cons ru2 .nil),⟨_,a5,rfl,_,rfl⟩⟩
   ·rw[Qk hcT]at e
    refine(I.hok c o e).stay (λb u hb q=>out b ?_ u q) (λb q=>?_) λb ts q=>?_
    ·rcases hb with rfl | hb
     ·exact lX b _ e
     ·exact lX b _ hb
    ·rw[Qk (QF q hT)];exact q
    ·rw[Qk (QF q hT)];exact q
  have I1:Inv X pins σ (eT H s.heap.objs.size (.tup [x,y])) { s with heap:=h',gens:=s.gens,drawn:=s.drawn,toks:=s.toks }:=I.step
   (λc hc=>⟨(fp c hc).2.2.2.1,(fp c hc).2.1,(fp c hc).2.2.2.2.1,(fp c hc).2.2.2.2.2⟩) (λc o _ _ hc e _=>out c hc o e) (λc o _ _ hc e _=>⟨o.slots,out c hc o e⟩)
   (λc o hc e n=>by rw[Qk (ai (aS e))];exact n) (λc o hc e=>⟨o,out c hc o e⟩)
   (λc ts e=>by rw[Qk (QF e hT)];exact e) (λc o u e=>by rw[Qk (QF e hT)];exact e) (λc ts e=>⟨#[],by rw[Qk (QF e hT),e];simp⟩)
   (λm hm=>by
    obtain⟨o,es,ep,ho,r⟩:=hm
    exact⟨o,es,ep,out _ (λhc=>(fp _ hc).2.1 rfl) o ho,r⟩) hok I.bare
  have lt:∀{c o},s.heap.get? c=some o->s.heap.objs.size≠c:=λe=>cm (aS e)
  refine⟨_,rfl,wpAny_letOwnedTupleGo_zip a1 λh2 tQ hs2=>?_⟩
  obtain⟨z0,z1,z2,z3,z4,z5⟩:=hf z (by simp)
  have I2:=Inv.turned (t':=s.toks) I1 (λb o hb e=>(hs2.2 b hb).trans e) (by rw[Qk (lt s1).symm];exact z0) z1 z3 z4 z5
  refine⟨.ref s.heap.objs.size,_,I2,rfl,⟨_,x,y,hT,rfl,rfl,λFG q'=>by rw[I.list_inj q' q1];exact hx,λys' q'=>by rw[I.list_inj q' q2];exact hy⟩,
   ⟨tQ,hs2.extBut _ _ D.TIz (out TI (by simp[D.TIz,D.TITO,D.TIi1,D.TIi2]) _ s2),⟨_,_,hs2.extBut _ _ D.TOz a2⟩,a3.extBut hs2.extBut D.i1z,a4.extBut hs2.extBut D.i2z⟩,λc hc=>?_⟩
  have:=(hf c hc).1
  obtain⟨oc,hoc⟩:∃ o,s.heap.get? c=some o:=by
   simp only[aL,b9,cB]at hc
   rcases hc with rfl | rfl | rfl | rfl | rfl
   ·exact⟨_,s1⟩
   ·exact⟨_,s2⟩
   ·exact⟨_,s3⟩
   ·obtain⟨o,e,_⟩:=s4;exact⟨o,e⟩
   ·obtain⟨o,e,_⟩:=s5;exact⟨o,e⟩
  rw[Qk (lt hoc).symm];exact this
 done:=by
  intro X hP hw hK hc i pins s σ H E I hf st hg
  subst hP hw hK
  obtain⟨xs,ys,q1,q2,hend⟩:=hg
  obtain⟨oK,rv1,p1,hz1⟩:=I.list q1
  obtain⟨its2,rv2,p2,tQ⟩:=I.list q2
  have l1:=rv1.length
  have l2:=rv2.length
  obtain⟨s1,s2,⟨a,b,s3⟩,s4,s5⟩:=st
  have fp:∀ c∈[z,TO,i1,i2],jB X pins H c:=λc hc=>hf c (by
   simp only[aL,b9,cB]at hc ⊢
   rcases hc with rfl | rfl | rfl | rfl<;>simp)
  refine wpAny_pyNext_zip_end (I.ok.hd hc) D s1 s2 s3 s4 s5 p1.isList p2.isList (by simp;lia) λh' hk=>⟨rfl,?_⟩
  have out:∀ c,c∉[z,TO,i1,i2]->∀ o,s.heap.get? c=some o->h'.get? c=some o:=λc hc o e=>hk c o (λq=>hc (by simp[q])) (λq=>hc (by simp[q])) (λq=>hc (by simp[q])) (λq=>hc (by simp[q])) e
  have lX:∀ c o,H c=some o->c∉[z,TO,i1,i2]:=λc o e hc=>by rw[(fp c hc).1]at e;cases e
  exact I.step (λc hc=>⟨(fp c hc).2.2.2.1,(fp c hc).2.1,(fp c hc).2.2.2.2.1,(fp c hc).2.2.2.2.2⟩) (λc o _ _ hc e _=>out c hc o e) (λc o _ _ hc e _=>⟨o.slots,out c hc o e⟩)
   (λc o hc e n=>n) (λc o hc e=>⟨o,out c hc o e⟩) (λc ts e=>e) (λc o u e=>e) (λc ts e=>⟨#[],by rw[e];simp⟩)
   (λm hm=>by
    obtain⟨o,es,ep,ho,r⟩:=hm
    exact⟨o,es,ep,out _ (λhc=>(fp _ hc).2.1 rfl) o ho,r⟩)
   (λc o e=>(I.hok c o e).stay (λb u hb q=>out b (by
    rcases hb with rfl | hb
    ·exact lX b _ e
    ·exact lX b _ hb) u q) (λb q=>q) λb ts q=>q) I.bare
 self:=λ_ _ _ _ _ st h=>wpAny_pyIter_zip st.1 h
theorem S5(n l1 l2:Nat)(h1:l1<n)(h2:l2<n):ZipApart (n+4) (n+2) (n+3) n (n+1) l1 l2:=⟨(by lia),(by lia),(by lia),(by lia),(by lia),(by lia),(by lia),(by lia),(by lia),(by lia),(by lia),(by lia),(by lia),(by lia),(by lia),(by lia),(by lia),(by lia)⟩
def FH(K:PySem.W.Frag)(ta:TA):TI:=λσ H R=>ta σ H λvs H1=>∃ a b,vs=[.ref a,.ref b]/\(∃ xs,SqL K H1 a xs)/\(∃ ys,SqL K H1 b ys)/\R (Ab K a b) H1
theorem S6{kg:Pos}{p pos:Pos}(hg:Gl X "zip")(hm:X.mg "zip"=none)(ha:PA X [a,b] ta)(hs:starEach [a,b] X.env=[(false,eval a X.env),(false,eval b X.env)]:=by rfl)(hs2:starEach [b] X.env=[(false,eval b X.env)]:=by rfl):
 PI X (.Tuple elts k1 kg) (.Call (.Name "zip" p) [a,b] [] pos) (FH X.K ta):=by
 intro pins s σ H R I h
 refine Call_ (pB I hg hm PyProof.Rows.Boot.«zip» (bE (ef (ha pos pins s σ H _ I h) λus s1 dm=>?_) (by rw[hs,hs2]) (by rw[hs2];rfl)))
 obtain⟨vs,H1,I1,r1,q1⟩:=dm
 obtain⟨l1,l2,e,⟨xs,hx⟩,⟨ys,hy⟩,q⟩:=q1
 subst e
 cases r1 with
 | cons r rr=>
  cases rr with
  | cons r' rr=>
   cases rr
   cases r
   cases r'
   obtain⟨oK,rv1,p1,hz1⟩:=I1.list hx
   obtain⟨its2,rv2,p2,tQ⟩:=I1.list hy
   have n1:l1<s1.heap.objs.size:=by obtain⟨o,n,ho,_⟩:=p1;exact aS ho
   have n2:l2<s1.heap.objs.size:=by obtain⟨o,n,ho,_⟩:=p2;exact aS ho
   refine call_zip_2 p1.isList p2.isList λh' c1 c2 c3 c4 c5 c6 hk=>?_
   refine wpAny_pyIter_zip c1 ?_
   refine⟨_,_,_,Ab X.K l1 l2,H1,rfl,I1.kept λb o e=>hk b o e,Ry
    (S5 s1.heap.objs.size l1 l2 n1 n2),⟨c1,c2,⟨_,_,c3⟩,c4,c5⟩,λb hb=>?_,q⟩
   have uh:s1.heap.objs.size<=b:=by
    simp only[aL,b9,cB]at hb
    rcases hb with rfl | rfl | rfl | rfl | rfl<;>lia
   exact I1.fpOk uh (I1.hok.fresh uh)
end L2
namespace DL
open PySem PySem.Spec PyProof.Rows L2
def Ad(A B:SD->Out D):SD->Out (List D):=λς=>A ς>>=λx=>B ς>>=λy=>match x,y with
 | .lst xs,.lst ys=>.ok (List.zipWith (λa b=>.tup [a,b]) xs ys)
 | _,_=>.stuck
theorem S7{K:PySem.W.Frag}(h1:SqL K G1 p us)(r1:RepL K CT G1 xs us)(h2:SqL K G1 q vs)(r2:RepL K CT G1 ys vs):DIt K CT G1 (Ab K p q) (List.zipWith (λa b=>D.tup [a,b]) xs ys) where
 go:=λG H i d s1 sH hd=>by
  rw[List.getElem?_zipWith]at hd
  cases e1:xs[i]? with
  | none=>rw[e1]at hd;cases hd
  | some x=>
   cases e2:ys[i]? with
   | none=>rw[e1,e2]at hd;cases hd
   | some y=>
    rw[e1,e2]at hd
    cases hd
    obtain⟨u,hu,ru⟩:=r1.get e1
    obtain⟨v,hv,rv⟩:=r2.get e2
    have q1:=sH.seq (s1.seq h1)
    have q2:=sH.seq (s1.seq h2)
    refine⟨⟨us,vs,u,v,q1,q2,hu,hv⟩,λw H' dm=>?_⟩
    obtain⟨t,x',y',n,e,e',k1,k2⟩:=dm
    have z1:=k1 us q1
    have z2:=k2 vs q2
    rw[hu]at z1;cases z1
    rw[hv]at z2;cases z2
    subst e e'
    have gn:=sH.free n
    refine⟨eT G t (.tup [u,v]),Qv gn,Qv n,EV sH,λb g g'=>?_,t,[u,v],rfl,SqT.of QC,⟨u,_,rfl,dD (s1.trans (Qv gn)) x u ru,v,_,rfl,dD (s1.trans (Qv gn)) y v rv,rfl⟩⟩
    by_cases hb:b=t
    ·subst hb;exact n
    ·rw[Qk hb]at g';exact absurd g g'
 stop:=λG H s1 sH=>by
  refine⟨us,vs,sH.seq (s1.seq h1),sH.seq (s1.seq h2),?_⟩
  have l1:=r1.length
  have l2:=r2.length
  rw[List.length_zipWith]
  lia
theorem S8(xo:Gl C.X "zip")(hm:C.X.mg "zip"=none)(ha:DE C a A)(hb:DE C b B)
 (gH:starEach [a,b] C.X.env=(false,eval a C.X.env)::starEach [b] C.X.env:=by rfl) (tW:starEach [b] C.X.env=(false,eval b C.X.env)::starEach [] C.X.env:=by rfl):DI C (.Tuple elts k1 kg) (.Call (.Name "zip" p) [a,b] [] pos) (Ad A B):=by
 obtain⟨t0,p0,q0⟩:=ha
 obtain⟨t3,p3,q3⟩:=hb
 refine⟨_,S6 xo hm (l5 p0 (l5 p3 n9 tW) gH) (by rw[gH,tW];rfl) (by rw[tW];rfl),λG H σ ς R S k=>?_⟩
 unfold Ad at k
 rw[dR]at k
 refine q0 G H σ ς _ S (dS k λd k v H1 G1 S1 a1 b1 r=>?_)
 rw[dR]at k
 refine q3 G1 H1 σ ς _ S1 (dS k λd2 k v2 H2 G2 S2 a2 b2 r'=>?_)
 cases d with
 | lst xs=>
  cases d2 with
  | lst ys=>
   obtain⟨p1,us,rfl,h1,r1⟩:=dD b2 _ v r
   obtain⟨p2,vs,rfl,h2,r2⟩:=r'
   exact⟨p1,p2,rfl,⟨us,S2.sub.seq h1⟩,⟨vs,S2.sub.seq h2⟩,k _ H2 G2 S2 (a1.trans a2) (b1.trans b2) (S7 h1 r1 h2 r2)⟩
  | _=>exact k.elim
 | _=>exact k.elim
noncomputable def lG(f:Str)(d:D):List (Str×D)->List (Str×D)
 | []=>[(f,d)]
 | (g,x)::r=>if g=f then(g,d)::r else(g,x)::lG f d r
section
variable{K:PySem.W.Frag}
theorem RepF.look:∀{fds:List (Str×D)}{fs:List (Str×V)}{f:Str},RepF K CT H fds fs->(∀ d,fds.lookup f=some d->∃ v,fs.lookup f=some v/\Rep K CT H d v)/\(fds.lookup f=none->fs.lookup f=none)
 | [],_,f,h=>by cases h;exact⟨λd z=>(by cases z),λ_=>rfl⟩
 | (k,d)::fds,_,f,dm=>by
  obtain⟨v,r,h1,h2,h3⟩:=dm
  subst h1
  have ih:=RepF.look (f:=f) h3
  rw[aK,aK]
  cases f == k with
  | true=>exact⟨λd' z=>by cases z;exact⟨v,rfl,h2⟩,λz=>by cases z⟩
  | false=>exact ih
theorem RepF.len:∀{fds:List (Str×D)}{fs:List (Str×V)},RepF K CT H fds fs->fds.length=fs.length
 | [],_,h=>by cases h;rfl
 | (k,d)::fds,_,dm=>by obtain⟨v,r,h1,h2,h3⟩:=dm;subst h1;rw[aZ,aZ,RepF.len h3]
theorem RepF.put(q:Rep K CT H d v):∀{fds:List (Str×D)}{fs:List (Str×V)},RepF K CT H fds fs->RepF K CT H (lG f d fds) (i6 f v fs)
 | [],_,h=>by cases h;exact⟨v,[],rfl,q,rfl⟩
 | (k,x)::fds,_,dm=>by
  obtain⟨u,r,h1,h2,h3⟩:=dm
  subst h1
  unfold lG i6
  by_cases hk:k=f
  ·rw[aA hk,aA hk];exact⟨v,r,rfl,q,h3⟩
  ·rw[aB hk,aB hk];exact⟨u,_,rfl,h2,RepF.put q h3⟩
end
def f6(K:PySem.W.Frag)(CT:eU)(cs:List Str)(f:Str):Prop:=∀ c,cs.contains c=true->∀ A,CT c=some A->Cls K A/\Qf9 K A f
def jF(cs:List Str)(f:Str):D->Out D
 | .ins c fs=>if cs.contains c=true then gq (fs.lookup f) else .stuck
 | _=>.stuck
theorem pQ(hF:f6 C.X.K C.CT cs f)(h:DE C e E)(hb:attributeBase e f C.X.env (eval e C.X.env)=eval e C.X.env:=by rfl):DE C (.Attribute e f pos) (e1 (jF cs f) E):=by
 obtain⟨t,p,q⟩:=h
 refine⟨_,Ny p hb,λG H σ ς Q S k=>?_⟩
 unfold e1 at k
 rw[dR]at k
 refine q G H σ ς _ S (dS k λd k v H1 G1 S1 a1 b1 r=>?_)
 cases d with
 | ins c fds=>
  rcases QA k with⟨hc,k⟩ | ⟨_,k⟩
  ·obtain⟨d,j9,kd⟩:=oE k
   obtain⟨a,A,dx,fs,rfl,h1,h2,h3⟩:=r
   obtain⟨v,lH,rv⟩:=(RepF.look h3).1 d j9
   obtain⟨cl,na⟩:=hF c hc A h1
   exact⟨a,A,dx,fs,v,rfl,S1.sub _ _ h2,cl,na,lH,dH (dJ kd a1 b1) S1 rv⟩
  ·exact k.elim
 | _=>exact k.elim
theorem StR.writeS(S:StR C G H σ ς)(hi:ς[i]?=some (some (.s,.ins c fds)))(hp:σ[i]?=some (some (.ref p)))(hc:C.CT c=some A)(r:RepF C.X.K C.CT G jn kz):
 StR C G (eT H p (.ins A dx kz)) σ (ς.set i (some (.s,.ins c jn))):=by
 obtain⟨p',e1,hg,h0,⟨hM,hW⟩,hB,ow⟩:=S.sf i _ hi
 rw[hp]at e1;cases e1
 have ne:∀ b o,G b=some o->b≠p:=λb o e z=>by subst z;rw[hg]at e;cases e
 have S':StR C G (eT H p (.ins A dx kz)) (σ.set i (some (.ref p))) (ς.set i (some (.s,.ins c jn))):={
  sub:=λb o e=>by rw[Qk (ne b o e)];exact S.sub b o e
  g0:=S.g0
  new:=S.new
  fr:=λb o e m=>by
   rw[Qk (by rintro rfl;exact m hM)];exact S.fr b o e m
  dom:=λb e=>by
   by_cases hb:b=p
   ·subst hb;rw[QC]at e;cases e
   ·rw[Qk hb]at e;exact S.dom b e
  bs:=λb o e=>by
   rw[Qk (by rintro rfl;rw[hB]at e;cases e)];exact S.bs b o e
  bh:=S.bh
  len:=by rw[aw,aw];exact S.len
  fz:=λj d h=>by
   rcases QD h with⟨rfl,h2,l⟩ | ⟨fT,h2⟩
   ·cases h2
   ·rw[Qs fT];exact S.fz j d h2
  ow:=λj d h=>by
   rcases QD h with⟨rfl,h2,l⟩ | ⟨fT,h2⟩
   ·cases h2
   ·rw[Qs fT]
    obtain⟨q,a,b,c',w⟩:=S.ow j d h2
    have qp:q≠p:=by
     rintro rfl
     exact h0 c'
    exact⟨q,a,b,c',w.mono (dC G) λo z=>by rw[Qk qp];exact z⟩
  ln:=λj d h=>by
   rcases QD h with⟨rfl,h2,l⟩ | ⟨fT,h2⟩
   ·cases h2
   ·rw[Qs fT];exact S.ln j d h2
  inj:=λj k d1 d2 q kJ h1 h2 h3=>by
   rcases QD h1 with⟨rfl,q1,l⟩ | ⟨n1,q1⟩
   ·cases q1
   ·rcases QD h2 with⟨rfl,q2,l⟩ | ⟨n2,q2⟩
    ·cases q2
    ·rw[Qs n1]at h3
     rw[Qs n2]
     exact S.inj j k d1 d2 q kJ q1 q2 h3
  sf:=λj d h=>by
   rcases QD h with⟨rfl,h2,l⟩ | ⟨fT,h2⟩
   ·cases h2
    exact⟨p,rM (by rw[S.len];exact l),hg,h0,⟨hM,hW⟩,hB,⟨A,dx,kz,hc,QC,r⟩⟩
   ·rw[Qs fT]
    obtain⟨q,a,b,c2,m,z,w⟩:=S.sf j d h2
    have qp:q≠p:=by
     rintro rfl
     exact S.su i j _ _ q fT hi h2 hp a
    exact⟨q,a,b,c2,m,z,w.mono (dC G) λo z=>by rw[Qk qp];exact z⟩
  su:=λj k d1 d2 q kJ h1 h2 h3=>by
   have get:∀(j:Nat) d,(ς.set i (some (.s,D.ins c jn)))[j]?=some (some (.s,d))->∃ d',ς[j]?=some (some (.s,d')):=λj d h=>by
    rcases QD h with⟨rfl,h2,l⟩ | ⟨fT,h2⟩
    ·exact⟨_,hi⟩
    ·exact⟨_,h2⟩
   obtain⟨xl,g1⟩:=get j d1 h1
   obtain⟨xm,g2⟩:=get k d2 h2
   rw[ug hp]at h3 ⊢
   exact S.su j k xl xm q kJ g1 g2 h3 }
 rw[ug hp]at S'
 exact S'
def fO(cs:List Str)(f:Str)(i:Nat)(E:SD->Out D):SD->Out Fl:=λς=>E ς>>=λd=>match ς[i]? with
 | some (some (.s,.ins c fds))=>if (cs.contains c&&decide (fds.length<1000))=true then .ok (.nx (ς.set i (some (.s,.ins c (lG f d fds))))) else .stuck
 | _=>.stuck
theorem rT(i:Nat)(hF:f6 C.X.K C.CT cs f)(h:DE C e E)(hN:C.X.N[i]?=some x:=by rfl)(hv:ll C.X.env.scope x:=by fail"V1")
 (hd:(x == ("__debug__":Str))=false:=by decide) (gR:(x == ("__classdict__":Str))=false:=by decide)
 (hs:swapsWith e (some (.Attribute (.Name x px) f pa)) pos.line C.X.env=pure false:=by rfl):DS C (.Assign [.Attribute (.Name x px) f pa] e pos) (fO cs f i E):=by
 obtain⟨t,p,q⟩:=h
 refine⟨_,Nz (n8 hN hv hd gR) p hs,λG H σ ς W S k=>?_⟩
 unfold fO at k
 rw[dR]at k
 refine q G H σ ς _ S (dS k λd k v H1 G1 S1 a1 b1 r=>?_)
 split at k
 ·rename_i c fds z
  rcases QA k with⟨hc,k⟩ | ⟨_,k⟩
  ·rw[aO]at hc
   obtain⟨pp,j9,hg,h0,hM,hB,A,dx,fs,hA,hH,rf⟩:=S1.sf i _ z
   obtain⟨cl,na⟩:=hF c hc.1 A hA
   refine⟨_,j9,pp,A,dx,fs,rfl,hH,cl,na,by rw[← rf.len];exact aN hc.2,?_⟩
   exact(k) σ _ G1 (S1.writeS z j9 hA (rf.put r)) b1
  ·exact k.elim
 ·exact k.elim
end DL
namespace L2
open PySem PySem.Spec PyProof.Rows
def tX(X:Cx)(CX:lq)(k:Nat)(m:Str)(ic:List V)(cs:Addr->Sp->Prop):Prop:=
 ∀ C sp,cs C sp->Cls X.K C/\∃ f fd ps ds,t7 X.K C m f/\FnOk X.prog X.w X.K X.mg X.base CX k f fd ps sp/\Binds X.K fd ps ds/\Vals ic ds
def K5(m:Str)(ic:List V)(cs:Addr->Sp->Prop)(E:XK)(ta:TE)(t:TA):TE:=λσ H Q=>ta σ H λx H1=>∃ a C dx fs sp,x=.ref a/\H1 a=some (.ins C dx fs)/\cs C sp/\fs.lookup m=none/\t σ H1 λvs H2=>sp (x::(vs++ic)) H2 Q E
theorem K6(he:PE X o ta)(tab:tX X CX k m ic cs)(hr:Room k X.A)(hx:pv CX X E)(ha:PA X (e::es) t)
 (gH:starEach (e::es) X.env=(false,eval e X.env)::starEach es X.env:=by rfl) (fc:(backTo pos (starEach es X.env)).any (·.1)=false:=by rfl)
 (ht:eval (.Call (.Attribute o m apos) (e::es) [] pos) X.env=(do
  let ov ← eval o X.env
  standAt apos.atName
  let (f,first) ← holding [ov] (getMethod ov m pl)
  callWith pos f first (backTo pos (starEach (e::es) X.env)) (backToKw pos (keywordEach [] X.env))):=by rfl):
 PE X (.Call (.Attribute o m apos) (e::es) [] pos) (K5 m ic cs E ta t):=by
 intro pins s σ H Q I h
 refine PySem.W.methodCall_KW (ef (he pins s σ H _ I h) λu s1 dm=>?_) ht
 obtain⟨x,H1,I1,rx,a,C,dx,fs,sp,ex,ea,hc,l,q⟩:=dm
 subst ex
 obtain rfl:=rx
 obtain⟨c,f,fd,ps,ds,hm,F,hb,hd⟩:=tab C sp hc
 refine Iy I1 ea c hm l ?_
 refine PySem.W.callWith_K I.ok.mod.kin hm.kp (ef (ha pos pins s1 σ H1 _ I1 q) λus s2 ⟨vs,H2,I2,r,q2⟩=>⟨I2.kIn,?_⟩) gH fc
 exact Dl (vs:=.ref a::vs) F hr hb hd hx I2 (.cons rfl r) q2
theorem S9(he:PE X o ta)(tab:tX X CX k m ic cs)(hr:Room k X.A)(hx:pv CX X E)
 (ht:eval (.Call (.Attribute o m apos) [] [] pos) X.env=(do
  let ov ← eval o X.env
  standAt apos.atName
  let (f,first) ← holding [ov] (getMethod ov m pl)
  callWith pos f first (backTo pos (starEach [] X.env)) (backToKw pos (keywordEach [] X.env))):=by rfl):
 PE X (.Call (.Attribute o m apos) [] [] pos) (K5 m ic cs E ta wL):=by
 intro pins s σ H Q I h
 refine PySem.W.methodCall_KW (ef (he pins s σ H _ I h) λu s1 dm=>?_) ht
 obtain⟨x,H1,I1,rx,a,C,dx,fs,sp,ex,ea,hc,l,q⟩:=dm
 subst ex
 obtain rfl:=rx
 obtain⟨c,f,fd,ps,ds,hm,F,hb,hd⟩:=tab C sp hc
 refine Iy I1 ea c hm l ?_
 exact PySem.W.callWith_K0 I1.kIn hm.kp (Dl (vs:=[.ref a]) F hr hb hd hx I1 (.cons rfl .nil) q)
end L2
namespace DL
open PySem PySem.Spec PyProof.Rows L2
def rV(CT:eU)(E:XK)(H:Hp)(p:Addr):D->Prop:=λd=>∃ c fs C,d=.err c fs/\CT c=some C/\∀ H' dx,(∀ b o,H b=some o->b≠p->H' b=some o)->PayN H H' dx fs->E (.ref C) dx H'
def kB(K:PySem.W.Frag)(CT:eU)(m:Str->List (Str×D)->List D->Out (List (Str×D))):Sp:=λvs H Q E=>∃ p c A dx fs fds rO ds G0,vs=.ref p::rO/\CT c=some A/\H p=some (.ins A dx fs)/\G0 p=none/\Same G0 H/\RepF K CT G0 fds fs/\RepL K CT G0 ds rO/\
 (m c fds ds).post (λjn=>∀ H' G' kz rW,Same G0 G'->(∀ b o,H b=some o->b≠p->H' b=some o)->Same G' H'->(∀ b,G0 b=none->G' b≠none->H b=none)->H' p=some (.ins A rW kz)->RepF K CT G' jn kz->Q .non H') (rV CT E H p)
noncomputable def y0(c:Str)(ς:SD):Out (List (Str×D)):=match (ς[0]?:Option (Option (SM×D))) with
 | some (some (SM.s,D.ins c' fds))=>if c'=c then .ok fds else .stuck
 | _=>.stuck
def oM(c:Str):Fl->Out (List (Str×D))
 | .nx ς=>y0 c ς
 | _=>.stuck
def iV(n len:Nat)(T:SD->Out Fl):Str->List (Str×D)->List D->Out (List (Str×D)):=λc fds ds=>
 if ds.length+1=n then T (some (.s,.ins c fds)::(ds.map (λd=>some (.k,d))++List.replicate (len - n) none))>>=oM c else .stuck
abbrev FI(P:Program)(w:World)(K:PySem.W.Frag)(mg:Str->Option Value)(base:Heap)(CT:eU)(N:List Str)(qual:Str)(sc:Scope)(f:Addr)(eE:Value)(A:Around)(outer:List Env)(s:Shared)(H:Hp)(E:XK)(G:Hp)(p:Addr):Dc:=
 { X:=je (i7 P w) P w K mg base N qual sc f eE A outer s H E,CT:=CT,G0:=G,XD:=rV CT E H p,B:=λb=>if b=p then none else H b,M:=λb=>b=p,W:=λ_=>some p }
theorem ui{P:Program}{w:World}{K:PySem.W.Frag}{mg:Str->Option Value}{base:Heap}{CT:eU}{x qual:Str}{st:Stmt}{f:Addr}{fd:FuncData}{dV:Value}{N ps:List Str}{k:Nat}{T:SD->Out Fl}
 (F:FunV K x qual st f fd dV) (S:Qo N ps (Qc st))
 (hb:∀(eE:Value)(A:Around)(outer:List Env)(s:Shared)(H:Hp)(E:XK)(G:Hp)(p:Addr),Room k (A.deeper (envOfC qual (Qc st) s.heap.objs.size f eE))->lY (FI P w K mg base CT N qual (Qc st) f eE A outer s H E G p) (mL st) T):
 FnOk P w K mg base (i7 P w) (k+1) f fd ps (kB K CT (iV ps.length N.length T)):=by
 obtain⟨oc,od,kV,doc,pm,an,eE,ct,lr,rfl,lk,gR⟩:=F.ex
 have len:∀ vs H Q E,kB K CT (iV ps.length N.length T) vs H Q E->vs.length=ps.length:=by
  rintro vs H Q E ⟨p,c,A,dx,fs,fds,rO,ds,G0,e,_,_,_,_,_,r,q⟩
  unfold iV at q
  by_cases hl:ds.length+1=ps.length
  ·rw[e,aZ, ← r.length];exact hl
  ·rw[aB hl]at q;exact q.elim
 refine kG lk gR S len λA outer s H vs Q E hr jC=>?_
 have hlen:=len vs H Q E jC
 obtain⟨p,c,Ac,dx,fs,fds,rO,ds,G0,rfl,nX,hp,hg,sub,rf,r,q⟩:=jC
 obtain⟨t,p1,q1⟩:=hb eE A outer s H E G0 p hr
 have hl:ds.length+1=ps.length:=by rw[r.length];exact hlen
 refine⟨t,p1,?_⟩
 unfold iV at q
 rw[aA hl,dR]at q
 have get:∀(i:Nat) x,(some (SM.s,D.ins c fds)::(ds.map (λd=>some (SM.k,d))++List.replicate (N.length - ps.length) none))[i]?=some (some x)->(i=0/\x=(.s,.ins c fds))∨∃ j d,i=j+1/\ds[j]?=some d/\x=(.k,d):=λi x h=>by
  cases i with
  | zero=>exact .inl ⟨rfl,by simpa using h.symm⟩
  | succ j=>
   rw[bF]at h
   obtain⟨d,e1,e2⟩:=nD h
   exact .inr ⟨j,d,rfl,e1,e2⟩
 have S0:StR (FI P w K mg base CT N qual (Qc st) f eE A outer s H E G0 p) G0 H (L2.start N (.ref p::rO)) (some (.s,.ins c fds)::(ds.map (λd=>some (.k,d))++List.replicate (N.length - ps.length) none)):={
  sub:=sub
  g0:=dC _
  new:=λb h1 h2=>absurd h1 h2
  fr:=λb o e _=>e
  dom:=λb e=>e
  bs:=λb o e=>by
   have e':(if b=p then none else H b)=some o:=e
   by_cases hb:b=p
   ·rw[aA hb]at e';cases e'
   ·rw[aB hb]at e';exact e'
  bh:=λb e=>by
   show(if b=p then none else H b)=none
   by_cases hb:b=p
   ·rw[aA hb]
   ·rw[aB hb];exact e
  len:=by unfold L2.start;simp;have:=r.length;simp at hlen;lia
  fz:=λi d e=>by
   rcases get i _ e with⟨_,z⟩ | ⟨j,d',rfl,e1,z⟩
   ·cases z
   ·cases z
    obtain⟨v,e3,rv⟩:=r.get e1
    exact⟨v,nW (by simpa using e3),rv⟩
  ow:=λi d e=>by
   rcases get i _ e with⟨_,z⟩ | ⟨j,d',rfl,e1,z⟩<;>cases z
  ln:=λi d e=>by
   rcases get i _ e with⟨_,z⟩ | ⟨j,d',rfl,e1,z⟩<;>cases z
  inj:=λi j d e p _ h=>by
   rcases get i _ h with⟨_,z⟩ | ⟨j,d',rfl,e1,z⟩<;>cases z
  sf:=λi d e=>by
   rcases get i _ e with⟨rfl,z⟩ | ⟨j,d',rfl,e1,z⟩
   ·cases z
    exact⟨p,nW rfl,hg,(by show H p≠none;rw[hp];simp),⟨rfl,rfl⟩,aA rfl,⟨Ac,dx,fs,nX,hp,rf⟩⟩
   ·cases z
  su:=λi j d e q y3 h1 h2=>by
   rcases get i _ h1 with⟨rfl,z⟩ | ⟨j,d',rfl,e1,z⟩
   ·rcases get j _ h2 with⟨rfl,z⟩ | ⟨j,d',rfl,e1,z⟩
    ·exact absurd rfl y3
    ·cases z
   ·cases z }
 refine q1 G0 H (L2.start N (.ref p::rO)) _ _ S0 (dS q λfl kk=>?_)
 cases fl with
 | nx ς'=>
  intro σ' H' G' S' s'
  have kk:(y0 c ς').post _ _:=kk
  unfold y0 at kk
  split at kk
  ·rename_i c' jn z
   rcases QA kk with⟨rfl,k2⟩ | ⟨_,k2⟩
   ·obtain⟨p',e1,jE,h0,⟨hM,_⟩,hB,A',rW,kz,Ae,hH',FJ⟩:=S'.sf 0 _ z
    have hM:=hM
    subst hM
    have Ae:CT c'=some A':=Ae
    rw[nX]at Ae
    cases Ae
    exact k2 H' G' kz rW s' (λb o e hb=>S'.fr b o e hb) S'.sub S'.new hH' FJ
   ·exact k2.elim
  ·exact kk.elim
 | bk ς'=>exact kk.elim
 | ct ς'=>exact kk.elim
 | rt b d=>exact kk.elim
theorem Af{K:PySem.W.Frag}:
 Rz (FI P w K mg base CT N qual sc f eE A outer s H E G p) E where
 pass:=rB
 xd:=λd ⟨c,fs,Cc,h1,h2,h3⟩=>⟨c,fs,Cc,h1,h2,λH' dx k n=>h3 H' dx (λb o e hb=>k b o e hb) n⟩
 madeI:=λCc pins σ H2 s2 ea t dx I e hn hE=>JV I rfl rfl rfl e hn hE
 made:=λCc pins σ H1 s1 ea h' vs I hx hE=>JT I rfl rfl rfl hx hE
 calm:=rfl
def h9(c:Str)(m:Str->List (Str×D)->List D->Out (List (Str×D)))(a:SD->Out (List D)):SD->Out D:=λς=>a ς>>=λxs=>m c [] xs>>=λfds=>.ok (.ins c fds)
def iw(P:Program)(w:World)(K:PySem.W.Frag)(mg:Str->Option Value)(base:Heap)(CT:eU)(c:Str)(k:Nat)(m:Str->List (Str×D)->List D->Out (List (Str×D))):Prop:=
 ∃ A f fd ps,CT c=some A/\mg c=some (.ref A)/\Mk K A f/\FnOk P w K mg base (i7 P w) k f fd ps (kB K CT m)/\Binds K fd ps []
theorem rX(rz:Rz C E)(h:iw C.X.prog C.X.w C.X.K C.X.mg C.X.base C.CT c k m)(hr:Room (k+1) C.X.A)(ha:DA C (e::es) AA)(hg:Gl C.X c)
 (ij:(c == ("__debug__":Str))=false:=by decide) (he:starEach (e::es) C.X.env=(false,eval e C.X.env)::starEach es C.X.env:=by rfl) (fc:(backTo pos (starEach es C.X.env)).any (·.1)=false:=by rfl):
 DF C (.Call (.Name c p) (e::es) [] pos) (h9 c m AA):=by
 obtain⟨A,f,fd,ps,nX,hm,M,F,hb⟩:=h
 obtain⟨t,p1,q1⟩:=ha
 refine⟨_,O4 M F hr hg hm hb .nil rz.pass p1 ij he fc,λG H σ ς Q S q=>?_⟩
 unfold h9 at q
 rw[dR]at q
 refine q1 G H σ ς _ S (dS q λxs kk vs H1 G1 S1 a1 b1 r1=>?_)
 intro x dx nx K7 ne
 rw[dR]at kk
 have keep:∀ b o,H1 b=some o->eT (eT H1 dx (.own x)) x (.ins A dx []) b=some o:=λb o e=>by
  rw[Qk (QF e nx),Qk (QF e K7)];exact e
 have back:∀ b,eT (eT H1 dx (.own x)) x (.ins A dx []) b=none->H1 b=none:=λb e=>by
  by_cases hx:b=x
  ·subst hx;exact nx
  ·rw[Qk hx]at e
   by_cases hd:b=dx
   ·subst hd;exact K7
   ·rw[Qk hd]at e;exact e
 refine⟨x,c,A,dx,[],[],vs++[],xs,G1,rfl,nX,QC,S1.sub.free nx,λb o e=>keep b o (S1.sub b o e),rfl,by rw[az];exact r1,?_⟩
 cases z:m c [] xs with
 | stuck=>rw[z]at kk;exact kk.elim
 | exc y=>
  rw[z]at kk
  obtain⟨c',gs,Cc,j9,lH,uj⟩:=rz.xd y kk
  exact⟨c',gs,Cc,j9,lH,λH' y4 s' n=>uj H' y4 (λb o q m'=>s' b o (keep b o (S1.fr b o q m')) (QF (S1.fr b o q m') nx)) (n.back λb q=>S1.dom b (back b q))⟩
 | ok fds=>
  rw[z]at kk
  intro H' G' kz rW g1 h1 s1 n1 hp rf
  have hh:=λb o e=>h1 b o (keep b o e) (QF e nx)
  have SA:G' x=none:=by
   cases zz:G' x with
   | none=>rfl
   | some o=>have:=n1 x (S1.sub.free nx) (by rw[zz];simp);rw[QC]at this;cases this
  exact⟨rfl,(kk) x H' G' (S1.grow hh g1 s1 λb g g'=>back b (n1 b g g')) (a1.trans hh) (b1.trans g1) (a1.free nx) SA ⟨A,rW,kz,nX,hp,rf⟩⟩
def fK(P:Program)(w:World)(K:PySem.W.Frag)(mg:Str->Option Value)(base:Heap)(CT:eU)(CX:lq)(name:Str)(k:Nat)(cs:List Str)(sp:Str->Sp):Prop:=
 ∀ c,cs.contains c=true->∃ A f fd ps,CT c=some A/\Cls K A/\t7 K A name f/\FnOk P w K mg base CX k f fd ps (sp c)/\Binds K fd ps []
def y6(CT:eU)(cs:List Str)(sp:Str->Sp):Addr->Sp->Prop:=λA s=>∃ c,cs.contains c=true/\CT c=some A/\s=sp c
theorem tY(h:fK X.prog X.w X.K X.mg X.base CT CX name k cs sp):tX X CX k name [] (y6 CT cs sp):=by
 rintro A s ⟨c,hc,hA,rfl⟩
 obtain⟨A',f,fd,ps,h1,h2,h3,h4,h5⟩:=h c hc
 rw[hA]at h1;cases h1
 exact⟨h2,f,fd,ps,[],h3,h4,h5,.nil⟩
section
variable {mt:Str->List D->Out D} {AA:SD->Out (List D)}
def e7(cs:List Str)(name:Str)(mt:Str->List D->Out D)(O:SD->Out D)(A:SD->Out (List D)):SD->Out D:=λς=>O ς>>=λd=>match d with
 | .ins c fds=>if (cs.contains c&&(fds.lookup name).isNone)=true then A ς>>=λxs=>mt c (.ins c fds::xs) else .stuck
 | _=>.stuck
theorem K8{t:TA}(S1:StR C G1 H1 σ ς)(a1:Same H H1)(b1:Same G G1)(r1:Rep C.X.K C.CT G1 (.ins c fds) v1)
 (tk:fK C.X.prog C.X.w C.X.K C.X.mg C.X.base C.CT g8 name k cs (λc=>gY C.X.K C.CT fr (mt c))) (hx:∀ x,¬ C.XD x)
 (hq:∀ G H σ ς Q,StR C G H σ ς->(AA ς).post (λds=>∀ vs H' G',StR C G' H' σ ς->Same H H'->Same G G'->RepL C.X.K C.CT G' ds vs->Q vs H') C.XD->t σ H Q)
 (hK:∀ d v H2 G2 H' G',StR C G2 H2 σ ς->Same H H2->Same G G2->K' d->Same G2 G'->Same H2 H'->Same G' H'->(∀ b,G2 b=none->G' b≠none->H2 b=none)->gD C.X.K C.CT fr H2 G' H' d v->Q v H')
 (kk:(if (cs.contains c&&(fds.lookup name).isNone)=true then AA ς>>=λxs=>mt c (.ins c fds::xs) else .stuck).post K' C.XD):
 ∃ a Cc dx fs sp,v1=.ref a/\H1 a=some (.ins Cc dx fs)/\y6 C.CT cs (λc=>gY C.X.K C.CT fr (mt c)) Cc sp/\fs.lookup name=none/\t σ H1 λvs H2=>sp (v1::(vs++[])) H2 Q E0:=by
 rcases QA kk with⟨hc,kk⟩ | ⟨_,kk⟩
 ·rw[aO]at hc
  obtain⟨a,Cc,dx,fs,rfl,nX,hh,rf⟩:=r1
  refine⟨a,Cc,dx,fs,_,rfl,S1.sub _ _ hh,⟨c,hc.1,nX,rfl⟩,(RepF.look rf).2 (by simpa using hc.2),?_⟩
  rw[dR]at kk
  refine hq G1 H1 σ ς _ S1 (dS kk λxs k2 vs H2 G2 S2 a2 b2 r2=>?_)
  refine⟨.ins c fds::xs,G2,S2.sub,⟨_,_,rfl,dD b2 (.ins c fds) (.ref a) ⟨a,Cc,dx,fs,rfl,nX,hh,rf⟩,by rw[az];exact r2⟩,?_⟩
  cases z:mt c (.ins c fds::xs) with
  | stuck=>rw[z]at k2;exact k2.elim
  | exc y=>rw[z]at k2;exact absurd k2 (hx y)
  | ok d=>
   rw[z]at k2
   intro v H' G' g1 h1 s1 n1 ret
   exact hK d v H2 G2 H' G' S2 (a1.trans a2) (b1.trans b2) k2 g1 h1 s1 n1 ret
 ·exact kk.elim
theorem rY:∀ d v H2 G2 H' G',StR C G2 H2 σ ς->Same H H2->Same G G2->KD C G H σ ς Q d->Same G2 G'->Same H2 H'->Same G' H'->(∀ b,G2 b=none->G' b≠none->H2 b=none)->gD C.X.K C.CT fr H2 G' H' d v->Q v H':=by
 intro d v H2 G2 H' G' S2 a b kd g1 h1 s1 n1 ret
 unfold gD at ret
 by_cases hc:(fr && !d.scal)=true
 ·rw[aA hc]at ret
  obtain⟨pp,rfl,h0,jE,ow⟩:=ret
  obtain⟨o,ho⟩:=ow.there
  have S3:=(S2.grow h1 g1 s1 n1).freeze ho jE (S2.h0none h0) (λi d' z1 z2=>by
   obtain⟨o',jA⟩:=S2.own_ne z1 z2
   rw[h0]at jA;cases jA)
  exact kd _ _ _ S3 (a.trans h1) ((b.trans g1).trans (Qv jE)) (ow.known jE ho)
 ·rw[aB hc]at ret
  exact kd v H' G' (S2.grow h1 g1 s1 n1) (a.trans h1) (b.trans g1) ret
theorem tZ{pl:Sem Bool}(tk:fK C.X.prog C.X.w C.X.K C.X.mg C.X.base C.CT g8 name k cs (λc=>gY C.X.K C.CT fr (mt c)))(hr:Room k C.X.A)(ho:DE C o O)(ha:DA C (e::es) AA)(hx:∀ x,¬ C.XD x:=by fail"V5")
 (gH:starEach (e::es) C.X.env=(false,eval e C.X.env)::starEach es C.X.env:=by rfl) (fc:(backTo pos (starEach es C.X.env)).any (·.1)=false:=by rfl)
 (ht:eval (.Call (.Attribute o name apos) (e::es) [] pos) C.X.env=(do
  let ov ← eval o C.X.env
  standAt apos.atName
  let (f,first) ← holding [ov] (getMethod ov name pl)
  callWith pos f first (backTo pos (starEach (e::es) C.X.env)) (backToKw pos (keywordEach [] C.X.env))):=by rfl):
 DE C (.Call (.Attribute o name apos) (e::es) [] pos) (e7 cs name mt O AA):=by
 obtain⟨t1,p1,q1⟩:=ho
 obtain⟨t2,p2,q2⟩:=ha
 refine⟨_,K6 p1 (tY tk) hr kH p2 gH fc ht,λG H σ ς Q S q=>?_⟩
 unfold e7 at q
 rw[dR]at q
 refine q1 G H σ ς _ S (dS q λd kk v1 H1 G1 S1 a1 b1 r1=>?_)
 cases d with
 | ins c fds=>exact K8 S1 a1 b1 r1 tk hx q2 rY kk
 | _=>exact kk.elim
theorem Q1{pl:Sem Bool}(tk:fK C.X.prog C.X.w C.X.K C.X.mg C.X.base C.CT g8 name k cs (λc=>gY C.X.K C.CT fr (mt c)))(hr:Room k C.X.A)(ho:DE C o O)(hx:∀ x,¬ C.XD x:=by fail"V5")
 (ht:eval (.Call (.Attribute o name apos) [] [] pos) C.X.env=(do
  let ov ← eval o C.X.env
  standAt apos.atName
  let (f,first) ← holding [ov] (getMethod ov name pl)
  callWith pos f first (backTo pos (starEach [] C.X.env)) (backToKw pos (keywordEach [] C.X.env))):=by rfl):
 DE C (.Call (.Attribute o name apos) [] [] pos) (e7 cs name mt O dY):=by
 obtain⟨t1,p1,q1⟩:=ho
 refine⟨_,S9 p1 (tY tk) hr kH ht,λG H σ ς Q S q=>?_⟩
 unfold e7 at q
 rw[dR]at q
 refine q1 G H σ ς _ S (dS q λd kk v1 H1 G1 S1 a1 b1 r1=>?_)
 cases d with
 | ins c fds=>exact K8 (AA:=dY) S1 a1 b1 r1 tk hx (λG H σ ς Q S q=>q [] H G S (dC H) (dC G) rfl) rY kk
 | _=>exact kk.elim
end
section
variable {mt:Str->List D->Out D}
def rg(cs:List Str)(name:Str)(m:Str->List (Str×D)->List D->Out (List (Str×D)))(i:Nat)(A:SD->Out (List D)):SD->Out Fl:=λς=>match (ς[i]?:Option (Option (SM×D))) with
 | some (some (SM.s,D.ins c fds))=>if (cs.contains c&&(fds.lookup name).isNone)=true then A ς>>=λxs=>m c fds xs>>=λjn=>.ok (.nx (ς.set i (some (.s,.ins c jn)))) else .stuck
 | _=>.stuck
theorem Ag(i:Nat)(rz:Rz C E)(tk:fK C.X.prog C.X.w C.X.K C.X.mg C.X.base C.CT (i7 C.X.prog C.X.w) name k cs (λ_=>kB C.X.K C.CT m))(hr:Room k C.X.A)(ha:DA C (e::es) AA)
 (hN:C.X.N[i]?=some x:=by rfl) (hv:ll C.X.env.scope x:=by fail"V1")
 (hd:(x == ("__debug__":Str))=false:=by decide) (gR:(x == ("__classdict__":Str))=false:=by decide)
 (gH:starEach (e::es) C.X.env=(false,eval e C.X.env)::starEach es C.X.env:=by rfl) (fc:(backTo pos (starEach es C.X.env)).any (·.1)=false:=by rfl)
 (ht:eval (.Call (.Attribute (.Name x px) name apos) (e::es) [] pos) C.X.env=(do
  let ov ← eval (.Name x px) C.X.env
  standAt apos.atName
  let (f,first) ← holding [ov] (getMethod ov name pl)
  callWith pos f first (backTo pos (starEach (e::es) C.X.env)) (backToKw pos (keywordEach [] C.X.env))):=by rfl)
 (lz:swapsWith (.Call (.Attribute (.Name x px) name apos) (e::es) [] pos) none spos.line C.X.env=pure false:=by rfl):
 DS C (.Expr (.Call (.Attribute (.Name x px) name apos) (e::es) [] pos) spos) (rg cs name m i AA):=by
 obtain⟨t2,p2,q2⟩:=ha
 refine⟨_,zq (K6 (n8 hN hv hd gR) (tY tk) hr rz.pass p2 gH fc ht) lz,λG H σ ς W S kk=>?_⟩
 unfold rg at kk
 split at kk
 ·rename_i c fds z
  rcases QA kk with⟨hc,kk⟩ | ⟨_,kk⟩
  ·rw[aO]at hc
   obtain⟨p,j9,hg,h0,⟨hM,_⟩,hB,A,dx,fs,nX,hh,rf⟩:=S.sf i _ z
   refine⟨_,j9,p,A,dx,fs,_,rfl,hh,⟨c,hc.1,nX,rfl⟩,(RepF.look rf).2 (by simpa using hc.2),?_⟩
   rw[dR]at kk
   refine q2 G H σ ς _ S (dS kk λxs k2 vs H2 G2 S2 a2 b2 r2=>?_)
   obtain⟨p',lH,FK,_,_,_,A2,y4,fs2,hct2,hh2,rf2⟩:=S2.sf i _ z
   rw[j9]at lH;cases lH
   rw[dR]at k2
   refine⟨p,c,A2,y4,fs2,fds,vs++[],xs,G2,rfl,hct2,hh2,FK,S2.sub,rf2,by rw[az];exact r2,?_⟩
   cases zz:m c fds xs with
   | stuck=>rw[zz]at k2;exact k2.elim
   | exc y=>
    rw[zz]at k2
    obtain⟨c',gs,Cc,f1,f2,f3⟩:=rz.xd y k2
    exact⟨c',gs,Cc,f1,f2,λH' SB s' n=>f3 H' SB (λb o q mm=>s' b o (S2.fr b o q mm) (by rintro rfl;exact mm hM)) (n.back S2.dom)⟩
   | ok jn=>
    rw[zz]at k2
    intro H' G' kz rW g1 h1 s1 n1 hp FJ
    have gp:G' p=none:=by
     cases y:G' p with
     | none=>rfl
     | some o=>have:=n1 p FK (by rw[y];simp);rw[hh2]at this;cases this
    have S3:StR C G' (eT H' p (.ins A2 y4 fs2)) σ ς:=S2.grow (λb o e=>by
     by_cases hb:b=p
     ·subst hb;rw[QC];rw[hh2]at e;exact e
     ·rw[Qk hb];exact h1 b o e hb) g1 (λb o e=>by
     rw[Qk (by rintro rfl;rw[gp]at e;cases e)];exact s1 b o e) n1
    have S4:=S3.writeS (dx:=rW) z j9 hct2 FJ
    have eq:eT (eT H' p (.ins A2 y4 fs2)) p (.ins A2 rW kz)=H':=by
     rw[Mr]
     funext b
     by_cases hb:b=p
     ·subst hb;rw[QC,hp]
     ·rw[Qk hb]
    rw[eq]at S4
    exact(k2) σ H' G' S4 (b2.trans g1)
  ·exact kk.elim
 ·exact kk.elim
end
noncomputable def g9(s:Stmt)(j:Nat):Stmt:=match s with
 | .ClassDef _ _ _ b _ _ _ _ _ _ _=>b.getD j (.Pass ⟨0,0,0,0⟩)
 | _=>.Pass ⟨0,0,0,0⟩
def jY(K:PySem.W.Frag)(CT:eU)(uc:Value)(tbl:List (Str×Bool)):Prop:=∀ c b,tbl.lookup c=some b->∀ A,CT c=some A->ka K A/\PySem.W.kitOne K (.ref A) uc=some b
theorem Ah{K:PySem.W.Frag}:jY K CT uc []:=λ_ _ h=>nomatch h
theorem QY{K:PySem.W.Frag}(hc:CT c=some A)(hx:ka K A)(hk:PySem.W.kitOne K (.ref A) uc=some b)(r:jY K CT uc tbl):jY K CT uc ((c,b)::tbl):=by
 intro c' b' h A' hA
 rw[aK]at h
 cases e:c' == c with
 | true=>
  rw[e]at h
  cases h
  rw[bj.mp e,hc]at hA
  cases hA
  exact⟨hx,hk⟩
 | false=>
  rw[e]at h
  exact r c' b' h A' hA
def nF(i:Nat)(b:SD->Out D):SD->Out D:=λς=>match (ς[i]?:Option (Option (SM×D))) with
 | some (some (SM.o,D.lst xs))=>b ς>>=λk=>match k with | .int k=>gq (jW xs k) | _=>.stuck
 | _=>.stuck
theorem SC(i:Nat)(hb:DB C b B)(hN:C.X.N[i]?=some x:=by rfl)(hv:ll C.X.env.scope x:=by fail"V1")
 (hd:(x == ("__debug__":Str))=false:=by decide) (gR:(x == ("__classdict__":Str))=false:=by decide) (hs:A3 b:=by fail"V4"):DE C (.Subscript (.Name x px) b pos) (nF i B):=by
 obtain⟨tb,p2,q2⟩:=hb
 refine⟨_,nv Dr (n8 hN hv hd gR) p2 hs,λG H σ ς Q S q=>?_⟩
 unfold nF at q
 split at q
 ·rename_i xs z
  obtain⟨p,j9,hg,h0,ow⟩:=S.ow i _ z
  rw[dR]at q
  refine⟨_,j9,q2 G H σ ς _ S (dS q λy k2 v2 H2 G2 S2 a2 b2 r2=>?_)⟩
  cases y with
  | int k=>
   cases r2
   obtain⟨d,lH,kd⟩:=oE k2
   obtain⟨p',uj,jE,h0',vs,hv1,hv2⟩:=S2.ow i _ z
   rw[j9]at uj;cases uj
   obtain⟨v,e4',rv⟩:=xK hv2 lH
   exact .inl ⟨p,vs,k,v,rfl,rfl,SqL.of hv1,e4',dH (dJ kd a2 b2) S2 rv⟩
  | _=>exact k2.elim
 ·exact q.elim
end DL
namespace L2
open PySem PySem.Spec PyProof.Rows
def Ai(K:PySem.W.Frag)(a:Addr):It:=
 ⟨λi H=>∃ xs x,SqL K H a xs/\xs[i]?=some x,
  λi H v H'=>∃ p x,H p=none/\v=.ref p/\H'=eT H p (.tup [.int i,x])/\(∀ xs,SqL K H a xs->xs[i]?=some x),
  λi H=>∃ xs,SqL K H a xs/\xs.length<=i⟩
theorem SE{K:PySem.W.Frag}(D1:e≠it):
 lp P w K (.Tuple elts k1 pos) (Ai K l) [e,it] e (λi h=>(∃ old,IsEnum h e it (i:Int) old)/\h.IsListIter it l i) where
 mem:=by simp
 obj:=λi h st b hb=>by
  obtain⟨⟨old,s1⟩,⟨o4,e4,c4,d4⟩⟩:=st
  simp only[aL,b9,cB]at hb
  rcases hb with rfl | rfl
  ·exact⟨_,s1,λv q=>by cases q⟩
  ·exact⟨_,e4,λv q=>by rw[d4]at q;cases q⟩
 keep:=λi h h' st k=>by
  obtain⟨⟨old,s1⟩,s4⟩:=st
  exact⟨⟨old,k e (by simp) _ s1⟩,s4.at λo q=>k it (by simp) o q⟩
 item:=by
  intro X hP hw hK hc i pins s σ H E I hf st hg
  subst hP hw hK
  obtain⟨xs,x,q1,hx⟩:=hg
  obtain⟨oK,rv1,p1,hz1⟩:=I.list q1
  obtain⟨u1,hu1,ru1⟩:=rv1.get hx
  obtain⟨⟨old,s1⟩,s4⟩:=st
  refine wpAny_pyNext_enum_item s1 s4 p1.isList (by simpa using hu1) D1 λh' a1 a3 a5 a6 hk=>?_
  have hT:=I.hok.fresh (aJ _)
  have fp:=hf
  have out:∀ c,c∉[e,it]->∀ o,s.heap.get? c=some o->h'.get? c=some o:=λc hc o q=>hk c o (λq=>hc (by simp[q])) (λq=>hc (by simp[q])) q
  have lX:∀ c o,H c=some o->c∉[e,it]:=λc o q hc=>by rw[(fp c hc).1]at q;cases q
  have hok:HOk X.prog X.w (eT H s.heap.objs.size (.tup [.int i,x])) h':=λc o q=>by
   by_cases hcT:c=s.heap.objs.size
   ·subst hcT
    rw[QC]at q
    cases q
    exact⟨by show 2<=sizeLine;decide,[.int i s.toks,u1],.cons ⟨_,rfl⟩ (.cons ru1 .nil),⟨_,a5,rfl,_,rfl⟩⟩
   ·rw[Qk hcT]at q
    refine(I.hok c o q).stay (λb u hb q'=>out b ?_ u q') (λb q'=>?_) λb ts q'=>?_
    ·rcases hb with rfl | hb
     ·exact lX b _ q
     ·exact lX b _ hb
    ·rw[Qk (QF q' hT)];exact q'
    ·rw[Qk (QF q' hT)];exact q'
  have I1:Inv X pins σ (eT H s.heap.objs.size (.tup [.int i,x])) { s with heap:=h',gens:=s.gens,drawn:=s.drawn,toks:=s.toks+1 }:=I.step
   (λc hc=>⟨(fp c hc).2.2.2.1,(fp c hc).2.1,(fp c hc).2.2.2.2.1,(fp c hc).2.2.2.2.2⟩) (λc o _ _ hc q _=>out c hc o q) (λc o _ _ hc q _=>⟨o.slots,out c hc o q⟩)
   (λc o hc q n=>by rw[Qk (ai (aS q))];exact n) (λc o hc q=>⟨o,out c hc o q⟩)
   (λc ts q=>by rw[Qk (QF q hT)];exact q) (λc o u q=>by rw[Qk (QF q hT)];exact q) (λc ts q=>⟨#[],by rw[Qk (QF q hT),q];simp⟩)
   (λm hm=>by
    obtain⟨o,es,ep,ho,r⟩:=hm
    exact⟨o,es,ep,out _ (λhc=>(fp _ hc).2.1 rfl) o ho,r⟩) hok I.bare
  have lt:∀{c o},s.heap.get? c=some o->s.heap.objs.size≠c:=λq=>cm (aS q)
  refine⟨_,rfl,wpAny_letOwnedTupleGo_enum a1 λh2 tQ hs2=>?_⟩
  obtain⟨z0,z1,z2,z3,z4,z5⟩:=hf e (by simp)
  have I2:=Inv.turned (t':=s.toks+1) I1 (λb o hb q=>(hs2.2 b hb).trans q) (by rw[Qk (lt s1).symm];exact z0) z1 z3 z4 z5
  refine⟨.ref s.heap.objs.size,_,I2,rfl,⟨_,x,hT,rfl,rfl,λFG q'=>by rw[I.list_inj q' q1];exact hx⟩,
   ⟨⟨_,by have:(i+1:Nat)=i+1:=by push_cast;rfl
          rw[this];exact tQ⟩,a3.extBut hs2.extBut D1.symm⟩,λc hc=>?_⟩
  have:=(hf c hc).1
  obtain⟨oc,hoc⟩:∃ o,s.heap.get? c=some o:=by
   simp only[aL,b9,cB]at hc
   rcases hc with rfl | rfl
   ·exact⟨_,s1⟩
   ·obtain⟨o,q,_⟩:=s4;exact⟨o,q⟩
  rw[Qk (lt hoc).symm];exact this
 done:=by
  intro X hP hw hK hc i pins s σ H E I hf st hg
  subst hP hw hK
  obtain⟨xs,q1,hend⟩:=hg
  obtain⟨oK,rv1,p1,hz1⟩:=I.list q1
  have l1:=rv1.length
  obtain⟨⟨old,s1⟩,s4⟩:=st
  obtain⟨z0,z1,z2,z3,z4,z5⟩:=hf it (by simp)
  refine wpAny_pyNext_enum_end (I.ok.hd hc) s1 s4 p1.isList (by simp;lia) λh' hk=>⟨rfl,?_⟩
  have fp:∀ c∈[it],jB X pins H c:=λc hc=>hf c (by simp only[aL,b9,cB]at hc ⊢;exact Or.inr hc)
  have out:∀ c,c∉[it]->∀ o,s.heap.get? c=some o->h'.get? c=some o:=λc hc o q=>hk c o (λq=>hc (by simp[q])) q
  have lX:∀ c o,H c=some o->c∉[it]:=λc o q hc=>by rw[(fp c hc).1]at q;cases q
  exact I.step (λc hc=>⟨(fp c hc).2.2.2.1,(fp c hc).2.1,(fp c hc).2.2.2.2.1,(fp c hc).2.2.2.2.2⟩) (λc o _ _ hc q _=>out c hc o q) (λc o _ _ hc q _=>⟨o.slots,out c hc o q⟩)
   (λc o hc q n=>n) (λc o hc q=>⟨o,out c hc o q⟩) (λc ts q=>q) (λc o u q=>q) (λc ts q=>⟨#[],by rw[q];simp⟩)
   (λm hm=>by
    obtain⟨o,es,ep,ho,r⟩:=hm
    exact⟨o,es,ep,out _ (λhc=>(fp _ hc).2.1 rfl) o ho,r⟩)
   (λc o q=>(I.hok c o q).stay (λb u hb q'=>out b (by
    rcases hb with rfl | hb
    ·exact lX b _ q
    ·exact lX b _ hb) u q') (λb q'=>q') λb ts q'=>q') I.bare
 self:=λ_ _ _ _ _ st h=>wpAny_pyIter_enum st.1.choose_spec h
def y7(K:PySem.W.Frag)(ta:TA):TI:=λσ H R=>ta σ H λvs H1=>∃ a,vs=[.ref a]/\(∃ xs,SqL K H1 a xs)/\R (Ai K a) H1
theorem SF{kg:Pos}(hg:Gl X "enumerate")(hm:X.mg "enumerate"=none)(ha:PA X [a] ta)(hs:starEach [a] X.env=[(false,eval a X.env)]:=by rfl):
 PI X (.Tuple elts k1 kg) (.Call (.Name "enumerate" p) [a] [] pos) (y7 X.K ta):=by
 intro pins s σ H R I h
 refine Call_ (pB I hg hm PyProof.Rows.Boot.«enumerate» (bE (ef (ha pos pins s σ H _ I h) λus s1 dm=>?_) (by rw[hs];rfl) (by rfl)))
 obtain⟨vs,H1,I1,r1,q1⟩:=dm
 obtain⟨l1,e,⟨xs,hx⟩,q⟩:=q1
 subst e
 cases r1 with
 | cons r rr=>
  cases rr
  cases r
  obtain⟨oK,rv1,p1,hz1⟩:=I1.list hx
  refine call_enumerate_list p1.isList λh' c1 c4 c6 hk=>?_
  refine wpAny_pyIter_enum c1 ?_
  refine⟨_,_,_,Ai X.K l1,H1,rfl,I1.kept λb o e=>hk b o e,SE (by lia),
   ⟨⟨_,c1⟩,c4⟩,λb hb=>?_,q⟩
  have uh:s1.heap.objs.size<=b:=by
   simp only[aL,b9,cB]at hb
   rcases hb with rfl | rfl<;>lia
  exact I1.fpOk uh (I1.hok.fresh uh)
end L2
namespace DL
open PySem PySem.Spec PyProof.Rows L2
noncomputable def jO(i:Nat):List D->List D
 | []=>[]
 | x::xs=>.tup [.int i,x]::jO (i+1) xs
theorem K9:∀(xs:List D)(i:Nat),(jO i xs).length=xs.length
 | [],_=>rfl
 | x::xs,i=>by simp[jO,K9 xs]
theorem FL:∀(xs:List D)(n i:Nat),(jO n xs)[i]?=xs[i]?.map λx=>.tup [.int (n+i:Nat),x]
 | [],_,_=>rfl
 | x::xs,n,0=>rfl
 | x::xs,n,i+1=>by
  show(jO (n+1) xs)[i]?=_
  rw[FL xs (n+1) i,show n+1+i=n+(i+1) by lia]
  rfl
def uk(A:SD->Out D):SD->Out (List D):=λς=>A ς>>=λx=>match x with
 | .lst xs=>.ok (jO 0 xs)
 | _=>.stuck
theorem SH{K:PySem.W.Frag}(h1:SqL K G1 p us)(r1:RepL K CT G1 xs us):DIt K CT G1 (Ai K p) (jO 0 xs) where
 go:=λG H i d s1 sH hd=>by
  rw[FL,bX]at hd
  cases j9:xs[i]? with
  | none=>rw[j9]at hd;cases hd
  | some x=>
   rw[j9]at hd
   cases hd
   obtain⟨u,hu,ru⟩:=r1.get j9
   have q1:=sH.seq (s1.seq h1)
   refine⟨⟨us,u,q1,hu⟩,λw H' dm=>?_⟩
   obtain⟨t,x',n,e,e',k1⟩:=dm
   have z1:=k1 us q1
   rw[hu]at z1;cases z1
   subst e e'
   have gn:=sH.free n
   refine⟨eT G t (.tup [.int i,u]),Qv gn,Qv n,EV sH,λb g g'=>?_,t,[.int i,u],rfl,SqT.of QC,⟨.int i,_,rfl,rfl,u,_,rfl,dD (s1.trans (Qv gn)) x u ru,rfl⟩⟩
   by_cases hb:b=t
   ·subst hb;exact n
   ·rw[Qk hb]at g';exact absurd g g'
 stop:=λG H s1 sH=>by
  refine⟨us,sH.seq (s1.seq h1),?_⟩
  have l1:=r1.length
  rw[K9]
  lia
theorem KA(xo:Gl C.X "enumerate")(hm:C.X.mg "enumerate"=none)(ha:DE C a A)
 (gH:starEach [a] C.X.env=(false,eval a C.X.env)::starEach [] C.X.env:=by rfl):DI C (.Tuple elts k1 kg) (.Call (.Name "enumerate" p) [a] [] pos) (uk A):=by
 obtain⟨t0,p0,q0⟩:=ha
 refine⟨_,SF xo hm (l5 p0 n9 gH) (by rw[gH];rfl),λG H σ ς R S k=>?_⟩
 unfold uk at k
 rw[dR]at k
 refine q0 G H σ ς _ S (dS k λd k v H1 G1 S1 a1 b1 r=>?_)
 cases d with
 | lst xs=>
  obtain⟨p1,us,rfl,h1,r1⟩:=r
  exact⟨p1,rfl,⟨us,S1.sub.seq h1⟩,k _ H1 G1 S1 a1 b1 (SH h1 r1)⟩
 | _=>exact k.elim
end DL
namespace L2
open PySem PySem.Spec PyProof.Rows
end L2
namespace DL
open PySem PySem.Spec PyProof.Rows L2
end DL
namespace L2
open PySem PySem.Spec PyProof.Rows
end L2
namespace DL
open PySem PySem.Spec PyProof.Rows L2
section
variable{C:Dc}
end
end DL
namespace L2
open PySem PySem.Spec PyProof.Rows
theorem KC:∀{ns:List Int}{its:List Value},Vals (ns.map V.int) its->∃ xs:List (Int×Tok),its=xs.map (λp=>Value.int p.1 p.2)/\xs.map (·.1)=ns
 | [],_,.nil=>⟨[],rfl,rfl⟩
 | n::ns,_,.cons r rr=>by
  obtain⟨t,rfl⟩:=r
  obtain⟨xs,rfl,e⟩:=KC rr
  exact⟨(n,t)::xs,rfl,by rw[aj,e]⟩
theorem SI(hc:X.calm=true):CallR X (.builtin "sum") (λxs H Q=>∃(p:Addr)(ns:List Int),xs=[.ref p]/\SqL X.K H p (ns.map V.int)/\Q (.int ns.sum) H):=by
 intro pins s σ H xs us Q I r h
 obtain⟨p,ns,rfl,hq,q⟩:=h
 obtain⟨u,rfl,rx⟩:=iQ r
 cases rx
 obtain⟨its,rv,pl,hz⟩:=I.list hq
 obtain⟨ys,rfl,e⟩:=KC rv
 have hl:s.heap.IsList p (intItems ys.toArray):=by
  have:(ys.map λp=>Value.int p.1 p.2).toArray=intItems ys.toArray:=by simp[intItems]
  rw[← this];exact pl.isList
 refine sum_intListG (I.ok.hd hc) hl λh' tk t' kk=>⟨.int ns.sum,H,I.kept kk,⟨t',?_⟩,q⟩
 congr 1
 rw[preSum_eq,bM (by simp), ← e]
end L2
namespace DL
open PySem PySem.Spec PyProof.Rows L2
noncomputable def iW:List D->Option (List Int)
 | []=>some []
 | .int i::r=>(iW r).map (i :: ·)
 | _::_=>none
theorem KG{K:PySem.W.Frag}:∀{ds:List D}{ns:List Int}{vs:List V},iW ds=some ns->RepL K CT H ds vs->vs=ns.map V.int
 | [],ns,vs,h,r=>by cases h;exact r
 | d::ds,ns,vs,h,dm=>by
  obtain⟨v,w,h1,h2,h3⟩:=dm
  cases d with
  | int i=>
   cases e:iW ds with
   | none=>rw[iW,e]at h;cases h
   | some ms=>
    rw[iW,e]at h
    cases h
    subst h1
    cases h2
    rw[KG e h3];rfl
  | _=>cases h
def iM:D->Out D
 | .lst xs=>match iW xs with | some ns=>.ok (.int ns.sum) | none=>.stuck
 | _=>.stuck
theorem Aj(hc:C.X.calm=true)(hg:Gl C.X "sum")(hm:C.X.mg "sum"=none)(ha:nS C (e::es) AA)
 (he:starEach (e::es) C.X.env=(false,eval e C.X.env)::starEach es C.X.env:=by rfl) (fc:(backTo pos (starEach es C.X.env)).any (·.1)=false:=by rfl):DE C (.Call (.Name "sum" p) (e::es) [] pos) (eA (f1 iM) AA):=by
 refine xO (SI hc) (AM ?_) (AL ?_) hg hm PyProof.Rows.Boot.«sum» ha (by decide) (by decide) he fc
 ·intro G H σ ς Q x v S r q
  cases x with
  | lst xs=>
   cases eb:iW xs with
   | none=>rw[iM,eb]at q;exact q.elim
   | some ns=>
    rw[iM,eb]at q
    obtain⟨a,vs,rfl,h2,h3⟩:=r
    rw[KG eb h3]at h2
    exact⟨a,ns,rfl,h2,q.2⟩
  | _=>exact q.elim
 ·intro x
  cases x with
  | lst xs=>
   rw[iM]
   cases iW xs with
   | none=>exact True.intro
   | some bs=>exact rfl
  | _=>exact True.intro
noncomputable def frz(j:Nat)(ς:SD):SD:=match (ς[j]?:Option (Option (SM×D))) with
 | some (some (SM.o,d))=>ς.set j (some (.k,d))
 | _=>ς
theorem StR.frz(S:StR C G H σ ς)(z:ς[j]?=some (some (.o,d))):∃ G',Same G G'/\StR C G' H σ (ς.set j (some (.k,d))):=by
 obtain⟨p,e,hg,h0,ow⟩:=S.ow j d z
 obtain⟨o,ho⟩:=ow.there
 have hj:j<ς.length:=(aW.mp z).1
 have get:∀(i:Nat) x,(ς.set j (some (.k,d)))[i]?=some (some x)->(i=j/\x=(.k,d))∨(i≠j/\ς[i]?=some (some x)):=λi x h=>by
  rw[cR]at h
  by_cases q:j=i
  ·rw[aA q,aA (by lia)]at h
   cases h
   exact .inl ⟨q.symm,rfl⟩
  ·rw[aB q]at h
   exact .inr ⟨λw=>q w.symm,h⟩
 refine⟨eT G p o,Qv hg,?_⟩
 have hn:=λi d' hi q w=>S.inj i j d' d p hi q z w e
 exact {
  toGH:=GH.freezeR S.toGH ho hg h0
  len:=by rw[aw];exact S.len
  fz:=λi d' q=>by
   rcases get i _ q with⟨rfl,w⟩ | ⟨_,w⟩
   ·cases w
    exact⟨_,e,ow.known hg ho⟩
   ·obtain⟨v,a,b⟩:=S.fz i d' w
    exact⟨v,a,dD (Qv hg) d' v b⟩
  ow:=λi d' q=>by
   rcases get i _ q with⟨rfl,w⟩ | ⟨hi,w⟩
   ·cases w
   ·obtain⟨r,a,b,c,w'⟩:=S.ow i d' w
    refine⟨r,a,?_,c,w'.mono (Qv hg) λ_ z=>z⟩
    rw[Qk (by rintro rfl;exact hn i d' hi w a)];exact b
  ln:=λi d' q=>by
   rcases get i _ q with⟨rfl,w⟩ | ⟨_,w⟩
   ·cases w
   ·exact S.ln i d' w
  inj:=λi k d1 d2 q fT h1 h2=>by
   rcases get i _ h1 with⟨rfl,w⟩ | ⟨_,w⟩
   ·cases w
   ·rcases get k _ h2 with⟨rfl,w2⟩ | ⟨_,w2⟩
    ·cases w2
    ·exact S.inj i k d1 d2 q fT w w2
  sf:=λi d' q=>by
   rcases get i _ q with⟨rfl,w⟩ | ⟨_,w⟩
   ·cases w
   ·obtain⟨r,a,b,c,m,z',w'⟩:=S.sf i d' w
    refine⟨r,a,?_,c,m,z',w'.mono (Qv hg) λ_ z=>z⟩
    rw[Qk (by rintro rfl;exact c h0)];exact b
  su:=λi k d1 d2 q fT h1 h2=>by
   rcases get i _ h1 with⟨rfl,w⟩ | ⟨_,w⟩
   ·cases w
   ·rcases get k _ h2 with⟨rfl,w2⟩ | ⟨_,w2⟩
    ·cases w2
    ·exact S.su i k d1 d2 q fT w w2 }
theorem FM(j:Nat){st:Stmt}(h:DS C st T):DS C st (λς=>T (frz j ς)):=by
 obtain⟨t,p1,q⟩:=h
 refine⟨t,p1,λG H σ ς W S k=>?_⟩
 have k:(T (frz j ς)).post (FlK C G W) C.XD:=k
 by_cases z:∃ d,ς[j]?=some (some (SM.o,d))
 ·obtain⟨d,z⟩:=z
  have e:frz j ς=ς.set j (some (.k,d)):=by unfold frz;rw[z]
  rw[e]at k
  obtain⟨G',sG,S'⟩:=S.frz z
  exact q G' H σ _ W S' (dS k λf kf=>dN kf sG)
 ·have e:frz j ς=ς:=by
   unfold frz
   split
   ·rename_i d w;exact absurd ⟨d,w⟩ z
   ·rfl
  rw[e]at k
  exact q G H σ ς W S k
def oN(A:SD->Out D):SD->Out (List D):=λς=>A ς>>=λx=>match x with
 | .lst xs=>if xs.all D.scal=true then .ok xs else .stuck
 | _=>.stuck
theorem SJ{K:PySem.W.Frag}{p:Addr}(fx:xs.all D.scal=true)(h1:SqL K B1 p us)(r1:RepL K CT B1 xs us):oH K CT B1 G1 (zv K p) xs where
 go:=λG H i d s1 sH sB hd=>by
  obtain⟨v,hv,rv⟩:=r1.get hd
  have sx:=cA.mp fx d (bW hd)
  have hq:=sB.seq h1
  refine⟨⟨us,v,hq,hv⟩,λx H' ⟨e,y⟩=>?_⟩
  have ex:=y us hq
  rw[hv]at ex;cases ex
  subst e
  exact⟨G,dC _,dC _,sH,λb g n=>absurd g n,rv.scal sx⟩
 stop:=λG H s1 sH sB=>⟨us,sB.seq h1,by rw[r1.length];exact aJ _⟩
theorem SL(ha:DB C a A):xn C tg a (oN A):=by
 obtain⟨t0,p0,q0⟩:=ha
 refine⟨_,Ir p0,λG H σ ς R S k=>?_⟩
 unfold oN at k
 rw[dR]at k
 refine q0 G H σ ς _ S (dS k λd k v H1 G1 S1 a1 b1 r=>?_)
 cases d with
 | lst xs=>
  rcases QA k with⟨hc,k⟩ | ⟨_,k⟩
  ·obtain⟨p1,us,rfl,h1,r1⟩:=r
   exact⟨p1,rfl,⟨us,h1⟩,k _ H1 G1 S1 a1 b1 (SJ hc h1 r1)⟩
  ·exact k.elim
 | _=>exact k.elim
end DL
namespace LS
open PySem PySem.Spec PyProof.Rows
noncomputable def met(f:Nat->Str):Nat->List Str
 | 0=>[]
 | i+1=>if f i∈met f i then met f i else met f i++[f i]
theorem met_le(f:Nat->Str):∀ i,(met f i).length<=i
 | 0=>aJ _
 | i+1=>by
  have h:=met_le f i
  show(if _ then _ else _:List Str).length<=_
  split
  ·omega
  ·rw[aV,List.length_singleton];omega
abbrev isIn(f:Nat->Str)(i:Nat):Str->Bool:=λy=>decide (y∈met f i)
theorem SN(f:Nat->Str)(i:Nat)(y:Str):(isIn f i y||decide (y=f i))=isIn f (i+1) y:=by
 show _=decide (y∈(if _ then _ else _:List Str))
 by_cases h:f i∈met f i
 ·rw[aA h]
  by_cases e:y=f i
  ·subst e;simp[isIn,h]
  ·simp[isIn,e]
 ·rw[aB h]
  simp[isIn,Bool.decide_or]
theorem SO(f:Nat->Str)(i:Nat):(if isIn f i (f i)=true then(met f i).length else(met f i).length+1)=(met f (i+1)).length:=by
 show _=(if _ then _ else _:List Str).length
 by_cases h:f i∈met f i
 ·rw[aA h,aA (aF h)]
 ·rw[aB h,aB (by simpa [isIn] using h),aV];rfl
section
variable{pg:Program}{wd:World}
theorem KH{hp:Heap}{p:Addr}{f g:Str->Bool}{m n:Nat}(h:hp.SetOf (strKind pg wd) p f m)(hf:f=g)(hn:m=n):hp.SetOf (strKind pg wd) p g n:=hn ▸ hf ▸ h
variable{ar:Around}{Res:Result->Shared->Prop}{it:Addr}{ff wt:List Addr}{Gn:Array GenState->Array GenState->Prop}{n:Nat}{Pv:Nat->Value->Prop}{Sv:Nat->Shared->Prop}
theorem FN(Wk:WalksS pg wd ar.in1 it ff wt Gn n Pv Sv){p:Addr}(di:p∉ff){f:Nat->Str}(txt:∀ i v,Pv i v->∃ t,v=.str (f i) t)(few:n+1<scanBound):
 ∀(m i:Nat)(st:Shared),i+m=n->Sv i st->st.heap.SetOf (strKind pg wd) p (isIn f i) (met f i).length->
  (∀ st',Moved (p::wt) Gn st st'->st'.heap.SetOf (strKind pg wd) p (isIn f n) (met f n).length->Res (.ok (.ret .none)) st')->
  codeAny (model pg wd) ar (.builtin "set.update.loop" ⟨[.ref p,.ref it],[]⟩) Res st:=by
 have FO:p∉wt:=λz=>di (Wk.sub _ z)
 have more:∀ b,b∈wt->b∈p::wt:=λb hb=>aG p hb
 have stays:∀{s s':Shared}{i:Nat},Moved wt Gn s s'->s.heap.SetOf (strKind pg wd) p (isIn f i) (met f i).length->s'.heap.SetOf (strKind pg wd) p (isIn f i) (met f i).length:=
  λmv dm=>by obtain⟨o,es,ep,tb,ho,eY⟩:=dm;exact⟨o,es,ep,tb,mv.heap p o FO ho,eY⟩
 intro m
 induction m with
 | zero=>
  intro i st SQ hs m5 fin
  obtain rfl:i=n:=by omega
  refine codeAny_builtin PyProof.Rows.F.entry_set_update_loop ?_
  rw[Around.under_plainId bo _]
  exact aP (m:=pyNext (.ref it)) (Wk.done st _ _ hs λst' mv=>aX (fin st' (mv.mono more) (stays mv m5)))
 | succ m next=>
  intro i st SQ hs m5 fin
  refine codeAny_builtin PyProof.Rows.F.entry_set_update_loop ?_
  rw[Around.under_plainId bo _]
  refine aP (m:=pyNext (.ref it)) (Wk.item i st _ _ (by omega) hs λv st' hv lZ mv=>?_)
  obtain⟨t,rfl⟩:=txt i v hv
  have key:=strKind_is pg wd (f i) t
  have y9:=stays mv m5
  refine aP (m:=holding [.str (f i) t] (setAdd p (.str (f i) t))) (bw ?_)
  unfold setAdd
  refine bw (aP ((strKind pg wd).pyHash (k:=f i) key ?_))
  refine wpAny_setAddHashed_of (knd:=strKind pg wd) key rfl y9 (by have:=met_le f i;omega) λEy same yA=>?_
  have now:=KH yA (g:=isIn f (i+1)) (funext λy=>SN f i y) (SO f i)
  have tt:st'.toks<=st'.toks+1:=Nat.le_succ _
  refine aX ⟨plainId_quiet bo _,next (i+1) _ (by omega) (Wk.frame _ st' _ _ lZ tt λb hb o e=>?_) now λsv SR yB=>fin sv (Moved.trans Wk.gtrans ((mv.mono more).then_heap tt λb o hb e=>?_) SR) yB⟩
  ·rw[same.2 b λz=>di (z ▸ hb)];exact e
  ·rw[same.2 b λz=>hb (z ▸ aR)];exact e
end
abbrev qM(led:Bool):Obj:={ cls:=.type "set",dict:=none,data:=.set #[] 0 (.fresh 0 0 led) }
section
variable{pg:Program}{wd:World}{ar:Around}{Ex:Value->Shared->Prop}{st:Shared}
set_option maxHeartbeats 4000000 in
theorem of_list{l:Addr}{vs:Array Value}{f:Nat->Str}{Q:Value->Shared->Prop}(nh:ar.handled=none)(SS:st.heap.IsList l vs)(txt:∀ i v,vs[i]?=some v->∃ t,v=Value.str (f i) t)(few:vs.size+1<scanBound)
 (goal:∀(hp:Heap)(tk:Nat),hp.SetOf (strKind pg wd) st.heap.objs.size (isIn f vs.size) (met f vs.size).length->(∀ b o,b<st.heap.objs.size->st.heap.get? b=some o->hp.get? b=some o)->Q (.ref st.heap.objs.size) { st with heap:=hp,toks:=tk }):
 wpAny (model pg wd) ar (call (.type "set") [.ref l]) Q Ex st:=by
 have made:=bQ.made
 have sub:=bQ.sub
 have nt:=bQ.notType
 have cc:=bQ.canCreate
 have tc:=PySem.F.typeCall_set_1 (.ref l)
 obtain⟨c1,c2,mro⟩:=bQ.mro
 refine wpAny_call (codeAny_of_tree ?_)
 show wpAny (model pg wd) _ (callAny (.type "set") ⟨[.ref l],[]⟩) _ _ st
 refine aX ⟨Code.quiet_builtin _ (dk),codeAny_builtin F.entry_type_call ?_⟩
 rw[Around.under_plain (weight_type_call_type "set" [.ref l] []) rfl]
 repeat (any_goals (first | assumption | wp_step))
 let mid:Shared->Prop:=λs2=>∃ hp tk,s2={ st with heap:=hp,toks:=tk }/\hp.SetOf (strKind pg wd) st.heap.objs.size (isIn f vs.size) (met f vs.size).length/\∀ b o,b<st.heap.objs.size->st.heap.get? b=some o->hp.get? b=some o
 refine cU (code_set_new_1 (.ref l) (E:=Ex) (Q₁:=λv s1=>∃ led,v=.ref st.heap.objs.size/\s1={ st with heap:=st.heap.push (qM led) }) λled=>⟨led,rfl,rfl⟩) λr1 s1 h1=>?_
 cases r1 with
 | error _=>exact h1
 | ok fl1=>
  cases fl1 with
  | ret v1=>
   obtain⟨led,rfl,rfl⟩:=h1
   have KI:(st.heap.push (qM led)).get? st.heap.objs.size=some (qM led):=af _ rfl
   have SU:Shared.TypeIs { st with heap:=st.heap.push (qM led) } (.ref st.heap.objs.size) "set":=⟨_,KI,rfl⟩
   have lk:=bQ.init.lookup
   have bd:=bQ.init.bind (.ref st.heap.objs.size)
   repeat (any_goals (first | assumption | wp_step))
   refine cU (codeAny_call_builtin (R:=wants (λv s2=>v=.none/\mid s2) Ex) bQ.init.plain F.entry_set_init (check_set_init_1 SU ?_)) λr2 s2 h2=>?_
   ·obtain⟨⟨oc,od,dt,os⟩,hol,e1,nl,e2⟩:=SS
    obtain rfl:oc=.type "list":=e1
    obtain rfl:dt=.seq vs nl:=e2
    have FP:(st.heap.push (qM led)).get? l=some ⟨.type "list",od,.seq vs nl,os⟩:=aI _ hol
    have isl1:(st.heap.push (qM led)).IsList l vs:=⟨_,FP,rfl,nl,rfl⟩
    have n1:=PySem.F.sub_list_set
    have n2:=PySem.F.sub_list_frozenset
    have n3:(Value.type "list" == Value.type "dict")=false:=by decide
    have lt : @LT.lt Nat _ l st.heap.objs.size:=aS hol
    have sz:=c7 st.heap (qM led)
    unfold Builtin.«set.__init__» noKeywords Builtin.Frozenset.updateFrom
    generalize keep:pyIter=ITER
    wp_walk
    subst keep
    refine cz isl1 (aP (wpAny_runValue ?_))
    have di:st.heap.objs.size∉[(st.heap.push (qM led)).objs.size,l]:=by
     rw[sz]
     intro z
     rcases aL.mp z with z | z
     ·exact ai (bf _) z
     ·exact cm lt (cu.mp z)
    have FQ:l≠(st.heap.push (qM led)).objs.size:=by rw[sz];exact ai (bZ lt)
    refine FN ((Walks.list (by simp[nh]) _ l FQ vs).toS) di txt few vs.size 0 _ (bX _) ⟨⟨_,af _ rfl,rfl,rfl⟩,isl1.push _⟩ ?_ λs3 mv AF=>?_
    ·exact KH ((setObjOf_fresh (knd:=strKind pg wd) led).setOf (aI _ KI) (by unfold scanBound;omega)) (funext λy=>by simp[isIn,met]) rfl
    ·obtain⟨AX,g3,d3,tk3,os3⟩:=s3
     obtain rfl:g3=st.gens:=mv.gens
     obtain rfl:d3=st.drawn:=mv.drawn
     obtain rfl:os3=st.os:=mv.os
     refine aX (aX ⟨rfl,AX,tk3,rfl,AF,λb o hb e=>?_⟩)
     refine mv.heap b o (λz=>?_) (aI _ (aI _ e))
     rw[sz]at z
     rcases aL.mp z with z | z
     ·exact ai hb z
     ·rcases aL.mp z with z | z
      ·exact ai (bZ hb) z
      ·exact absurd z b9
   ·cases r2 with
    | error _=>exact h2
    | ok wo=>
     cases wo with
     | ret v2=>
      obtain⟨rfl,hp,tk,rfl,hs2,kp⟩:=h2
      repeat (any_goals (first | assumption | wp_step))
      exact goal hp tk hs2 kp
     | _=>exact h2.elim
  | _=>exact h1.elim
end
end LS
namespace DL
open PySem PySem.Spec PyProof.Rows L2
noncomputable def kC:D->Option f9
 | .int i=>some (.inl i)
 | .str x=>some (.inr x)
 | _=>none
noncomputable def fm(kds:List (f9×D))(k:f9):Option D:=(kds.find? λkv=>decide (kv.1=k)).map (·.2)
noncomputable def jP(kds:List (f9×D))(k:f9)(d:D):List (f9×D):=
 if (kds.any λkv=>decide (kv.1=k))=true then kds.map (λkv=>if kv.1=k then(kv.1,d) else kv) else kds++[(k,d)]
section
variable{K:PySem.W.Frag}
theorem FR(h:kC d=some k)(r:Rep K CT H d v):v=kV k:=by
 cases d with
 | int i=>cases h;exact r
 | str x=>cases h;exact r
 | _=>cases h
theorem RepK.len:∀{ds:List (f9×D)}{vs:List (f9×V)},RepK K CT H ds vs->ds.length=vs.length
 | [],_,h=>by cases h;rfl
 | (k,d)::ds,_,dm=>by obtain⟨v,r,h1,h2,h3⟩:=dm;rw[h1,aZ,aZ,RepK.len h3]
theorem RepK.val(k:f9):∀{ds:List (f9×D)}{vs:List (f9×V)},RepK K CT H ds vs->(fm ds k=none/\gB vs k=none)∨∃ d v,fm ds k=some d/\gB vs k=some v/\Rep K CT H d v
 | [],_,h=>by cases h;exact .inl ⟨rfl,rfl⟩
 | (k',d)::ds,_,dm=>by
  obtain⟨v,r,h1,h2,h3⟩:=dm
  subst h1
  by_cases e:k'=k
  ·subst e
   exact .inr ⟨d,v,by simp[fm],by simp[gB],h2⟩
  ·have a:fm ((k',d)::ds) k=fm ds k:=by simp[fm,bC,e]
   have b:gB ((k',v)::r) k=gB r k:=by simp[gB,bC,e]
   rw[a,b];exact RepK.val k h3
theorem RepK.any(k:f9):∀{ds:List (f9×D)}{vs:List (f9×V)},RepK K CT H ds vs->(ds.any λkv=>decide (kv.1=k))=vs.any λkv=>decide (kv.1=k)
 | [],_,h=>by cases h;rfl
 | (k',d)::ds,_,dm=>by
  obtain⟨v,r,h1,h2,h3⟩:=dm
  subst h1
  rw[cG,cG,RepK.any k h3]
theorem RepK.repl(k:f9)(hd:Rep K CT H d v):∀{ds:List (f9×D)}{vs:List (f9×V)},RepK K CT H ds vs->RepK K CT H (ds.map λkv=>if kv.1=k then(kv.1,d) else kv) (vs.map λkv=>if kv.1=k then(kv.1,v) else kv)
 | [],_,h=>by cases h;rfl
 | (k',d')::ds,_,dm=>by
  obtain⟨v',r,h1,h2,h3⟩:=dm
  subst h1
  rw[aj,aj]
  by_cases e:k'=k
  ·rw[aA (e),aA (e)]
   exact⟨v,_,rfl,hd,RepK.repl k hd h3⟩
  ·rw[aB (e),aB (e)]
   exact⟨v',_,rfl,h2,RepK.repl k hd h3⟩
theorem RepK.snoc(k:f9)(hd:Rep K CT H d v):∀{ds:List (f9×D)}{vs:List (f9×V)},RepK K CT H ds vs->RepK K CT H (ds++[(k,d)]) (vs++[(k,v)])
 | [],_,h=>by cases h;exact⟨v,[],rfl,hd,rfl⟩
 | (k',d')::ds,_,dm=>by
  obtain⟨v',r,h1,h2,h3⟩:=dm
  subst h1
  exact⟨v',_,rfl,h2,RepK.snoc k hd h3⟩
theorem RepK.put(k:f9)(hd:Rep K CT H d v)(h:RepK K CT H ds vs):RepK K CT H (jP ds k d) (il vs k v):=by
 unfold jP il
 rw[RepK.any k h]
 split
 ·exact RepK.repl k hd h
 ·exact RepK.snoc k hd h
end
def nG(A B:SD->Out D):SD->Out D:=λς=>A ς>>=λx=>match x with
 | .dic kds=>B ς>>=λy=>match kC y with | some k=>gq (fm kds k) | none=>.stuck
 | _=>.stuck
def lI(A B:SD->Out D):SD->Out D:=λς=>A ς>>=λx=>match x with
 | .dic kds=>B ς>>=λy=>match kC y with | some k=>.ok ((fm kds k).getD .non) | none=>.stuck
 | _=>.stuck
def kN(i:Nat)(I E:SD->Out D):SD->Out Fl:=λς=>E ς>>=λd=>match ς[i]? with
 | some (some (.o,.dic kds))=>I ς>>=λy=>match kC y with
  | some k=>if decide (kds.length<sizeLine)=true then .ok (.nx (ς.set i (some (.o,.dic (jP kds k d))))) else .stuck
  | none=>.stuck
 | _=>.stuck
theorem SV(hu:C.X.A.units+64<cLine)(ha:DE C a A)(hb:DB C b B)(hs:t9 b:=by fail"V4"):DE C (.Subscript a b pos) (nG A B):=by
 obtain⟨ta,p1,q1⟩:=ha
 obtain⟨tb,p2,q2⟩:=hb
 refine⟨_,Oe (by omega) p1 p2 hs,λG H σ ς Q S q=>?_⟩
 unfold nG at q
 rw[dR]at q
 refine q1 G H σ ς _ S (dS q λx k v1 H1 G1 S1 a1 b1 r1=>?_)
 cases x with
 | dic kds=>
  have k:=k
  rw[dR]at k
  refine q2 G1 H1 σ ς _ S1 (dS k λy k2 v2 H2 G2 S2 a2 b2 r2=>?_)
  cases e:kC y with
  | none=>rw[e]at k2;exact k2.elim
  | some kk=>
   rw[e]at k2
   obtain⟨d,ed,kd⟩:=oE k2
   obtain⟨p,kvs,rfl,h2,h3⟩:=dD b2 _ v1 r1
   rcases RepK.val kk h3 with⟨n1,n2⟩ | ⟨d',v,n1,n2,r⟩
   ·rw[n1]at ed;cases ed
   ·rw[n1]at ed;cases ed
    exact⟨p,v,rfl,.inl ⟨kvs,kk,Same.rd S2.sub h2,FR e r2,n2.symm⟩,dH (dJ kd (a1.trans a2) (b1.trans b2)) S2 r⟩
 | _=>exact k.elim
theorem SX{K:PySem.W.Frag}:Rep K CT H .non .non:=rfl
theorem SY(hu:C.X.A.units+64<cLine)(ha:DE C a A)(hb:DB C b B)
 (ik:attributeBase a "get" C.X.env (eval a C.X.env)=eval a C.X.env:=by rfl)
 (l6:((backTo pos (starEach [b] C.X.env)).all (λx => !x.1)&&(backToKw pos (keywordEach [] C.X.env)).all (λx=>x.1.isSome)
  && decide (([b]:List Expr).length+([]:List Keyword).length+(if ([]:List Keyword).isEmpty then 0 else 1)<30))=true:=by rfl)
 (jg:(apos.endLine == pos.line)=true:=by rfl) (SZ:backTo pos (starEach [b] C.X.env)=[(false,eval b C.X.env)]:=by rfl):DE C (.Call (.Attribute a "get" apos) [b] [] pos) (lI A B):=by
 obtain⟨ta,p1,q1⟩:=ha
 obtain⟨tb,p2,q2⟩:=hb
 refine⟨_,Oj (by omega) p1 p2 ⟨ik,l6,jg,SZ⟩,λG H σ ς Q S q=>?_⟩
 unfold lI at q
 rw[dR]at q
 refine q1 G H σ ς _ S (dS q λx k v1 H1 G1 S1 a1 b1 r1=>?_)
 cases x with
 | dic kds=>
  have k:=k
  rw[dR]at k
  obtain⟨p,kvs,rfl,h2,h3⟩:=r1
  refine⟨p,rfl,.inl ⟨kvs,Same.rd S1.sub h2⟩,q2 G1 H1 σ ς _ S1 (dS k λy k2 v2 H2 G2 S2 a2 b2 r2=>?_)⟩
  cases e:kC y with
  | none=>rw[e]at k2;exact k2.elim
  | some kk=>
   rw[e]at k2
   have kd:KD C G H σ ς Q ((fm kds kk).getD .non):=k2
   refine⟨gB kvs kk,.inl ⟨kvs,kk,Same.rd (S1.sub.trans a2) h2,FR e r2,rfl⟩,?_⟩
   rcases RepK.val kk (RepK.mono b2 kds kvs h3) with⟨n1,n2⟩ | ⟨d',v,n1,n2,r⟩
   ·rw[n1]at kd;rw[n2];exact dH (dJ kd (a1.trans a2) (b1.trans b2)) S2 SX
   ·rw[n1]at kd;rw[n2];exact dH (dJ kd (a1.trans a2) (b1.trans b2)) S2 r
 | _=>exact k.elim
theorem StR.writeD(S:StR C G H σ ς)(hi:ς[i]?=some (some (.o,.dic xs)))(hp:σ[i]?=some (some (.ref p)))(hH:H p=some (.dK vs))(r:RepK C.X.K C.CT G ys ws):
 StR C G (eT H p (.dK ws)) σ (ς.set i (some (.o,.dic ys))):=by
 obtain⟨p',e1,hg,h0,ow⟩:=S.ow i _ hi
 rw[hp]at e1;cases e1
 have ne:∀ b o,G b=some o->b≠p:=λb o e z=>by subst z;rw[hg]at e;cases e
 have S':StR C G (eT H p (.dK ws)) (σ.set i (some (.ref p))) (ς.set i (some (.o,.dic ys))):={
  sub:=λb o e=>by rw[Qk (ne b o e)];exact S.sub b o e
  g0:=S.g0
  new:=S.new
  fr:=λb o e m=>by
   rw[Qk (by rintro rfl;rw[h0]at e;cases e)];exact S.fr b o e m
  dom:=λb e=>by
   by_cases hb:b=p
   ·subst hb;exact h0
   ·rw[Qk hb]at e;exact S.dom b e
  bs:=λb o e=>by
   rw[Qk (by rintro rfl;rw[S.bh _ h0]at e;cases e)];exact S.bs b o e
  bh:=S.bh
  len:=by rw[aw,aw];exact S.len
  fz:=λj d h=>by
   rcases QD h with⟨rfl,h2,l⟩ | ⟨fT,h2⟩
   ·cases h2
   ·rw[Qs fT];exact S.fz j d h2
  ow:=λj d h=>by
   rcases QD h with⟨rfl,h2,l⟩ | ⟨fT,h2⟩
   ·cases h2
    exact⟨p,rM (by rw[S.len];exact l),hg,h0,⟨ws,QC,r⟩⟩
   ·rw[Qs fT]
    obtain⟨q,a,b,c,w⟩:=S.ow j d h2
    have qp:q≠p:=by
     rintro rfl
     exact S.inj i j _ _ q fT hi h2 hp a
    exact⟨q,a,b,c,w.mono (dC G) λo z=>by rw[Qk qp];exact z⟩
  ln:=λj d h=>by
   rcases QD h with⟨rfl,h2,l⟩ | ⟨fT,h2⟩
   ·cases h2
   ·rw[Qs fT];exact S.ln j d h2
  inj:=λj k d1 d2 q kJ h1 h2 h3=>by
   have get:∀(j:Nat) d,(ς.set i (some (.o,D.dic ys)))[j]?=some (some (.o,d))->∃ d',ς[j]?=some (some (.o,d')):=λj d h=>by
    rcases QD h with⟨rfl,h2,l⟩ | ⟨fT,h2⟩
    ·exact⟨_,hi⟩
    ·exact⟨_,h2⟩
   obtain⟨xl,g1⟩:=get j d1 h1
   obtain⟨xm,g2⟩:=get k d2 h2
   rw[ug hp]at h3 ⊢
   exact S.inj j k xl xm q kJ g1 g2 h3
  sf:=λj d h=>by
   rcases QD h with⟨rfl,h2,l⟩ | ⟨fT,h2⟩
   ·cases h2
   ·rw[Qs fT]
    obtain⟨q,a,b,c,m,z,w⟩:=S.sf j d h2
    have qp:q≠p:=by
     rintro rfl
     exact c h0
    exact⟨q,a,b,c,m,z,w.mono (dC G) λo z=>by rw[Qk qp];exact z⟩
  su:=λj k d1 d2 q kJ h1 h2 h3=>by
   rcases QD h1 with⟨rfl,q1,l⟩ | ⟨n1,q1⟩
   ·cases q1
   ·rcases QD h2 with⟨rfl,q2,l⟩ | ⟨n2,q2⟩
    ·cases q2
    ·rw[Qs n1]at h3
     rw[Qs n2];exact S.su j k d1 d2 q kJ q1 q2 h3 }
 rw[ug hp]at S'
 exact S'
theorem KJ(hu:C.X.A.units+64<cLine)(i:Nat)(hi:DB C a A)(he:DE C e E)(hN:C.X.N[i]?=some x:=by rfl)(hv:ll C.X.env.scope x:=by fail"V1")
 (hd:(x == ("__debug__":Str))=false:=by decide) (gR:(x == ("__classdict__":Str))=false:=by decide)
 (hs:swapsWith e (some (.Subscript (.Name x p1) a p2)) pos.line C.X.env=pure false:=by rfl):DS C (.Assign [.Subscript (.Name x p1) a p2] e pos) (kN i A E):=by
 obtain⟨t,p,q⟩:=he
 obtain⟨t2,p2',q2⟩:=hi
 refine⟨_,Of (by omega) (n8 hN hv hd gR) p2' p hs,λG H σ ς W S k=>?_⟩
 unfold kN at k
 rw[dR]at k
 refine q G H σ ς _ S (dS k λd k v H1 G1 S1 a1 b1 r1=>?_)
 split at k
 ·rename_i kds z
  obtain⟨pp,e1,hg,h0,ow⟩:=S1.ow i _ z
  rw[dR]at k
  refine⟨_,e1,q2 G1 H1 σ ς _ S1 (dS k λy k2 w H2 G2 S2 a2 b2 r2=>?_)⟩
  cases ey:kC y with
  | none=>rw[ey]at k2;exact k2.elim
  | some kk=>
   rw[ey]at k2
   obtain⟨pp',j9,jE,h0',kvs,hv1,hv2⟩:=S2.ow i _ z
   rw[e1]at j9;cases j9
   rcases QA k2 with⟨hc,k3⟩ | ⟨_,k3⟩
   ·refine⟨pp,_,rfl,.inl ⟨kvs,kk,hv1,FR ey r2,by rw[← hv2.len];exact aN hc,rfl⟩,?_⟩
    exact k3 σ _ G2 (S2.writeD z e1 hv1 (RepK.put kk (dD b2 d v r1) hv2)) (b1.trans b2)
   ·exact k3.elim
 ·exact k.elim
def oO(xs:List Str):Nat:=(LS.met (λi=>xs.getD i "") xs.length).length
def Sa(K:PySem.W.Frag)(te:TA):TE:=λσ H Q=>te σ H λvs H1=>∃ p xs,vs=[V.ref p]/\SqL K H1 p (xs.map V.str)/\xs.length<4000/\Q (.int (oO xs)) H1
theorem KL:∀{xs:List Str}{us:List Value},Vals (xs.map V.str) us->∀(i:Nat) v,us[i]?=some v->∃ t,v=.str (xs.getD i "") t
 | [],_,h,i,v,hv=>by cases h;simp at hv
 | x::xs,_,h,i,v,hv=>by
  cases h with
  | cons hx hr=>
   cases i with
   | zero=>
    obtain⟨t,ht⟩:=hx
    refine⟨t,?_⟩
    simp at hv
    rw[← hv,ht];rfl
   | succ i=>
    have:=KL hr i v (by simpa using hv)
    simpa using this
theorem Sb(hh:X.A.handled=none)(gl:Gl X "len")(ml:X.mg "len"=none)(gs:Gl X "set")(ms:X.mg "set"=none)(he:PA X [e] te)
 (h1:starEach [e] X.env=(false,eval e X.env)::starEach [] X.env:=by rfl)
 (h2:starEach [.Call (.Name "set" p2) [e] [] p3] X.env=(false,eval (.Call (.Name "set" p2) [e] [] p3) X.env)::starEach [] X.env:=by rfl)
 (h3:backTo pos (starEach [.Call (.Name "set" p2) [e] [] p3] X.env)=[(false,eval (.Call (.Name "set" p2) [e] [] p3) X.env)]:=by rfl):
 PE X (.Call (.Name "len" p1) [.Call (.Name "set" p2) [e] [] p3] [] pos) (Sa X.K te):=by
 intro pins s σ H Q I h
 have inner:wpAny (model X.prog X.w) X.A (eval (.Call (.Name "set" p2) [e] [] p3) X.env) (λu s'=>∃ D H1 xs,u=.ref D/\Inv X pins σ H1 s'/\s'.heap.SetOf (strKind X.prog X.w) D (LS.isIn (λi=>xs.getD i "") xs.length) (oO xs)/\oO xs<4000/\Q (.int (oO xs)) H1) X.xe s:=by
  refine bJ (pB I gs ms PyProof.Rows.Boot.«set» ?_ (by decide) (by decide))
  refine bE (ef (he p3 pins s σ H _ I h) λus s1 dm=>?_) h1 rfl
  obtain⟨vs,H1,I1,r1,p,xs,ev,sq,few,q⟩:=dm
  ·subst ev
   obtain⟨u,rfl,rx⟩:=iQ r1
   cases rx
   obtain⟨its,rv,pl,hz⟩:=I1.list sq
   have hl:=rv.length
   rw[aD]at hl
   have le:=LS.met_le (λi=>xs.getD i "") xs.length
   refine LS.of_list hh pl.isList (λi v hv=>KL rv i v (by simpa using hv)) (by rw[aT, ← hl];unfold scanBound;lia) λhp tk hs kp=>?_
   have sz:its.toArray.size=xs.length:=by rw[aT];lia
   rw[sz]at hs
   exact⟨_,H1,xs,rfl,I1.kept λb o eb=>kp b o (aS eb) eb,hs,by unfold oO;lia,q⟩
 refine bJ (pB I gl ml PySem.boot_len ?_ (by decide) (by decide))
 refine PyProof.Rows.callWith_builtin1 ?_ h2 rfl
 rw[h3]
 refine cq (ef inner λu s1 ⟨D,H1,xs,eu,I1,hs,few,q⟩=>d6 ?_)
 subst eu
 obtain⟨o,es,ep,t,ho,hex,hd,hel,hmem,hb,hf,hn⟩:=hs
 refine call_len_set ho hex hd hf (by rw[hn];lia) ?_
 rw[hn]
 exact⟨.int (oO xs),H1,(I1.tok _).tok _,⟨_,rfl⟩,q⟩
noncomputable def jQ:List D->Option (List Str)
 | []=>some []
 | .str x::ds=>(jQ ds).map (x :: ·)
 | _::_=>none
theorem KM{K:PySem.W.Frag}:∀{ds:List D}{vs:List V}{xs:List Str},jQ ds=some xs->RepL K CT H ds vs->vs=xs.map V.str
 | [],_,_,h,r=>by cases h;cases r;rfl
 | d::ds,_,xs,h,dm=>by
  obtain⟨v,r,h1,h2,h3⟩:=dm
  cases d with
  | str x=>
   obtain⟨ys,hy,rfl⟩:=Option.map_eq_some_iff.mp (h)
   rw[h1,KM hy h3,h2];rfl
  | _=>cases h
def FS:D->Out D
 | .lst ds=>match jQ ds with
  | some xs=>if decide (xs.length<4000)=true then .ok (.int (oO xs)) else .stuck
  | none=>.stuck
 | _=>.stuck
theorem Sd(hh:C.X.A.handled=none)(gl:Gl C.X "len")(ml:C.X.mg "len"=none)(gs:Gl C.X "set")(ms:C.X.mg "set"=none)(ha:DB C a A)
 (h1:starEach [a] C.X.env=(false,eval a C.X.env)::starEach [] C.X.env:=by rfl)
 (h2:starEach [.Call (.Name "set" p2) [a] [] p3] C.X.env=(false,eval (.Call (.Name "set" p2) [a] [] p3) C.X.env)::starEach [] C.X.env:=by rfl)
 (h3:backTo pos (starEach [.Call (.Name "set" p2) [a] [] p3] C.X.env)=[(false,eval (.Call (.Name "set" p2) [a] [] p3) C.X.env)]:=by rfl):
 DE C (.Call (.Name "len" p1) [.Call (.Name "set" p2) [a] [] p3] [] pos) (e1 FS A):=by
 obtain⟨ta,q1,q2⟩:=ha
 refine⟨_,Sb hh gl ml gs ms (l5 q1 n9 h1) h1 h2 h3,λG H σ ς Q S q=>?_⟩
 unfold e1 at q
 rw[dR]at q
 refine q2 G H σ ς _ S (dS q λx k v1 H1 G1 S1 a1 b1 r1=>?_)
 cases x with
 | lst ds=>
  obtain⟨p,vs,rfl,sq,r⟩:=r1
  have k:(match jQ ds with | some xs=>if decide (xs.length<4000)=true then Out.ok (D.int (oO xs)) else .stuck | none=>.stuck).post (KD C G H σ ς Q) C.XD:=k
  cases es:jQ ds with
  | none=>rw[es]at k;exact k.elim
  | some xs=>
   rw[es]at k
   have ev:=KM es r
   subst ev
   rcases QA k with⟨hc,kd⟩ | ⟨_,kd⟩
   ·exact⟨p,xs,rfl,sq,aN hc,dH (dJ (kd) a1 b1) S1 rfl⟩
   ·exact kd.elim
 | _=>exact k.elim
def Ak(vs:List V):TA:=λ_ H Q=>Q vs H
noncomputable def jZ:List (List (Str×Bool))->Str->Option Bool
 | [],_=>some false
 | t::ts,c=>match t.lookup c with
  | some true=>some true
  | some false=>jZ ts c
  | none=>none
def mZ(K:PySem.W.Frag)(CT:eU):List Value->List (List (Str×Bool))->Prop
 | [],[]=>True
 | u::us,t::ts=>jY K CT u t/\mZ K CT us ts
 | _,_=>False
theorem KN{K:PySem.W.Frag}(hA:CT c=some A):∀{us:List Value}{ts:List (List (Str×Bool))}{b:Bool},mZ K CT us ts->jZ ts c=some b->PySem.W.kitAny K (.ref A) us=some b
 | [],[],b,_,h=>h
 | u::us,t::ts,b,⟨h1,h2⟩,h=>by
  unfold jZ at h
  unfold PySem.W.kitAny
  cases e:t.lookup c with
  | none=>rw[e]at h;cases h
  | some z=>
   rw[(h1 c z e A hA).2]
   rw[e]at h
   cases z with
   | true=>exact h
   | false=>exact KN hA h2 h
theorem Se{K:PySem.W.Frag}(hA:CT c=some A)(h:mZ K CT (u::us) (t::ts))(e:jZ (t::ts) c=some b):ka K A:=by
 unfold jZ at e
 cases q:t.lookup c with
 | none=>rw[q]at e;cases e
 | some z=>exact(h.1 c z q A hA).1
def kO(ts:List (List (Str×Bool))):D->Out Bool
 | .ins c _=>match jZ ts c with | some b=>.ok b | none=>.stuck
 | _=>.stuck
theorem Sf:PA X [] (Ak []):=n9
theorem Al(h:PE X e (tC v))(r:PA X es (Ak vs))(he:starEach (e::es) X.env=(false,eval e X.env)::starEach es X.env:=by rfl):PA X (e::es) (Ak (v::vs)):=l5 h r he
theorem KO:∀{as:List Addr}{us:List Value},Vals (as.map V.ref) us->us=as.map Value.ref
 | [],_,h=>by cases h;rfl
 | a::as,_,h=>by
  cases h with
  | cons h1 h2=>rw[KO h2,h1];rfl
theorem Sh(hc:PA C.X cs (Ak ((a::as).map V.ref)))(hk:mZ C.X.K C.CT ((a::as).map Value.ref) (t::ts))(hz:(a::as).length<=20)(hg:Gl C.X "isinstance")(hm:C.X.mg "isinstance"=none)(h:DB C e E)
 (he:starEach (e::[.Tuple cs x1 um]) C.X.env=(false,eval e C.X.env)::starEach [.Tuple cs x1 um] C.X.env:=by rfl) (xX:starEach (.Tuple cs x1 um::[]) C.X.env=(false,eval (.Tuple cs x1 um) C.X.env)::starEach [] C.X.env:=by rfl)
 (fc:(backTo pos (starEach [.Tuple cs x1 um] C.X.env)).any (·.1)=false:=by rfl):DE C (.Call (.Name "isinstance" p) [e,.Tuple cs x1 um] [] pos) (gS (kO (t::ts)) E):=by
 obtain⟨te,p1,q1⟩:=h
 have hR:CallR C.X (.builtin "isinstance") (λxs H Q=>∃ c fs x tp b,xs=[x,V.ref tp]/\Rep C.X.K C.CT H (.ins c fs) x/\H tp=some (.tup ((a::as).map V.ref))/\jZ (t::ts) c=some b/\Q (.bl b) H):=by
  intro pins s σ H xs us Q I r hq
  obtain⟨c,fs,x,tp,b,rfl,h1,h2,h3,q⟩:=hq
  obtain⟨u,w,rfl,r1,r2⟩:=nq r
  obtain rfl:=r2
  obtain⟨p',A',dx,kz,rfl,g1,g2,_⟩:=h1
  obtain rfl:=r1
  have cd:=Se g1 hk h3
  obtain⟨mA,O,_⟩:=wK I.hok g2
  obtain⟨od,J,_⟩:=O.look
  obtain⟨_,its,rv,pt⟩:=(I.hok tp _ h2)
  obtain⟨⟨oc,odd,odt,lr⟩,ho,xH,nn,hd⟩:=pt
  obtain rfl:=xH
  obtain rfl:=hd
  obtain rfl:=KO rv
  exact PySem.W.kia_tup (PySem.W.kitx_own (cd.cl.get _) cd.cl.hd cd.ha cd.hn cd.htk cd.hm) I.kIn J ho (KN g1 hk h3) (λz=>nomatch z) λtk=>⟨.bl b,H,I.tok _,rfl,q⟩
 refine⟨_,Dp hR hg hm PyProof.Rows.Boot.«isinstance» (l5 p1 (l5 (Iz hc) n9 xX) he) (by decide) (by decide) he fc,λG H σ ς Q S q=>?_⟩
 unfold gS at q
 rw[dR]at q
 refine q1 G H σ ς _ S (dS q λd k v1 H1 G1 S1 a1 b1 r1=>?_)
 rw[dR]at k
 cases d with
 | ins c fs=>
  cases ea:jZ (t::ts) c with
  | none=>
   have hs:kO (t::ts) (D.ins c fs)=.stuck:=by show(match jZ (t::ts) c with | some b=>Out.ok b | none=>Out.stuck)=_;rw[ea]
   rw[hs]at k;exact k.elim
  | some b=>
   have hs:kO (t::ts) (D.ins c fs)=.ok b:=by show(match jZ (t::ts) c with | some b=>Out.ok b | none=>Out.stuck)=_;rw[ea]
   rw[hs]at k
   refine⟨by rw[aD];exact b0 hz (by decide),λtp x5=>?_⟩
   have S2:=S1.allocO (o:=.tup ((a::as).map V.ref)) x5
   exact⟨c,fs,v1,tp,b,rfl,dD (Qv x5) _ v1 r1,QC,ea,dH (dJ (k) (a1.trans (Qv x5)) b1) S2 rfl⟩
 | _=>exact k.elim
theorem FT{K:PySem.W.Frag}(h:d.scal=true)(r:Rep K CT H d v):v=gO d:=by
 cases d with
 | non=>exact r
 | bl b=>exact r
 | int i=>exact r
 | str x=>exact r
 | _=>cases h
theorem FU{K:PySem.W.Frag}:∀{ds:List D}{vs:List V},ds.all D.scal=true->RepL K CT H ds vs->vs=ds.map gO
 | [],_,_,r=>by cases r;rfl
 | d::ds,_,h,dm=>by
  obtain⟨v,r,h1,h2,h3⟩:=dm
  rw[cF,aO]at h
  rw[h1,FT h.1 h2,FU h.2 h3];rfl
theorem FV(h:d.scal=true):iR (gO d)=true:=by
 cases d with
 | non=>rfl
 | bl b=>rfl
 | int i=>rfl
 | str x=>rfl
 | _=>cases h
theorem FW:∀{ds:List D},ds.all D.scal=true->(ds.map gO).all iR=true
 | [],_=>rfl
 | d::ds,h=>by
  rw[cF,aO]at h
  rw[aj,cF,FV h.1,FW h.2];rfl
def m7:D->D->Out D
 | x,.lst ds=>if (x.scal&&ds.all D.scal)=true then .ok (.bl (jf (gO x) (ds.map gO))) else .stuck
 | _,_=>.stuck
def yC:D->D->Out D
 | x,.lst ds=>if (x.scal&&ds.all D.scal)=true then .ok (.bl (!jf (gO x) (ds.map gO))) else .stuck
 | _,_=>.stuck
theorem Si:km C (A4 C.X.K false) m7:=by
 intro G H σ ς Q x y vx vy S hx hy q
 cases y with
 | lst ds=>
  have q:=q
  rcases QA q with⟨hc,q⟩ | ⟨_,q⟩
  ·rw[aO]at hc
   obtain⟨p,vs,rfl,h2,h3⟩:=hy
   have e1:=FT hc.1 hx
   have e2:=FU hc.2 h3
   subst e1;subst e2
   exact⟨p,_,rfl,.inl h2,FV hc.1,FW hc.2,q.2⟩
  ·exact q.elim
 | _=>exact q.elim
theorem Sj:km C (A4 C.X.K true) yC:=by
 intro G H σ ς Q x y vx vy S hx hy q
 cases y with
 | lst ds=>
  have q:=q
  rcases QA q with⟨hc,q⟩ | ⟨_,q⟩
  ·rw[aO]at hc
   obtain⟨p,vs,rfl,h2,h3⟩:=hy
   have e1:=FT hc.1 hx
   have e2:=FU hc.2 h3
   subst e1;subst e2
   exact⟨p,_,rfl,.inl h2,FV hc.1,FW hc.2,q.2⟩
  ·exact q.elim
 | _=>exact q.elim
theorem Sk:fq m7:=λx y=>by
 cases y with
 | lst ds=>
  show match (if (x.scal&&ds.all D.scal)=true then Out.ok (D.bl (jf (gO x) (ds.map gO))) else .stuck) with | .ok d=>d.scal=true | .exc _=>False | .stuck=>True
  split<;>rename_i h<;>(split at h<;>cases h)<;>first | rfl | trivial
 | _=>exact True.intro
theorem Sl:fq yC:=λx y=>by
 cases y with
 | lst ds=>
  show match (if (x.scal&&ds.all D.scal)=true then Out.ok (D.bl (!jf (gO x) (ds.map gO))) else .stuck) with | .ok d=>d.scal=true | .exc _=>False | .stuck=>True
  split<;>rename_i h<;>(split at h<;>cases h)<;>first | rfl | trivial
 | _=>exact True.intro
theorem KP(ha:DB C a A)(hb:DB C b B)(hm:behindInMarks .In b=false:=by rfl):DE C (.Compare a [.In] [b] pos) (e2 m7 A B):=AI OJ Si Sk ha hb hm
theorem Sm(ha:DB C a A)(hb:DB C b B)(hm:behindInMarks .NotIn b=false:=by rfl):DT C (.Compare a [.NotIn] [b] pos) (eD (e2 yC A B)):=rG OK Sj Sl ha hb hm
def uo(i:Nat)(E:SD->Out D):SD->Out Fl:=λς=>match ς[i]? with
 | some (some (.o,.lst xs))=>E ς>>=λd=>match d with
  | .lst zs=>if decide (xs.length+zs.length<=sizeLine)=true then .ok (.nx (ς.set i (some (.o,.lst (xs++zs))))) else .stuck
  | _=>.stuck
 | _=>.stuck
theorem KQ(i:Nat)(he:DF C e E)(hN:C.X.N[i]?=some x:=by rfl)(hv:ll C.X.env.scope x:=by fail"V1")
 (hd:(x == ("__debug__":Str))=false:=by decide) (gR:(x == ("__classdict__":Str))=false:=by decide)
 (ik:attributeBase (.Name x p1) "extend" C.X.env (eval (.Name x p1) C.X.env)=eval (.Name x p1) C.X.env:=by rfl)
 (l6:((backTo p3 (starEach (e::[]) C.X.env)).all (λx => !x.1)&&(backToKw p3 (keywordEach [] C.X.env)).all (λx=>x.1.isSome)
  && decide ((e::[]).length+([]:List Keyword).length+(if ([]:List Keyword).isEmpty then 0 else 1)<30))=true:=by rfl)
 (jg:(p2.endLine == p3.line)=true:=by rfl) (hs:starEach (e::[]) C.X.env=(false,eval e C.X.env)::starEach [] C.X.env:=by rfl)
 (lz:swapsWith (.Call (.Attribute (.Name x p1) "extend" p2) [e] [] p3) none pos.line C.X.env=pure false:=by rfl):
 DS C (.Expr (.Call (.Attribute (.Name x p1) "extend" p2) [e] [] p3) pos) (uo i E):=by
 obtain⟨t,p,q⟩:=he
 refine⟨_,zq (qx PySem.F.plainAttrs_list PySem.F.slot_list_extend PySem.F.type_list_extend OS (n8 hN hv hd gR) (l5 p n9 hs) ik l6 jg hs rfl) lz,λG H σ ς W S k=>?_⟩
 unfold uo at k
 split at k
 ·rename_i xs z
  obtain⟨pp,e1,hg,h0,ow⟩:=S.ow i _ z
  obtain⟨vs,hv1,hv2⟩:=ow
  rw[dR]at k
  refine⟨_,e1,.inl ⟨rfl,vs,SqL.of hv1⟩,q G H σ ς _ S (dS k λd k2 b H1 G1 S1 a1 b1 hb hgb ob=>?_)⟩
  cases d with
  | lst zs=>
   obtain⟨ws,hw1,hw2⟩:=ob
   have k2:=k2
   rcases QA k2 with⟨hc,k3⟩ | ⟨_,k3⟩
   ·have hl:=hv2.length
    have A5:=hw2.length
    refine⟨pp,b,vs,ws,rfl,rfl,a1 _ _ hv1,hw1,by rw[← hl, ← A5];exact aN hc,?_⟩
    exact k3 σ _ G1 (S1.write z e1 (a1 _ _ hv1) ((dE b1 xs vs hv2).append hw2)) b1
   ·exact k3.elim
  | _=>exact k2.elim
 ·exact k.elim
section
variable{K:PySem.W.Frag}
end
theorem KR:∀{xs:List V}{us:List Value},xs.length=us.length->(∀(j:Nat)(u:Value),us[j]?=some u->∃ x,xs[j]?=some x/\RelV x u)->Vals xs us
 | [],[],_,_=>.nil
 | [],_::_,h,_=>by cases h
 | _::_,[],h,_=>by cases h
 | x::xs,u::us,hl,h=>by
  obtain⟨y,e,r⟩:=h 0 u rfl
  cases e
  exact .cons r (KR (by simpa using hl) λj v e=>h (j+1) v e)
def frzs:List Nat->SD->SD
 | [],ς=>ς
 | i::is,ς=>frzs is (frz i ς)
def Sn(te:TA):TE:=λσ H Q=>te σ H λvs H1=>∃ n:Nat,vs=[V.int (n:Int)]/\n<=1000/\∀ l,H1 l=none->Q (.ref l) (eT H1 l (.lst ((List.range n).map λ(i:Nat)=>V.int (i:Int))))
theorem So(hh:X.A.handled=none)(gl:Gl X "list")(ml:X.mg "list"=none)(gr:Gl X "range")(mr:X.mg "range"=none)(he:PA X [e] te)
 (h1:starEach [e] X.env=(false,eval e X.env)::starEach [] X.env:=by rfl)
 (h2:starEach [.Call (.Name "range" p2) [e] [] p3] X.env=(false,eval (.Call (.Name "range" p2) [e] [] p3) X.env)::starEach [] X.env:=by rfl)
 (h3:backTo pos (starEach [.Call (.Name "range" p2) [e] [] p3] X.env)=[(false,eval (.Call (.Name "range" p2) [e] [] p3) X.env)]:=by rfl):
 PE X (.Call (.Name "list" p1) [.Call (.Name "range" p2) [e] [] p3] [] pos) (Sn te):=by
 intro pins s σ H Q I h
 have inner:wpAny (model X.prog X.w) X.A (eval (.Call (.Name "range" p2) [e] [] p3) X.env) (λu s'=>∃(r:Addr)(H1:Hp)(n:Nat)(t v w:Tok),u=.ref r/\Inv X pins σ H1 s'/\IsRange s'.heap r 0 n 1 t v w/\n<=1000/\∀ l,H1 l=none->Q (.ref l) (eT H1 l (.lst ((List.range n).map λ(i:Nat)=>V.int i)))) X.xe s:=by
  refine bJ (pB I gr mr boot_range ?_ (by decide) (by decide))
  refine bE (ef (he p3 pins s σ H _ I h) λus s1 dm=>?_) h1 rfl
  obtain⟨vs,H1,I1,r1,n,ev,hn,q⟩:=dm
  subst ev
  obtain⟨u,rfl,rx⟩:=iQ r1
  obtain⟨t,rfl⟩:=rx
  exact call_range_1 ⟨_,H1,n,_,_,_,rfl,I1.kept λb o e=>aI _ e,IsRange.new ..,hn,q⟩
 refine bJ (pB I gl ml PyProof.Rows.Boot.«list» ?_ (by decide) (by decide))
 refine bE ?_ h2 rfl
 rw[h3]
 refine cq (ef inner λu s1 ⟨r,H1,n,t,v,w,eu,I1,hr,hn,q⟩=>d6 ?_)
 subst eu
 have pq:Builtin.Range.rangeSize 0 n 1=n:=by rw[rangeSize_one];split<;>lia
 refine call_list_range hh hr (small_one (by lia) (by lia) (by lia) (by lia)) pq (by lia) λh' tk acc' c' kp e' tf=>?_
 have hv:Vals ((List.range n).map λ(i:Nat)=>V.int i) acc'.toList:=by
  refine KR (by rw[aD,aC,cZ];exact tf.1.symm) λj u eu=>?_
  have hj:j<n:=by
   have:=(aW.mp eu).1
   rw[cZ,tf.1]at this
   exact this
  obtain⟨t,rfl⟩:=tf.2 j u (by rw[← Array.getElem?_toList];exact eu)
  refine⟨V.int j,by rw[aH,ae hj];rfl,t,?_⟩
  simp
 exact⟨.ref s1.heap.objs.size,_,I1.laid kp (aJ _) (show ObjOk X.prog X.w _ h' _ (.lst ((List.range n).map λ(i:Nat)=>V.int (i:Int))) from⟨by rw[aD,aC];exact b0 hn (by decide),acc'.toList,c',hv,by simpa using e'⟩),rfl,q _ (I1.hok.fresh (aJ _))⟩
def yD(A:SD->Out (List D)):SD->Out D:=λς=>A ς>>=λxs=>match xs with
 | [.int i]=>if (decide (0<=i)&&decide (i<=1000))=true then .ok (.lst (k9 0 i.toNat)) else .stuck
 | _=>.stuck
theorem KS{K:PySem.W.Frag}:∀(ns:List Nat),RepL K CT G (ns.map λ(i:Nat)=>D.int ((0:Int)+i)) (ns.map λ(i:Nat)=>V.int (i:Int))
 | []=>rfl
 | n::ns=>⟨_,_,rfl,by show V.int (n:Int)=V.int (0+(n:Int));rw[Int.zero_add],KS ns⟩
theorem Sq(hh:C.X.A.handled=none)(gl:Gl C.X "list")(ml:C.X.mg "list"=none)(gr:Gl C.X "range")(mr:C.X.mg "range"=none)(ha:nS C [e] A)
 (h1:starEach [e] C.X.env=(false,eval e C.X.env)::starEach [] C.X.env:=by rfl)
 (h2:starEach [.Call (.Name "range" p2) [e] [] p3] C.X.env=(false,eval (.Call (.Name "range" p2) [e] [] p3) C.X.env)::starEach [] C.X.env:=by rfl)
 (h3:backTo pos (starEach [.Call (.Name "range" p2) [e] [] p3] C.X.env)=[(false,eval (.Call (.Name "range" p2) [e] [] p3) C.X.env)]:=by rfl):
 DF C (.Call (.Name "list" p1) [.Call (.Name "range" p2) [e] [] p3] [] pos) (yD A):=by
 obtain⟨t,p,q⟩:=ha
 refine⟨_,So hh gl ml gr mr p h1 h2 h3,λG H σ ς Q S k=>?_⟩
 unfold yD at k
 rw[dR]at k
 refine q G H σ ς _ S (dS k λxs kk vs H1 G1 S1 a1 b1 r1=>?_)
 match xs,kk,r1 with
 | [.int i],kk,r1=>
  obtain⟨v,r,rfl,hv,hr⟩:=r1
  cases hr;cases hv
  rcases QA (kk) with⟨hc,k3⟩ | ⟨_,k3⟩
  ·rw[aO]at hc
   have c1:=aN hc.1
   have c2:=aN hc.2
   refine⟨i.toNat,by rw[show((i.toNat:Nat):Int)=i by lia],by lia,?_⟩
   exact KF.lst (dM (k3) a1 b1) S1 (KS _)
  ·exact k3.elim
 | [],kk,_=>exact kk.elim
 | [.non],kk,_=>exact kk.elim
 | [.bl _],kk,_=>exact kk.elim
 | [.str _],kk,_=>exact kk.elim
 | [.lst _],kk,_=>exact kk.elim
 | [.tup _],kk,_=>exact kk.elim
 | [.dic _],kk,_=>exact kk.elim
 | [.ins _ _],kk,_=>exact kk.elim
 | [.err _ _],kk,_=>exact kk.elim
 | x::y::r,kk,_=>
  cases x<;>exact kk.elim
section
variable {id:String}
end
end DL
namespace L2
open PySem PySem.Spec PyProof.Rows
end L2
namespace DL
open PySem PySem.Spec PyProof.Rows L2
theorem StR.swap(S:StR C G H σ ς)(P:Addr->Prop)(hl:ς'.length=ς.length)(g1:Same G G')(h1:∀ b o,H b=some o->¬ P b->H' b=some o)(s1:Same G' H')(n1:∀ b,G b=none->G' b≠none->H b=none)
 (hP:∀ b,P b->H' b≠none/\((C.H0 b=none)∨(C.M b/\C.B b=none)))
 (hs:∀(i:Nat) m d',ς'[i]?=some (some (m,d'))->(ς[i]?=some (some (m,d'))/\∀ b,(m=.o∨m=.s)->σ[i]?=some (some (.ref b))->¬ P b)∨
  ((m=.o∨m=.s)/\∃ d b,ς[i]?=some (some (m,d))/\σ[i]?=some (some (.ref b))/\Own C.X.K C.CT G' H' b d')):StR C G' H' σ ς':=by
 have gn:∀ b,G b=none->(∃ o,H b=some o)->G' b=none:=λb hb ⟨o,ho⟩=>by
  cases q:G' b with
  | none=>rfl
  | some u=>have:=n1 b hb (by rw[q];simp);rw[ho]at this;cases this
 have back:∀(i:Nat) m d',(m=.o∨m=.s)->ς'[i]?=some (some (m,d'))->∃ d,ς[i]?=some (some (m,d)):=λi m d' hm h=>by
  rcases hs i m d' h with⟨e,_⟩ | ⟨_,d,b,e,_⟩
  ·exact⟨_,e⟩
  ·exact⟨_,e⟩
 exact {
  sub:=s1
  g0:=S.g0.trans g1
  new:=λb h0 hn=>by
   cases q:G b with
   | none=>exact S.h0none (n1 b q hn)
   | some o=>exact S.new b h0 (by rw[q];simp)
  fr:=λb o e m=>h1 b o (S.fr b o e m) λp=>by
   rcases(hP b p).2 with z | z
   ·rw[z]at e;cases e
   ·exact m z.1
  dom:=λb e=>by
   cases q:H b with
   | none=>exact S.dom b q
   | some o=>
    by_cases p:P b
    ·exact absurd e (hP b p).1
    ·rw[h1 b o q p]at e;cases e
  bs:=λb o e=>h1 b o (S.bs b o e) λp=>by
   rcases(hP b p).2 with z | z
   ·rw[S.bh b z]at e;cases e
   ·rw[z.2]at e;cases e
  bh:=S.bh
  len:=by rw[hl];exact S.len
  fz:=λi d h=>by
   rcases hs i _ d h with⟨e,_⟩ | ⟨z | z,_⟩
   ·obtain⟨v,a,b⟩:=S.fz i d e
    exact⟨v,a,dD g1 d v b⟩
   ·cases z
   ·cases z
  ow:=λi d h=>by
   rcases hs i _ d h with⟨e,np⟩ | ⟨_,d0,b,e,eb,w⟩
   ·obtain⟨p,a,hg,h0,w⟩:=S.ow i d e
    exact⟨p,a,gn p hg w.there,h0,w.mono g1 λo z=>h1 p o z (np p (.inl rfl) a)⟩
   ·obtain⟨p,a,hg,h0,w0⟩:=S.ow i d0 e
    rw[eb]at a;cases a
    exact⟨b,eb,gn b hg w0.there,h0,w⟩
  ln:=λi d h=>by
   rcases hs i _ d h with⟨e,_⟩ | ⟨z | z,_⟩
   ·exact S.ln i d e
   ·cases z
   ·cases z
  inj:=λi j d e p n h1 h2=>by
   obtain⟨d1,q1⟩:=back i _ d (.inl rfl) h1
   obtain⟨d2,q2⟩:=back j _ e (.inl rfl) h2
   exact S.inj i j d1 d2 p n q1 q2
  sf:=λi d h=>by
   rcases hs i _ d h with⟨e,np⟩ | ⟨_,d0,b,e,eb,w⟩
   ·obtain⟨p,a,hg,h0,m,z,w⟩:=S.sf i d e
    exact⟨p,a,gn p hg w.there,h0,m,z,w.mono g1 λo z=>h1 p o z (np p (.inr rfl) a)⟩
   ·obtain⟨p,a,hg,h0,m,z,w0⟩:=S.sf i d0 e
    rw[eb]at a;cases a
    exact⟨b,eb,gn b hg w0.there,h0,m,z,w⟩
  su:=λi j d e p n h1 h2=>by
   obtain⟨d1,q1⟩:=back i _ d (.inr rfl) h1
   obtain⟨d2,q2⟩:=back j _ e (.inr rfl) h2
   exact S.su i j d1 d2 p n q1 q2 }
theorem StR.wslot(S:StR C G H σ ς)(hm:m=.o∨m=.s)(h:ς[i]?=some (some (m,d))):∃ p,σ[i]?=some (some (.ref p))/\G p=none/\(C.H0 p=none∨(C.M p/\C.B p=none))/\Own C.X.K C.CT G H p d/\
 ∀(j:Nat) m' d',j≠i->(m'=.o∨m'=.s)->ς[j]?=some (some (m',d'))->σ[j]?≠some (some (.ref p)):=by
 rcases hm with rfl | rfl
 ·obtain⟨p,a,hg,h0,w⟩:=S.ow i d h
  refine⟨p,a,hg,.inl h0,w,λj m' d' hj yE h2 z=>?_⟩
  rcases yE with rfl | rfl
  ·exact S.inj i j d d' p (bR hj) h h2 a z
  ·obtain⟨q,a2,_,hq,_⟩:=S.sf j d' h2
   rw[z]at a2;cases a2
   exact hq h0
 ·obtain⟨p,a,hg,h0,m,z,w⟩:=S.sf i d h
  refine⟨p,a,hg,.inr ⟨m.1,z⟩,w,λj m' d' hj yE h2 z=>?_⟩
  rcases yE with rfl | rfl
  ·obtain⟨q,a2,_,hq,_⟩:=S.ow j d' h2
   rw[z]at a2;cases a2
   exact h0 hq
  ·exact S.su i j d d' p (bR hj) h h2 a z
theorem StR.writeW(S:StR C G H σ ς)(hm:m=.o∨m=.s)(hi:ς[i]?=some (some (m,.lst xs)))(hp:σ[i]?=some (some (.ref p)))(r:RepL C.X.K C.CT G ys ws):
 StR C G (eT H p (.lst ws)) σ (ς.set i (some (m,.lst ys))):=by
 obtain⟨p',a,hg,h0,w,fT⟩:=S.wslot hm hi
 rw[hp]at a;cases a
 refine S.swap (λb=>b=p) (aw ..) (dC G) (λb o e n=>by rw[Qk n];exact e) (λb o e=>by rw[Qk (by rintro rfl;rw[hg]at e;cases e)];exact S.sub b o e) (λb e n=>absurd e n)
  (λb e=>by subst e;exact⟨by rw[QC];simp,h0⟩) λj m' d' h=>?_
 rcases QD h with⟨rfl,h2,l⟩ | ⟨ne,h2⟩
 ·cases h2
  exact .inr ⟨hm,_,p,hi,hp,ws,QC,r⟩
 ·exact .inl ⟨h2,λb yE e z=>by subst z;exact fT j m' d' (bR ne) yE h2 e⟩
noncomputable def wr:SM->Bool
 | .o=>true
 | .s=>true
 | _=>false
theorem i9(h:wr m=true):m=.o∨m=.s:=by cases m<;>first | exact .inl rfl | exact .inr rfl | cases h
def jR(i:Nat)(A E:SD->Out D):SD->Out Fl:=λς=>E ς>>=λd=>match (ς[i]?:Option (Option (SM×D))) with
 | some (some (m,.lst xs))=>if wr m=true then A ς>>=λy=>match y with
  | .int j=>gq (kW xs.length j)>>=λj=>.ok (.nx (ς.set i (some (m,.lst (xs.set j d)))))
  | _=>.stuck else .stuck
 | _=>.stuck
theorem Am(i:Nat)(hi:DB C a A)(he:DE C e E)(hN:C.X.N[i]?=some x:=by rfl)(hv:ll C.X.env.scope x:=by fail"V1")
 (hd:(x == ("__debug__":Str))=false:=by decide) (gR:(x == ("__classdict__":Str))=false:=by decide)
 (gH:∀ v,assign (.Subscript (.Name x p1) a p2) C.X.env v=(do
  let ov ← holding [v] (eval (.Name x p1) C.X.env)
  let iv ← holding [v,ov] (eval a C.X.env)
  standAt p2
  holding [v,ov,iv] (setItem ov iv v)
  release [v,ov,iv] []):=by fail"V3")
 (hs:swapsWithSole [.Subscript (.Name x p1) a p2] e pos.line C.X.env=pure false:=by rfl) (hw:swappedStores [.Subscript (.Name x p1) a p2] e C.X.env=pure none:=by rfl)
 (h1:(assignEach [.Subscript (.Name x p1) a p2] C.X.env).map (·.2)=[assign (.Subscript (.Name x p1) a p2) C.X.env]:=by rfl):DS C (.Assign [.Subscript (.Name x p1) a p2] e pos) (jR i A E):=by
 obtain⟨t,p,q⟩:=he
 obtain⟨t2,p2,q2⟩:=hi
 refine⟨_,DY p (Ip (n8 hN hv hd gR) p2 JC gH) hs hw h1,λG H σ ς W S k=>?_⟩
 unfold jR at k
 rw[dR]at k
 refine q G H σ ς _ S (dS k λd k v H1 G1 S1 a1 b1 r1=>?_)
 split at k
 ·rename_i m xs z
  rcases QA k with⟨hc,k⟩ | ⟨_,k⟩
  ·obtain⟨pp,e1,hg,h0,ow,_⟩:=S1.wslot (i9 hc) z
   obtain⟨vs,hv1,hv2⟩:=ow
   rw[dR]at k
   refine⟨_,e1,q2 G1 H1 σ ς _ S1 (dS k λy k2 w H2 G2 S2 a2 b2 r2=>?_)⟩
   cases y with
   | int j=>
    cases r2
    have rH:=k2
    rw[dR]at rH
    obtain⟨jj,ej,k3⟩:=oE rH
    refine⟨pp,vs,j,jj,rfl,rfl,a2 _ _ hv1,by rw[← hv2.length];exact ej,?_⟩
    exact k3 σ _ G2 (S2.writeW (i9 hc) z e1 ((dE b2 xs vs hv2).set (dD b2 d v r1) jj)) (b1.trans b2)
   | _=>exact k2.elim
  ·exact k.elim
 ·exact k.elim
def ArgW(K:PySem.W.Frag)(CT:eU)(G H:Hp):List Bool->List D->List V->List Addr->Prop
 | [],[],[],ps=>ps=[]
 | true::bs,d::ds,v::vs,ps=>∃ p nY,v=.ref p/\ps=p::nY/\p∉nY/\G p=none/\Own K CT G H p d/\ArgW K CT G H bs ds vs nY
 | false::bs,d::ds,v::vs,ps=>Rep K CT G d v/\ArgW K CT G H bs ds vs ps
 | _,_,_,_=>False
def qN(K:PySem.W.Frag)(CT:eU)(G H:Hp):List D->List Addr->Prop
 | [],[]=>True
 | d::ds,p::ps=>Own K CT G H p d/\qN K CT G H ds ps
 | _,_=>False
section
variable{K:PySem.W.Frag}
theorem ArgW.len:∀{bs:List Bool}{ds:List D}{vs:List V}{ps:List Addr},ArgW K CT G H bs ds vs ps->bs.length=vs.length/\ds.length=vs.length
 | [],[],[],_,_=>⟨rfl,rfl⟩
 | true::bs,d::ds,v::vs,ps,dm=>by obtain⟨_,_,_,_,_,_,_,h⟩:=dm;have:=ArgW.len h;simp[this.1,this.2]
 | false::bs,d::ds,v::vs,ps,dm=>by obtain⟨_,h⟩:=dm;have:=ArgW.len h;simp[this.1,this.2]
theorem ArgW.mem:∀{bs:List Bool}{ds:List D}{vs:List V}{ps:List Addr}{i:Nat}{v:V},ArgW K CT G H bs ds vs ps->bs[i]?=some true->vs[i]?=some v->∃ p,v=.ref p/\p∈ps
 | true::bs,d::ds,v::vs,ps,0,w,dm,_,h=>by
  obtain⟨p,nY,e,e2,_,_,_,_⟩:=dm
  cases h;exact⟨p,e,by rw[e2];exact aR ..⟩
 | true::bs,d::ds,v::vs,ps,i+1,w,dm,h1,h2=>by
  obtain⟨p,nY,e,e2,_,_,_,hh⟩:=dm
  obtain⟨q,a,b⟩:=ArgW.mem hh (by simpa using h1) (by simpa using h2)
  exact⟨q,a,by rw[e2];exact aG _ b⟩
 | false::bs,d::ds,v::vs,ps,0,w,_,h,_=>by cases h
 | false::bs,d::ds,v::vs,ps,i+1,w,dm,h1,h2=>by obtain⟨_,hh⟩:=dm;exact ArgW.mem hh (by simpa using h1) (by simpa using h2)
theorem ArgW.get:∀{bs:List Bool}{ds:List D}{vs:List V}{ps:List Addr}{i:Nat}{b:Bool}{d:D},ArgW K CT G H bs ds vs ps->bs[i]?=some b->ds[i]?=some d->∃ v,vs[i]?=some v/\(b=false->Rep K CT G d v)/\(b=true->∃ p,v=.ref p/\p∈ps/\G p=none/\Own K CT G H p d)
 | true::bs,d::ds,v::vs,ps,0,b,d',dm,h1,h2=>by
  obtain⟨p,nY,e,e2,_,g,o,_⟩:=dm
  cases h1;cases h2;exact⟨v,rfl,λz=>(nomatch z),λ_=>⟨p,e,by rw[e2];exact aR ..,g,o⟩⟩
 | true::bs,d::ds,v::vs,ps,i+1,b,d',dm,h1,h2=>by
  obtain⟨p,nY,e,e2,_,_,_,hh⟩:=dm
  obtain⟨w,a,a1,a2⟩:=ArgW.get hh (by simpa using h1) (by simpa using h2)
  exact⟨w,by simpa using a,a1,λz=>let ⟨q,c1,c2,c3⟩:=a2 z;⟨q,c1,by rw[e2];exact aG _ c2,c3⟩⟩
 | false::bs,d::ds,v::vs,ps,0,b,d',dm,h1,h2=>by
  obtain⟨r,_⟩:=dm
  cases h1;cases h2;exact⟨v,rfl,λ_=>r,λz=>by cases z⟩
 | false::bs,d::ds,v::vs,ps,i+1,b,d',dm,h1,h2=>by
  obtain⟨_,hh⟩:=dm
  obtain⟨w,a,a1,a2⟩:=ArgW.get hh (by simpa using h1) (by simpa using h2)
  exact⟨w,by simpa using a,a1,a2⟩
theorem ArgW.ne:∀{bs:List Bool}{ds:List D}{vs:List V}{ps:List Addr}{i j:Nat}{p:Addr},ArgW K CT G H bs ds vs ps->i<j->bs[i]?=some true->bs[j]?=some true->vs[i]?=some (.ref p)->vs[j]?≠some (.ref p)
 | true::bs,d::ds,v::vs,ps,0,j+1,p,dm,_,_,hb,h1,h2=>by
  obtain⟨q,nY,e,_,n,_,_,hh⟩:=dm
  cases h1;cases e
  obtain⟨q',a,b⟩:=ArgW.mem hh (by simpa using hb) (by simpa using h2)
  cases a;exact n b
 | true::bs,d::ds,v::vs,ps,i+1,j+1,p,dm,hl,ha,hb,h1,h2=>by obtain⟨q,nY,_,_,_,_,_,hh⟩:=dm;exact ArgW.ne (i:=i) (j:=j) hh (by lia) (by simpa using ha) (by simpa using hb) (by simpa using h1) (by simpa using h2)
 | false::bs,d::ds,v::vs,ps,0,j,p,_,_,h,_,_,_=>by cases h
 | false::bs,d::ds,v::vs,ps,i+1,j+1,p,dm,hl,ha,hb,h1,h2=>by obtain⟨_,hh⟩:=dm;exact ArgW.ne (i:=i) (j:=j) hh (by lia) (by simpa using ha) (by simpa using hb) (by simpa using h1) (by simpa using h2)
end
def lJ:List Bool->SD->Out (List D)
 | [],_=>.ok []
 | true::bs,some (.s,d)::ς=>lJ bs ς>>=λws=>.ok (d::ws)
 | false::bs,_::ς=>lJ bs ς
 | _,_=>.stuck
theorem An{K:PySem.W.Frag}:∀{bs:List Bool}{ds:List D}{vs:List V}{ps:List Addr}{ς:SD}{k:List D->Prop}{X:D->Prop},ArgW K CT G H bs ds vs ps->
 (∀(i:Nat) d v,bs[i]?=some true->ς[i]?=some (some (.s,d))->vs[i]?=some v->∃ p,v=.ref p/\Own K CT G' H' p d)->(lJ bs ς).post k X->∃ ws,k ws/\qN K CT G' H' ws ps
 | [],[],[],ps,ς,k,X,h,_,q=>⟨[],q,by have h:=h;rw[h];trivial⟩
 | true::bs,d::ds,v::vs,ps,some (.s,d')::ς,k,X,dm,f,q=>by
  obtain⟨p,nY,e,e2,_,_,_,hh⟩:=dm
  have q:(lJ bs ς>>=λws=>.ok (d'::ws)).post k X:=q
  rw[dR]at q
  obtain⟨ws,kw,ow⟩:=An hh (λi d v a b c=>f (i+1) d v (by simpa using a) (by simpa using b) (by simpa using c)) q
  obtain⟨p',e3,o⟩:=f 0 d' v rfl rfl rfl
  rw[e]at e3;cases e3
  exact⟨d'::ws,kw,by rw[e2];exact⟨o,ow⟩⟩
 | false::bs,d::ds,v::vs,ps,x::ς,k,X,dm,f,q=>by obtain⟨_,hh⟩:=dm;exact An hh (λi d v a b c=>f (i+1) d v (by simpa using a) (by simpa using b) (by simpa using c)) q
 | true::bs,d::ds,v::vs,ps,[],k,X,_,_,q=>q.elim
 | true::bs,d::ds,v::vs,ps,none::ς,k,X,_,_,q=>q.elim
 | true::bs,d::ds,v::vs,ps,some (.k,_)::ς,k,X,_,_,q=>q.elim
 | true::bs,d::ds,v::vs,ps,some (.o,_)::ς,k,X,_,_,q=>q.elim
 | true::bs,d::ds,v::vs,ps,some (.l,_)::ς,k,X,_,_,q=>q.elim
 | false::bs,d::ds,v::vs,ps,[],k,X,_,_,q=>q.elim
noncomputable def qO:List Bool->List D->SD
 | b::bs,d::ds=>some (if b=true then SM.s else SM.k,d)::qO bs ds
 | _,_=>[]
theorem FY:∀{bs:List Bool}{ds:List D},bs.length=ds.length->(qO bs ds).length=bs.length
 | [],[],_=>rfl
 | _::bs,_::ds,h=>by
  show(qO bs ds).length+1=_
  rw[FY (by simpa using h)];rfl
theorem m8:∀{bs:List Bool}{ds:List D}{i:Nat}{x:SM×D}{n:Nat},(qO bs ds++List.replicate n none)[i]?=some (some x)->∃ b d,bs[i]?=some b/\ds[i]?=some d/\x=(if b=true then SM.s else SM.k,d)
 | b::bs,d::ds,0,x,n,h=>by
  have h:=h
  cases h;exact⟨b,d,rfl,rfl,rfl⟩
 | b::bs,d::ds,i+1,x,n,h=>by
  have h:(qO bs ds++List.replicate n none)[i]?=some (some x):=h
  obtain⟨b',d',h1,h2,h3⟩:=m8 h
  exact⟨b',d',by simpa using h1,by simpa using h2,h3⟩
 | [],_,i,x,n,h=>by
  have h:([]++List.replicate n (none:Option (SM×D)))[i]?=some (some x):=h
  rw[cg,ba]at h
  split at h<;>cases h
 | b::bs,[],i,x,n,h=>by
  have h:([]++List.replicate n (none:Option (SM×D)))[i]?=some (some x):=h
  rw[cg,ba]at h
  split at h<;>cases h
def yF(fr:Bool)(bs:List Bool):Fl->Out (D×Option (List D))
 | .nx ς=>lJ bs ς>>=λws=>.ok (.non,some ws)
 | .rt b d=>if (!fr||b||d.scal)=true then .ok (d,none) else .stuck
 | _=>.stuck
def ma(fr:Bool)(bs:List Bool)(len:Nat)(T:SD->Out Fl):List D->Out (D×Option (List D)):=λds=>
 if ds.length=bs.length then T (qO bs ds++List.replicate (len - bs.length) none)>>=yF fr bs else .stuck
def qP(K:PySem.W.Frag)(CT:eU)(fr:Bool)(bs:List Bool)(m:List D->Out (D×Option (List D))):Sp:=λvs H Q _=>∃ ds ps G0,Same G0 H/\ArgW K CT G0 H bs ds vs ps/\
 (m ds).post (λr=>∀ v H' G',Same G0 G'->(∀ b o,H b=some o->b∉ps->H' b=some o)->Same G' H'->(∀ b,G0 b=none->G' b≠none->H b=none)->(∀ b,H' b=none->H b=none)->(∀ ws,r.2=some ws->qN K CT G' H' ws ps)->gD K CT fr H G' H' r.1 v->Q v H') (λ_=>False)
abbrev Ao(P:Program)(w:World)(K:PySem.W.Frag)(mg:Str->Option Value)(base:Heap)(CT:eU)(N:List Str)(qual:Str)(sc:Scope)(f:Addr)(eE:Value)(A:Around)(outer:List Env)(s:Shared)(H:Hp)(E:XK)(G:Hp)(ps:List Addr)(vs:List V):Dc:=
 { X:=(je g8 P w K mg base N qual sc f eE A outer s H E).nox,CT:=CT,G0:=G,XD:=λ_=>False,B:=λb=>if b∈ps then none else H b,M:=λb=>b∈ps,W:=λi=>match vs[i]? with | some (.ref p)=>some p | _=>none }
theorem Sr{P:Program}{w:World}{K:PySem.W.Frag}{mg:Str->Option Value}{base:Heap}{CT:eU}{fr:Bool}{x qual:Str}{st:Stmt}{f:Addr}{fd:FuncData}{dV:Value}{N pn:List Str}{k:Nat}{T:SD->Out Fl}{bs:List Bool}(pR:bs.length=pn.length)
 (F:FunV K x qual st f fd dV) (S:Qo N pn (Qc st))
 (hb:∀(eE:Value)(A:Around)(outer:List Env)(s:Shared)(H:Hp)(E:XK)(G:Hp)(ps:List Addr)(vs:List V),Room k (A.deeper (envOfC qual (Qc st) s.heap.objs.size f eE))->lY (Ao P w K mg base CT N qual (Qc st) f eE A outer s H E G ps vs) (mL st) T):
 FnOk P w K mg base g8 (k+1) f fd pn (qP K CT fr bs (ma fr bs N.length T)):=by
 obtain⟨oc,od,kV,doc,pm,an,eE,ct,lr,rfl,lk,gR⟩:=F.ex
 have len:∀ vs H Q E,qP K CT fr bs (ma fr bs N.length T) vs H Q E->vs.length=pn.length:=by
  rintro vs H Q E ⟨ds,ps,G0,sub,r,q⟩
  rw[← pR,r.len.1]
 refine kG lk gR S len λA outer s H vs Q E hr jC=>?_
 obtain⟨ds,ps,G0,sub,r,q⟩:=jC
 obtain⟨t,p1,q1⟩:=hb eE A outer s H E G0 ps vs hr
 have hl:=r.len
 refine⟨t,p1.nox,?_⟩
 unfold ma at q
 rw[aA (by rw[hl.1,hl.2]),dR]at q
 have S0:StR (Ao P w K mg base CT N qual (Qc st) f eE A outer s H E G0 ps vs) G0 H (L2.start N vs) (qO bs ds++List.replicate (N.length - bs.length) none):={
  sub:=sub
  g0:=dC _
  new:=λb h1 h2=>absurd h1 h2
  fr:=λb o e _=>e
  dom:=λb e=>e
  bs:=λb o e=>by
   have e':(if b∈ps then none else H b)=some o:=e
   by_cases hb:b∈ps
   ·rw[aA hb]at e';cases e'
   ·rw[aB hb]at e';exact e'
  bh:=λb e=>by
   show(if b∈ps then none else H b)=none
   by_cases hb:b∈ps
   ·rw[aA hb]
   ·rw[aB hb];exact e
  len:=by unfold L2.start;rw[aV,aV,FY (by rw[hl.1,hl.2]),aD,br,br];lia
  fz:=λi d e=>by
   obtain⟨b,d',h1,h2,h3⟩:=m8 e
   cases b with
   | true=>cases h3
   | false=>
    cases h3
    obtain⟨v,a,a1,_⟩:=r.get h1 h2
    exact⟨v,nW a,a1 rfl⟩
  ow:=λi d e=>by
   obtain⟨b,d',h1,h2,h3⟩:=m8 e
   cases b<;>cases h3
  ln:=λi d e=>by
   obtain⟨b,d',h1,h2,h3⟩:=m8 e
   cases b<;>cases h3
  inj:=λi j d e p _ h=>by
   obtain⟨b,d',h1,h2,h3⟩:=m8 h
   cases b<;>cases h3
  sf:=λi d e=>by
   obtain⟨b,d',h1,h2,h3⟩:=m8 e
   cases b with
   | false=>cases h3
   | true=>
    cases h3
    obtain⟨v,a,_,a2⟩:=r.get h1 h2
    obtain⟨p,rfl,hm,hg,o⟩:=a2 rfl
    obtain⟨u,hu⟩:=o.there
    refine⟨p,nW a,hg,(by show H p≠none;rw[hu];simp),⟨hm,?_⟩,aA hm,o⟩
    show(match vs[i]? with | some (.ref p)=>some p | _=>none)=some p
    rw[a]
  su:=λi j d e p y3 h1 h2 g1 g2=>by
   obtain⟨b,d1,c1,c2,c3⟩:=m8 h1
   obtain⟨b',d2,c4,c5,c6⟩:=m8 h2
   cases b with
   | false=>cases c3
   | true=>
    cases b' with
    | false=>cases c6
    | true=>
     obtain⟨v1,a1,_⟩:=r.get c1 c2
     obtain⟨v2,a2,_⟩:=r.get c4 c5
     rw[nW a1]at g1;cases g1
     rw[nW a2]at g2;cases g2
     rcases Nat.lt_or_gt_of_ne y3 with l | l
     ·exact r.ne l c1 c4 a1 a2
     ·exact r.ne l c4 c1 a2 a1 }
 refine q1 G0 H (L2.start N vs) _ _ S0 (dS q λfl kk=>?_)
 cases fl with
 | nx ς'=>
  intro σ' H' G' S' s'
  have kk:(lJ bs ς'>>=λws=>Out.ok (D.non,some ws)).post _ _:=kk
  rw[dR]at kk
  obtain⟨ws,kw,ow⟩:=An r (λi d v b1 b2 b3=>by
   obtain⟨p,a,_,_,⟨_,hW⟩,_,o⟩:=S'.sf i d b2
   have hW:(match vs[i]? with | some (.ref p)=>some p | _=>none)=some p:=hW
   obtain⟨p',e,_⟩:=r.mem b1 b3
   subst e
   rw[b3]at hW
   cases hW
   exact⟨_,rfl,o⟩) kk
  exact kw .non H' G' s' (λb o e hb=>S'.fr b o e hb) S'.sub S'.new S'.dom (λAp e=>by cases e;exact ow) (by
   show gD K CT fr H G' H' D.non V.non
   unfold gD;rw[aB (by cases fr<;>decide)];rfl)
 | bk ς'=>exact λσ' H' G' S' s'=>kk.elim
 | ct ς'=>exact λσ' H' G' S' s'=>kk.elim
 | rt b d=>
  intro v H' G' S' s' ret
  rcases QA (kk) with⟨hc,k2⟩ | ⟨_,k2⟩
  ·cases b with
   | false=>
    refine k2 v H' G' s' (λb o e hb=>S'.fr b o e hb) S'.sub S'.new S'.dom (λAp e=>by cases e) ?_
    unfold gD
    have hn:¬ (fr && !d.scal)=true:=by revert hc;cases fr<;>cases d.scal<;>simp
    rw[aB hn]
    exact ret
   | true=>
    obtain⟨p,rfl,h0,hg,ow⟩:=(ret)
    cases fr with
    | true=>
     refine k2 _ H' G' s' (λb o e hb=>S'.fr b o e hb) S'.sub S'.new S'.dom (λAp e=>by cases e) ?_
     have hs:d.scal=false:=by cases d<;>first | rfl | exact ow.elim
     unfold gD
     rw[aA (by rw[hs];rfl)]
     exact⟨p,rfl,h0,hg,ow⟩
    | false=>
     obtain⟨o,ho⟩:=ow.there
     have S2:=GH.freezeR S' ho hg h0
     refine k2 _ H' _ (s'.trans (Qv hg)) (λb o e hb=>S2.fr b o e hb) S2.sub S2.new S2.dom (λAp e=>by cases e) ?_
     unfold gD
     rw[aB (by simp)]
     exact ow.known hg ho
  ·exact k2.elim
def iy(i:Nat):SD->Out D:=λς=>match (ς[i]?:Option (Option (SM×D))) with
 | some (some (m,d))=>if wr m=true then .ok d else .stuck
 | _=>.stuck
def m9(K:PySem.W.Frag)(CT:eU)(G:Hp)(σ:St)(ς:SD):List (Option Nat)->List D->List V->Prop
 | [],[],[]=>True
 | some s::ms,d::ds,v::vs=>(∃ m,wr m=true/\ς[s]?=some (some (m,d)))/\σ[s]?=some (some v)/\m9 K CT G σ ς ms ds vs
 | none::ms,d::ds,v::vs=>Rep K CT G d v/\m9 K CT G σ ς ms ds vs
 | _,_,_=>False
def rh(C:Dc)(es:List Expr)(ms:List (Option Nat))(A:SD->Out (List D)):Prop:=∃ t,PA C.X es t/\∀ G H σ ς Q,StR C G H σ ς->
 (A ς).post (λds=>∀ vs H' G',StR C G' H' σ ς->Same H H'->Same G G'->m9 C.X.K C.CT G' σ ς ms ds vs->Q vs H') C.XD->t σ H Q
noncomputable def rj(s:Nat)(w:D)(ς:SD):SD:=match (ς[s]?:Option (Option (SM×D))) with
 | some (some (m,_))=>ς.set s (some (m,w))
 | _=>ς
def iN:List (Option Nat)->List D->SD->SD
 | some s::ms,w::ws,ς=>iN ms ws (rj s w ς)
 | none::ms,ws,ς=>iN ms ws ς
 | _,_,ς=>ς
theorem FZ:rh C [] [] dY:=⟨_,n9,λG H σ ς Q S q=>q [] H G S (dC H) (dC G) trivial⟩
theorem hJ(ha:DE C e E)(hr:rh C es ms A)(hs:starEach (e::es) C.X.env=(false,eval e C.X.env)::starEach es C.X.env:=by rfl):rh C (e::es) (none::ms) (dW E A):=by
 obtain⟨t1,p1,q1⟩:=ha
 obtain⟨t2,p2,q2⟩:=hr
 refine⟨_,l5 p1 p2 hs,λG H σ ς Q S q=>?_⟩
 unfold dW at q
 rw[dR]at q
 refine q1 G H σ ς _ S (dS q λx k v1 H1 G1 S1 a1 b1 r1=>?_)
 rw[dR]at k
 refine q2 G1 H1 σ ς _ S1 (dS k λxs k2 vs H2 G2 S2 a2 b2 r2=>?_)
 exact k2 (v1::vs) H2 G2 S2 (a1.trans a2) (b1.trans b2) ⟨dD b2 x v1 r1,r2⟩
theorem lL(i:Nat)(hr:rh C es ms A)(hN:C.X.N[i]?=some x:=by rfl)(hv:ll C.X.env.scope x:=by fail"V1")
 (hd:(x == ("__debug__":Str))=false:=by decide) (gR:(x == ("__classdict__":Str))=false:=by decide) (hs:starEach (.Name x px::es) C.X.env=(false,eval (.Name x px) C.X.env)::starEach es C.X.env:=by rfl):
 rh C (.Name x px::es) (some i::ms) (dW (iy i) A):=by
 obtain⟨t2,p2,q2⟩:=hr
 refine⟨_,l5 (n8 hN hv hd gR) p2 hs,λG H σ ς Q S q=>?_⟩
 unfold dW iy at q
 rw[dR]at q
 split at q
 ·rename_i m d z
  rcases QA q with⟨hc,k⟩ | ⟨_,k⟩
  ·obtain⟨p,a,_⟩:=S.wslot (i9 hc) z
   have k:(A ς>>=λxs=>Out.ok (d::xs)).post (λds=>∀ vs H' G',StR C G' H' σ ς->Same H H'->Same G G'->m9 C.X.K C.CT G' σ ς (some i::ms) ds vs->Q vs H') C.XD:=k
   rw[dR]at k
   refine⟨_,a,q2 G H σ ς _ S (dS k λxs k2 vs H2 G2 S2 a2 b2 r2=>?_)⟩
   exact k2 (.ref p::vs) H2 G2 S2 a2 b2 ⟨⟨m,hc,z⟩,a,r2⟩
  ·exact k.elim
 ·exact q.elim
theorem Qdc(S:StR C G H σ ς):∀{ms:List (Option Nat)}{ds:List D}{vs:List V},(ms.filterMap id).Nodup->m9 C.X.K C.CT G σ ς ms ds vs->
 ∃ ps,ArgW C.X.K C.CT G H (ms.map Option.isSome) ds vs ps/\∀ p,p∈ps↔∃ s,some s∈ms/\σ[s]?=some (some (.ref p))
 | [],[],[],_,_=>⟨[],rfl,λp=>⟨λh=>(nomatch h),λ⟨s,h,_⟩=>(nomatch h)⟩⟩
 | some s::ms,d::ds,v::vs,nd,dm=>by
  obtain⟨⟨m,hm,z⟩,e,r⟩:=dm
  have nd:(s::ms.filterMap id).Nodup:=nd
  rw[cb]at nd
  obtain⟨ps,h1,h2⟩:=Qdc S nd.2 r
  obtain⟨p,a,hg,h0,o,ne⟩:=S.wslot (i9 hm) z
  rw[e]at a;cases a
  refine⟨p::ps,⟨p,ps,rfl,rfl,λhp=>?_,hg,o,h1⟩,λq=>?_⟩
  ·obtain⟨s',m1,m2⟩:=(h2 p).1 hp
   have hs:s'≠s:=by rintro rfl;exact nd.1 (bU.mpr ⟨_,m1,rfl⟩)
   have:=rep_slot r m1
   obtain⟨m',d',w',z'⟩:=this
   exact ne s' m' d' hs (i9 w') z' m2
  ·rw[aL,h2]
   constructor
   ·rintro (rfl | ⟨s',m1,m2⟩)
    ·exact⟨s,aR ..,e⟩
    ·exact⟨s',aG _ m1,m2⟩
   ·rintro ⟨s',m1,m2⟩
    rcases aL.mp m1 with q1 | q1
    ·cases q1
     rw[e]at m2;cases m2;exact .inl rfl
    ·exact .inr ⟨s',q1,m2⟩
 | none::ms,d::ds,v::vs,nd,dm=>by
  obtain⟨rr,r⟩:=dm
  obtain⟨ps,h1,h2⟩:=Qdc S (show(ms.filterMap id).Nodup from nd) r
  refine⟨ps,⟨rr,h1⟩,λp=>?_⟩
  rw[h2]
  constructor
  ·rintro ⟨s',m1,m2⟩;exact⟨s',aG _ m1,m2⟩
  ·rintro ⟨s',m1,m2⟩
   rcases aL.mp m1 with q1 | q1
   ·cases q1
   ·exact⟨s',q1,m2⟩
where rep_slot {G:Hp} {σ:St} {ς:SD}:∀{ms:List (Option Nat)}{ds:List D}{vs:List V}{s:Nat},m9 C.X.K C.CT G σ ς ms ds vs->some s∈ms->∃ m d,wr m=true/\ς[s]?=some (some (m,d))
 | [],[],[],_,_,h=>(nomatch h)
 | some s'::ms,d::ds,v::vs,s,dm,h=>by
  obtain⟨⟨m,hm,z⟩,_,r⟩:=dm
  rcases aL.mp h with q | q
  ·cases q;exact⟨m,d,hm,z⟩
  ·exact rep_slot r q
 | none::ms,d::ds,v::vs,s,dm,h=>by
  obtain⟨_,r⟩:=dm
  rcases aL.mp h with q | q
  ·cases q
  ·exact rep_slot r q
theorem Ss(s:Nat)(w:D)(ς:SD):(rj s w ς).length=ς.length:=by
 unfold rj;split<;>simp
theorem Aq:∀(ms:List (Option Nat))(ws:List D)(ς:SD),(iN ms ws ς).length=ς.length
 | some s::ms,w::ws,ς=>by show(iN ms ws (rj s w ς)).length=_;rw[Aq ms ws,Ss]
 | none::ms,ws,ς=>Aq ms ws ς
 | [],ws,ς=>rfl
 | some s::ms,[],ς=>rfl
theorem yG{K:PySem.W.Frag}:∀{ms:List (Option Nat)}{ds:List D}{vs:List V}{ws:List D}{ps:List Addr}{τ:SD},m9 K CT G σ ς ms ds vs->ArgW K CT G H (ms.map Option.isSome) ds vs ps->qN K CT G' H' ws ps->
 (∀(i:Nat) m d,some i∈ms->ς[i]?=some (some (m,d))->∃ d',τ[i]?=some (some (m,d')))->
 ∀(i:Nat) m d',(iN ms ws τ)[i]?=some (some (m,d'))->(τ[i]?=some (some (m,d'))/\some i∉ms)∨(wr m=true/\∃ d b,τ[i]?=some (some (m,d))/\σ[i]?=some (some (.ref b))/\Own K CT G' H' b d')
 | [],[],[],ws,ps,τ,_,_,_,_,i,m,d',h=>.inl ⟨h,λz=>(nomatch z)⟩
 | none::ms,d::ds,v::vs,ws,ps,τ,dm,z1z,o,f,i,m,d',h=>by
  obtain⟨_,r⟩:=dm
  obtain⟨_,a⟩:=z1z
  rcases yG r a o (λi m d hi=>f i m d (aG _ hi)) i m d' h with⟨e,n⟩ | e
  ·exact .inl ⟨e,λz=>by
    rcases aL.mp z with q | q
    ·cases q
    ·exact n q⟩
  ·exact .inr e
 | some s::ms,d::ds,v::vs,[],ps,τ,_,dm,o,_,i,m,d',h=>by obtain⟨p,nY,e1,e2,_⟩:=dm;rw[e2]at o;exact o.elim
 | some s::ms,d::ds,v::vs,w::ws,ps,τ,dm,z1z,o,f,i,m,d',h=>by
  obtain⟨⟨m0,hm0,z⟩,e,r⟩:=dm
  obtain⟨p,nY,e1,e2,_,_,_,a⟩:=z1z
  rw[e2]at o
  obtain⟨o1,o2⟩:=o
  obtain⟨d0,t0⟩:=f s m0 d (aR ..) z
  have es:rj s w τ=τ.set s (some (m0,w)):=by unfold rj;rw[t0]
  have h:=h
  have back:∀(j:Nat) m1 d1,(rj s w τ)[j]?=some (some (m1,d1))->(j=s/\m1=m0/\d1=w)∨(j≠s/\τ[j]?=some (some (m1,d1))):=λj m1 d1 hj=>by
   rw[es]at hj
   rcases QD hj with⟨rfl,h2,l⟩ | ⟨ne,h2⟩
   ·cases h2;exact .inl ⟨rfl,rfl,rfl⟩
   ·exact .inr ⟨bR ne,h2⟩
  have fwd:∀(j:Nat) m1 d1,some j∈ms->ς[j]?=some (some (m1,d1))->∃ d2,(rj s w τ)[j]?=some (some (m1,d2)):=λj m1 d1 hj hz=>by
   rw[es]
   by_cases hjs:j=s
   ·subst hjs
    rw[z]at hz;cases hz
    exact⟨w,rM (aW.mp t0).1⟩
   ·obtain⟨d2,q⟩:=f j m1 d1 (aG _ hj) hz
    exact⟨d2,by rw[Qs (bR hjs)];exact q⟩
  rcases yG r a o2 fwd i m d' h with⟨q,n⟩ | ⟨hw,d1,b,q1,q2,q3⟩
  ·rcases back i m d' q with⟨rfl,rfl,rfl⟩ | ⟨ne,q⟩
   ·exact .inr ⟨hm0,d0,p,t0,by rw[e,e1],o1⟩
   ·exact .inl ⟨q,λzz=>by
     rcases aL.mp zz with y | y
     ·cases y;exact ne rfl
     ·exact n y⟩
  ·rcases back i m d1 q1 with⟨rfl,rfl,rfl⟩ | ⟨ne,q⟩
   ·exact .inr ⟨hw,d0,b,t0,q2,q3⟩
   ·exact .inr ⟨hw,d1,b,q,q2,q3⟩
def mB(P:Program)(w:World)(K:PySem.W.Frag)(mg:Str->Option Value)(base:Heap)(CT:eU)(x:Str)(k:Nat)(fr:Bool)(bs:List Bool)(m:List D->Out (D×Option (List D))):Prop:=
 ∃ f fd ps,FnOk P w K mg base g8 k f fd ps (qP K CT fr bs m)/\mg x=some (.ref f)/\PySem.W.keepIn K (.ref f)=true/\Binds K fd ps []
def yH(ms:List (Option Nat))(m:List D->Out (D×Option (List D)))(A:SD->Out (List D)):SD->Out Fl:=λς=>A ς>>=λds=>m ds>>=λr=>match r.2 with
 | some ws=>.ok (.nx (iN ms ws ς))
 | none=>.stuck
theorem Su{x:Str}(h:mB C.X.prog C.X.w C.X.K C.X.mg C.X.base C.CT x k fr bs m)(hr:Room k C.X.A)(ha:rh C (e::es) ms A)(hg:Gl C.X x)
 (pR:bs=ms.map Option.isSome:=by rfl) (nd:(ms.filterMap id).Nodup:=by decide) (hx:∀ x,¬ C.XD x:=by fail"V5")
 (ij:(x == ("__debug__":Str))=false:=by decide) (he:starEach (e::es) C.X.env=(false,eval e C.X.env)::starEach es C.X.env:=by rfl) (fc:(backTo pos (starEach es C.X.env)).any (·.1)=false:=by rfl)
 (lz:swapsWith (.Call (.Name x p) (e::es) [] pos) none spos.line C.X.env=pure false:=by rfl):
 DS C (.Expr (.Call (.Name x p) (e::es) [] pos) spos) (yH ms m A):=by
 obtain⟨f,fd,pn,F,hm,hk,hb⟩:=h
 obtain⟨t,p1,q1⟩:=ha
 subst pR
 refine⟨_,zq (A0 F hr hg hm hk hb .nil kH p1 ij he fc) lz,λG H σ ς W S q=>?_⟩
 unfold yH at q
 rw[dR]at q
 refine q1 G H σ ς _ S (dS q λds kk vs H1 G1 S1 a1 b1 r1=>?_)
 obtain⟨ps,hA,hps⟩:=Qdc S1 nd r1
 refine⟨ds,ps,G1,S1.sub,by rw[az];exact hA,?_⟩
 rw[dR]at kk
 cases z:m ds with
 | stuck=>rw[z]at kk;exact kk.elim
 | exc y=>rw[z]at kk;exact absurd kk (hx y)
 | ok r=>
  rw[z]at kk
  intro v H' G' g1 h1 s1 n1 d1 ow ret
  obtain⟨rv,gJ⟩:=r
  cases gJ with
  | none=>exact kk.elim
  | some ws=>
   have ow:=ow ws rfl
   refine(kk) σ H' G' ?_ (b1.trans g1)
   refine S1.swap (λb=>b∈ps) (Aq ms ws ς) g1 h1 s1 n1 (λb hb=>?_) λi mm d' hi=>?_
   ·obtain⟨s',m1,m2⟩:=(hps b).1 hb
    obtain⟨m',dd,w',z'⟩:=Qdc.rep_slot r1 m1
    obtain⟨p',a,_,h0,o,_⟩:=S1.wslot (i9 w') z'
    rw[m2]at a;cases a
    obtain⟨u,hu⟩:=o.there
    exact⟨λy=>(by rw[d1 b y]at hu;cases hu),h0⟩
   ·rcases yG r1 hA ow (λi m d _ y=>⟨d,y⟩) i mm d' hi with⟨e1,e2⟩ | ⟨hw,d,b,e1,e2,e3⟩
    ·refine .inl ⟨e1,λb Fb eb hb=>?_⟩
     obtain⟨s',m1,m2⟩:=(hps b).1 hb
     obtain⟨m',dd,w',z'⟩:=Qdc.rep_slot r1 m1
     obtain⟨p',a,_,_,_,ne⟩:=S1.wslot (i9 w') z'
     rw[m2]at a;cases a
     exact ne i mm d' (by rintro rfl;exact e2 m1) Fb e1 eb
    ·exact .inr ⟨i9 hw,d,b,e1,e2,e3⟩
end DL
namespace L2
open PySem PySem.Spec PyProof.Rows
end L2
namespace DL
open PySem PySem.Spec PyProof.Rows L2
end DL
namespace L2
open PySem PySem.Spec PyProof.Rows
end L2
namespace DL
open PySem PySem.Spec PyProof.Rows L2
def OwnAs(K:PySem.W.Frag)(CT:eU)(H0 G H:Hp):List (List D)->List Addr->Prop
 | [],[]=>True
 | xs::r,a::as=>(H0 a=none/\G a=none/\Own K CT G H a (.lst xs))/\a∉as/\OwnAs K CT H0 G H r as
 | _,_=>False
theorem OwnAs.mono{K:PySem.W.Frag}{CT:eU}{H0 G G' H H':Hp}(g:Same G G')(h:Same H H'):∀{xss:List (List D)}{as:List Addr},(∀ a∈as,G' a=none)->OwnAs K CT H0 G H xss as->OwnAs K CT H0 G' H' xss as
 | [],[],_,_=>trivial
 | xs::r,a::as,n,dm=>by obtain⟨⟨h0,_,o⟩,na,ho⟩:=dm;exact⟨⟨h0,n a (aR ..),o.mono g λo e=>h _ _ e⟩,na,ho.mono g h λb hb=>n b (aG _ hb)⟩
theorem OwnAs.mem{K:PySem.W.Frag}:∀{xss:List (List D)}{as:List Addr}{a:Addr},OwnAs K CT H0 G H xss as->a∈as->H0 a=none/\G a=none/\∃ vs,H a=some (.lst vs)
 | [],[],_,_,hm=>(nomatch hm)
 | [],_::_,_,h,_=>h.elim
 | _::_,[],_,h,_=>h.elim
 | xs::r,b::as,a,dm,hm=>by
  obtain⟨⟨h0,hg,vs,hv,_⟩,_,ho⟩:=dm
  rcases aL.mp hm with rfl | hm
  ·exact⟨h0,hg,vs,hv⟩
  ·exact ho.mem hm
def AtO(σ:St)(ς:SD):List Nat->List (List D)->List Addr->Prop
 | [],[],[]=>True
 | i::is,xs::r,a::as=>ς[i]?=some (some (.o,.lst xs))/\σ[i]?=some (some (.ref a))/\AtO σ ς is r as
 | _,_,_=>False
theorem AtO.mem:∀{is:List Nat}{xss:List (List D)}{as:List Addr}{a:Addr},AtO σ ς is xss as->a∈as->∃ j xs,j∈is/\ς[j]?=some (some (.o,.lst xs))/\σ[j]?=some (some (.ref a))
 | [],[],[],_,_,hm=>(nomatch hm)
 | i::is,xs::r,b::as,a,dm,hm=>by
  obtain⟨h1,h2,h3⟩:=dm
  rcases aL.mp hm with rfl | hm
  ·exact⟨i,xs,aR ..,h1,h2⟩
  ·obtain⟨j,ys,q1,q2,q3⟩:=h3.mem hm
   exact⟨j,ys,aG _ q1,q2,q3⟩
theorem AtO.len:∀{is:List Nat}{xss:List (List D)}{as:List Addr},AtO σ ς is xss as->as.length=is.length
 | [],[],[],_=>rfl
 | i::is,xs::r,a::as,dm=>by obtain⟨_,_,h⟩:=dm;rw[aZ,aZ,h.len]
section
variable {st:Stmt} {eY:List Stmt}
end
section
variable {ς:SD}
end
noncomputable def lM:List D->Option (List (List D))
 | []=>some []
 | .lst xs::r=>(lM r).map (xs :: ·)
 | _=>none
theorem Fc:∀ xss:List (List D),lM (xss.map .lst)=some xss
 | []=>rfl
 | xs::r=>by show(lM (r.map .lst)).map (xs :: ·)=_;rw[Fc r];rfl
theorem OwnAs.h0{K:PySem.W.Frag}{CT:eU}{H0 KU G H:Hp}:∀{xss:List (List D)}{as:List Addr},(∀ a,H0 a=none->KU a=none)->OwnAs K CT H0 G H xss as->OwnAs K CT KU G H xss as
 | [],[],_,_=>trivial
 | xs::r,a::as,n,dm=>by obtain⟨⟨h0,hg,o⟩,na,ho⟩:=dm;exact⟨⟨n a h0,hg,o⟩,na,ho.h0 n⟩
section
variable {eY:List Stmt}
end
section
variable{C:Dc}
end
theorem OwnAs.go{K:PySem.W.Frag}(g:Same G G'):∀{xss:List (List D)}{as:List Addr},(∀ a∈as,G' a=none)->(∀ a∈as,∀ o,H a=some o->H' a=some o)->OwnAs K CT H0 G H xss as->OwnAs K CT H0 G' H' xss as
 | [],[],_,_,_=>trivial
 | xs::r,a::as,n,h,dm=>by obtain⟨⟨h0,_,o⟩,na,ho⟩:=dm;exact⟨⟨h0,n a (aR ..),o.mono g λo e=>h a (aR ..) _ e⟩,na,ho.go g (λb hb=>n b (aG _ hb)) λb hb=>h b (aG _ hb)⟩
theorem OwnAs.len{K:PySem.W.Frag}:∀{xss:List (List D)}{as:List Addr},OwnAs K CT H0 G H xss as->as.length=xss.length
 | [],[],_=>rfl
 | [],_::_,h=>h.elim
 | _::_,[],h=>h.elim
 | xs::r,a::as,dm=>by obtain⟨_,_,h⟩:=dm;rw[aZ,aZ,h.len]
def LstA(K:PySem.W.Frag)(CT:eU)(H0 G H:Hp)(d:D)(p:Addr)(as:List Addr):Prop:=
 ∃ xss:List (List D),d=.lst (xss.map D.lst)/\H0 p=none/\G p=none/\H p=some (.lst (as.map V.ref))/\OwnAs K CT H0 G H xss as/\p∉as
theorem LstA.go{K:PySem.W.Frag}(g:Same G G')(n:∀ a∈p::as,G' a=none)(h:∀ a∈p::as,∀ o,H a=some o->H' a=some o)(l:LstA K CT H0 G H d p as):LstA K CT H0 G' H' d p as:=by
 obtain⟨xss,e,h0,hg,hp,ho,np⟩:=l
 exact⟨xss,e,h0,n p (aR ..),h p (aR ..) _ hp,ho.go g (λa ha=>n a (aG _ ha)) λa ha=>h a (aG _ ha),np⟩
theorem LstA.mem{K:PySem.W.Frag}(l:LstA K CT H0 G H d p as):∀ a∈p::as,H0 a=none/\G a=none/\∃ vs,H a=some (.lst vs):=by
 obtain⟨xss,e,h0,hg,hp,ho,np⟩:=l
 intro a ha
 rcases aL.mp ha with rfl | ha
 ·exact⟨h0,hg,_,hp⟩
 ·exact ho.mem ha
section
variable {st:Stmt} {eY:List Stmt}
end
section
variable{C:Dc}
end
section
variable {eY:List Stmt}
end
structure NI(C:Dc)(p:Addr)(as:List Addr)(G H:Hp)(xss:List (List D)):Prop where
 gh:GH C G H
 la:LstA C.X.K C.CT C.H0 G H (.lst (xss.map D.lst)) p as
theorem LstA.xs{K:PySem.W.Frag}(l:LstA K CT H0 G H (.lst (xss.map D.lst)) p as):H p=some (.lst (as.map V.ref))/\OwnAs K CT H0 G H xss as/\p∉as:=by
 obtain⟨yss,e,_,_,hp,ho,np⟩:=l
 have e':lM (xss.map D.lst)=lM (yss.map D.lst):=by injection e with e;rw[e]
 rw[Fc,Fc]at e'
 cases e'
 exact⟨hp,ho,np⟩
theorem NI.at(N:NI C p as G H xss):∀ b∈p::as,C.H0 b=none/\G b=none/\H b≠none:=λb hb=>by
 obtain⟨h1,h2,vs,h3⟩:=N.la.mem b hb
 exact⟨h1,h2,by rw[h3];simp⟩
theorem OwnAs.at{K:PySem.W.Frag}{CT:eU}{H0:Hp}{xs:List D}:∀{n:Nat}{xss:List (List D)}{as:List Addr},xss[n]?=some xs->OwnAs K CT H0 G H xss as->∃ q vs,as[n]?=some q/\H q=some (.lst vs)/\RepL K CT G xs vs
 | _,[],_,e,_=>by simp at e
 | _,_::_,[],_,h=>h.elim
 | 0,xs::r,a::as,e,dm=>by
  obtain⟨⟨h1,h2,vs,h3,h4⟩,na,ho⟩:=dm
  simp at e
  subst e
  exact⟨a,vs,rfl,h3,h4⟩
 | n+1,xs::r,a::as,e,dm=>by
  obtain⟨_,na,ho⟩:=dm
  simp at e
  obtain⟨q,vs,h⟩:=OwnAs.at e ho
  exact⟨q,vs,by simpa using h⟩
section
variable {st:Stmt} {eY:List Stmt}
end
section
variable {eY:List Stmt}
end
end DL
namespace PySem
namespace SeqAt
open Builtin
end SeqAt
end PySem
namespace DL
open PySem PySem.Spec PyProof.Rows L2
section
variable{K:PySem.W.Frag}{st:Stmt}
abbrev yI(x qual:Str)(st:Stmt)(kV doc pm:Value)(an:Option Addr)(eE ct:Value):FuncData:=PySem.W.fnOf x qual (qy st) (mL st) (Qc st) .none kV doc pm an eE ct
theorem FunV.b1(F:FunV K x qual st f fd .none)(h:∀ kV doc pm an eE ct u,bindArgs (yI x qual st kV doc pm an eE ct) ⟨[u],[]⟩=pure [(a,u)]):Binds K fd [a] []:=
 F.binds λkV doc pm an eE ct us hl=>by rcases us with _ | ⟨u,_ | _⟩<;>first | (cases hl;done) | exact h ..
theorem FunV.b2(F:FunV K x qual st f fd .none)(h:∀ kV doc pm an eE ct u v,bindArgs (yI x qual st kV doc pm an eE ct) ⟨[u,v],[]⟩=pure [(a,u),(b,v)]):Binds K fd [a,b] []:=
 F.binds λkV doc pm an eE ct us hl=>by rcases us with _ | ⟨u,_ | ⟨v,_ | _⟩⟩<;>first | (cases hl;done) | exact h ..
theorem FunV.b3(F:FunV K x qual st f fd .none)(h:∀ kV doc pm an eE ct u v w,bindArgs (yI x qual st kV doc pm an eE ct) ⟨[u,v,w],[]⟩=pure [(a,u),(b,v),(c,w)]):Binds K fd [a,b,c] []:=
 F.binds λkV doc pm an eE ct us hl=>by rcases us with _ | ⟨u,_ | ⟨v,_ | ⟨w,_ | _⟩⟩⟩<;>first | (cases hl;done) | exact h ..
theorem FunV.b4(F:FunV K x qual st f fd .none)(h:∀ kV doc pm an eE ct u v w y,bindArgs (yI x qual st kV doc pm an eE ct) ⟨[u,v,w,y],[]⟩=pure [(a,u),(b,v),(c,w),(d,y)]):Binds K fd [a,b,c,d] []:=
 F.binds λkV doc pm an eE ct us hl=>by rcases us with _ | ⟨u,_ | ⟨v,_ | ⟨w,_ | ⟨y,_ | _⟩⟩⟩⟩<;>first | (cases hl;done) | exact h ..
theorem FunV.b5(F:FunV K x qual st f fd .none)(h:∀ kV doc pm an eE ct u v w y z,bindArgs (yI x qual st kV doc pm an eE ct) ⟨[u,v,w,y,z],[]⟩=pure [(a,u),(b,v),(c,w),(d,y),(e,z)]):Binds K fd [a,b,c,d,e] []:=
 F.binds λkV doc pm an eE ct us hl=>by rcases us with _ | ⟨u,_ | ⟨v,_ | ⟨w,_ | ⟨y,_ | ⟨z,_ | _⟩⟩⟩⟩⟩<;>first | (cases hl;done) | exact h ..
end
def OwnK(K:PySem.W.Frag)(CT:eU)(H0 G H:Hp):List (f9×D)->List (f9×V)->List Addr->Prop
 | [],kvs,as=>kvs=[]/\as=[]
 | (k,.lst xs)::r,kvs,as=>∃ a s ko,kvs=(k,.ref a)::s/\as=a::ko/\H0 a=none/\G a=none/\(∃ vs,H a=some (.lst vs)/\RepL K CT G xs vs)/\a∉ko/\OwnK K CT H0 G H r s ko
 | (k,d)::r,kvs,as=>∃ v s,kvs=(k,v)::s/\Rep K CT G d v/\OwnK K CT H0 G H r s as
noncomputable def nH:List (f9×D)->f9->D->List (f9×D)
 | [],_,_=>[]
 | (k,d)::r,q,e=>if k=q then(k,e)::r else(k,d)::nH r q e
section
variable{K:PySem.W.Frag}
theorem OwnK.cases(h:OwnK K CT H0 G H ((k,d)::r) kvs as):
 (∃ xs a s ko,d=.lst xs/\kvs=(k,.ref a)::s/\as=a::ko/\H0 a=none/\G a=none/\(∃ vs,H a=some (.lst vs)/\RepL K CT G xs vs)/\a∉ko/\OwnK K CT H0 G H r s ko)∨
 ((∀ xs,d≠.lst xs)/\∃ v s,kvs=(k,v)::s/\Rep K CT G d v/\OwnK K CT H0 G H r s as):=by
 cases d with
 | lst xs=>obtain⟨a,s,ko,h⟩:=h;exact .inl ⟨xs,a,s,ko,rfl,h⟩
 | _=>exact .inr ⟨λ_ e=>D.noConfusion e,h⟩
theorem OwnK.kn(hd:∀ xs,d≠.lst xs)(h:Rep K CT G d v/\OwnK K CT H0 G H r s as):OwnK K CT H0 G H ((k,d)::r) ((k,v)::s) as:=by
 cases d with
 | lst xs=>exact absurd rfl (hd xs)
 | _=>exact⟨v,s,rfl,h⟩
theorem OwnK.mem:∀{kds:List (f9×D)}{kvs:List (f9×V)}{as:List Addr},OwnK K CT H0 G H kds kvs as->b∈as->H0 b=none/\G b=none/\H b≠none
 | [],_,_,⟨_,e⟩,h=>by subst e;cases h
 | (k,d)::r,kvs,as,ho,h=>by
  rcases ho.cases with⟨xs,a,s,ko,rfl,rfl,rfl,h0,hg,⟨vs,hv,_⟩,na,hr⟩ | ⟨_,v,s,rfl,_,hr⟩
  ·rcases aL.mp h with rfl | h
   ·exact⟨h0,hg,by rw[hv];simp⟩
   ·exact hr.mem h
  ·exact hr.mem h
theorem OwnK.go:∀{kds:List (f9×D)}{kvs:List (f9×V)}{as:List Addr},OwnK K CT H0 G H kds kvs as->Same G G'->(∀ a∈as,G' a=none)->(∀ a∈as,∀ o,H a=some o->H' a=some o)->OwnK K CT H0 G' H' kds kvs as
 | [],_,_,h,_,_,_=>h
 | (k,d)::r,kvs,as,ho,g,n,m=>by
  rcases ho.cases with⟨xs,a,s,ko,rfl,rfl,rfl,h0,hg,⟨vs,hv,rv⟩,na,hr⟩ | ⟨hd,v,s,rfl,rp,hr⟩
  ·exact⟨a,s,ko,rfl,rfl,h0,n a (aR ..),⟨vs,m a (aR ..) _ hv,dE g xs vs rv⟩,na,hr.go g (λb hb=>n b (aG _ hb)) λb hb=>m b (aG _ hb)⟩
  ·exact OwnK.kn hd ⟨dD g _ _ rp,hr.go g n m⟩
theorem OwnK.at{q:f9}{xs:List D}:∀{kds:List (f9×D)}{kvs:List (f9×V)}{as:List Addr},fm kds q=some (.lst xs)->OwnK K CT H0 G H kds kvs as->∃ a vs,gB kvs q=some (.ref a)/\a∈as/\H a=some (.lst vs)/\RepL K CT G xs vs/\
 ∀{ys:List D}{us:List V},RepL K CT G ys us->OwnK K CT H0 G (eT H a (.lst us)) (nH kds q (.lst ys)) kvs as
 | [],_,_,e,_=>by cases e
 | (k,d)::r,kvs,as,e,ho=>by
  by_cases hk:k=q
  ·subst hk
   have e:some d=some (.lst xs):=by
    have:fm ((k,d)::r) k=some d:=by simp[fm,bC]
    rw[this]at e;exact e
   cases e
   rcases ho.cases with⟨FG,a,s,ko,e,rfl,rfl,h0,hg,⟨vs,hv,rv⟩,na,hr⟩ | ⟨hd,_⟩
   ·cases e
    refine⟨a,vs,by simp[gB,bC],aR ..,hv,rv,λ{ys us} ru=>?_⟩
    have es:nH ((k,.lst xs)::r) k (.lst ys)=(k,.lst ys)::r:=by unfold nH;rw[aA rfl]
    rw[es]
    exact⟨a,s,ko,rfl,rfl,h0,hg,⟨us,QC,ru⟩,na,hr.go (dC _) (λb hb=>(hr.mem hb).2.1) λb hb o z=>by rw[Qk (by rintro rfl;exact na hb)];exact z⟩
   ·exact absurd rfl (hd xs)
  ·have er:fm r q=some (.lst xs):=by
    have:fm ((k,d)::r) q=fm r q:=by simp[fm,bC,hk]
    rw[← this];exact e
   have es:∀ y,nH ((k,d)::r) q y=(k,d)::nH r q y:=λy=>by show(if k=q then _ else _)=_;rw[aB hk]
   have ev:∀(v:V)(s:List (f9×V)),gB ((k,v)::s) q=gB s q:=λv s=>by simp[gB,bC,hk]
   rcases ho.cases with⟨FG,a,s,ko,rfl,rfl,rfl,h0,hg,⟨vs,hv,rv⟩,na,hr⟩ | ⟨hd,v,s,rfl,rp,hr⟩
   ·obtain⟨b,ws,h1,h2,h3,h4,h5⟩:=OwnK.at er hr
    refine⟨b,ws,by rw[ev];exact h1,aG _ h2,h3,h4,λ{ys us} ru=>?_⟩
    rw[es]
    exact⟨a,s,ko,rfl,rfl,h0,hg,⟨vs,by rw[Qk (by rintro rfl;exact na h2)];exact hv,rv⟩,na,h5 ru⟩
   ·obtain⟨b,ws,h1,h2,h3,h4,h5⟩:=OwnK.at er hr
    refine⟨b,ws,by rw[ev];exact h1,h2,h3,h4,λ{ys us} ru=>?_⟩
    rw[es]
    exact OwnK.kn hd ⟨rp,h5 ru⟩
end
structure ND(C:Dc)(p:Addr)(as:List Addr)(G H:Hp)(kds:List (f9×D)):Prop where
 gh:GH C G H
 h0:C.H0 p=none
 hg:G p=none
 np:p∉as
 ow:∃ kvs,H p=some (.dK kvs)/\OwnK C.X.K C.CT C.H0 G H kds kvs as
theorem ND.at(N:ND C p as G H kds):∀ b∈p::as,C.H0 b=none/\G b=none/\H b≠none:=λb hb=>by
 obtain⟨kvs,hp,ho⟩:=N.ow
 rcases aL.mp hb with rfl | hb
 ·exact⟨N.h0,N.hg,by rw[hp];simp⟩
 ·exact ho.mem hb
section
variable {st:Stmt} {eY:List Stmt} {U V:SD->Out SD}
end
theorem OwnK.h0{K:PySem.W.Frag}(n:∀ b,H1 b=none->H0 b=none):∀{kds:List (f9×D)}{kvs:List (f9×V)}{as:List Addr},OwnK K CT H1 G H kds kvs as->OwnK K CT H0 G H kds kvs as
 | [],_,_,h=>h
 | (k,d)::r,kvs,as,ho=>by
  rcases ho.cases with⟨xs,a,s,ko,rfl,rfl,rfl,h0,hg,hv,na,hr⟩ | ⟨hd,v,s,rfl,rp,hr⟩
  ·exact⟨a,s,ko,rfl,rfl,n a h0,hg,hv,na,hr.h0 n⟩
  ·exact OwnK.kn hd ⟨rp,hr.h0 n⟩
section
variable {eY:List Stmt}
end
theorem Sw{P:Program}{w:World}{K:PySem.W.Frag}{mg:Str->Option Value}{base:Heap}{CT:eU}{qual:Str}{sc:Scope}{f:Addr}{N:List Str}{bs:List Bool}{eE:Value}{A:Around}{outer:List Env}{s:Shared}{H:Hp}{E:XK}{G0:Hp}{ps:List Addr}{vs:List V}{ds:List D}
 (fc:bs.length<=N.length) (sub:Same G0 H) (r:ArgW K CT G0 H bs ds vs ps):StR (Ao P w K mg base CT N qual sc f eE A outer s H E G0 ps vs) G0 H (L2.start N vs) (qO bs ds++List.replicate (N.length - bs.length) none):=
 have hl:=r.len
 {
  sub:=sub
  g0:=dC _
  new:=λb h1 h2=>absurd h1 h2
  fr:=λb o e _=>e
  dom:=λb e=>e
  bs:=λb o e=>by
   have e':(if b∈ps then none else H b)=some o:=e
   by_cases hb:b∈ps
   ·rw[aA hb]at e';cases e'
   ·rw[aB hb]at e';exact e'
  bh:=λb e=>by
   show(if b∈ps then none else H b)=none
   by_cases hb:b∈ps
   ·rw[aA hb]
   ·rw[aB hb];exact e
  len:=by unfold L2.start;rw[aV,aV,FY (by rw[hl.1,hl.2]),aD,br,br];omega
  fz:=λi d e=>by
   obtain⟨b,d',h1,h2,h3⟩:=m8 e
   cases b with
   | true=>cases h3
   | false=>
    cases h3
    obtain⟨v,a,a1,_⟩:=r.get h1 h2
    exact⟨v,nW a,a1 rfl⟩
  ow:=λi d e=>by
   obtain⟨b,d',h1,h2,h3⟩:=m8 e
   cases b<;>cases h3
  ln:=λi d e=>by
   obtain⟨b,d',h1,h2,h3⟩:=m8 e
   cases b<;>cases h3
  inj:=λi j d e p _ h=>by
   obtain⟨b,d',h1,h2,h3⟩:=m8 h
   cases b<;>cases h3
  sf:=λi d e=>by
   obtain⟨b,d',h1,h2,h3⟩:=m8 e
   cases b with
   | false=>cases h3
   | true=>
    cases h3
    obtain⟨v,a,_,a2⟩:=r.get h1 h2
    obtain⟨p,rfl,hm,hg,o⟩:=a2 rfl
    obtain⟨u,hu⟩:=o.there
    refine⟨p,nW a,hg,(by show H p≠none;rw[hu];simp),⟨hm,?_⟩,aA hm,o⟩
    show(match vs[i]? with | some (.ref p)=>some p | _=>none)=some p
    rw[a]
  su:=λi j d e p y3 h1 h2 g1 g2=>by
   obtain⟨b,d1,c1,c2,c3⟩:=m8 h1
   obtain⟨b',d2,c4,c5,c6⟩:=m8 h2
   cases b with
   | false=>cases c3
   | true=>
    cases b' with
    | false=>cases c6
    | true=>
     obtain⟨v1,a1,_⟩:=r.get c1 c2
     obtain⟨v2,a2,_⟩:=r.get c4 c5
     rw[nW a1]at g1;cases g1
     rw[nW a2]at g2;cases g2
     rcases Nat.lt_or_gt_of_ne y3 with l | l
     ·exact r.ne l c1 c4 a1 a2
     ·exact r.ne l c4 c1 a2 a1 }
def Ar(C:Dc)(i:Nat)(Aa:List Stmt)(T:SD->Out (D×SD)):Prop:=∃ t,PSs C.X Aa t/\∀ G H σ ς W,StR C G H σ ς->
 (T ς).post (λr=>∀ σ' H' G' p,StR C G' H' σ' r.2->Same G G'->r.2[i]?=some (some (.o,r.1))->σ'[i]?=some (some (.ref p))->W.rt (.ref p) H') C.XD->t W σ H
noncomputable def tj(i:Nat):SD->Out (D×SD):=λς=>match ς[i]? with
 | some (some (.o,d))=>.ok (d,ς)
 | _=>.stuck
def jo(T:SD->Out Fl)(U:SD->Out (D×SD)):SD->Out (D×SD):=λς=>T ς>>=λf=>match f with
 | .nx ς'=>U ς'
 | _=>.stuck
def me(bs:List Bool)(len:Nat)(T:SD->Out (D×SD)):List D->Out (D×Option (List D)):=λds=>
 if ds.length=bs.length then T (qO bs ds++List.replicate (len - bs.length) none)>>=λr=>lJ bs r.2>>=λws=>.ok (r.1,some ws) else .stuck
section
variable{C:Dc}{i:Nat}{st:Stmt}{eY:List Stmt}{T:SD->Out Fl}{U:SD->Out (D×SD)}{pos:Pos}
theorem Sx{x:Str}{px:Pos}(hN:C.X.N[i]?=some x:=by rfl)(hv:ll C.X.env.scope x:=by fail"V1")
 (hd:(x == ("__debug__":Str))=false:=by decide) (gR:(x == ("__classdict__":Str))=false:=by decide):Ar C i [.Return (some (.Name x px)) pos] (tj i):=by
 refine⟨_,Il (zr (n8 hN hv hd gR)),λG H σ ς W S k=>?_⟩
 unfold tj at k
 split at k
 ·rename_i d z
  obtain⟨p,a,b,c,w⟩:=S.ow i d z
  exact⟨_,a,k σ H G p S (dC G) z a⟩
 ·exact k.elim
theorem tm(h1:DS C st T)(h2:Ar C i eY U):Ar C i (st::eY) (jo T U):=by
 obtain⟨t1,p1,q1⟩:=h1
 obtain⟨t2,p2,q2⟩:=h2
 refine⟨_,Ik p1 p2,λG H σ ς W S q=>?_⟩
 unfold jo at q
 rw[dR]at q
 refine q1 G H σ ς _ S (dS q λf k=>?_)
 cases f with
 | nx ς'=>exact λσ' H' G' S' s'=>q2 G' H' σ' ς' W S' (dS (k) λr kr σ2 H2 G2 p S2 g2=>kr σ2 H2 G2 p S2 (s'.trans g2))
 | bk _=>exact k.elim
 | ct _=>exact k.elim
 | rt _ _=>exact k.elim
end
theorem Sy{P:Program}{w:World}{K:PySem.W.Frag}{mg:Str->Option Value}{base:Heap}{CT:eU}{x qual:Str}{st:Stmt}{f:Addr}{fd:FuncData}{dV:Value}{N pn:List Str}{k:Nat}{T:SD->Out (D×SD)}{i:Nat}{bs:List Bool}(pR:bs.length=pn.length)
 (F:FunV K x qual st f fd dV) (S:Qo N pn (Qc st))
 (hb:∀(eE:Value)(A:Around)(outer:List Env)(s:Shared)(H:Hp)(E:XK)(G:Hp)(ps:List Addr)(vs:List V),Room k (A.deeper (envOfC qual (Qc st) s.heap.objs.size f eE))->Ar (Ao P w K mg base CT N qual (Qc st) f eE A outer s H E G ps vs) i (mL st) T):
 FnOk P w K mg base g8 (k+1) f fd pn (qP K CT true bs (me bs N.length T)):=by
 obtain⟨oc,od,kV,doc,pm,an,eE,ct,lr,rfl,lk,gR⟩:=F.ex
 have fc:pn.length<=N.length:=by have:=bO List.length S.pre;rw[bK]at this;omega
 have len:∀ vs H Q E,qP K CT true bs (me bs N.length T) vs H Q E->vs.length=pn.length:=by
  intro vs H Q E ⟨ds,ps,G0,sub,r,q⟩
  rw[← pR,r.len.1]
 refine kG lk gR S len λA outer s H vs Q E hr jC=>?_
 obtain⟨ds,ps,G0,sub,r,q⟩:=jC
 obtain⟨t,p1,q1⟩:=hb eE A outer s H E G0 ps vs hr
 have hl:=r.len
 refine⟨t,p1.nox,?_⟩
 unfold me at q
 rw[aA (by rw[hl.1,hl.2]),dR]at q
 refine q1 G0 H (L2.start N vs) _ _ (Sw (by rw[pR];exact fc) sub r) (dS q λrr kk σ' H' G' p S' s' hi hp=>?_)
 rw[dR]at kk
 obtain⟨ws,kw,ow⟩:=An r (λi d v b1 b2 b3=>by
  obtain⟨p,a,_,_,⟨_,hW⟩,_,o⟩:=S'.sf i d b2
  have hW:(match vs[i]? with | some (.ref p)=>some p | _=>none)=some p:=hW
  obtain⟨p',e,_⟩:=r.mem b1 b3
  subst e
  rw[b3]at hW
  cases hW
  exact⟨_,rfl,o⟩) kk
 obtain⟨p',a,b,c,o⟩:=S'.ow i _ hi
 rw[hp]at a;cases a
 refine kw _ H' G' s' (λb o e hb=>S'.fr b o e hb) S'.sub S'.new S'.dom (λAp e=>by cases e;exact ow) ?_
 have hs:rr.1.scal=false:=by
  revert o
  cases rr.1<;>intro o<;>first | rfl | exact o.elim
 unfold gD
 rw[aA (by rw[hs];rfl)]
 exact⟨p,rfl,c,b,o⟩
def lO(i:Nat)(ms:List (Option Nat))(m:List D->Out (D×Option (List D)))(A:SD->Out (List D)):SD->Out Fl:=λς=>A ς>>=λds=>m ds>>=λr=>match r.2 with
 | some ws=>.ok (.nx ((iN ms ws ς).set i (some (.k,r.1))))
 | none=>.stuck
def KW(C:Dc)(e:Expr)(E:SD->Out (D×SD)):Prop:=∃ t,PE C.X e t/\∀ G H σ ς Q,StR C G H σ ς->
 (E ς).post (λr=>∀ v H' G',StR C G' H' σ r.2->Same G G'->Rep C.X.K C.CT G' r.1 v->Q v H') C.XD->t σ H Q
def eW(ms:List (Option Nat))(m:List D->Out (D×Option (List D)))(A:SD->Out (List D)):SD->Out (D×SD):=λς=>A ς>>=λds=>m ds>>=λr=>match r.2 with
 | some ws=>.ok (r.1,iN ms ws ς)
 | none=>.stuck
section
variable{C:Dc}{e:Expr}{es:List Expr}{ms:List (Option Nat)}{A:SD->Out (List D)}
theorem KY{x:Str}{k:Nat}{fr:Bool}{bs:List Bool}{m:List D->Out (D×Option (List D))}{p pos:Pos}(h:mB C.X.prog C.X.w C.X.K C.X.mg C.X.base C.CT x k fr bs m)(hr:Room k C.X.A)(ha:rh C (e::es) ms A)(hg:Gl C.X x)
 (pR:bs=ms.map Option.isSome:=by rfl) (nd:(ms.filterMap id).Nodup:=by decide) (hx:∀ x,¬ C.XD x:=by fail"V5")
 (ij:(x == ("__debug__":Str))=false:=by decide) (he:starEach (e::es) C.X.env=(false,eval e C.X.env)::starEach es C.X.env:=by rfl) (fc:(backTo pos (starEach es C.X.env)).any (·.1)=false:=by rfl):
 KW C (.Call (.Name x p) (e::es) [] pos) (eW ms m A):=by
 obtain⟨f,fd,pn,F,hm,hk,hb⟩:=h
 obtain⟨t,p1,q1⟩:=ha
 subst pR
 refine⟨_,A0 F hr hg hm hk hb .nil kH p1 ij he fc,λG H σ ς Q S q=>?_⟩
 unfold eW at q
 rw[dR]at q
 refine q1 G H σ ς _ S (dS q λds kk vs H1 G1 S1 a1 b1 r1=>?_)
 obtain⟨ps,hA,hps⟩:=Qdc S1 nd r1
 refine⟨ds,ps,G1,S1.sub,by rw[az];exact hA,?_⟩
 rw[dR]at kk
 cases z:m ds with
 | stuck=>rw[z]at kk;exact kk.elim
 | exc y=>rw[z]at kk;exact absurd kk (hx y)
 | ok r=>
  rw[z]at kk
  intro v H' G' g1 h1 s1 n1 d1 ow ret
  obtain⟨rv,gJ⟩:=r
  cases gJ with
  | none=>exact kk.elim
  | some ws=>
   have ow:=ow ws rfl
   have kk:=kk
   have S2:StR C G' H' σ (iN ms ws ς):=by
    refine S1.swap (λb=>b∈ps) (Aq ms ws ς) g1 h1 s1 n1 (λb hb=>?_) λi mm d' hi=>?_
    ·obtain⟨s',m1,m2⟩:=(hps b).1 hb
     obtain⟨m',dd,w',z'⟩:=Qdc.rep_slot r1 m1
     obtain⟨p',a,_,h0,o,_⟩:=S1.wslot (i9 w') z'
     rw[m2]at a;cases a
     obtain⟨u,hu⟩:=o.there
     exact⟨λy=>(by rw[d1 b y]at hu;cases hu),h0⟩
    ·rcases yG r1 hA ow (λi m d _ y=>⟨d,y⟩) i mm d' hi with⟨e1,e2⟩ | ⟨hw,d,b,e1,e2,e3⟩
     ·refine .inl ⟨e1,λb Fb eb hb=>?_⟩
      obtain⟨s',m1,m2⟩:=(hps b).1 hb
      obtain⟨m',dd,w',z'⟩:=Qdc.rep_slot r1 m1
      obtain⟨p',a,_,_,_,ne⟩:=S1.wslot (i9 w') z'
      rw[m2]at a;cases a
      exact ne i mm d' (by rintro rfl;exact e2 m1) Fb e1 eb
     ·exact .inr ⟨i9 hw,d,b,e1,e2,e3⟩
   have Fd:∀ a,H1 a=none->∀(n:Nat) d,(iN ms ws ς)[n]?=some (some (.o,d))->σ[n]?≠some (some (.ref a)):=λa ha n d hn hσ=>by
    have hς:∃ d0,ς[n]?=some (some (.o,d0)):=by
     rcases yG r1 hA ow (λi m d _ y=>⟨d,y⟩) n .o d hn with⟨e1,_⟩ | ⟨_,d0,_,e1,_,_⟩
     ·exact⟨d,e1⟩
     ·exact⟨d0,e1⟩
    obtain⟨d0,h3⟩:=hς
    obtain⟨u,hu⟩:=S1.own_ne h3 hσ
    rw[ha]at hu;cases hu
   unfold gD at ret
   by_cases hc:(fr && !rv.scal)=true
   ·rw[aA hc]at ret
    obtain⟨p,rfl,h0,jE,o⟩:=ret
    obtain⟨u,hu⟩:=o.there
    have S3:=S2.freeze hu jE (S1.h0none h0) (Fd p h0)
    exact kk _ H' _ S3 (b1.trans (g1.trans (Qv jE))) (o.known jE hu)
   ·rw[aB hc]at ret
    exact kk _ H' G' S2 (b1.trans g1) ret
theorem Sz{x y:Str}{i k:Nat}{fr:Bool}{bs:List Bool}{m:List D->Out (D×Option (List D))}{p py pos spos:Pos}(h:mB C.X.prog C.X.w C.X.K C.X.mg C.X.base C.CT x k fr bs m)(hr:Room k C.X.A)(ha:rh C (e::es) ms A)(hg:Gl C.X x)
 (hN:C.X.N.Nodup) (hi:C.X.N[i]?=some y) (hy:mI C.X.env.scope y)
 (pR:bs=ms.map Option.isSome:=by rfl) (nd:(ms.filterMap id).Nodup:=by decide) (hx:∀ x,¬ C.XD x:=by fail"V5")
 (ij:(x == ("__debug__":Str))=false:=by decide) (he:starEach (e::es) C.X.env=(false,eval e C.X.env)::starEach es C.X.env:=by rfl) (fc:(backTo pos (starEach es C.X.env)).any (·.1)=false:=by rfl)
 (lz:swapsWith (.Call (.Name x p) (e::es) [] pos) (some (.Name y py)) spos.line C.X.env=pure false:=by rfl)
 (hf:C.X.fn y=true∨C.X.env.scope.names.lookup y=some .local:=by fail"V2"):
 DS C (.Assign [.Name y py] (.Call (.Name x p) (e::es) [] pos) spos) (lO i ms m A):=by
 obtain⟨t,p1,q1⟩:=KY h hr ha hg pR nd hx ij he fc
 refine⟨_,DZ hN hi hy p1 lz hf,λG H σ ς W S q=>q1 G H σ ς _ S ?_⟩
 unfold lO at q
 unfold eW
 rw[dR]at q ⊢
 refine dS q λds kk=>?_
 rw[dR]at kk ⊢
 refine dS kk λr k=>?_
 revert k
 cases r.2 with
 | none=>exact λk=>k.elim
 | some ws=>exact λk v H' G' S' s' rv=>k _ H' G' (S'.set i rv) s'
def oP(E:SD->Out (D×SD))(B:SD->Out D)(T U:SD->Out Fl):SD->Out Fl:=λς=>E ς>>=λr=>B r.2>>=λy=>lD r.1 y>>=λz=>match z with
 | .bl true=>T r.2
 | .bl false=>U r.2
 | _=>.stuck
theorem T1{a b:Expr}{E:SD->Out (D×SD)}{B:SD->Out D}{s1 s2:List Stmt}{T U:SD->Out Fl}{pos Fe:Pos}(hu:C.X.A.units+64<cLine)(hE:KW C a E)(hb:DB C b B)(h1:lY C s1 T)(h2:lY C s2 U):DS C (.If (.Compare a [.NotEq] [b] pos) s1 s2 Fe) (oP E B T U):=by
 obtain⟨ta,p1,q1⟩:=hE
 obtain⟨tb,p2,q2⟩:=hb
 obtain⟨t1,p3,q3⟩:=h1
 obtain⟨t2,p4,q4⟩:=h2
 refine⟨_,qu (Iu (Jj hu) p1 p2 (pC _)) p3 p4,λG H σ ς W S k=>?_⟩
 unfold oP at k
 rw[dR]at k
 refine q1 G H σ ς _ S (dS k λr k v H' G' S' s' rv=>?_)
 rw[dR]at k
 refine q2 G' H' σ r.2 _ S' (dS k λy k v2 H2 G2 S2 a2 b2 r2=>?_)
 refine Jl G2 H2 σ r.2 _ r.1 y v v2 S2 (dD a2 _ _ (dD S'.sub _ _ rv)) r2 ?_
 rw[dR]at k
 unfold lD at k ⊢
 split
 ·rename_i hc
  rw[aA hc]at k
  refine⟨rfl,_,rfl,?_⟩
  revert k
  cases (!PyData.eqv r.1.py y.py) with
  | true=>exact λk=>kY (q3 G2 H2 σ r.2 W S2 (dS k λf k=>dN k (s'.trans b2)))
  | false=>exact λk=>kX (q4 G2 H2 σ r.2 W S2 (dS k λf k=>dN k (s'.trans b2)))
 ·rename_i hc
  rw[aB hc]at k
  exact k
end
section
variable{C:Dc}
end
section
variable {st:Stmt} {eY:List Stmt} {U V:SD->Out SD}
end
def qQ:D->D->Out D:=dI (λ_ j=>decide (0<=j)) λi j=>.int (i / 2 ^ j.toNat)
def qR:D->D->Out D:=dI (λi j=>decide (0<=j)&&decide (j<=1000000)&&decide (i.natAbs<2 ^ 64)) λi j=>.int (i * 2 ^ j.toNat)
theorem T2(ha:DB C a A)(hb:DB C b B):DE C (.BinOp a .RShift b pos) (e2 qQ A B):=jM Nb (ud λi j h=>aN h) (ub λ_ _=>rfl) ha hb
theorem T3(ha:DB C a A)(hb:DB C b B):DE C (.BinOp a .LShift b pos) (e2 qR A B):=jM Na (ud λi j h=>by
 rw[aO,aO]at h
 exact⟨aN h.1.1,aN h.1.2,aN h.2⟩) (ub λ_ _=>rfl) ha hb
theorem T4(h:0<=j):qQ (.int i) (.int j)=.ok (.int (i / 2 ^ j.toNat)):=by
 show(if _=true then Out.ok (D.int (i / 2 ^ j.toNat)) else Out.stuck)=_
 rw[aA (aF h)]
theorem T5(h:(decide (0<=j)&&decide (j<=1000000)&&decide (i.natAbs<2 ^ 64))=true):qR (.int i) (.int j)=.ok (.int (i * 2 ^ j.toNat)):=by
 show(if _=true then Out.ok (D.int (i * 2 ^ j.toNat)) else Out.stuck)=_
 rw[aA h]
end DL
namespace L2
open PySem PySem.Spec PyProof.Rows
section
variable{prog:Program}{w:World}{A:Around}{E:Value->Shared->Prop}{s:Shared}
end
section
variable{X:Cx}
end
end L2
namespace DL
open PySem PySem.Spec PyProof.Rows L2
section
variable{C:Dc}{a b:Expr}{A B:SD->Out D}
end
section
variable{C:Dc}{a:Expr}{A:SD->Out D}{lo hi:Option Expr}{L U:SD->Out (Option Int)}{p2 pos:Pos}
variable{o e e':Expr}{O E E':SD->Out D}{apos cpos:Pos}
end
end DL
namespace L2
open PySem PySem.Spec PyProof.Rows
section
variable{M:Model}{A:Around}{E:Value->Shared->Prop}{s:Shared}
end
section
variable{X:Cx}{N':List Str}{js:List (Option Nat)}{scope:Scope}{tg iter elt:Expr}{ifs:List Expr}{wi:TI}{pos:Pos}
end
end L2
namespace DL
open PySem PySem.Spec PyProof.Rows L2
section
variable{C:Dc}{G H:Hp}{σ:St}{ς:SD}
variable{N':List Str}{js:List (Option Nat)}{scope:Scope}{tg iter elt:Expr}{ifs:List Expr}{its:SD->Out (List D)}{g:D->SD->Out SD}{c:SD->Out Bool}{e:SD->Out D}{pos:Pos}
end
end DL
namespace L2
open PySem PySem.Spec PyProof.Rows
end L2
namespace DL
open PySem PySem.Spec PyProof.Rows L2
section
variable{C:Dc}{a b:Expr}{A B:SD->Out D}{pos:Pos}
end
section
variable{C:Dc}{e:Expr}{es:List Expr}{EE:SD->Out D}{A:SD->Out (List D)}{E:XK}{f:Str}{cs:List Str}{pos:Pos}{k:Nat}{fd:FuncData}{ps:List Str}{fI:Addr}
end
section
variable{C:Dc}{e:Expr}{E:SD->Out D}{p pos um:Pos}{cs:List Expr}
end
end DL
namespace L2
open PySem PySem.Spec PyProof.Rows PySem.W
end L2
namespace DL
open PySem PySem.Spec PyProof.Rows L2
abbrev Dn(K:PySem.W.Frag)(x:Str)(st:Stmt):Prop:=∃ f fd,PySem.W.nsIn K mainGlobals x=some (some (.ref f))/\FunV K x x st f fd .none
theorem Ff{P:Program}{w:World}{K:PySem.W.Frag}{h:Heap}{mg:Str->Option Value}{base:Heap}{CT:eU}(X:K.In h)(G:h.Ns mainGlobals mg){x:Str}{st:Stmt}{k:Nat}{fr:Bool}{m:List D->Out D}{ps:List Str}
 (D:Dn K x st) (hd:∀{f fd},FunV K x x st f fd .none->FnOk P w K mg base g8 k f fd ps (gY K CT fr m)) (hb:∀{f fd},FunV K x x st f fd .none->Binds K fd ps []):mX P w K mg base CT x k fr [] m:=
 let ⟨_,_,ha,F⟩:=D
 ⟨_,_,_,_,hd F,PySem.W.mg_of X G ha,F.kp,hb F,.nil⟩
theorem Fg{P:Program}{w:World}{K:PySem.W.Frag}{h:Heap}{mg:Str->Option Value}{base:Heap}{CT:eU}(X:K.In h)(G:h.Ns mainGlobals mg){x:Str}{st:Stmt}{k:Nat}{fr:Bool}{bs:List Bool}{m:List D->Out (D×Option (List D))}{ps:List Str}
 (D:Dn K x st) (hd:∀{f fd},FunV K x x st f fd .none->FnOk P w K mg base g8 k f fd ps (qP K CT fr bs m)) (hb:∀{f fd},FunV K x x st f fd .none->Binds K fd ps []):mB P w K mg base CT x k fr bs m:=
 let ⟨_,_,ha,F⟩:=D
 ⟨_,_,_,hd F,PySem.W.mg_of X G ha,F.kp,hb F⟩
section
variable{K:PySem.W.Frag}{q n:Str}{v:Option Value}{C:Addr}{Cs:List Addr}{ns:List Str}
def Vf(K:PySem.W.Frag)(q:Str)(v:Option Value):List Addr->Prop
 | []=>True
 | C::r=>PySem.W.findIn K (.ref C) q=some v/\Vf K q v r
theorem vf_nil:Vf K q v []:=True.intro
theorem vf_cons(a:PySem.W.findIn K (.ref C) q=some v)(b:Vf K q v Cs):Vf K q v (C::Cs):=⟨a,b⟩
def Ks(K:PySem.W.Frag):List Str->List Addr->Prop
 | n::ns,C::Cs=>(eg K n=some C/\Cls K C)/\Ks K ns Cs
 | [],_=>True
 | _,_=>False
theorem Fh:Ks K [] []:=True.intro
theorem pS(a:eg K n=some C)(b:Cls K C)(h:Ks K ns Cs):Ks K (n::ns) (C::Cs):=⟨⟨a,b⟩,h⟩
theorem oQ{c:Str}:∀{ns:List Str}{Cs:List Addr},Ks K ns Cs->Vf K q v Cs->ns.contains c=true->∃ C,eg K c=some C/\Cls K C/\PySem.W.findIn K (.ref C) q=some v
 | n::ns,C::Cs,h,f,m=>by
  rw[List.contains_cons,Bool.or_eq_true]at m
  rcases m with m | m
  ·exact⟨C,eq_of_beq m ▸ h.1.1,h.1.2,f.1⟩
  ·exact oQ h.2 f.2 m
theorem jS(h:Ks K ns Cs)(f:Vf K q none Cs):f6 K (eg K) ns q:=λc hc A hA=>by
 obtain⟨C,h1,h2,h3⟩:=oQ h f hc
 rw[h1]at hA;cases hA
 exact⟨h2,h3⟩
theorem rk{P:Program}{w:World}{mg:Str->Option Value}{base:Heap}{CX:lq}{k:Nat}{f:Addr}{fd:FuncData}{ps:List Str}{sp:Sp}(h:Ks K ns Cs)(g:Vf K q (some (.ref f)) Cs)(a:PySem.W.isFn K (.ref f)=true)(b:PySem.W.keepIn K (.ref f)=true)(hf:FnOk P w K mg base CX k f fd ps sp)(hb:Binds K fd ps []):
 fK P w K mg base (eg K) CX q k ns λ_=>sp:=λc hc=>by
 obtain⟨C,h1,h2,h3⟩:=oQ h g hc
 exact⟨C,f,fd,ps,h1,h2,⟨h3,a,b⟩,hf,hb⟩
theorem Fi{P:Program}{w:World}{K:PySem.W.Frag}{mg:Str->Option Value}{base:Heap}{q x qual:Str}{st:Stmt}{Cs:List Addr}{ns:List Str}{k:Nat}{f:Addr}{fd:FuncData}{ps:List Str}{fr:Bool}{m:List D->Out D}(h:Ks K ns Cs)(g:Vf K q (some (.ref f)) Cs)(a:PySem.W.isFn K (.ref f)=true)(F:FunV K x qual st f fd .none)(hf:FnOk P w K mg base g8 k f fd ps (gY K (eg K) fr m))(hb:Binds K fd ps []):
 fK P w K mg base (eg K) g8 q k ns λ_=>gY K (eg K) fr m:=rk h g a F.kp hf hb
abbrev Mn(K:PySem.W.Frag)(x q:Str)(st:Stmt)(f:Addr):Prop:=PySem.W.isFn K (.ref f)=true/\∃ fd,FunV K x q st f fd .none
end
theorem yJ(h:0<j):fA (.int i) (.int j)=.ok (.int (i % j)):=by
 show(if decide (j≠0)=true then Out.ok (D.int (i.fmod j)) else Out.stuck)=_
 rw[aA (aF (by lia)),Int.fmod_eq_emod_of_nonneg i (by lia)]
theorem T6(h:j≠0)(hb:rK j=true):fh (.int i) (.int j)=.ok (.int (i.fdiv j)):=by
 show(if (decide (j≠0)&&rK j)=true then Out.ok (D.int (i.fdiv j)) else Out.stuck)=_
 rw[aA (by rw[hb,aF h];rfl)]
theorem T7(h:0<j)(hb:rK j=true):fh (.int i) (.int j)=.ok (.int (i / j)):=by
 rw[T6 (by lia) hb,Int.fdiv_eq_ediv_of_nonneg i (by lia)]
theorem Fj(h:i.natAbs<2 ^ n):gK i<=n:=PySem.intBits_le_iff.mpr h
theorem T8(h:gK i+gK j<=134217728):jX (.int i) (.int j)=.ok (.int (i * j)):=by
 show(if decide (gK i+gK j<=134217728)=true then Out.ok (D.int (i * j)) else Out.stuck)=_
 rw[aA (aF h)]
theorem KZ(hi:gK i<=m)(hj:gK j<=n)(h:m+n<=134217728):jX (.int i) (.int j)=.ok (.int (i * j)):=T8 (by lia)
theorem rm(i j:Int):fB (.int i) (.int j)=.ok (.int (i+j)):=rfl
theorem Q3(i j:Int):gC (.int i) (.int j)=.ok (.int (i - j)):=rfl
theorem qS(i:Int):jD (.int i)=.ok (.int (-i)):=rfl
theorem Fk(i:Int):Eg (.int i)=.ok (.int (i.natAbs:Int)):=by
 show Out.ok (D.int (if i<0 then -i else i))=_
 congr 2;split<;>lia
theorem lb(i j:Int):mT (.int i) (.int j)=.ok (.bl (decide (i<j))):=rfl
theorem uq(i j:Int):nT (.int i) (.int j)=.ok (.bl (decide (i<=j))):=rfl
theorem rn(i j:Int):oA (.int i) (.int j)=.ok (.bl (decide (j<i))):=rfl
theorem yK(i j:Int):Ec (.int i) (.int j)=.ok (.bl (decide (j<=i))):=rfl
mutual
def oR:D->Bool
 | .non=>true
 | .bl _=>true
 | .int _=>true
 | .str x=>PyData.strOk x
 | .lst xs=>iz xs
 | .tup xs=>iz xs
 | _=>false
def iz:List D->Bool
 | []=>true
 | x::xs=>oR x&&iz xs
end
mutual
def tq:D->Nat
 | .lst xs=>lP xs+1
 | .tup xs=>lP xs+1
 | _=>0
def lP:List D->Nat
 | []=>0
 | x::xs=>max (tq x) (lP xs)
end
mutual
theorem Ka:∀ d:D,oR d=true->d.py.canLay0=true
 | .non,_=>rfl
 | .bl _,_=>rfl
 | .int _,_=>rfl
 | .str x,h=>h
 | .lst xs,h=>Fm xs h
 | .tup xs,h=>Fm xs h
theorem Fm:∀ ds:List D,iz ds=true->PyData.canLayAll0 (D.pys ds)=true
 | [],_=>rfl
 | x::xs,h=>by
  rw[iz,aO]at h
  rw[D.pys,PyData.canLayAll0,aO]
  exact⟨Ka x h.1,Fm xs h.2⟩
end
mutual
theorem Kb:∀ d:D,oR d=true->d.py.depth=tq d
 | .non,_=>rfl
 | .bl _,_=>rfl
 | .int _,_=>rfl
 | .str x,h=>rfl
 | .lst xs,h=>by rw[D.py,PyData.depth,tq,Fn xs h]
 | .tup xs,h=>by rw[D.py,PyData.depth,tq,Fn xs h]
theorem Fn:∀ ds:List D,iz ds=true->PyData.depthAll (D.pys ds)=lP ds
 | [],_=>rfl
 | x::xs,h=>by
  rw[iz,aO]at h
  rw[D.pys,PyData.depthAll,lP,Kb x h.1,Fn xs h.2]
end
theorem Kc(h:oR d=true)(hd:tq d<=64):m3 d=true:=by
 unfold m3 SeqAt.shaped
 rw[Ka d h,Kb d h]
 simpa using hd
theorem As(i:Int):m3 (.int i)=true:=Kc rfl (bV _)
theorem Kd(hx:m3 x=true)(hy:m3 y=true):iL x y=.ok (.bl (PyData.eqv x.py y.py)):=by
 unfold iL;rw[hx,hy];rfl
theorem Ke(hx:m3 x=true)(hy:m3 y=true):lD x y=.ok (.bl (!PyData.eqv x.py y.py)):=by
 unfold lD;rw[hx,hy];rfl
theorem Kf(i j:Int):(i == j)=decide (i=j):=by
 by_cases h:i=j
 ·subst h;simp
 ·simp[h]
theorem nI(i j:Int):iL (.int i) (.int j)=.ok (.bl (decide (i=j))):=by
 rw[Kd (As i) (As j), ← Kf]
 rfl
theorem ur(i j:Int):lD (.int i) (.int j)=.ok (.bl (!decide (i=j))):=by
 rw[Ke (As i) (As j), ← Kf]
 rfl
theorem yL(h:n<=1000:=by decide):i0 n=true:=aF (b0 h (by decide))
theorem pT(k:Nat)(h:xs[k]?=some x):eF (.tup xs) (.int (k:Int))=.ok x:=by
 show gq (jW xs (k:Int))=_
 rw[JA h];rfl
theorem mC(k:Nat)(h:xs[k]?=some x):eF (.lst xs) (.int (k:Int))=.ok x:=by
 show gq (jW xs (k:Int))=_
 rw[JA h];rfl
theorem T9(x:D)(xs:List D):eF (.tup (x::xs)) (.int 0)=.ok x:=pT 0 rfl
theorem TF(x y:D)(xs:List D):eF (.tup (x::y::xs)) (.int 1)=.ok y:=pT 1 rfl
theorem Kg(xs:List α)(k:Nat):k8 xs none (some (k:Int))=xs.take k:=by
 unfold k8
 rw[HT.sIx_none,HT.sIx_nat,List.drop_zero,Nat.sub_zero]
 by_cases h:k<=xs.length
 ·rw[cj h]
 ·rw[Nat.min_eq_right (by lia),bM (aJ _),bM (by lia)]
theorem TH(xs:List α)(k:Nat):k8 xs (some (k:Int)) none=xs.drop k:=by
 unfold k8
 rw[HT.sIx_none,HT.sIx_nat]
 by_cases h:k<=xs.length
 ·rw[cj h,bM (by rw[c9];exact aJ _)]
 ·rw[Nat.min_eq_right (by lia),dA,List.drop_eq_nil_of_le (by lia)];simp
theorem Kh(xs:List α)(i k:Nat):k8 xs (some (i:Int)) (some (k:Int))=(xs.drop i).take (k - i):=by
 unfold k8
 rw[HT.sIx_nat,HT.sIx_nat]
 by_cases h:i<=xs.length
 ·rw[cj h]
  by_cases h2:k<=xs.length
  ·rw[cj h2]
  ·rw[Nat.min_eq_right (by lia),bM (by rw[c9];exact aJ _),bM (by rw[c9];lia)]
 ·rw[show min i xs.length=xs.length by lia,dA,List.drop_eq_nil_of_le (by lia)];simp
theorem tw(h:xs.length+ys.length<=1000):kA (.lst xs) (.lst ys)=.ok (.lst (xs++ys)):=by
 show(if i0 _=true then _ else _)=_
 rw[aA (yL h)]
theorem mf(h:its ς=.ok xs)(hL:fM (λx ς=>g x ς>>=λς'=>T ς') xs ς=r):gu g its T ς=r:=by
 unfold gu
 rw[h];exact hL
theorem Q6(m:Nat)(h:A ς=.ok (.int (m:Int)))(hm:m<=1000000):eR A ς=.ok (k9 0 m):=by
 have hs:xc m=true:=by
  unfold xc
  rw[aO]
  exact⟨aF (by lia),aF (by lia)⟩
 unfold eR
 rw[h,dQ]
 simp only[hs,cv,ax]
end DL
namespace DL
open PySem PySem.Spec PyProof.Rows L2
theorem rq{P:Nat->SD->Prop}(h:∀ k:Nat,k<n->∀ ς,P k ς->∃ ς',body (.int (k:Int)) ς=.ok (.nx ς')/\P (k+1) ς'):∀ ς,P 0 ς->∃ ς',fM body (k9 0 n) ς=.ok (.nx ς')/\P n ς':=by
 have key:∀ j k,k+j=n->∀ ς,P k ς->∃ ς',fM body ((List.range' k j).map λ(i:Nat)=>D.int (0+i)) ς=.ok (.nx ς')/\P n ς':=by
  intro j
  induction j with
  | zero=>
   intro k hk ς p
   have:k=n:=by lia
   subst this
   exact⟨ς,rfl,p⟩
  | succ j ih=>
   intro k hk ς p
   obtain⟨ς1,e1,p1⟩:=h k (by lia) ς p
   obtain⟨ς2,e2,p2⟩:=ih (k+1) (by lia) ς1 p1
   refine⟨ς2,?_,p2⟩
   rw[List.range'_succ,aj,fM,Int.zero_add,e1]
   exact e2
 intro ς p
 have:=key n 0 (by lia) ς p
 unfold k9
 rw[List.range_eq_range']
 exact this
theorem Au:∀{xs:List D},(∀ x∈xs,f x=.ok (h x))->ft f xs=.ok (xs.filterMap h)
 | [],_=>rfl
 | x::xs,hf=>by
  rw[ft,hf x aR,dQ,Au (λy hy=>hf y (aG _ hy)),dQ,bb]
  cases h x<;>rfl
theorem Fo(f:α->Bool):∀ xs:List α,gb (xs.map λx=>D.bl (f x))=some (xs.map f)
 | []=>rfl
 | x::xs=>by rw[aj,gb,Fo f xs];rfl
theorem uu(f:α->Bool)(xs:List α):gc (.lst (xs.map λx=>D.bl (f x)))=.ok (.bl (xs.all f)):=by
 rw[gc,Fo]
 show Out.ok (D.bl ((xs.map f).all id))=_
 rw[List.all_map];rfl
theorem TJ(f:α->Bool)(xs:List α):ke (.lst (xs.map λx=>D.bl (f x)))=.ok (.bl (xs.any f)):=by
 rw[ke,Fo]
 show Out.ok (D.bl ((xs.map f).any id))=_
 rw[List.any_map];rfl
theorem pU(h:n<=1000):i0 n=true:=yL h
theorem TK(z:Str):z.cps.toList.length=z.length:=by simp[Str.length]
end DL
namespace DL
open PySem PySem.Spec L2
section
variable {E A B:SD->Out D} {f:D->Out D} {h:List D->Out D} {T U:SD->Out Fl}
theorem dX(e:ς[i]?=some (some (.k,d))):dU i ς=.ok d:=by unfold dU;rw[e]
theorem qT(e:ς[i]?=some (some (m,d))):fg i ς=.ok d:=by unfold fg;rw[e]
theorem eG:eC d ς=.ok d:=rfl
theorem gw(a:A ς=.ok x)(k:f x=r):e1 f A ς=r:=by unfold e1;rw[a];exact k
theorem dZ(a:A ς=.ok x)(a':B ς=.ok y)(k:g x y=r):e2 g A B ς=r:=by unfold e2;rw[a,dQ,a'];exact k
theorem fe(a:AA ς=.ok xs)(k:h xs=r):eA h AA ς=r:=by unfold eA;rw[a];exact k
theorem QV(a:AA ς=.ok xs)(e:xs++dd=ys)(k:h ys=r):eA (λxs=>h (xs++dd)) AA ς=r:=by unfold eA;rw[a];show h (xs++dd)=r;rw[e];exact k
theorem df:dY ς=.ok []:=rfl
theorem Qe(a:A ς=.ok x)(k:AA ς=.ok xs):dW A AA ς=.ok (x::xs):=by unfold dW;rw[a,dQ,k];rfl
theorem hU(a:AA ς=.ok xs)(k:xs.length<=1000):i3 AA ς=.ok (.tup xs):=by unfold i3;rw[a,dQ,aA (pU k)]
theorem fX(a:AA ς=.ok xs)(k:xs.length<=1000):fU AA ς=.ok (.lst xs):=by unfold fU;rw[a,dQ,aA (pU k)]
theorem QT(a:A ς=.ok (.bl b)):eD A ς=.ok b:=by unfold eD;rw[a];rfl
theorem Ki(a:P ς=.ok b):f7 P ς=.ok (!b):=by unfold f7;rw[a];rfl
theorem oS(a:P ς=.ok b)(k:(if b=true then .ok true else Q ς)=rb):iZ P Q ς=rb:=by unfold iZ;rw[a];exact k
theorem qU(a:P ς=.ok b)(k:(if b=true then Q ς else .ok false)=rb):iS P Q ς=rb:=by unfold iS;rw[a];exact k
theorem TL(a:A ς=.ok (.bl b))(k:(if b=true then B ς else .ok (.bl false))=r):iK A B ς=r:=by unfold iK;rw[a];cases b<;>exact k
theorem oU(a:P ς=.ok b)(k:(if b=true then A ς else B ς)=r):qG P A B ς=r:=by unfold qG;rw[a];exact k
theorem yM(a:A ς=.ok x)(k:F x=.ok b):gS F A ς=.ok (.bl b):=by unfold gS;rw[a,dQ,k];rfl
theorem TM(a:A ς=.ok x)(a':B ς=.ok y)(k:g x y=.ok (.bl b))(k':(if b=true then E' ς>>=λw=>g' y w else .ok (.bl false))=r):mQ g g' A B E' ς=r:=by unfold mQ;rw[a,dQ,a',dQ,k];cases b<;>exact k'
theorem TN(a:E ς=.ok z)(k:f z=r):(E ς>>=λw=>f w)=r:=by rw[a];exact k
theorem dz(a:E ς=.ok d)(k:ς.set i (some (.k,d))=ς'):e8 i E ς=.ok (.nx ς'):=by unfold e8;rw[a,dQ,k]
theorem nJ(a:E ς=.ok d)(k:ς.set i (some (.o,d))=ς'):fL i E ς=.ok (.nx ς'):=by unfold fL;rw[a,dQ,k]
theorem dh(a:T ς=.ok fl)(k:jN U fl=rf):dj T U ς=rf:=by unfold dj;rw[a];exact k
theorem Qj(k:U ς=rf):jN U (.nx ς)=rf:=k
theorem sA:jN U (.rt z d)=.ok (.rt z d):=rfl
theorem oV(a:P ς=.ok b)(k:(if b=true then T ς else U ς)=rf):gW P T U ς=rf:=by unfold gW;rw[a];exact k
theorem pV(a:b=true)(k:u=w):(if b=true then u else v)=w:=by rw[aA a];exact k
theorem sC(a:b=false)(k:v=w):(if b=true then u else v)=w:=by subst a;exact k
theorem fu(a:E ς=.ok d):eV E ς=.ok (.rt false d):=by unfold eV;rw[a];rfl
theorem lg(a:E ς=.ok d):fD E ς=.ok (.rt true d):=by unfold fD;rw[a];rfl
theorem yN(e:ς[i]?=some (some (.o,d))):iT i ς=.ok (.rt true d):=by unfold iT;rw[e]
theorem kq:fH ς=.ok (.nx ς):=rfl
theorem Kj(k:n<=1000):decide (n<sizeLine)=true:=aF (Nat.lt_of_le_of_lt k (by decide))
theorem jT(e:ς[i]?=some (some (.o,.lst xs)))(a:E ς=.ok d)(k:xs.length<=1000)(l:ς.set i (some (.o,.lst (xs++[d])))=ς'):nE i E ς=.ok (.nx ς'):=by
 unfold nE;rw[e];show(E ς>>=λd=>if decide (xs.length<sizeLine)=true then _ else _)=_;rw[a,dQ,aA (Kj k),l]
theorem sD(a:E ς=.ok d)(e:ς[i]?=some (some (.o,.lst xs)))(a':I ς=.ok (.int k))(q:kW xs.length k=some j)(l:ς.set i (some (.o,.lst (xs.set j d)))=ς'):lF i I E ς=.ok (.nx ς'):=by
 unfold lF;rw[a,dQ,e]
 show(I ς>>=_)=_
 rw[a',dQ]
 show(gq (kW xs.length k)>>=_)=_
 rw[q]
 show Out.ok (Fl.nx (ς.set i (some (.o,.lst (xs.set j d)))))=_
 rw[l]
theorem iX(k:o=.ok a):gv o=.ok a:=by rw[k];rfl
theorem nL(a:A ς=.ok (.lst xs))(k1:l ς=.ok p)(k2:u ς=.ok q)(e:k8 xs p q=ys):mU A l u ς=.ok (.lst ys):=by unfold mU;rw[a,dQ,k1,dQ,k2,dQ];show Out.ok (D.lst _)=_;rw[e]
theorem mh:pK ς=.ok none:=rfl
theorem sE(a:E ς=.ok (.int k)):fV E ς=.ok (some k):=by unfold fV;rw[a];rfl
theorem Kk:Q8 [] [] ς=.ok ς:=rfl
theorem Kl(a:ς.set i (some (.k,d))=ς1)(k:Q8 is ys ς1=rs):Q8 (i::is) (d::ys) ς=rs:=by show Q8 is ys (ς.set i (some (.k,d)))=rs;rw[a];exact k
theorem sF(a:E ς=.ok (.tup ys))(k:Q8 is ys ς=.ok ς'):m4 is E ς=.ok (.nx ς'):=by unfold m4;rw[a,dQ];show(Q8 is ys ς>>=_)=_;rw[k];rfl
theorem QS(a:T ς=.ok fl)(k:eN fr fl=r):(T ς>>=eN fr)=r:=by rw[a];exact k
theorem iA:eN false (.rt z d)=.ok d:=by unfold eN;simp
theorem fW:eN true (.rt true d)=.ok d:=by unfold eN;simp
theorem j0{L:SD->Out Fl}(a:ς.set i (some (.k,d))=ς1)(k:L ς1=rf):(gN i d ς>>=λς'=>L ς')=rf:=by unfold gN;rw[a];exact k
theorem tx{L:SD->Out Fl}(a:Q8 is ys ς=.ok ς1)(k:L ς1=rf):(gT is (.tup ys) ς>>=λς'=>L ς')=rf:=by unfold gT;show(Q8 is ys ς>>=λς'=>L ς')=rf;rw[a];exact k
theorem qV(a:AA ς=.ok xs)(k:mk cl [] xs=.ok fds):h9 cl mk AA ς=.ok (.ins cl fds):=by unfold h9;rw[a,dQ,k];rfl
theorem TQ(e:ς[i]?=some (some (.s,.ins cl fds)))(k1:cs.contains cl=true)(k2:fds.lookup n=none)(a:AA ς=.ok xs)(k:mk cl fds xs=.ok jn)(l:ς.set i (some (.s,.ins cl jn))=ς'):rg cs n mk i AA ς=.ok (.nx ς'):=by
 unfold rg;rw[e]
 show(if (cs.contains cl&&(fds.lookup n).isNone)=true then _ else _)=_
 rw[k1,k2]
 show(AA ς>>=_)=_
 rw[a,dQ,k,dQ,l]
theorem gP(a:E ς=.ok (.lst xs)):fJ E ς=.ok xs:=by unfold fJ;rw[a];rfl
end
theorem TR{T:SD->Out Fl}(a:T ς=.ok (.nx (some (.s,.ins c fds)::τ))):(T ς>>=oM c)=.ok fds:=by
 rw[a];simp[oM,y0]
theorem TU{T U:SD->Out Fl}{ς:SD}{x:D}(a:T ς=.exc x):dj T U ς=.exc x:=by unfold dj;rw[a];rfl
theorem TV{AA:SD->Out (List D)}{ς:SD}{xs:List D}{c:Str}(a:AA ς=.ok xs)(k:xs.length<=1000):xw c AA ς=.exc (.err c):=by unfold xw;rw[a,dQ,aA (pU k)]
theorem TY{T:SD->Out Fl}{ς:SD}{fr:Bool}{x:D}(a:T ς=.exc x):(T ς>>=eN fr)=.exc x:=by rw[a];rfl
theorem TZ(a:AA ς=.ok xs)(k:m xs=.ok d)(l:ς.set i (some (.k,d))=ς'):jm i (i8 m AA) ς=.ok (.fl (.nx ς')):=by
 unfold jm i8;rw[a,dQ,k];show Out.ok (FX.fl (Fl.nx (ς.set i (some (.k,d)))))=_;rw[l]
theorem Ta{m:List D->Out D}{i:Nat}{AA:SD->Out (List D)}{ς:SD}{xs:List D}{c:Str}{es:List (Str×V)}(a:AA ς=.ok xs)(k:m xs=.exc (.err c es)):jm i (i8 m AA) ς=.ok (.ex c es ς):=by
 unfold jm i8;rw[a,dQ,k];rfl
theorem jU:fC [] ς=[]:=rfl
theorem sI(k:fC js ς=τ):fC (none::js) ς=none::τ:=by rw[← k];rfl
theorem Av(e:ς[j]?=some (some (.k,d)))(k:fC js ς=τ):fC (some j::js) ς=some (.k,d)::τ:=by
 rw[← k];show kL ς j::_=_;unfold kL;rw[e];rfl
theorem QE(c:fC js ς=τ0)(a:τ0.set i (some (.k,x))=τ)(k:e τ=.ok d):fE js (gN i) da e ς x=.ok (some d):=by
 unfold fE gN da
 rw[c,a,dQ,dQ,aA rfl,k];rfl
theorem Km(c:fC js ς=τ0)(a:Q8 is xs τ0=.ok τ)(k:e τ=.ok d):fE js (gT is) da e ς (.tup xs)=.ok (some d):=by
 unfold fE gT da
 show((Q8 is xs (fC js ς))>>=_)=_
 rw[c,a,dQ,dQ,aA rfl,k];rfl
theorem Tc(c:fC js ς=τ0)(a:τ0.set i (some (.k,x))=τ)(h:q τ=.ok b)(k:e τ=.ok d):fE js (gN i) q e ς x=.ok (if b=true then some d else none):=by
 unfold fE gN
 rw[c,a,dQ,h,dQ,k];cases b<;>rfl
theorem QO{l:List α}(f:α->D)(h:α->D)(hi:its ς=.ok (l.map f))(ht:∀ x∈l,fE js g da e ς (f x)=.ok (some (h x)))(hl:l.length<=1000):
 dc js its g da e ς=.ok (.lst (l.map h)):=by
 have go:∀ l:List α,(∀ x∈l,fE js g da e ς (f x)=.ok (some (h x)))->ft (fE js g da e ς) (l.map f)=.ok (l.map h):=by
  intro l
  induction l with
  | nil=>intro _;rfl
  | cons x xs ih=>
   intro H
   have h1:=H x (aR ..)
   have h2:=ih λy hy=>H y (aG _ hy)
   show ft (fE js g da e ς) (f x::xs.map f)=_
   unfold ft
   rw[h1,dQ,h2];rfl
 unfold dc
 rw[hi,dQ,go l ht,dQ,aA (pU (by rw[aD];exact hl))]
theorem mD{n:Nat}(h:Nat->D)(hi:its ς=.ok (k9 0 n))(ht:∀ k:Nat,k<n->fE js g da e ς (.int (k:Int))=.ok (some (h k)))(hl:n<=1000):
 dc js its g da e ς=.ok (.lst ((List.range n).map h)):=by
 refine QO (λi:Nat=>D.int (0+i)) h hi (λk hk=>?_) (by rw[aC];exact hl)
 rw[Int.zero_add]
 exact ht k (aU.mp hk)
theorem yO{ς:SD}{i:Nat}(h:ς[i]?=some (some (m,d))):ς[i]?=some (some (m,d)):=h
theorem yP(h:n<=1000):n<=1000:=h
theorem Fp(h:a=b):a=b:=h
theorem Td:List.lookup n ([]:List (Str×D))=none:=rfl
theorem Te:(x::xs)[0]?=some x:=rfl
theorem Tf(h:xs[n]?=r):(x::xs)[n+1]?=r:=by rw[bF];exact h
theorem Kn:(x::xs).set 0 y=y::xs:=rfl
theorem Ko(h:xs.set n y=ys):(x::xs).set (n+1) y=x::ys:=by rw[List.set_cons_succ,h]
theorem Tg:[]++ys=ys:=rfl
theorem Th(h:xs++ys=zs):x::xs++ys=x::zs:=by rw[List.cons_append,h]
theorem sJ(hi:gK i<=m)(hj:gK j<=n)(h:decide (m+n<=134217728)=true):jX (.int i) (.int j)=.ok (.int (i * j)):=KZ hi hj (aN h)
end DL
namespace L2
open PySem PySem.Spec PyProof.Rows
section
variable{X:Cx}{pins:List (Addr×Obj)}{σ:St}{H H':Hp}{s s':Shared}{ea C DD t:Addr}{dx:Option Addr}{B:Heap}{x n:Str}{np k6 kg:Pos}{b₀:Stmt}{jL body:List Stmt}{eY:List ExceptHandler}{D:jd}{Ex:Value->Shared->Prop}{i:Nat}{ts:TS}
theorem Ti(I:Inv X pins σ H s)(gH:X.stack=X.env::X.outer)(nz:X.env.frame=some X.env.locals)(F:FlyS X.prog X.w X.stack H s ea C t H' B s')(hD:HasD s'.heap ea dx)(hg:Gl X x)(hm:X.mg x=some (.ref DD))(yQ:pG X.K DD)(u3:PySem.W.subIn X.K (.ref C) (.ref DD)=some true)
 (hs:PSs (X.marked ea) (b₀::jL) ts) (h:H' ea=none->ts D σ (eT H' ea (rC ea C dx))) (hd:(x == ("__debug__":Str))=false:=by decide):
 wpAny (model X.prog X.w) X.A (noteFrame (.ref ea) X.env)
  (λ_ s₂ => wpAny (model X.prog X.w) X.A (setFlight (.ref ea) none) (λ_ s₃ =>
   wpAny (model X.prog X.w) X.A (handleBy (.ref ea) X.env (.ExceptHandler (some (.Name x np)) none (b₀::jL) k6::eY)) (SP X pins D) Ex s₃) Ex s₂) Ex s':=by
 have fd:=P5 I
 have fl:=F.fly
 rw[gH]at fl
 refine uV (JS _ _) (wpAny_looks_onW (by rw[← gH];exact I.ok.frames) nz fl λh₄ yR up4 Tj=>?_)
 refine uV (E7 _ _) (wpAny_landsW yR λh₅ Tn To Tp=>?_)
 have D5:HasD h₅ ea dx:=(hD.go Tj).go Tp
 have F5:=F.land (tk:=s'.toks) (h':=h₅) (by rw[gH];exact Tn) (up4.trans To) fd
 obtain⟨pH,I5⟩:=JU I F5 D5
 obtain⟨oe,he,nc⟩:=F5.fly.there
 obtain⟨bm,ns,nm,qn,bs,hdct,sn,sub,ab,col,dd,k0,k1,k2,k3,k5,mN,hC,hN',hni,T⟩:=wq I5.kIn yQ
 have FB:=PySem.F.excBase_ValueError
 have LS:PySem.W.Looks (model X.prog X.w) h₅ (isSubtype (.ref C) (.ref DD)) true:=PySem.W.looks_subIn I5.kIn u3
 refine wpAny_handleBy_cons (codeAny_handlers_test (uS (I5.mark ea) hg hm ?_ hd)) (by intro q;cases q)
 refine P3 hC he nc (T.hasType FB.hasBase) LS (codeAny_handlers_suite ?_)
 refine uV (E7 _ _) (lands_againW F5.fly λh₆ Tq Tr Ts=>?_)
 have F6:=F5.land (tk:=s'.toks) (h':=h₆) Tq Tr fd
 obtain⟨_,I6⟩:=JU I F6 (D5.go Ts)
 refine av (hs pins _ _ _ D (I6.mark ea) (h pH)) (λf s8 q=>?_) (λ_ _ z=>z.elim)
 cases f with
 | next=>obtain⟨σ8,H8,I8,q8⟩:=q;exact⟨_,H8,I8.unmark I.ok,q8⟩
 | brk=>obtain⟨σ8,H8,I8,q8⟩:=q;exact⟨_,H8,I8.unmark I.ok,q8⟩
 | cont=>obtain⟨σ8,H8,I8,q8⟩:=q;exact⟨_,H8,I8.unmark I.ok,q8⟩
 | ret u=>obtain⟨v,σ8,H8,I8,r,q8⟩:=q;exact⟨v,_,H8,I8.unmark I.ok,r,q8⟩
def yS(K:PySem.W.Frag)(DD:Addr)(tb:wu)(ts:Addr->TS):TS:=λD σ H=>tb D σ H λσ1 c dx H'=>∃ C,wy K DD c C/\∀ ea,H' ea=none->ts ea D σ1 (eT H' ea (rC ea C dx))
theorem Tt{tb:wu}{ts:Addr->TS}(gH:X.stack=X.env::X.outer)(nz:X.env.frame=some X.env.locals)(hg:Gl X x)(hm:X.mg x=some (.ref DD))(yQ:pG X.K DD)
 (hb:tF X body tb) (hs:∀ ea,PSs (X.marked ea) (b₀::jL) (ts ea)) (hd:(x == ("__debug__":Str))=false:=by decide):
 PS X (.Try body [.ExceptHandler (some (.Name x np)) none (b₀::jL) k6] [] [] kg) (yS X.K DD tb ts):=by
 intro pins s σ H D I h
 refine wpAny_Try_except (av (hb pins s σ H D _ I h) (λf s1 q=>?_) λex s' z=>?_)
 ·cases f with
  | next=>exact cH q
  | brk=>exact q
  | cont=>exact q
  | ret u=>exact q
 ·obtain⟨σ1,H1,s1,I1,ea,C,t,dx,H',B,rfl,F,hD,C',⟨e,u3⟩,q⟩:=z
  cases e
  exact Ti I1 gH nz F hD hg hm yQ u3 (hs ea) (q ea) hd
end
abbrev Tu:=St->Hp->(List V->Hp->Prop)->XK->Prop
section
variable{X:Cx}{e:Expr}{es:List Expr}{te:TX}{t:Tu}{pos:Pos}
end
end L2
namespace DL
open PySem PySem.Spec PyProof.Rows L2
inductive Tv where
 | v (ds:List D) | ex (c:Str) (fs:List (Str×V))
section
variable{C:Dc}{e:Expr}{es:List Expr}{E:SD->Out D}{TE:SD->Out EX}{TA:SD->Out Tv}{pos:Pos}{st:Stmt}{x:Str}
def jq(cs:List Str)(T:SD->Out FX)(TS:SD->Out Fl):SD->Out Fl:=λς=>gv (T ς)>>=λr=>match r with
 | .fl f=>.ok f
 | .ex c fs ς1=>if cs.contains c=true then gv (TS ς1) else .stuck
theorem Tw{cs:List Str}{np k6 kg:Pos}{b₀:Stmt}{jL body:List Stmt}{DD:Addr}{T:SD->Out FX}{TS:SD->Out Fl}(gH:C.X.stack=C.X.env::C.X.outer)(nz:C.X.env.frame=some C.X.env.locals)(hg:Gl C.X x)(hm:C.X.mg x=some (.ref DD))(yQ:pG C.X.K DD)
 (Tx:∀ c∈cs,∃ Cc,C.CT c=some Cc/\PySem.W.subIn C.X.K (.ref Cc) (.ref DD)=some true)
 (hb:xx C body T) (hs:∀ ea,lY (C.marked ea) (b₀::jL) TS) (hd:(x == ("__debug__":Str))=false:=by decide):
 DS C (.Try body [.ExceptHandler (some (.Name x np)) none (b₀::jL) k6] [] [] kg) (jq cs T TS):=by
 obtain⟨t1,p1,q1⟩:=hb
 refine⟨_,Tt gH nz hg hm yQ p1 (λea=>(hs ea).choose_spec.1) hd,λG H σ ς W S q=>?_⟩
 have q2:=λea=>(hs ea).choose_spec.2
 unfold jq at q
 rw[dR]at q
 refine q1 G H σ ς W _ S (dS (xv q) λr kr=>?_)
 cases r with
 | fl f=>exact kr
 | ex c fs ς1=>
  rcases QA kr with⟨hc,kr⟩ | ⟨_,kr⟩
  ·obtain⟨Cc,e1,e2⟩:=Tx c (by simpa using hc)
   refine⟨Cc,e1,λσ1 H1 G1 dx S1 b1 pay=>⟨Cc,⟨rfl,e2⟩,λea Kp=>?_⟩⟩
   have gn:=S1.gnone Kp
   have S2:=S1.alloc (o:=rC ea Cc dx) Kp
   refine q2 ea _ _ _ _ W S2.mark (dS (xv kr) λf kf=>?_)
   have sg:Same G (eT G1 ea (rC ea Cc dx)):=b1.trans (Qv gn)
   cases f with
   | nx ς'=>exact λσ' H' G' S' s'=>(show FlK C G W (.nx ς') from kf) _ H' G' S'.unmark (sg.trans s')
   | bk ς'=>exact λσ' H' G' S' s'=>(show FlK C G W (.bk ς') from kf) _ H' G' S'.unmark (sg.trans s')
   | ct ς'=>exact λσ' H' G' S' s'=>(show FlK C G W (.ct ς') from kf) _ H' G' S'.unmark (sg.trans s')
   | rt b d=>exact λv H' G' S' s' r=>(show FlK C G W (.rt b d) from kf) v H' G' S'.unmark (sg.trans s') r
  ·exact kr.elim
end
section
variable{C:Dc}{E:XK}{i:Nat}{p:Addr}{as:List Addr}{G H:Hp}{xss:List (List D)}{st:Stmt}{eY:List Stmt}{T:SD->Out Fl}{U:SD->Out SD}{Z:SD->Out D}
end
end DL
namespace L2
open PySem PySem.Spec PyProof.Rows
section
variable{X:Cx}{pins:List (Addr×Obj)}{σ:St}{H:Hp}{s:Shared}{x:Str}{i:Nat}
end
end L2
namespace DL
open PySem PySem.Spec PyProof.Rows L2
end DL
namespace L2
open PySem PySem.Spec PyProof.Rows
theorem Tz(n:Nat):sliceRange ((n:Int) - 1) (-1) (-1)=(List.range n).map (λk=>n - 1 - k):=by
 unfold sliceRange
 have e:(if (-1:Int) > 0 then if (n:Int) - 1 < -1 then(-1 - ((n:Int) - 1) + -1 - 1) / -1 else 0 else if (n:Int) - 1 > -1 then((n:Int) - 1 - -1 - -1 - 1) / - -1 else 0)=(n:Int):=by
  rw[aB (by decide)]
  rw[show(- -1:Int)=1 by decide,Int.ediv_one]
  split<;>omega
 simp only[e,ax]
 exact b8 λk _=>by omega
theorem U0(its:List Value):slicePick its.toArray none none (some (-1))=its.reverse.toArray:=by
 unfold slicePick sliceBounds
 simp only[bg,show ¬ ((-1:Int) > 0) by decide,if_false,Tz,aT]
 congr 1
 rw[List.filterMap_map]
 apply bN
 intro i
 have h:∀ m,m<=its.length->List.filterMap ((λx=>its.toArray[x]?) ∘ λk=>its.length - 1 - k) (List.range m)=its.reverse.take m:=by
  intro m
  induction m with
  | zero=>intro _;simp
  | succ m ih=>
   intro hm
   rw[b7,List.filterMap_append,ih (by omega),List.take_add_one]
   congr 1
   rw[List.getElem?_reverse (by omega)]
   simp only[bb,List.filterMap_nil,Function.comp,List.getElem?_toArray]
   cases its[its.length - 1 - m]?<;>rfl
 rw[h _ (aJ _),bM (by simp)]
section
variable{X:Cx}{e st:Expr}{te:TE}{ts:TO}{p2 pos:Pos}
def Fq(K:PySem.W.Frag)(te:TE)(ts:TO):TE:=λσ H Q=>te σ H λx H1=>ts σ H1 λo H2=>o=some (-1)/\∃ a xs,x=.ref a/\SqL K H2 a xs/\∀ p,H2 p=none->Q (.ref p) (eT H2 p (.lst xs.reverse))
theorem U1(he:PE X e te)(hs:PO X (some st) ts):PE X (.Subscript e (.Slice none none (some st) p2) pos) (Fq X.K te ts):=by
 intro pins s σ H Q I h
 refine Subscript_ (ef (he pins s σ H _ I h) λv s1 dm=>?_)
 obtain⟨x,H1,I1,r1,q1⟩:=dm
 refine wpAny_Slice ?_
 rw[evalPart_none]
 refine aX (aX (ef (hs pins s1 σ H1 _ I1 q1) λvs s3 dm=>?_))
 obtain⟨u,H3,I3,pu,rfl,a,xs,rfl,hx,q⟩:=dm
 cases r1
 have I4:Inv X pins σ H3 { s3 with heap:=s3.heap.push { cls:=.type "slice",data:=.fields #[.none,.none,vs] } }:=I3.kept (t':=s3.toks) λb ob q=>aI _ q
 obtain⟨its,r,ht,hz⟩:=I4.list hx
 have hlen:=r.length
 show wpAny (model X.prog X.w) X.A (subscriptTail e (.Slice none none (some st) p2) (.ref a) (.ref s3.heap.objs.size)) (EP X pins σ Q) X.xe { s3 with heap:=s3.heap.push { cls:=.type "slice",data:=.fields #[.none,.none,vs] } }
 refine tail_any (ops:=[.ref a,.ref s3.heap.objs.size]) ht.isList.typeIs slot_list_getitem.lookup ?_ (by with_unfolding_all rfl)
 refine wpAny_getItem_list_slice ht.isList (Heap.IsSliceOf.new ..) .none .none pu (by decide) ?_ (by rw[aT]<;>lia)
 rw[U0]
 refine⟨.ref _,_,I4.laid (λb ob q=>aI _ q) (aJ _) ?_,rfl,q _ (I4.hok.fresh (aJ _))⟩
 exact⟨by rw[List.length_reverse];exact hz,_,0,r.reverse,af _ rfl⟩
end
end L2
namespace DL
open PySem PySem.Spec PyProof.Rows L2
def oW(a:SD->Out D):SD->Out D:=λς=>a ς>>=λx=>match x with
 | .lst xs=>.ok (.lst xs.reverse)
 | _=>.stuck
theorem Kq{C:Dc}{a st:Expr}{A:SD->Out D}{S:SD->Out (Option Int)}{p2 pos:Pos}(ha:DE C a A)(hs:DO C (some st) S)(h1:∀ ς,S ς=.ok (some (-1)):=by exact λ_=>rfl):DF C (.Subscript a (.Slice none none (some st) p2) pos) (oW A):=by
 obtain⟨ta,p1,q1⟩:=ha
 obtain⟨tl,p3,q3⟩:=hs
 refine⟨_,U1 p1 p3,λG H σ ς Q S q=>?_⟩
 unfold oW at q
 rw[dR]at q
 refine q1 G H σ ς _ S (dS q λx k v1 H1 G1 S1 a1 b1 r1=>?_)
 refine q3 G1 H1 σ ς _ S1 ?_
 rw[h1]
 intro H3 G3 S3 a3 b3
 cases x with
 | lst xs=>
  obtain⟨p,vs,rfl,h2,h3⟩:=dD b3 _ v1 r1
  exact⟨rfl,p,vs,rfl,S3.sub.seq h2,KF.lst (dM k (a1.trans a3) (b1.trans b3)) S3 h3.reverse⟩
 | _=>exact k.elim
def yT(i j:Int):Prop:=0<=j/\(Builtin.Int.intBits i:Int) * j<=2 ^ 27
def mi:D->D->Out D:=dI (λi j=>decide (0<=j)&&decide ((Builtin.Int.intBits i:Int) * j<=2 ^ 27)) λi j=>.int (i ^ j.toNat)
theorem U2{C:Dc}{a b:Expr}{A B:SD->Out D}{pos:Pos}(ha:DB C a A)(hb:DB C b B):DE C (.BinOp a .Pow b pos) (e2 mi A B):=
 jM (r:=rI yT λi j=>.int (i ^ j.toNat)) (uT λ_ _ _ _ _ _ _ hc q=>pow_int hc.1 hc.2 q) (ud λi j h=>by
  rw[aO]at h
  exact⟨aN h.1,aN h.2⟩) (ub λ_ _=>rfl) ha hb
end DL
namespace Abl
noncomputable def sm:Nat->(Nat->Int)->Int
 | 0,_=>0
 | n+1,f=>sm n f+f n
theorem sm_mono{f g:Nat->Int}:∀{n:Nat},(∀ k,k<n->f k<=g k)->sm n f<=sm n g
 | 0,_=>bI _
 | n+1,h=>Int.add_le_add (sm_mono λk hk=>h k (bZ hk)) (h n (bf n))
theorem sm_congr{f g:Nat->Int}{n:Nat}(h:∀ k,k<n->f k=g k):sm n f=sm n g:=
 Int.le_antisymm (sm_mono λk hk=>by rw[h k hk];exact bI _) (sm_mono λk hk=>by rw[h k hk];exact bI _)
theorem sm_zero:∀ n:Nat,sm n (λ_=>0)=0
 | 0=>rfl
 | n+1=>by show sm n (λ_=>0)+0=0;rw[sm_zero n];rfl
theorem sm_up{f g:Nat->Int}{j:Nat}{d:Int}(hd:g j=f j+d)(h:∀ k,k≠j->g k=f k):∀{n:Nat},j<n->sm n g=sm n f+d
 | 0,hj=>absurd hj (cJ _)
 | n+1,hj=>by
  show sm n g+g n=sm n f+f n+d
  by_cases e:j=n
  ·subst e
   rw[hd,sm_congr (f:=g) (g:=f) λk hk=>h k (ai hk)]
   omega
  ·rw[sm_up hd h (show j<n by omega),h n (λz=>e z.symm)]
   omega
noncomputable def inc(c:Nat->Nat)(j k:Nat):Nat:=if k=j then c k+1 else c k
variable{n:Nat}{K:Nat->Int}{w:Nat->Nat->Int->Int}
noncomputable def sn(w:Nat->Nat->Int->Int)(k:Nat):Nat->Int->Int
 | 0,_=>0
 | c+1,x=>sn w k c x+w k c x
def all(n:Nat)(w:Nat->Nat->Int->Int)(c:Nat->Nat)(x:Int):Int:=sm n λk=>sn w k (c k) x
def desk(n:Nat)(K:Nat->Int)(w:Nat->Nat->Int->Int)(c:Nat->Nat)(x:Nat):Int:=K x+all n w c (x:Int) - (c x:Int)
theorem Kr(hw:∀ k c x,0<=w k c x)(k:Nat)(x:Int){a:Nat}:∀{b:Nat},a<=b->sn w k a x<=sn w k b x
 | 0,h=>by rw[Nat.le_zero.mp h];exact bI _
 | b+1,h=>by
  by_cases e:a=b+1
  ·rw[e];exact bI _
  ·have:=Kr hw k x (show a<=b by omega)
   have:=hw k b x
   show sn w k a x<=sn w k b x+w k b x
   omega
theorem U3(hw:∀ k c x,0<=w k c x){c d:Nat->Nat}(h:∀ k,k<n->c k<=d k)(x:Int):all n w c x<=all n w d x:=sm_mono λk hk=>Kr hw k x (h k hk)
theorem all_congr{c d:Nat->Nat}(h:∀ k,k<n->c k=d k)(x:Int):all n w c x=all n w d x:=sm_congr λk hk=>by rw[h k hk]
theorem all_inc{c:Nat->Nat}{j:Nat}(hj:j<n)(x:Int):all n w (inc c j) x=all n w c x+w j (c j) x:=by
 refine sm_up (j:=j) ?_ (λk hk=>?_) hj
 ·show sn w j (inc c j j) x=_
  unfold inc
  rw[aA rfl];rfl
 ·show sn w k (inc c j k) x=_
  unfold inc
  rw[aB hk]
theorem all_zero(x:Int):all n w (λ_=>0) x=0:=sm_zero n
theorem desk_inc{c:Nat->Nat}{j:Nat}(hj:j<n)(x:Nat):desk n K w (inc c j) x=(if x=j then desk n K w c j - 1 else desk n K w c x)+w j (c j) (x:Int):=by
 unfold desk
 rw[all_inc hj]
 unfold inc
 by_cases e:x=j
 ·subst e
  rw[aA rfl,aA rfl];omega
 ·rw[aB e,aB e];omega
inductive Leg(n:Nat)(K:Nat->Int)(w:Nat->Nat->Int->Int):(Nat->Nat)->Prop where
 | zero:Leg n K w (λ_=>0)
 | step {c:Nat->Nat} {k:Nat}:Leg n K w c->k<n->0<desk n K w c k->Leg n K w (inc c k)
def Rest(n:Nat)(K:Nat->Int)(w:Nat->Nat->Int->Int)(c:Nat->Nat):Prop:=∀ x,x<n->desk n K w c x<=0
theorem Fs(hw:∀ k c x,0<=w k c x){c R:Nat->Nat}(h:Leg n K w c)(hR:Rest n K w R):∀ k,k<n->c k<=R k:=by
 induction h with
 | zero=>intro k _;exact bV _
 | @step c k _ hk hp ih=>
  intro j hj
  unfold inc
  by_cases e:j=k
  ·subst e
   rw[aA rfl]
   have h1:=ih j hj
   by_cases e:c j=R j
   ·have h2:=U3 hw ih (j:Int)
    have h3:=hR j hj
    unfold desk at hp h3
    omega
   ·omega
  ·rw[aB e];exact ih j hj
theorem leg_pos(hw:∀ k c x,0<=w k c x)(hK:∀ x,x<n->0<=K x){c:Nat->Nat}(h:Leg n K w c):∀ x,x<n->0<=desk n K w c x:=by
 induction h with
 | zero=>intro x hx;unfold desk;rw[all_zero];have:=hK x hx;show 0<=K x+0 - ((0:Nat):Int);omega
 | @step c k _ hk hp ih=>
  intro x hx
  rw[desk_inc hk]
  have h1:=hw k (c k) (x:Int)
  have h2:=ih x hx
  split
  ·omega
  ·omega
noncomputable def tot:Nat->(Nat->Nat)->Nat
 | 0,_=>0
 | n+1,c=>tot n c+c n
theorem tot_le{c d:Nat->Nat}:∀{n:Nat},(∀ k,k<n->c k<=d k)->tot n c<=tot n d
 | 0,_=>aJ _
 | n+1,h=>Nat.add_le_add (tot_le λk hk=>h k (bZ hk)) (h n (bf n))
theorem tot_inc{c:Nat->Nat}{j:Nat}:∀{n:Nat},j<n->tot n (inc c j)=tot n c+1
 | 0,h=>absurd h (cJ _)
 | n+1,h=>by
  show tot n (inc c j)+inc c j n=tot n c+c n+1
  by_cases e:j=n
  ·subst e
   have:∀ m,m<=j->tot m (inc c j)=tot m c:=by
    intro m
    induction m with
    | zero=>intro _;rfl
    | succ m ih=>
     intro hm
     show tot m (inc c j)+inc c j m=tot m c+c m
     rw[ih (by omega)]
     unfold inc
     rw[aB (by omega)]
   rw[this j (aJ _)]
   unfold inc
   rw[aA rfl];omega
  ·rw[tot_inc (show j<n by omega)]
   unfold inc
   rw[aB (λz=>e z.symm)];omega
end Abl
namespace Abl
variable{n:Nat}{K:Nat->Int}{w w':Nat->Nat->Int->Int}{c:Nat->Nat}
theorem Kt{f g:Nat->Int}:∀{n:Nat},sm n (λk=>f k - g k)=sm n f - sm n g
 | 0=>rfl
 | n+1=>by
  have ih:=Kt (f:=f) (g:=g) (n:=n)
  show sm n (λk=>f k - g k)+(f n - g n)=sm n f+f n - (sm n g+g n)
  omega
end Abl
namespace Nar
noncomputable def N(s f v:Nat):Nat:=v / s+if f<v % s then 1 else 0
theorem Aw{s v:Nat}(hs:0<s):(v % s+1<s/\(v+1) / s=v / s/\(v+1) % s=v % s+1)∨(v % s+1=s/\(v+1) / s=v / s+1/\(v+1) % s=0):=by
 have h1:=bB v hs
 have h2:=cO v s
 by_cases h:v % s+1<s
 ·refine .inl ⟨h,?_⟩
  rw[show v+1=(v % s+1)+s * (v / s) by omega,Nat.add_mul_div_left _ _ hs,Nat.add_mul_mod_self_left,dB h,cX h]
  constructor
  ·omega
  ·rfl
 ·have e:v % s+1=s:=by omega
  refine .inr ⟨e,?_⟩
  have e2:v+1=s * (v / s+1):=by rw[Nat.mul_add];omega
  rw[e2,Nat.mul_div_cancel_left _ hs,Nat.mul_mod_right]
  exact⟨rfl,rfl⟩
theorem Ft{s f v:Nat}(hf:f<s):N s f (v+1)=N s f v+if v % s=f then 1 else 0:=by
 unfold N
 rcases Aw (s:=s) (v:=v) (by omega) with⟨a,b,c⟩ | ⟨a,b,c⟩<;>rw[b,c]<;>split<;>split<;>split<;>omega
theorem Fu{s f v:Nat}(h:v % s=f):N s f v=v / s:=by unfold N;rw[aB (by omega)];rfl
theorem U4(s v:Nat):v % (s * 2)=v % s+s * (v / s % 2):=Nat.mod_mul
noncomputable def hit(p W v:Nat):Nat:=v / W * p+min (v % W) p
theorem U5{p W v:Nat}(hW:0<W)(hp:p<=W)(h:v % W<p):hit p W (v+1)=hit p W v+1/\hit p W v % p=v % W:=by
 unfold hit
 refine⟨?_,?_⟩
 ·rcases Aw (s:=W) (v:=v) hW with⟨a,b,c⟩ | ⟨a,b,c⟩<;>rw[b,c]
  ·omega
  ·rw[Nat.add_mul]
   have:p=W:=by omega
   omega
 ·rw[cj (c8 h),Nat.add_comm,Nat.add_mul_mod_self_right,cX h]
theorem U6{p W v:Nat}(hW:0<W)(h:p<=v % W):hit p W (v+1)=hit p W v:=by
 unfold hit
 rcases Aw (s:=W) (v:=v) hW with⟨a,b,c⟩ | ⟨a,b,c⟩<;>rw[b,c]
 ·omega
 ·rw[Nat.add_mul];omega
theorem hit_le{p W v:Nat}(h:v<p)(hp:p<=W):hit p W v=v:=by
 unfold hit
 rw[dB (by omega),cX (by omega)];omega
theorem U7{p W u v:Nat}(hW:0<W)(hp:p<=W)(h2:W<2 * p)(h:u<=v):v+2 * hit p W u<=u+2 * hit p W v+(W - p):=by
 unfold hit
 have a1:=bB u hW
 have a2:=bB v hW
 have b1:=cO u W
 have b2:=cO v W
 have c:u / W<=v / W:=Nat.div_le_div_right h
 generalize u / W=i at *
 generalize v / W=j at *
 generalize u % W=x at *
 generalize v % W=y at *
 obtain⟨d,rfl⟩:∃ d,j=i+d:=⟨j - i,by omega⟩
 obtain⟨m,rfl⟩:∃ m,W=2 * p - m:=⟨2 * p - W,by omega⟩
 rw[Nat.mul_add]at b2
 rw[Nat.add_mul]
 cases d with
 | zero=>rw[Nat.mul_zero]at b2;omega
 | succ d=>
  have e1:(2 * p - m) * (d+1)=2 * (p * (d+1)) - m * (d+1):=by rw[Nat.sub_mul,Nat.mul_assoc]
  have e2:m<=m * (d+1):=Nat.le_mul_of_pos_right _ (by omega)
  have e3:(d+1) * p=p * (d+1):=Nat.mul_comm _ _
  have e4:m * (d+1)<=p * (d+1):=Nat.mul_le_mul_right _ (by omega)
  omega
open Abl
noncomputable def at'(p e di:Nat->Nat)(k a f:Nat):Nat:=if a=e k/\p k<=f then di k else di k+(2 ^ a+f - 1)
structure Net(n n':Nat)(p e u di:Nat->Nat)(r:Nat->Nat->Int->Int)(w':Nat->Nat->Int->Int):Prop where
 hp:∀ k,k<n->1<=p k/\p k<=2 ^ e k
 lt:∀ k,k<n->di k+(2 ^ e k+p k - 1)<=n'
 inj:∀ j k i i',j<n->k<n->i<2 ^ e j+p j - 1->i'<2 ^ e k+p k - 1->di j+i=di k+i'->j=k/\i=i'
 cov:∀ x,x<n'->∃ j i,j<n/\i<2 ^ e j+p j - 1/\x=di j+i
 nn:∀ k c x,0<=w' k c x
 deal:∀ k a f c x,k<n->a<e k->f<2 ^ a->w' (di k+(2 ^ a+f - 1)) c x=if x=(at' p e di k (a+1) (f+2 ^ a * ((N (2 ^ a) f (u k)+c) % 2)):Int) then 1 else 0
 copR:∀ k t c j,k<n->t<p k->j<n->w' (di k+(2 ^ e k+t - 1)) c (di j:Int)=r k t (j:Int)
 copX:∀ k t c x,k<n->t<p k->x<0->w' (di k+(2 ^ e k+t - 1)) c x=r k t x
 cop0:∀ k t c j i,k<n->t<p k->j<n->0<i->i<2 ^ e j+p j - 1->w' (di k+(2 ^ e k+t - 1)) c ((di j+i:Nat):Int)=0
def pW(n:Nat)(p e u di v:Nat->Nat)(k a:Nat)(Y:Nat->Nat):Prop:=∀ j b g,j<n->b<=e j->g<2 ^ b->(b=e j->g<p j)->
 Y (di j+(2 ^ b+g - 1))+N (2 ^ b) g (u j)=N (2 ^ b) g (if j=k/\b<a then v j+1 else v j)
variable{n n':Nat}{p e u di v:Nat->Nat}{r:Nat->Nat->Int->Int}{w':Nat->Nat->Int->Int}{K':Nat->Int}{Y:Nat->Nat}{k a:Nat}
theorem pw(a:Nat):0<2 ^ a:=Nat.pow_pos (by omega)
theorem pw_lt{a b:Nat}(h:a<b):2 * 2 ^ a<=2 ^ b:=by
 have:2 ^ (a+1)<=2 ^ b:=bz (by omega) h
 rw[bp]at this;omega
theorem Ku{a b f g:Nat}(hf:f<2 ^ a)(hg:g<2 ^ b)(h:2 ^ a+f - 1=2 ^ b+g - 1):a=b/\f=g:=by
 have h1:=pw a
 have h2:=pw b
 rcases Nat.lt_trichotomy a b with l | l | l
 ·have:=pw_lt l;omega
 ·subst l;exact⟨rfl,by omega⟩
 ·have:=pw_lt l;omega
theorem Ax{b g:Nat}(H:Net n n' p e u di r w'){j:Nat}(hj:j<n)(hb:b<=e j)(hg:g<2 ^ b)(hl:b=e j->g<p j):2 ^ b+g - 1<2 ^ e j+p j - 1:=by
 have h1:=pw b
 by_cases q:b=e j
 ·subst q;have:=hl rfl;omega
 ·have:=pw_lt (show b<e j by omega)
  have:=H.hp j hj
  omega
theorem Fv(H:Net n n' p e u di r w')(hk:k<n)(ha:a<e k)(M:pW n p e u di v k a Y)(L:Leg n' K' w' Y)(hd:0<desk n' K' w' Y (di k+(2 ^ a+v k % 2 ^ a - 1))):
 ∃ Y2,Leg n' K' w' Y2/\pW n p e u di v k (a+1) Y2/\tot n' Y2=tot n' Y+1/\
  (∀ x,desk n' K' w' Y2 x=(if x=di k+(2 ^ a+v k % 2 ^ a - 1) then desk n' K' w' Y x - 1 else desk n' K' w' Y x)+if x=at' p e di k (a+1) (v k % 2 ^ (a+1)) then 1 else 0)/\∀ x,x<0->all n' w' Y2 x=all n' w' Y x:=by
 have hf:v k % 2 ^ a<2 ^ a:=bB _ (pw a)
 have h1:=Ax H hk (c8 ha) hf (λz=>by omega)
 have hl:=H.lt k hk
 have hq:di k+(2 ^ a+v k % 2 ^ a - 1)<n':=by omega
 have hM:=M k a (v k % 2 ^ a) hk (c8 ha) hf (λz=>by omega)
 rw[aB (by omega),Fu rfl]at hM
 have hw:∀ x,w' (di k+(2 ^ a+v k % 2 ^ a - 1)) (Y (di k+(2 ^ a+v k % 2 ^ a - 1))) x=if x=(at' p e di k (a+1) (v k % 2 ^ (a+1)):Int) then 1 else 0:=by
  intro x
  rw[H.deal k a _ _ x hk ha hf,show N (2 ^ a) (v k % 2 ^ a) (u k)+Y (di k+(2 ^ a+v k % 2 ^ a - 1))=v k / 2 ^ a by omega,bp,U4]
 refine⟨inc Y (di k+(2 ^ a+v k % 2 ^ a - 1)),.step L hq hd,?_,tot_inc hq,λx=>?_,λx hx=>?_⟩
 ·intro j b g hj hb hg qW
  have m:=M j b g hj hb hg qW
  have h2:=Ax H hj hb hg qW
  unfold inc
  by_cases q:di j+(2 ^ b+g - 1)=di k+(2 ^ a+v k % 2 ^ a - 1)
  ·obtain⟨rfl,q2⟩:=H.inj j k _ _ hj hk h2 h1 q
   obtain⟨rfl,rfl⟩:=Ku hg hf q2
   rw[aB (by omega)]at m
   rw[aA q,aA ⟨rfl,by omega⟩,Ft hf,aA rfl]
   omega
  ·rw[aB q,m]
   by_cases z:j=k/\b<a
   ·rw[aA z,aA ⟨z.1,by omega⟩]
   ·rw[aB z]
    by_cases z2:j=k/\b<a+1
    ·obtain⟨rfl,zb⟩:=z2
     have:b=a:=by omega
     subst this
     rw[aA ⟨rfl,zb⟩,Ft hg,aB (by rintro rfl;exact q rfl)];rfl
    ·rw[aB z2]
 ·rw[desk_inc hq,hw]
  by_cases z:x=di k+(2 ^ a+v k % 2 ^ a - 1)
  ·subst z
   rw[aA rfl]
   by_cases z2:di k+(2 ^ a+v k % 2 ^ a - 1)=at' p e di k (a+1) (v k % 2 ^ (a+1))
   ·rw[aA z2,aA (by omega)]
   ·rw[aB z2,aB (λy=>z2 (by omega))]
  ·rw[aB z,aB z]
   by_cases z2:x=at' p e di k (a+1) (v k % 2 ^ (a+1))
   ·rw[aA z2,aA (by omega)]
   ·rw[aB z2,aB (λy=>z2 (by omega))]
 ·rw[all_inc hq,hw,aB (by omega)];omega
theorem sL(H:Net n n' p e u di r w')(hk:k<n)(M:pW n p e u di v k 0 Y)(L:Leg n' K' w' Y)(D:Nat->Int)(h0:∀ x,x<n'->0<=D x)(hD:∀ x,x<n'->desk n' K' w' Y x=D x+if x=di k then 1 else 0):
 ∀ a,a<=e k->∃ Y2,Leg n' K' w' Y2/\pW n p e u di v k a Y2/\tot n' Y2=tot n' Y+a/\
  (∀ x,x<n'->desk n' K' w' Y2 x=D x+if x=at' p e di k a (v k % 2 ^ a) then 1 else 0)/\∀ x,x<0->all n' w' Y2 x=all n' w' Y x
 | 0,_=>by
  refine⟨Y,L,M,rfl,λx hx=>?_,λx _=>rfl⟩
  rw[hD x hx,show at' p e di k 0 (v k % 2 ^ 0)=di k from ?_]
  unfold at'
  have:=H.hp k hk
  rw[Nat.pow_zero,Nat.mod_one,aB (by omega)];rfl
 | a+1,ha=>by
  obtain⟨Y1,L1,M1,t1,d1,o1⟩:=sL H hk M L D h0 hD a (by omega)
  have hf:v k % 2 ^ a<2 ^ a:=bB _ (pw a)
  have hn:=Ax H hk (show a<=e k by omega) hf (λz=>by omega)
  have hl:=H.lt k hk
  have ea:at' p e di k a (v k % 2 ^ a)=di k+(2 ^ a+v k % 2 ^ a - 1):=by unfold at';rw[aB (by omega)]
  rw[ea]at d1
  have hq:di k+(2 ^ a+v k % 2 ^ a - 1)<n':=by omega
  obtain⟨Y2,L2,M2,t2,d2,o2⟩:=Fv H hk ha M1 L1 (by rw[d1 _ hq,aA rfl];have:=h0 _ hq;omega)
  refine⟨Y2,L2,M2,by omega,λx hx=>?_,λx hx=>by rw[o2 x hx,o1 x hx]⟩
  rw[d2 x,d1 x hx]
  by_cases z:x=di k+(2 ^ a+v k % 2 ^ a - 1)
  ·rw[aA z,aA z];omega
  ·rw[aB z,aB z];omega
noncomputable def up(v:Nat->Nat)(k j:Nat):Nat:=if j=k then v j+1 else v j
theorem iP(H:Net n n' p e u di r w')(hk:k<n)(M:pW n p e u di v k 0 Y)(L:Leg n' K' w' Y)(hK:∀ x,x<n'->0<=K' x)(hd:0<desk n' K' w' Y (di k)):
 ∃ Y2,Leg n' K' w' Y2/\pW n p e u di (up v k) k 0 Y2/\(v k % 2 ^ e k<p k->tot n' Y2=tot n' Y+(e k+1)/\
  (∀ j,j<n->desk n' K' w' Y2 (di j)=(if j=k then desk n' K' w' Y (di j) - 1 else desk n' K' w' Y (di j))+r k (v k % 2 ^ e k) (j:Int))/\
  (∀ j i,j<n->0<i->i<2 ^ e j+p j - 1->desk n' K' w' Y2 (di j+i)=desk n' K' w' Y (di j+i))/\∀ x,x<0->all n' w' Y2 x=all n' w' Y x+r k (v k % 2 ^ e k) x)/\
  (p k<=v k % 2 ^ e k->tot n' Y2=tot n' Y+e k/\(∀ x,x<n'->desk n' K' w' Y2 x=desk n' K' w' Y x)/\∀ x,x<0->all n' w' Y2 x=all n' w' Y x):=by
 have hl:=H.lt k hk
 have hp:=H.hp k hk
 have p0:=pw (e k)
 have hr:di k<n':=by omega
 have k6:=leg_pos H.nn hK L
 obtain⟨Y1,L1,M1,t1,d1,o1⟩:=sL H hk M L (λx=>desk n' K' w' Y x - if x=di k then 1 else 0) (λx hx=>by
  have:=k6 x hx
  show 0<=_ - _
  by_cases z:x=di k
  ·subst z;rw[aA rfl];omega
  ·rw[aB z];omega) (λx _=>by show _=_ - _+_;omega) (e k) (aJ _)
 have hf:v k % 2 ^ e k<2 ^ e k:=bB _ p0
 have fin:∀ Y2:Nat->Nat,(∀ j b g,j<n->b<=e j->g<2 ^ b->(b=e j->g<p j)->Y2 (di j+(2 ^ b+g - 1))=if j=k/\b=e k/\g=v k % 2 ^ e k then Y1 (di j+(2 ^ b+g - 1))+1 else Y1 (di j+(2 ^ b+g - 1)))->pW n p e u di (up v k) k 0 Y2:=by
  intro Y2 h j b g hj hb hg qW
  have m:=M1 j b g hj hb hg qW
  rw[h j b g hj hb hg qW,show(if j=k/\b<0 then up v k j+1 else up v k j)=up v k j from aB (by omega)]
  unfold up
  by_cases z:j=k
  ·subst z
   by_cases z2:b=e j
   ·subst z2
    rw[aB (by omega)]at m
    rw[aA (rfl:j=j),Ft hg]
    by_cases z3:g=v j % 2 ^ e j
    ·rw[aA ⟨rfl,rfl,z3⟩,aA z3.symm];omega
    ·rw[aB (by omega),aB (λy=>z3 y.symm)];omega
   ·rw[aA ⟨rfl,by omega⟩]at m
    rw[aB (λy=>z2 y.2.1),aA rfl];exact m
  ·rw[aB z,aB (by omega)]
   rw[aB (by omega)]at m;exact m
 by_cases q:v k % 2 ^ e k<p k
 ·have ea:at' p e di k (e k) (v k % 2 ^ e k)=di k+(2 ^ e k+v k % 2 ^ e k - 1):=by unfold at';rw[aB (by omega)]
  rw[ea]at d1
  have hq:di k+(2 ^ e k+v k % 2 ^ e k - 1)<n':=by omega
  refine⟨inc Y1 (di k+(2 ^ e k+v k % 2 ^ e k - 1)),.step L1 hq ?_,fin _ ?_,λ_=>⟨by rw[tot_inc hq];omega,?_,?_,?_⟩,λz=>by omega⟩
  ·rw[d1 _ hq,aA rfl]
   have:=k6 _ hq
   show 0<_ - _+_
   by_cases z:di k+(2 ^ e k+v k % 2 ^ e k - 1)=di k
   ·rw[aA z];rw[z];omega
   ·rw[aB z];omega
  ·intro j b g hj hb hg qW
   have h2:=Ax H hj hb hg qW
   unfold inc
   by_cases z:di j+(2 ^ b+g - 1)=di k+(2 ^ e k+v k % 2 ^ e k - 1)
   ·obtain⟨rfl,q2⟩:=H.inj j k _ _ hj hk h2 (by omega) z
    obtain⟨rfl,rfl⟩:=Ku hg hf q2
    rw[aA z,aA ⟨rfl,rfl,rfl⟩]
   ·rw[aB z,aB (by rintro ⟨rfl,rfl,rfl⟩;exact z rfl)]
  ·intro j hj
   have U8:=H.lt j hj
   have hpj:=H.hp j hj
   have pj:=pw (e j)
   rw[desk_inc hq,H.copR k _ _ j hk q hj,d1 _ hq,d1 (di j) (by omega),aA rfl]
   by_cases z:j=k
   ·subst z
    rw[aA rfl]
    by_cases z2:di j=di j+(2 ^ e j+v j % 2 ^ e j - 1)
    ·rw[aA z2, ← z2,aA rfl,aA rfl];omega
    ·rw[aB z2,aB z2,aA rfl];omega
   ·have z1:di j≠di k:=λy=>z (H.inj j k 0 0 hj hk (by omega) (by omega) y).1
    have z2:di j≠di k+(2 ^ e k+v k % 2 ^ e k - 1):=λy=>z (H.inj j k 0 (2 ^ e k+v k % 2 ^ e k - 1) hj hk (by omega) (by omega) y).1
    rw[aB z,aB z2,aB z2,aB z1];omega
  ·intro j i hj h1 h2
   have U8:=H.lt j hj
   rw[desk_inc hq,H.cop0 k _ _ j i hk q hj h1 h2,d1 _ hq,d1 (di j+i) (by omega),aA rfl]
   have z1:di j+i≠di k:=λy=>by have:=(H.inj j k i 0 hj hk h2 (by omega) (by omega)).2;omega
   rw[aB z1]
   by_cases z:di j+i=di k+(2 ^ e k+v k % 2 ^ e k - 1)
   ·rw[aA z, ← z,aB z1];omega
   ·rw[aB z,aB z];omega
  ·intro x hx
   rw[all_inc hq,H.copX k _ _ x hk q hx,o1 x hx]
 ·have ea:at' p e di k (e k) (v k % 2 ^ e k)=di k:=by unfold at';rw[aA ⟨rfl,by omega⟩]
  rw[ea]at d1
  refine⟨Y1,L1,fin _ ?_,λz=>by omega,λ_=>⟨t1,λx hx=>by rw[d1 x hx];omega,o1⟩⟩
  intro j b g hj hb hg qW
  rw[aB]
  rintro ⟨rfl,rfl,rfl⟩
  have:=qW rfl
  omega
theorem qX{k':Nat}(M:pW n p e u di v k 0 Y):pW n p e u di v k' 0 Y:=by
 intro j b g h1 h2 h3 h4
 have:=M j b g h1 h2 h3 h4
 rw[aB (by omega)]at this ⊢
 exact this
structure Inv(n n':Nat)(p e u di:Nat->Nat)(w w':Nat->Nat->Int->Int)(K K':Nat->Int)(C v Y:Nat->Nat):Prop where
 LC:Leg n K w C
 LY:Leg n' K' w' Y
 M:pW n p e u di v 0 0 Y
 hv:∀ j,j<n->hit (p j) (2 ^ e j) (u j)+C j=hit (p j) (2 ^ e j) (v j)/\u j<=v j
 dr:∀ j,j<n->desk n' K' w' Y (di j)=desk n K w C j
 dn:∀ j i,j<n->0<i->i<2 ^ e j+p j - 1->desk n' K' w' Y (di j+i)=0
 out:∀ x,x<0->all n' w' Y x=all n w C x
 tt:tot n' Y+tot n (λj=>e j * u j)=tot n (λj=>e j * v j)+tot n C
variable{w:Nat->Nat->Int->Int}{K:Nat->Int}{C:Nat->Nat}
theorem Fw(f:Nat->Nat){k:Nat}:∀{n:Nat},k<n->tot n (λj=>f j * up v k j)=tot n (λj=>f j * v j)+f k
 | 0,h=>absurd h (cJ _)
 | n+1,h=>by
  show tot n (λj=>f j * up v k j)+f n * up v k n=tot n (λj=>f j * v j)+f n * v n+f k
  by_cases z:k=n
  ·subst z
   have:tot k (λj=>f j * up v k j)=tot k (λj=>f j * v j):=by
    have:∀ m,m<=k->tot m (λj=>f j * up v k j)=tot m (λj=>f j * v j):=by
     intro m
     induction m with
     | zero=>intro _;rfl
     | succ m ih=>
      intro hm
      show tot m _+f m * up v k m=tot m _+f m * v m
      rw[ih (by omega)]
      unfold up
      rw[aB (by omega)]
    exact this k (aJ _)
   rw[this]
   unfold up
   rw[aA rfl,Nat.mul_add];omega
  ·rw[Fw f (show k<n by omega)]
   unfold up
   rw[aB (λy=>z y.symm)];omega
theorem step(H:Net n n' p e u di r w')(hK:∀ x,x<n'->0<=K' x)(hw:∀ k c x,k<n->w k c x=r k ((hit (p k) (2 ^ e k) (u k)+c) % p k) x)(hk:k<n):∀ m,∀{v Y:Nat->Nat},Inv n n' p e u di w w' K K' C v Y->0<desk n K w C k->
 (v k % 2 ^ e k<p k∨2 ^ e k<=v k % 2 ^ e k+m)->∃ v2 Y2,Inv n n' p e u di w w' K K' (inc C k) v2 Y2:=by
 intro m
 have p0:=pw (e k)
 induction m with
 | zero=>
  intro v Y I hd hm
  have hf:v k % 2 ^ e k<2 ^ e k:=bB _ p0
  have q:v k % 2 ^ e k<p k:=by omega
  have h1:=U5 p0 (H.hp k hk).2 q
  have h2:=I.hv k hk
  obtain⟨Y2,L2,M2,y,_⟩:=iP H hk (qX I.M) I.LY hK (by rw[I.dr k hk];exact hd)
  obtain⟨t2,d2,n2,o2⟩:=y q
  have ew:∀ x,w k (C k) x=r k (v k % 2 ^ e k) x:=λx=>by rw[hw k _ x hk,h2.1,h1.2]
  refine⟨up v k,Y2,.step I.LC hk hd,L2,qX M2,λj hj=>?_,λj hj=>?_,λj i hj a b=>by rw[n2 j i hj a b];exact I.dn j i hj a b,λx hx=>by rw[o2 x hx,I.out x hx,all_inc hk,ew],?_⟩
  ·unfold up inc
   have:=I.hv j hj
   by_cases z:j=k
   ·subst z;rw[aA rfl,aA rfl];omega
   ·rw[aB z,aB z];exact this
  ·rw[d2 j hj,desk_inc hk,ew,I.dr j hj]
   by_cases z:j=k
   ·subst z;rw[aA rfl]
   ·rw[aB z,aB z]
  ·have:=I.tt
   rw[t2,Fw e hk,tot_inc hk];omega
 | succ m ih=>
  intro v Y I hd hm
  by_cases q:v k % 2 ^ e k<p k
  ·exact ih I hd (.inl q)
  ·have hp:=H.hp k hk
   have h2:=I.hv k hk
   obtain⟨Y2,L2,M2,_,y⟩:=iP H hk (qX I.M) I.LY hK (by rw[I.dr k hk];exact hd)
   obtain⟨t2,d2,o2⟩:=y (by omega)
   refine ih (v:=up v k) (Y:=Y2) ⟨I.LC,L2,qX M2,λj hj=>?_,λj hj=>?_,λj i hj a b=>?_,λx hx=>by rw[o2 x hx,I.out x hx],?_⟩ hd ?_
   ·unfold up
    have:=I.hv j hj
    by_cases z:j=k
    ·subst z;rw[aA rfl,U6 p0 (by omega)];omega
    ·rw[aB z];exact this
   ·have:=H.lt j hj
    have:=H.hp j hj
    have:=pw (e j)
    rw[d2 _ (by omega),I.dr j hj]
   ·have:=H.lt j hj
    rw[d2 _ (by omega),I.dn j i hj a b]
   ·have:=I.tt
    rw[t2,Fw e hk];omega
   ·unfold up
    rw[aA rfl]
    rcases Aw (s:=2 ^ e k) (v:=v k) p0 with⟨a,b,c⟩ | ⟨a,b,c⟩<;>rw[c]<;>omega
theorem sim(H:Net n n' p e u di r w')(hK:∀ x,x<n'->0<=K' x)(hw:∀ k c x,k<n->w k c x=r k ((hit (p k) (2 ^ e k) (u k)+c) % p k) x)(hr:∀ j,j<n->K' (di j)=K j)
 (h0:∀ j i,j<n->0<i->i<2 ^ e j+p j - 1->K' (di j+i)=0) (L:Leg n K w C):∃ v Y,Inv n n' p e u di w w' K K' C v Y:=by
 induction L with
 | zero=>
  refine⟨u,λ_=>0,.zero,.zero,?_,λj _=>⟨rfl,aJ _⟩,λj hj=>?_,λj i hj a b=>?_,λx _=>by rw[all_zero,all_zero],?_⟩
  ·intro j b g _ _ _ _
   rw[aB (by omega)];exact bX _
  ·unfold desk;rw[all_zero,all_zero,hr j hj]
  ·unfold desk;rw[all_zero,h0 j i hj a b];rfl
  ·have:∀ m,tot m (λ_=>0)=0:=λm=>by
    induction m with
    | zero=>rfl
    | succ m ih=>show tot m _+0=0;rw[ih]
   rw[this,this];omega
 | @step c k _ hk hd ih=>
  obtain⟨v,Y,I⟩:=ih
  exact step H hK hw hk (2 ^ e k) I hd (.inr (by omega))
theorem same(H:Net n n' p e u di r w')(I:Inv n n' p e u di w w' K K' C v Y)(R:Rest n K w C):Rest n' K' w' Y/\∀ Z,Leg n' K' w' Z->(∀ x,x<n'->Z x<=Y x)/\(Rest n' K' w' Z->∀ x,x<n'->Z x=Y x):=by
 have hY:Rest n' K' w' Y:=by
  intro x hx
  obtain⟨j,i,hj,hi,rfl⟩:=H.cov x hx
  by_cases z:i=0
  ·subst z;rw[cD,I.dr j hj];exact R j hj
  ·rw[I.dn j i hj (by omega) hi];exact bI _
 refine⟨hY,λZ L=>⟨Fs H.nn L hY,λhZ x hx=>Nat.le_antisymm (Fs H.nn L hY x hx) (Fs H.nn I.LY hZ x hx)⟩⟩
theorem few(H:Net n n' p e u di r w')(I:Inv n n' p e u di w w' K K' C v Y)(h4:∀ j,j<n->e j<=4/\2 ^ e j<=p j+7/\2 ^ e j<2 * p j):tot n' Y<=9 * tot n C+28 * n:=by
 have key:∀ m,m<=n->tot m (λj=>e j * v j)<=tot m (λj=>e j * u j)+8 * tot m C+28 * m:=by
  intro m
  induction m with
  | zero=>intro _;exact aJ _
  | succ m ih=>
   intro hm
   have h:=ih (by omega)
   have hv:=I.hv m (by omega)
   obtain⟨a,b,c⟩:=h4 m (by omega)
   have:=U7 (pw (e m)) (H.hp m (by omega)).2 c hv.2
   have l:v m<=u m+2 * C m+7:=by omega
   have l2:e m * v m<=e m * (u m+2 * C m+7):=Nat.mul_le_mul_left _ l
   have l3:e m * (2 * C m+7)<=4 * (2 * C m+7):=Nat.mul_le_mul_right _ a
   rw[Nat.add_assoc,Nat.mul_add]at l2
   show tot m _+e m * v m<=tot m _+e m * u m+8 * (tot m C+C m)+28 * (m+1)
   omega
 have:=key n (aJ _)
 have:=I.tt
 omega
end Nar
namespace Nar
open Abl
theorem sm_add{f g:Nat->Int}:∀{n:Nat},sm n (λk=>f k+g k)=sm n f+sm n g
 | 0=>rfl
 | n+1=>by
  have:=sm_add (f:=f) (g:=g) (n:=n)
  show sm n _+(f n+g n)=sm n f+f n+(sm n g+g n)
  omega
theorem sm_swap{f:Nat->Nat->Int}(m:Nat):∀ n:Nat,sm n (λx=>sm m λk=>f k x)=sm m λk=>sm n λx=>f k x
 | 0=>(sm_zero m).symm
 | n+1=>by
  show sm n (λx=>sm m λk=>f k x)+sm m (λk=>f k n)=sm m λk=>sm n (λx=>f k x)+f k n
  rw[sm_add,sm_swap m n]
theorem Kv{f:Nat->Int}:∀ n:Nat,sm n (λi=>f (i+1))+f 0=sm n f+f n
 | 0=>rfl
 | n+1=>by
  have:=Kv (f:=f) n
  show sm n (λi=>f (i+1))+f (n+1)+f 0=sm n f+f n+f (n+1)
  omega
theorem Kw{G:Nat->Int}{p:Nat}:∀ s:Nat,sm p (λi=>G ((s+i) % p))=sm p G
 | 0=>sm_congr λk hk=>by rw[bX,cX hk]
 | s+1=>by
  have h:=Kv (f:=λi=>G ((s+i) % p)) p
  rw[Kw s]at h
  have e:(s+p) % p=(s+0) % p:=by rw[Nat.add_mod_right];rfl
  have h:sm p (λi=>G ((s+(i+1)) % p))+G ((s+0) % p)=sm p G+G ((s+p) % p):=h
  rw[e]at h
  rw[show sm p (λi=>G ((s+1+i) % p))=sm p (λi=>G ((s+(i+1)) % p)) from sm_congr λk _=>by rw[show s+1+k=s+(k+1) by omega]]
  omega
theorem Kx{f:Nat->Int}(h:∀ k,0<=f k){a:Nat}:∀{b:Nat},a<=b->sm a f<=sm b f
 | 0,z=>by rw[Nat.le_zero.mp z];exact bI _
 | b+1,z=>by
  by_cases q:a=b+1
  ·rw[q];exact bI _
  ·have:=Kx h (show a<=b by omega)
   have:=h b
   show _<=sm b f+f b
   omega
theorem Ky{f:Nat->Int}(a:Nat):∀ b:Nat,sm (a+b) f=sm a f+sm b λi=>f (a+i)
 | 0=>by show sm a f=sm a f+0;omega
 | b+1=>by
  have:=Ky (f:=f) a b
  show sm (a+b) f+f (a+b)=sm a f+(sm b (λi=>f (a+i))+f (a+b))
  omega
theorem Kz{g:Nat->Int}{p:Nat}(hp:0<p)(h0:∀ i,0<=g i)(hg:∀ i,g (p+i)=g i)(ht:sm p g<=(p:Int) - 1):∀ a b:Nat,b<p->sm (p * a+b) g<=((a:Int)+1) * ((p:Int) - 1)
 | 0,b,hb=>by
  have:=Kx h0 (c8 hb)
  rw[Nat.mul_zero,bX]
  show _<=((0:Int)+1) * _
  omega
 | a+1,b,hb=>by
  have ih:=Kz hp h0 hg ht a b hb
  rw[show p * (a+1)+b=p+(p * a+b) by rw[Nat.mul_add];omega,Ky,sm_congr λi _=>hg i]
  rw[Int.add_mul]at ih ⊢
  rw[show((a+1:Nat):Int) * ((p:Int) - 1)=(a:Int) * ((p:Int) - 1)+1 * ((p:Int) - 1) by rw[← Int.add_mul];rfl]
  omega
theorem sM{w:Nat->Nat->Int->Int}(k:Nat)(x:Int):∀ c:Nat,sn w k c x=sm c λi=>w k i x
 | 0=>rfl
 | c+1=>by show sn w k c x+w k c x=sm c _+w k c x;rw[sM k x c]
variable{n:Nat}{p s:Nat->Nat}{r:Nat->Nat->Int->Int}{w:Nat->Nat->Int->Int}{K:Nat->Int}{C:Nat->Nat}
theorem tame(hw:∀ k c x,k<n->w k c x=r k ((s k+c) % p k) x)(hn:∀ k c x,0<=w k c x)(hp:∀ k,k<n->1<=p k/\p k<=12)(ht:∀ k,k<n->sm (p k) (λi=>sm n λx=>r k i (x:Int))<=(p k:Int) - 1)
 (hK:∀ x,x<n->0<=K x) (L:Leg n K w C):(tot n C:Int)<=12 * (sm n K+sm n λk=>(p k:Int) - 1):=by
 have h1:0<=sm n λx=>desk n K w C x:=by
  rw[← sm_zero n];exact sm_mono λk hk=>leg_pos hn hK L k hk
 have e1:(sm n λx=>desk n K w C x)=sm n K+(sm n λk=>sm n λx=>sn w k (C k) (x:Int)) - sm n λk=>(C k:Int):=by
  unfold desk
  rw[Kt,sm_add]
  unfold Abl.all
  rw[sm_swap]
 have e2:sm n (λk=>sm n λx=>sn w k (C k) (x:Int))<=sm n λk=>((C k / p k:Nat)+1:Int) * ((p k:Int) - 1):=by
  refine sm_mono λk hk=>?_
  have q:sm n (λx=>sn w k (C k) (x:Int))=sm (C k) λi=>sm n λx=>w k i (x:Int):=by
   rw[← sm_swap];exact sm_congr λx _=>sM k _ _
  have hp:=hp k hk
  show sm n (λx=>sn w k (C k) (x:Int))<=_
  rw[q]
  have:=Kz (g:=λi=>sm n λx=>w k i (x:Int)) (p:=p k) (by omega) (λi=>by rw[← sm_zero n];exact sm_mono λx _=>hn k i _)
   (λi=>sm_congr λx _=>by rw[hw k _ _ hk,hw k _ _ hk,show s k+(p k+i)=s k+i+p k by omega,Nat.add_mod_right])
   (by rw[sm_congr λi _=>sm_congr λx _=>hw k i (x:Int) hk,Kw (G:=λi=>sm n λx=>r k i (x:Int)) (s k)];exact ht k hk) (C k / p k) (C k % p k) (bB _ (by omega))
  rw[cO]at this
  exact this
 have e3:∀ m,m<=n->(tot m C:Int) - 12 * (sm m (λk=>(p k:Int) - 1))<=12 * (sm m (λk=>(C k:Int)) - sm m λk=>((C k / p k:Nat)+1:Int) * ((p k:Int) - 1))/\(tot m C:Int)=sm m λk=>(C k:Int):=by
  intro m
  induction m with
  | zero=>intro _;exact⟨by show((0:Nat):Int) - 12 * 0<=12 * (0 - 0);omega,rfl⟩
  | succ m ih=>
   intro hm
   obtain⟨i1,i2⟩:=ih (by omega)
   have hp:=hp m (by omega)
   have d:=cO (C m) (p m)
   have d2:=bB (C m) (show 0<p m by omega)
   have d3:p m * (C m / p m)<=12 * (C m / p m):=Nat.mul_le_mul_right _ hp.2
   have d4:((C m / p m:Nat)+1:Int) * ((p m:Int) - 1)=((p m * (C m / p m):Nat):Int) - ((C m / p m:Nat):Int)+((p m:Int) - 1):=by
    rw[Int.add_mul,Int.mul_sub,Int.one_mul,Int.mul_one,Int.natCast_mul,Int.mul_comm]
   have t1:tot (m+1) C=tot m C+C m:=rfl
   have t2:sm (m+1) (λk=>(C k:Int))=sm m (λk=>(C k:Int))+(C m:Int):=rfl
   have t3:sm (m+1) (λk=>(p k:Int) - 1)=sm m (λk=>(p k:Int) - 1)+((p m:Int) - 1):=rfl
   have t4:sm (m+1) (λk=>((C k / p k:Nat)+1:Int) * ((p k:Int) - 1))=sm m (λk=>((C k / p k:Nat)+1:Int) * ((p k:Int) - 1))+((C m / p m:Nat)+1:Int) * ((p m:Int) - 1):=rfl
   rw[t1,t2,t3,t4,d4]
   constructor<;>omega
 have:=e3 n (aJ _)
 omega
end Nar
set_option maxHeartbeats 4000000
namespace My
open PySem PySem.Spec L2 DL
abbrev zk(d:D):Option (SM×D):=some (.k,d)
abbrev zo(d:D):Option (SM×D):=some (.o,d)
abbrev zi(n:Int):Out D:=.ok (.int n)
abbrev zl(n:Str):Out D:=.ok (.str n)
abbrev zn(n:Bool):Out D:=.ok (.bl n)
abbrev zt(n:SD):Out Fl:=.ok (.nx n)
set_option hygiene false
local macro_rules
 | `("e"^$q $s $k $b) => `(mX P w K mg base CT $s $k $b [] $q)
 | `("f"^$k $l $b $q) => `(FnOk P w K mg base g8 $k f fd $l (gY K CT $b $q))
set_option hygiene true
theorem gr{X:Cx}{x:Str}(h:Gl X x:=by rfl):Gl X x:=h
theorem Rm{k k1:Nat}{A:Around}(h:Room k1 A)(e:k<=k1:=by decide):Room k A:=h.mono e
noncomputable def fb(i:Nat):Stmt:=PySem.Challenge.pw_dockethall_k82_whole_narrow_answers.main.body.getD i (.Pass ⟨0,0,0,0⟩)
noncomputable def Qp:List Str:=["Deal","Bundle","Copy","Rows","Office"]
noncomputable def Qd:List Str:=["Deal","Bundle","Copy","Rows"]
noncomputable def Ql:List Str:=["Office"]
section
variable{P:Program}{w:World}{K:PySem.W.Frag}{mg:Str->Option Value}{base:Heap}{CT:eU}{f:Addr}{fd:FuncData}{dV:Value}
abbrev yU:Stmt:=fb 57
theorem Qim:Qo ["_law_script","_law_most","_law_factor"] ["_law_script","_law_most"] (Qc yU):=⟨rfl,rfl,rfl,dk,rfl,dk,dk⟩
abbrev U9:PySem.Scope:={ kind:=PySem.ScopeKind.function,names:=[ (PySem.Str.ofString ".0",PySem.NameKind.local),(PySem.Str.ofString "_law_cell_here",PySem.NameKind.local),(PySem.Str.ofString "max",PySem.NameKind.globalImplicit)],isGenerator:=false,isCoroutine:=false,more:=[]:PySem.Scope }
theorem QhY:Qu ["_law_cell_here"] [none] U9 (Qc yU) ["_law_script","_law_most","_law_factor"]:=⟨rfl,dk,dk,rfl,dk,dk⟩
def Fx:SD->Out D:=(eA lE (dW (dU 0) (dW (e2 gC (e1 jD (eC (.int 1))) (dU 0)) dY)))
abbrev UA:PySem.Scope:={ kind:=PySem.ScopeKind.function,names:=[ (PySem.Str.ofString ".0",PySem.NameKind.local),(PySem.Str.ofString "_law_cell_here",PySem.NameKind.local),(PySem.Str.ofString "_law_factor",PySem.NameKind.free)],isGenerator:=false,isCoroutine:=false,more:=[]:PySem.Scope }
theorem Qia:Qu ["_law_cell_here","_law_factor"] [none,some 2] UA (Qc yU) ["_law_script","_law_most","_law_factor"]:=⟨rfl,dk,dk,rfl,dk,dk⟩
def Fy:SD->Out D:=(e2 fA (e2 jX (dU 0) (dU 1)) (e2 gC (e2 qR (eC (.int 1)) (eC (.int 521))) (eC (.int 1))))
def yV:SD->Out Fl:=(dj (gW (eD (e2 iL (dU 0) (fU dY))) (fD (fU dY)) fH) (dj (gW (eD (e2 iL (e2 fA (e2 eF (dU 0) (eC (.int 0))) (eC (.int 2))) (eC (.int 0)))) (fD (e2 kA (fU (dW (e2 fh (eA lE (dW (e2 eF (dU 0) (eC (.int 0))) (dW (e2 gC (e1 jD (eC (.int 1))) (e2 eF (dU 0) (eC (.int 0)))) dY))) (eC (.int 2))) dY)) (dc [none] (fJ (mU (dU 0) (fV (eC (.int 1))) (fV (dU 1)))) (gN 0) da Fx))) fH) (dj (e8 2 (e2 mi (eC (.int 105152070229383420083013462309641843003)) (eC (.int 4)))) (fD (dc [none,some 2] (fJ (mU (dU 0) pK (fV (dU 1)))) (gN 0) da Fy)))))
def uv:List D->Out D:=dy true 2 3 yV
theorem L4(d0 d1:D):uv [d0,d1]=(yV [zk d0,zk d1,none]>>=eN true):=rfl
theorem UB(F:FunV K "_law_mixed" "_law_mixed" yU f fd dV)(mj:mg "max"=none):"f"^1 ["_law_script","_law_most"] true uv:=
 (@gE P w K mg base CT true _ _ _ f fd dV _ _ 0 yV F Qim λeE A outer s H E G hr=>
  (Qf (eX (ir hr.units (dG (Qa 0)) (dG (dF (k7 Qi)))) (Qh (kc (k7 Qi))) QR) (Qf (eX (ir hr.units (dG (Q4 (dG (dv (Qa 0) (dG Qg))) (dG Qg))) (dG Qg)) (Qh (kc (tR (dF (k7 (Qb (qE (dG (Jt rfl gr mj (Qr (dG (dv (Qa 0) (dG Qg))) (Qr (dG (kZ (dG (pI (dG Qg))) (dG (dv (Qa 0) (dG Qg))))) Qx)))) (dG Qg)) Qi))) (dF (QB rfl QhY (dO (QP (dF (lB (Qa 0) (qH (dG Qg)) (qH (dG (Qa 1))))))) (λς=>Qt (Qm rfl ς)) (Qn _) (λfp s H G p=>⟨(Qq (i:=0) QhY.nd rfl (oi rfl) (hf:=Or.inr rfl)),Qw,(Jt rfl gr mj (Qr (dG (Qa 0)) (Qr (dG (kZ (dG (pI (dG Qg))) (dG (Qa 0)))) Qx)))⟩)))))) QR) (Qf (Qy (i:=2) Qim.nd rfl (Or.inr rfl) (U2 (dG Qg) (dG Qg))) (Qh (kc (QB rfl Qia (dO (QP (dF (lB (Qa 0) Ef (qH (dG (Qa 1))))))) (λς=>Qt (Qm rfl ς)) (Qn _) (λfp s H G p=>⟨(Qq (i:=0) Qia.nd rfl (oi rfl) (hf:=Or.inr rfl)),Qw,(Q4 (dG (tL (dG (Qa 0)) (dG (Qa 1)))) (dG (kZ (dG (T3 (dG Qg) (dG Qg))) (dG Qg))))⟩))))))) :)
abbrev Fz:Stmt:=fb 56
theorem UC:Qo ["_law_script","_law_k"] ["_law_script","_law_k"] (Qc Fz):=⟨rfl,rfl,rfl,dk,rfl,dk,dk⟩
def yW:SD->Out Fl:=(dj (gW (eD (e2 mT (dU 1) (eA eB (dW (dU 0) dY)))) (eV (e2 eF (dU 0) (dU 1))) fH) (eV (eC (.int 0))))
def oX:List D->Out D:=dy false 2 2 yW
theorem L5(d0 d1:D):oX [d0,d1]=(yW [zk d0,zk d1]>>=eN false):=rfl
theorem UD(F:FunV K "_law_cell" "_law_cell" Fz f fd dV)(e9:mg "len"=none):"f"^1 ["_law_script","_law_k"] false oX:=
 (@gE P w K mg base CT false _ _ _ f fd dV _ _ 0 yW F UC λeE A outer s H E G hr=>
  (Qf (eX (ji (dG (Qa 1)) (dG (QW gr e9 (Qr (dG (Qa 0)) Qx)))) (Qh (QH (dv (Qa 0) (dG (Qa 1))))) QR) (Qh (QH Qg))) :)
abbrev G5:Stmt:=fb 58
theorem UE:Qo ["_law_cell_here","_law_k"] ["_law_cell_here","_law_k"] (Qc G5):=⟨rfl,rfl,rfl,dk,rfl,dk,dk⟩
def Ay:SD->Out Fl:=(eV (e2 fA (e2 qQ (dU 0) (e2 jX (eC (.int 10)) (dU 1))) (eC (.int 1024))))
def QU:List D->Out D:=dy false 2 2 Ay
theorem UF(d0 d1:D):QU [d0,d1]=(Ay [zk d0,zk d1]>>=eN false):=rfl
theorem UG(F:FunV K "_law_digit" "_law_digit" G5 f fd dV)  : "f"^1 ["_law_cell_here","_law_k"] false QU:=
 (@gE P w K mg base CT false _ _ _ f fd dV _ _ 0 Ay F UE λeE A outer s H E G hr=>
  (Qh (QH (Q4 (dG (T2 (dG (Qa 0)) (dG (tL (dG Qg) (dG (Qa 1)))))) (dG Qg)))) :)
abbrev Az:Stmt:=fb 13
theorem UH:Qo ["one","other"] ["one","other"] (Qc Az):=⟨rfl,rfl,rfl,dk,rfl,dk,dk⟩
abbrev UI:PySem.Scope:={ kind:=PySem.ScopeKind.function,names:=[ (PySem.Str.ofString ".0",PySem.NameKind.local),(PySem.Str.ofString "each",PySem.NameKind.local),(PySem.Str.ofString "more",PySem.NameKind.local)],isGenerator:=false,isCoroutine:=false,more:=[]:PySem.Scope }
theorem QgL:Qu ["each","more"] [none,none] UI (Qc Az) ["one","other"]:=⟨rfl,dk,dk,rfl,dk,dk⟩
def L6:SD->Out D:=(e2 fB (dU 0) (dU 1))
def B0:SD->Out Fl:=(fD (dc [none,none] (Ad (dU 0) (dU 1)) (gT [0,1]) da L6))
def uw:List D->Out D:=dy true 2 2 B0
theorem UJ(d0 d1:D):uw [d0,d1]=(B0 [zk d0,zk d1]>>=eN true):=rfl
theorem UK(F:FunV K "sums_of" "sums_of" Az f fd dV)(oY:mg "zip"=none):"f"^1 ["one","other"] true uw:=
 (@gE P w K mg base CT true _ _ _ f fd dV _ _ 0 B0 F UH λeE A outer s H E G hr=>
  (Qh (kc (QB rfl QgL (dO (S8 gr oY (Qa 0) (Qa 1))) (λς=>Jx (λi hi=>Qm (by revert hi;revert i;decide) ς)) (AO _) (λfp s H G p=>⟨(AQ rfl (pL (i:=0) QgL.nd rfl (oi rfl) (pL (i:=1) QgL.nd rfl (oi rfl) xa (hf:=Or.inr rfl)) (hf:=Or.inr rfl))),Qw,(QZ (dG (Qa 0)) (dG (Qa 1)))⟩)))) :)
abbrev B2:Stmt:=fb 14
theorem Qdk:Qo ["rows","sums","row"] ["rows"] (Qc B2):=⟨rfl,rfl,rfl,dk,rfl,dk,dk⟩
abbrev UL:PySem.Scope:={ kind:=PySem.ScopeKind.function,names:=[(PySem.Str.ofString ".0",PySem.NameKind.local),(PySem.Str.ofString "each",PySem.NameKind.local)],isGenerator:=false,isCoroutine:=false,more:=[]:PySem.Scope }
theorem Qf8:Qu ["each"] [none] UL (Qc B2) ["rows","sums","row"]:=⟨rfl,dk,dk,rfl,dk,dk⟩
def G6:SD->Out D:=(eC (.int 0))
def yX:SD->Out Fl:=(nE 1 (eA (λxs=>uw (xs++[])) (dW (nF 1 (e1 jD (eC (.int 1)))) (dW (dU 2) dY))))
def B3:SD->Out Fl:=(dj (fL 1 (fU (dW (dc [none] (fJ (e2 eF (dU 0) (eC (.int 0)))) (gN 0) da G6) dY))) (dj (gu (gN 2) (fJ (dU 0)) yX) (iT 1)))
def u4:List D->Out D:=dy true 1 3 B3
theorem UM(d0:D):u4 [d0]=(B3 [zk d0,none,none]>>=eN true):=rfl
theorem UN(F:FunV K "running_sums" "running_sums" B2 f fd dV)(UO:"e"^uw "sums_of" 1 true):"f"^2 ["rows"] true u4:=
 (@gE P w K mg base CT true _ _ _ f fd dV _ _ 1 B3 F Qdk λeE A outer s H E G hr=>
  (Qf (nV (i:=1) Qdk.nd rfl (oi rfl) (k7 (Qb (dF (QB rfl Qf8 (dO (QP (dv (Qa 0) (dG Qg)))) (λς=>Qt (Qm rfl ς)) (Qn _) (λfp s H G p=>⟨(Qq (i:=0) Qf8.nd rfl (oi rfl) (hf:=Or.inr rfl)),Qw,Qg⟩))) Qi))) (Qf (mY aq rfl (QP (Qa 0)) (Qq (i:=2) Qdk.nd rfl (oi rfl)) (Qn _) (Qh (rP 1 (eI UO (Rm hr) (Qb (SC 1 (dG (pI (dG Qg))) rfl (oi rfl)) (Qb (Qa 2) Qi)) gr) rfl (oi rfl)))) (Qh (ue 1 rfl (oi rfl))))) :)
abbrev B4:Stmt:=g9 (fb 15) 1
theorem UP:Qo ["self","rows"] ["self","rows"] (Qc B4):=⟨rfl,rfl,rfl,dk,rfl,dk,dk⟩
abbrev UQ:PySem.Scope:={ kind:=PySem.ScopeKind.function,names:=[ (PySem.Str.ofString ".0",PySem.NameKind.local),(PySem.Str.ofString "row",PySem.NameKind.local),(PySem.Str.ofString "list",PySem.NameKind.globalImplicit)],isGenerator:=false,isCoroutine:=false,more:=[]:PySem.Scope }
theorem Qd6:Qu ["row"] [none] UQ (Qc B4) ["self","rows"]:=⟨rfl,dk,dk,rfl,dk,dk⟩
def G7:SD->Out D:=(e1 fi (dU 0))
def B5:SD->Out Fl:=(dj (λς=>gv (fO Qp "table" 0 (dc [none] (fJ (dU 1)) (gN 0) da G7) ς)) (λς=>gv (fO Qp "heads" 0 (eA (λxs=>u4 (xs++[])) (dW (dU 1) dY)) ς)))
def QI:Str->List (Str×D)->List D->Out (List (Str×D)):=iV 2 2 B5
theorem UR(c:Str)(fds:List (Str×D))(d1:D):QI c fds [d1]=(B5 [some (.s,.ins c fds),zk d1]>>=oM c):=rfl
theorem US(F:FunV K "keep_rows" "Clerk.keep_rows" B4 f fd dV)(UT:"e"^u4 "running_sums" 2 true)(eO:mg "list"=none)(fF:f6 K CT Qp "table")(jr:f6 K CT Qp "heads"):FnOk P w K mg base (i7 P w) 3 f fd ["self","rows"] (kB K CT QI):=
 (@ui P w K mg base CT _ _ _ f fd dV _ _ 2 B5 F UP λeE A outer s H E G p hr=>
  (Qf (dP (rT 0 fF (dF (QB rfl Qd6 (dO (QP (Qa 1))) (λς=>Qt (Qm rfl ς)) (Qn _) (λfp s H G p=>⟨(Qq (i:=0) Qd6.nd rfl (oi rfl) (hf:=Or.inr rfl)),Qw,(dF (pM gr eO (Qa 0)))⟩))) rfl (oi rfl))) (Qh (dP (rT 0 jr (eI UT (Rm hr) (Qb (Qa 1) Qi) gr) rfl (oi rfl))))) :)
abbrev G8:Stmt:=fb 7
theorem UU:Qo ["thing"] ["thing"] (Qc G8):=⟨rfl,rfl,rfl,dk,rfl,dk,dk⟩
def B6:SD->Out Fl:=(eV (iK (gS (fk "int") (dU 0)) (oB (gS (fk "bool") (dU 0)))))
def yY:List D->Out D:=dy false 1 1 B6
theorem UV(d0:D):yY [d0]=(B6 [zk d0]>>=eN false):=rfl
theorem UW(F:FunV K "is_whole" "is_whole" G8 f fd dV)(dq:mg "isinstance"=none)(kP:mg "int"=none)(mE:mg "bool"=none):"f"^1 ["thing"] false yY:=
 (@gE P w K mg base CT false _ _ _ f fd dV _ _ 0 B6 F UU λeE A outer s H E G hr=>
  (Qh (QH (pJ (pN "int" RP gr kP PyProof.Rows.Boot.«int» gr dq (dG (Qa 0))) (tM (R0 (pN "bool" RQ gr mE PyProof.Rows.Boot.«bool» gr dq (dG (Qa 0)))))))) :)
abbrev G9:Stmt:=fb 8
theorem UX:Qo ["thing","least","most"] ["thing","least","most"] (Qc G9):=⟨rfl,rfl,rfl,dk,rfl,dk,dk⟩
def B7:SD->Out Fl:=(eV (iK (eA (λxs=>yY (xs++[])) (dW (dU 0) dY)) (mQ nT nT (dU 1) (dU 0) (dU 2))))
def oZ:List D->Out D:=dy false 3 3 B7
theorem UY(d0 d1 d2:D):oZ [d0,d1,d2]=(B7 [zk d0,zk d1,zk d2]>>=eN false):=rfl
theorem UZ(F:FunV K "is_within" "is_within" G9 f fd dV)(Ua:"e"^yY "is_whole" 1 false):"f"^2 ["thing","least","most"] false oZ:=
 (@gE P w K mg base CT false _ _ _ f fd dV _ _ 1 B7 F UX λeE A outer s H E G hr=>
  (Qh (QH (pJ (eI Ua (Rm hr) (Qb (Qa 0) Qi) gr) (tM (Jf ig mS (mR λ_ _=>rfl) ig mS (mR λ_ _=>rfl) (dG (Qa 1)) (dG (Qa 0)) (dG (Qa 2))))))) :)
abbrev B8:Stmt:=fb 21
theorem Ub:Qo ["thing"] ["thing"] (Qc B8):=⟨rfl,rfl,rfl,dk,rfl,dk,dk⟩
abbrev Uc:PySem.Scope:={ kind:=PySem.ScopeKind.function,names:=[ (PySem.Str.ofString ".0",PySem.NameKind.local),(PySem.Str.ofString "count",PySem.NameKind.local),(PySem.Str.ofString "is_within",PySem.NameKind.globalImplicit),(PySem.Str.ofString "MOST_SENT",PySem.NameKind.globalImplicit)],isGenerator:=false,isCoroutine:=false,more:=[]:PySem.Scope }
theorem Qkx:Qu ["count"] [none] Uc (Qc B8) ["thing"]:=⟨rfl,dk,dk,rfl,dk,dk⟩
def GA:SD->Out D:=(eA (λxs=>oZ (xs++[])) (dW (dU 0) (dW (eC (.int 0)) (dW (eC (.int 9)) dY))))
def B9:SD->Out Fl:=(dj (gW (iZ (f7 (eD (gS (fk "list") (dU 0)))) (eD (e2 oA (eA eB (dW (dU 0) dY)) (eC (.int 6))))) (eV (eC (.bl false))) fH) (eV (eA (f1 gc) (dW (dc [none] (fJ (dU 0)) (gN 0) da GA) dY))))
def u5:List D->Out D:=dy false 1 1 B9
theorem Ue(d0:D):u5 [d0]=(B9 [zk d0]>>=eN false):=rfl
theorem Ug{fv:Value}{jV:Value}(F:FunV K "is_row" "is_row" B8 f fd dV)(u6:"e"^oZ "is_within" 2 false)(dq:mg "isinstance"=none)(eO:mg "list"=none)(e9:mg "len"=none)(gA:mg "all"=none)(fw:mg "MOST_OUTS"=some fv)(iB:RelV (gO (.int 6)) fv)(iC:mg "MOST_SENT"=some jV)(lQ:RelV (gO (.int 9)) jV):"f"^3 ["thing"] false u5:=
 (@gE P w K mg base CT false _ _ _ f fd dV _ _ 2 B9 F Ub λeE A outer s H E G hr=>
  (Qf (eX (DW.dt (iq (k4 (jz (pN "list" AV gr eO PyProof.Rows.Boot.«list» gr dq (dG (Qa 0))))) (qF (mV (dG (QW gr e9 (Qr (dG (Qa 0)) Qx))) (dG (nB (d:=(.int 6)) gr fw rfl iB)))))) (Qh (QH gX)) QR) (Qh (QH (rR rfl gr gA (Qr (dG (dF (QB rfl Qkx (dO (QP (Qa 0))) (λς=>Qt (Qm rfl ς)) (Qn _) (λfp s H G p=>⟨(Qq (i:=0) Qkx.nd rfl (oi rfl) (hf:=Or.inr rfl)),Qw,(eI u6 (Rm hr) (Qb (Qa 0) (Qb Qg (Qb (nB (d:=(.int 9)) gr iC rfl lQ) Qi))) gr)⟩)))) Qx))))) :)
abbrev yZ:Stmt:=fb 22
theorem Uh:Qo ["thing"] ["thing"] (Qc yZ):=⟨rfl,rfl,rfl,dk,rfl,dk,dk⟩
abbrev Ui:PySem.Scope:={ kind:=PySem.ScopeKind.function,names:=[ (PySem.Str.ofString ".0",PySem.NameKind.local),(PySem.Str.ofString "row",PySem.NameKind.local),(PySem.Str.ofString "is_row",PySem.NameKind.globalImplicit)],isGenerator:=false,isCoroutine:=false,more:=[]:PySem.Scope }
theorem QiO:Qu ["row"] [none] Ui (Qc yZ) ["thing"]:=⟨rfl,dk,dk,rfl,dk,dk⟩
def GB:SD->Out D:=(eA (λxs=>u5 (xs++[])) (dW (dU 0) dY))
abbrev Uj:PySem.Scope:={ kind:=PySem.ScopeKind.function,names:=[ (PySem.Str.ofString ".0",PySem.NameKind.local),(PySem.Str.ofString "row",PySem.NameKind.local),(PySem.Str.ofString "len",PySem.NameKind.globalImplicit),(PySem.Str.ofString "thing",PySem.NameKind.free)],isGenerator:=false,isCoroutine:=false,more:=[]:PySem.Scope }
theorem QiT:Qu ["row","thing"] [none,some 0] Uj (Qc yZ) ["thing"]:=⟨rfl,dk,dk,rfl,dk,dk⟩
def GC:SD->Out D:=(e2 iL (eA eB (dW (dU 0) dY)) (eA eB (dW (e2 eF (dU 1) (eC (.int 0))) dY)))
def BA:SD->Out Fl:=(dj (gW (iZ (f7 (eD (gS (fk "list") (dU 0)))) (f7 (eD (mQ nT nT (eC (.int 1)) (eA eB (dW (dU 0) dY)) (eC (.int 12)))))) (eV (eC (.bl false))) fH) (dj (gW (f7 (eD (eA (f1 gc) (dW (dc [none] (fJ (dU 0)) (gN 0) da GB) dY)))) (eV (eC (.bl false))) fH) (eV (eA (f1 gc) (dW (dc [none,some 0] (fJ (dU 0)) (gN 0) da GC) dY)))))
def ya:List D->Out D:=dy false 1 1 BA
theorem Uk(d0:D):ya [d0]=(BA [zk d0]>>=eN false):=rfl
theorem Ul{g4:Value}(F:FunV K "is_table" "is_table" yZ f fd dV)(GD:"e"^u5 "is_row" 3 false)(dq:mg "isinstance"=none)(eO:mg "list"=none)(e9:mg "len"=none)(gA:mg "all"=none)(g5:mg "MOST_ROWS"=some g4)(iD:RelV (gO (.int 12)) g4):"f"^4 ["thing"] false ya:=
 (@gE P w K mg base CT false _ _ _ f fd dV _ _ 3 BA F Uh λeE A outer s H E G hr=>
  (Qf (eX (DW.dt (iq (k4 (jz (pN "list" AV gr eO PyProof.Rows.Boot.«list» gr dq (dG (Qa 0))))) (qF (k4 (Jg ig mS (mR λ_ _=>rfl) ig mS (mR λ_ _=>rfl) (dG Qg) (dG (QW gr e9 (Qr (dG (Qa 0)) Qx))) (dG (nB (d:=(.int 12)) gr g5 rfl iD))))))) (Qh (QH gX)) QR) (Qf (eX (k4 (jz (rR rfl gr gA (Qr (dG (dF (QB rfl QiO (dO (QP (Qa 0))) (λς=>Qt (Qm rfl ς)) (Qn _) (λfp s H G p=>⟨(Qq (i:=0) QiO.nd rfl (oi rfl) (hf:=Or.inr rfl)),Qw,(eI GD (Rm hr) (Qb (Qa 0) Qi) gr)⟩)))) Qx)))) (Qh (QH gX)) QR) (Qh (QH (rR rfl gr gA (Qr (dG (dF (QB rfl QiT (dO (QP (Qa 0))) (λς=>Qt (Qm rfl ς)) (Qn _) (λfp s H G p=>⟨(Qq (i:=0) QiT.nd rfl (oi rfl) (hf:=Or.inr rfl)),Qw,(jk hr.units (dG (QW gr e9 (Qr (dG (Qa 0)) Qx))) (dG (QW gr e9 (Qr (dG (dv (Qa 1) (dG Qg))) Qx))))⟩)))) Qx)))))) :)
abbrev GE:Stmt:=g9 (fb 19) 0
theorem Um:Qo ["self","rows"] ["self","rows"] (Qc GE):=⟨rfl,rfl,rfl,dk,rfl,dk,dk⟩
def BB:SD->Out Fl:=(dj (λς=>gv ((gW (f7 (eD (eA (λxs=>ya (xs++[])) (dW (dU 1) dY)))) qJ fH) ς)) (rg Qd "keep_rows" QI 0 (λς=>gv ((dW (dU 1) dY) ς))))
def u7:Str->List (Str×D)->List D->Out (List (Str×D)):=iV 2 2 BB
theorem Uo(c:Str)(fds:List (Str×D))(d1:D):u7 c fds [d1]=(BB [some (.s,.ins c fds),zk d1]>>=oM c):=rfl
theorem Up(F:FunV K "__init__" "Rows.__init__" GE f fd dV)(Uq:"e"^ya "is_table" 4 false)(eJ:fK P w K mg base CT (i7 P w) "keep_rows" 3 Qd (λ_=>kB K CT QI)):FnOk P w K mg base (i7 P w) 5 f fd ["self","rows"] (kB K CT u7):=
 (@ui P w K mg base CT _ _ _ f fd dV _ _ 4 BB F Um λeE A outer s H E G p hr=>
  (Qf (dP (eX (k4 (jz (eI Uq (Rm hr) (Qb (Qa 1) Qi) gr))) (Qh rN) QR)) (Qh (Ag 0 Af eJ (Rm hr) (DA.lift (Qb (Qa 1) Qi)) rfl (oi rfl)))) :)
abbrev BC:Stmt:=fb 20
theorem Ur:Qo ["many","place"] ["many","place"] (Qc BC):=⟨rfl,rfl,rfl,dk,rfl,dk,dk⟩
abbrev Us:PySem.Scope:={ kind:=PySem.ScopeKind.function,names:=[ (PySem.Str.ofString ".0",PySem.NameKind.local),(PySem.Str.ofString "out",PySem.NameKind.local),(PySem.Str.ofString "place",PySem.NameKind.free)],isGenerator:=false,isCoroutine:=false,more:=[]:PySem.Scope }
theorem Qg6:Qu ["out","place"] [none,some 1] Us (Qc BC) ["many","place"]:=⟨rfl,dk,dk,rfl,dk,dk⟩
def GF:SD->Out D:=(qG (eD (e2 iL (dU 0) (dU 1))) (eC (.int 1)) (eC (.int 0)))
def BD:SD->Out Fl:=(fD (dc [none,some 1] (eR (dU 0)) (gN 0) da GF))
def yb:List D->Out D:=dy true 2 2 BD
theorem Ut(d0 d1:D):yb [d0,d1]=(BD [zk d0,zk d1]>>=eN true):=rfl
theorem Uu(F:FunV K "single_row" "single_row" BC f fd dV)(du:mg "range"=none):"f"^1 ["many","place"] true yb:=
 (@gE P w K mg base CT true _ _ _ f fd dV _ _ 0 BD F Ur λeE A outer s H E G hr=>
  (Qh (kc (QB rfl Qg6 (dO (QL gr du (dG (Qa 0)))) (λς=>Qt (Qm rfl ς)) (Qn _) (λfp s H G p=>⟨(Qq (i:=0) Qg6.nd rfl (oi rfl) (hf:=Or.inr rfl)),Qw,(oC (ir hr.units (dG (Qa 0)) (dG (Qa 1))) Qg Qg)⟩)))) :)
abbrev BE:Stmt:=g9 (fb 16) 0
theorem Uv:Qo ["self","many"] ["self","many"] (Qc BE):=⟨rfl,rfl,rfl,dk,rfl,dk,dk⟩
abbrev Uw:PySem.Scope:={ kind:=PySem.ScopeKind.function,names:=[ (PySem.Str.ofString ".0",PySem.NameKind.local),(PySem.Str.ofString "state",PySem.NameKind.local),(PySem.Str.ofString "single_row",PySem.NameKind.globalImplicit),(PySem.Str.ofString "many",PySem.NameKind.free)],isGenerator:=false,isCoroutine:=false,more:=[]:PySem.Scope }
theorem Qic:Qu ["state","many"] [none,some 1] Uw (Qc BE) ["self","many"]:=⟨rfl,dk,dk,rfl,dk,dk⟩
def GG:SD->Out D:=(eA (λxs=>yb (xs++[])) (dW (dU 1) (dW (dU 0) dY)))
def BF:SD->Out Fl:=(dj (λς=>gv ((gW (f7 (eD (eA (λxs=>oZ (xs++[])) (dW (dU 1) (dW (eC (.int 1)) (dW (eC (.int 6)) dY)))))) qJ fH) ς)) (rg Qd "keep_rows" QI 0 (λς=>gv ((dW (dc [none,some 1] (eR (dU 1)) (gN 0) da GG) dY) ς))))
def qY:Str->List (Str×D)->List D->Out (List (Str×D)):=iV 2 2 BF
theorem Ux(c:Str)(fds:List (Str×D))(d1:D):qY c fds [d1]=(BF [some (.s,.ins c fds),zk d1]>>=oM c):=rfl
theorem Uy{fv:Value}(F:FunV K "__init__" "Deal.__init__" BE f fd dV)(u6:"e"^oZ "is_within" 2 false)(Uz:"e"^yb "single_row" 1 true)(du:mg "range"=none)(fw:mg "MOST_OUTS"=some fv)(iB:RelV (gO (.int 6)) fv)(eJ:fK P w K mg base CT (i7 P w) "keep_rows" 3 Qd (λ_=>kB K CT QI)):FnOk P w K mg base (i7 P w) 4 f fd ["self","many"] (kB K CT qY):=
 (@ui P w K mg base CT _ _ _ f fd dV _ _ 3 BF F Uv λeE A outer s H E G p hr=>
  (Qf (dP (eX (k4 (jz (eI u6 (Rm hr) (Qb (Qa 1) (Qb Qg (Qb (nB (d:=(.int 6)) gr fw rfl iB) Qi))) gr))) (Qh rN) QR)) (Qh (Ag 0 Af eJ (Rm hr) (DA.lift (Qb (dF (QB rfl Qic (dO (QL gr du (dG (Qa 1)))) (λς=>Qt (Qm rfl ς)) (Qn _) (λfp s H G p=>⟨(Qq (i:=0) Qic.nd rfl (oi rfl) (hf:=Or.inr rfl)),Qw,(eI Uz (Rm hr) (Qb (Qa 1) (Qb (Qa 0) Qi)) gr)⟩))) Qi)) rfl (oi rfl)))) :)
abbrev BG:Stmt:=g9 (fb 17) 0
theorem V0:Qo ["self","size"] ["self","size"] (Qc BG):=⟨rfl,rfl,rfl,dk,rfl,dk,dk⟩
abbrev V6:PySem.Scope:={ kind:=PySem.ScopeKind.function,names:=[ (PySem.Str.ofString ".0",PySem.NameKind.local),(PySem.Str.ofString "state",PySem.NameKind.local),(PySem.Str.ofString "size",PySem.NameKind.free)],isGenerator:=false,isCoroutine:=false,more:=[]:PySem.Scope }
theorem Qgo:Qu ["state","size"] [none,some 1] V6 (Qc BG) ["self","size"]:=⟨rfl,dk,dk,rfl,dk,dk⟩
def GI:SD->Out D:=(fU (dW (qG (eD (e2 iL (dU 0) (e2 gC (dU 1) (eC (.int 1))))) (eC (.int 1)) (eC (.int 0))) dY))
def BH:SD->Out Fl:=(dj (λς=>gv ((gW (f7 (eD (eA (λxs=>oZ (xs++[])) (dW (dU 1) (dW (eC (.int 1)) (dW (eC (.int 12)) dY)))))) qJ fH) ς)) (rg Qd "keep_rows" QI 0 (λς=>gv ((dW (dc [none,some 1] (eR (dU 1)) (gN 0) da GI) dY) ς))))
def u9:Str->List (Str×D)->List D->Out (List (Str×D)):=iV 2 2 BH
theorem V7(c:Str)(fds:List (Str×D))(d1:D):u9 c fds [d1]=(BH [some (.s,.ins c fds),zk d1]>>=oM c):=rfl
theorem V8{g4:Value}(F:FunV K "__init__" "Bundle.__init__" BG f fd dV)(u6:"e"^oZ "is_within" 2 false)(du:mg "range"=none)(g5:mg "MOST_ROWS"=some g4)(iD:RelV (gO (.int 12)) g4)(eJ:fK P w K mg base CT (i7 P w) "keep_rows" 3 Qd (λ_=>kB K CT QI)):FnOk P w K mg base (i7 P w) 4 f fd ["self","size"] (kB K CT u9):=
 (@ui P w K mg base CT _ _ _ f fd dV _ _ 3 BH F V0 λeE A outer s H E G p hr=>
  (Qf (dP (eX (k4 (jz (eI u6 (Rm hr) (Qb (Qa 1) (Qb Qg (Qb (nB (d:=(.int 12)) gr g5 rfl iD) Qi))) gr))) (Qh rN) QR)) (Qh (Ag 0 Af eJ (Rm hr) (DA.lift (Qb (dF (QB rfl Qgo (dO (QL gr du (dG (Qa 1)))) (λς=>Qt (Qm rfl ς)) (Qn _) (λfp s H G p=>⟨(Qq (i:=0) Qgo.nd rfl (oi rfl) (hf:=Or.inr rfl)),Qw,(dF (k7 (Qb (oC (ir hr.units (dG (Qa 0)) (dG (kZ (dG (Qa 1)) (dG Qg)))) Qg Qg) Qi)))⟩))) Qi)) rfl (oi rfl)))) :)
abbrev GJ:Stmt:=g9 (fb 18) 0
theorem V9:Qo ["self","counts"] ["self","counts"] (Qc GJ):=⟨rfl,rfl,rfl,dk,rfl,dk,dk⟩
def BI:SD->Out Fl:=(dj (λς=>gv ((gW (f7 (eD (eA (λxs=>u5 (xs++[])) (dW (dU 1) dY)))) qJ fH) ς)) (rg Qd "keep_rows" QI 0 (λς=>gv ((dW (fU (dW (dU 1) dY)) dY) ς))))
def qZ:Str->List (Str×D)->List D->Out (List (Str×D)):=iV 2 2 BI
theorem VA(c:Str)(fds:List (Str×D))(d1:D):qZ c fds [d1]=(BI [some (.s,.ins c fds),zk d1]>>=oM c):=rfl
theorem VB(F:FunV K "__init__" "Copy.__init__" GJ f fd dV)(GD:"e"^u5 "is_row" 3 false)(eJ:fK P w K mg base CT (i7 P w) "keep_rows" 3 Qd (λ_=>kB K CT QI)):FnOk P w K mg base (i7 P w) 4 f fd ["self","counts"] (kB K CT qZ):=
 (@ui P w K mg base CT _ _ _ f fd dV _ _ 3 BI F V9 λeE A outer s H E G p hr=>
  (Qf (dP (eX (k4 (jz (eI GD (Rm hr) (Qb (Qa 1) Qi) gr))) (Qh rN) QR)) (Qh (Ag 0 Af eJ (Rm hr) (DA.lift (Qb (dF (k7 (Qb (Qa 1) Qi))) Qi)) rfl (oi rfl)))) :)
abbrev qa:Stmt:=fb 59
theorem QaG:Qo ["_law_cell_here","_law_way","_law_number","_law_many","_law_size","_law_counts","_law_outs","_law_rows","_law_state"] ["_law_cell_here"] (Qc qa):=⟨rfl,rfl,rfl,dk,rfl,dk,dk⟩
abbrev L7:PySem.Scope:={ kind:=PySem.ScopeKind.function,names:=[ (PySem.Str.ofString ".0",PySem.NameKind.local),(PySem.Str.ofString "_law_state",PySem.NameKind.cell),(PySem.Str.ofString "range",PySem.NameKind.globalImplicit),(PySem.Str.ofString "_law_many",PySem.NameKind.free)],isGenerator:=false,isCoroutine:=false,more:=[]:PySem.Scope }
theorem QiH:Qu ["_law_state","_law_many"] [none,some 3] L7 (Qc qa) ["_law_cell_here","_law_way","_law_number","_law_many","_law_size","_law_counts","_law_outs","_law_rows","_law_state"]:=⟨rfl,dk,dk,rfl,dk,dk⟩
abbrev VC:PySem.Scope:={ kind:=PySem.ScopeKind.function,names:=[ (PySem.Str.ofString ".0",PySem.NameKind.local),(PySem.Str.ofString "_law_at",PySem.NameKind.local),(PySem.Str.ofString "int",PySem.NameKind.globalImplicit),(PySem.Str.ofString "_law_state",PySem.NameKind.free)],isGenerator:=false,isCoroutine:=false,more:=[]:PySem.Scope }
theorem QiI:Qu ["_law_at","_law_state"] [none,some 0] VC (tH L7 (Qc qa)) ["_law_state","_law_many"]:=⟨rfl,dk,dk,rfl,dk,dk⟩
def L8:SD->Out D:=(eA (f1 qK) (dW (e2 iL (dU 0) (dU 1)) dY))
def GK:SD->Out D:=(dc [none,some 0] (eR (dU 1)) (gN 0) da L8)
abbrev VD:PySem.Scope:={ kind:=PySem.ScopeKind.function,names:=[ (PySem.Str.ofString ".0",PySem.NameKind.local),(PySem.Str.ofString "_law_state",PySem.NameKind.local),(PySem.Str.ofString "int",PySem.NameKind.globalImplicit),(PySem.Str.ofString "_law_size",PySem.NameKind.free)],isGenerator:=false,isCoroutine:=false,more:=[]:PySem.Scope }
theorem QiK:Qu ["_law_state","_law_size"] [none,some 4] VD (Qc qa) ["_law_cell_here","_law_way","_law_number","_law_many","_law_size","_law_counts","_law_outs","_law_rows","_law_state"]:=⟨rfl,dk,dk,rfl,dk,dk⟩
def GL:SD->Out D:=(fU (dW (eA (f1 qK) (dW (e2 iL (dU 0) (e2 gC (dU 1) (eC (.int 1)))) dY)) dY))
abbrev VE:PySem.Scope:={ kind:=PySem.ScopeKind.function,names:=[ (PySem.Str.ofString ".0",PySem.NameKind.local),(PySem.Str.ofString "_law_at",PySem.NameKind.local),(PySem.Str.ofString "_law_digit",PySem.NameKind.globalImplicit),(PySem.Str.ofString "_law_cell_here",PySem.NameKind.free)],isGenerator:=false,isCoroutine:=false,more:=[]:PySem.Scope }
theorem QiN:Qu ["_law_at","_law_cell_here"] [none,some 0] VE (Qc qa) ["_law_cell_here","_law_way","_law_number","_law_many","_law_size","_law_counts","_law_outs","_law_rows","_law_state"]:=⟨rfl,dk,dk,rfl,dk,dk⟩
def GM:SD->Out D:=(e2 fA (eA (λxs=>QU (xs++[])) (dW (dU 1) (dW (e2 fB (eC (.int 3)) (dU 0)) dY))) (eC (.int 3)))
abbrev VF:PySem.Scope:={ kind:=PySem.ScopeKind.function,names:=[ (PySem.Str.ofString ".0",PySem.NameKind.local),(PySem.Str.ofString "_law_at",PySem.NameKind.local),(PySem.Str.ofString "_law_digit",PySem.NameKind.globalImplicit),(PySem.Str.ofString "_law_cell_here",PySem.NameKind.free),(PySem.Str.ofString "_law_state",PySem.NameKind.free)],isGenerator:=false,isCoroutine:=false,more:=[]:PySem.Scope }
theorem QiV:Qu ["_law_at","_law_cell_here","_law_state"] [none,some 0,some 8] VF (Qc qa) ["_law_cell_here","_law_way","_law_number","_law_many","_law_size","_law_counts","_law_outs","_law_rows","_law_state"]:=⟨rfl,dk,dk,rfl,dk,dk⟩
def GN:SD->Out D:=(e2 fA (eA (λxs=>QU (xs++[])) (dW (dU 1) (dW (e2 fB (e2 fB (eC (.int 3)) (e2 jX (eC (.int 3)) (dU 2))) (dU 0)) dY))) (eC (.int 3)))
def BJ:SD->Out Fl:=(nE 7 (dc [none,some 0,some 8] (eR (dU 6)) (gN 0) da GN))
abbrev VG:PySem.Scope:={ kind:=PySem.ScopeKind.function,names:=[ (PySem.Str.ofString ".0",PySem.NameKind.local),(PySem.Str.ofString "_law_row",PySem.NameKind.local),(PySem.Str.ofString "list",PySem.NameKind.globalImplicit)],isGenerator:=false,isCoroutine:=false,more:=[]:PySem.Scope }
theorem Qi2:Qu ["_law_row"] [none] VG (Qc qa) ["_law_cell_here","_law_way","_law_number","_law_many","_law_size","_law_counts","_law_outs","_law_rows","_law_state"]:=⟨rfl,dk,dk,rfl,dk,dk⟩
def GO:SD->Out D:=(e1 fi (dU 0))
def BK:SD->Out Fl:=(dj (e8 1 (e2 fA (eA (λxs=>QU (xs++[])) (dW (dU 0) (dW (eC (.int 0)) dY))) (eC (.int 4)))) (dj (e8 2 (eA (λxs=>QU (xs++[])) (dW (dU 0) (dW (eC (.int 1)) dY)))) (dj (gW (eD (e2 iL (dU 1) (eC (.int 0)))) (dj (e8 3 (e2 fB (eC (.int 1)) (e2 fA (dU 2) (eC (.int 6))))) (eV (i3 (dW (h9 "Deal" qY (dW (dU 3) dY)) (dW (dc [none,some 3] (eR (dU 3)) (gN 0) da GK) dY))))) fH) (dj (gW (eD (e2 iL (dU 1) (eC (.int 1)))) (dj (e8 4 (e2 fB (eC (.int 1)) (e2 fA (dU 2) (eC (.int 12))))) (eV (i3 (dW (h9 "Bundle" u9 (dW (dU 4) dY)) (dW (dc [none,some 4] (eR (dU 4)) (gN 0) da GL) dY))))) fH) (dj (gW (eD (e2 iL (dU 1) (eC (.int 2)))) (dj (e8 5 (dc [none,some 0] (eR (e2 fA (dU 2) (eC (.int 5)))) (gN 0) da GM)) (eV (i3 (dW (h9 "Copy" qZ (dW (dU 5) dY)) (dW (fU (dW (e1 fi (dU 5)) dY)) dY))))) fH) (dj (e8 6 (e2 fA (dU 2) (eC (.int 4)))) (dj (fL 7 (fU dY)) (dj (gu (gN 8) (eR (e2 fB (eC (.int 1)) (e2 fA (eA (λxs=>QU (xs++[])) (dW (dU 0) (dW (eC (.int 2)) dY))) (eC (.int 5))))) BJ) (λς=>(eV (i3 (dW (h9 "Rows" u7 (dW (dU 7) dY)) (dW (dc [none] (fJ (dU 7)) (gN 0) da GO) dY)))) (frz 7 ς))))))))))
def ux:List D->Out D:=dy false 1 9 BK
theorem VH(d0:D):ux [d0]=(BK [zk d0,none,none,none,none,none,none,none,none]>>=eN false):=rfl
theorem VI(F:FunV K "_law_kind" "_law_kind" qa f fd dV)(qb:"e"^QU "_law_digit" 1 false)(du:mg "range"=none)(kP:mg "int"=none)(eO:mg "list"=none)(uy:iw P w K mg base CT "Deal" 4 qY)(GP:iw P w K mg base CT "Bundle" 4 u9)(uz:iw P w K mg base CT "Copy" 4 qZ)(GQ:iw P w K mg base CT "Rows" 5 u7):"f"^7 ["_law_cell_here"] false ux:=
 (@gE P w K mg base CT false _ _ _ f fd dV _ _ 6 BK F QaG λeE A outer s H E G hr=>
  (Qf (Qy (i:=1) QaG.nd rfl (oi rfl) (Q4 (dG (eI qb (Rm hr) (Qb (Qa 0) (Qb Qg Qi)) gr)) (dG Qg))) (Qf (Qy (i:=2) QaG.nd rfl (oi rfl) (eI qb (Rm hr) (Qb (Qa 0) (Qb Qg Qi)) gr)) (Qf (eX (ir hr.units (dG (Qa 1)) (dG Qg)) (Qf (Qy (i:=3) QaG.nd rfl (Or.inr rfl) (QZ (dG Qg) (dG (Q4 (dG (Qa 2)) (dG Qg))))) (Qh (QH (nU (Qb (dF (rX rS uy (Rm hr) (Qb (Qa 3) Qi) gr)) (Qb (dF (QB rfl QiH (dO (QL gr du (dG (Qa 3)))) (λς=>Qt (Qm rfl ς)) (Qn _) (λfp s H G p=>⟨(Qq (i:=0) QiH.nd rfl (Or.inr rfl) (hf:=Or.inl rfl)),Qw,(dF (QB rfl QiI (dO (QL gr du (dG (Qa 1)))) (λς=>Qt (Qm rfl ς)) (Qn _) (λfp s H G p=>⟨(Qq (i:=0) QiI.nd rfl (oi rfl) (hf:=Or.inr rfl)),Qw,(Ju gr kP (Qr (dG (jk hr.units (dG (Qa 0)) (dG (Qa 1)))) Qx))⟩)))⟩))) Qi)))))) QR) (Qf (eX (ir hr.units (dG (Qa 1)) (dG Qg)) (Qf (Qy (i:=4) QaG.nd rfl (Or.inr rfl) (QZ (dG Qg) (dG (Q4 (dG (Qa 2)) (dG Qg))))) (Qh (QH (nU (Qb (dF (rX rS GP (Rm hr) (Qb (Qa 4) Qi) gr)) (Qb (dF (QB rfl QiK (dO (QL gr du (dG (Qa 4)))) (λς=>Qt (Qm rfl ς)) (Qn _) (λfp s H G p=>⟨(Qq (i:=0) QiK.nd rfl (oi rfl) (hf:=Or.inr rfl)),Qw,(dF (k7 (Qb (Ju gr kP (Qr (dG (jk hr.units (dG (Qa 0)) (dG (kZ (dG (Qa 1)) (dG Qg))))) Qx)) Qi)))⟩))) Qi)))))) QR) (Qf (eX (ir hr.units (dG (Qa 1)) (dG Qg)) (Qf (tU (i:=5) rfl QiN (dO (QL gr du (dG (Q4 (dG (Qa 2)) (dG Qg))))) (λς=>Qt (Qm rfl ς)) (Qn _) (λfp s H G p=>⟨(Qq (i:=0) QiN.nd rfl (oi rfl) (hf:=Or.inr rfl)),Qw,(Q4 (dG (eI qb (Rm hr) (Qb (Qa 1) (Qb (QZ (dG Qg) (dG (Qa 0))) Qi)) gr)) (dG Qg))⟩) QaG.nd rfl (oi rfl)) (Qh (QH (nU (Qb (dF (rX rS uz (Rm hr) (Qb (Qa 5) Qi) gr)) (Qb (dF (k7 (Qb (dF (pM gr eO (Qa 5))) Qi))) Qi)))))) QR) (Qf (Qy (i:=6) QaG.nd rfl (oi rfl) (Q4 (dG (Qa 2)) (dG Qg))) (Qf (nV (i:=7) QaG.nd rfl (oi rfl) (k7 Qi)) (Qf (mY aq rfl (QL gr du (dG (QZ (dG Qg) (dG (Q4 (dG (eI qb (Rm hr) (Qb (Qa 0) (Qb Qg Qi)) gr)) (dG Qg)))))) (Qq (i:=8) QaG.nd rfl (Or.inr rfl)) (Qn _) (Qh (rP 7 (dF (QB rfl QiV (dO (QL gr du (dG (Qa 6)))) (λς=>Qt (Qm rfl ς)) (Qn _) (λfp s H G p=>⟨(Qq (i:=0) QiV.nd rfl (oi rfl) (hf:=Or.inr rfl)),Qw,(Q4 (dG (eI qb (Rm hr) (Qb (Qa 1) (Qb (QZ (dG (QZ (dG Qg) (dG (tL (dG Qg) (dG (Qa 2)))))) (dG (Qa 0))) Qi)) gr)) (dG Qg))⟩))) rfl (oi rfl)))) (Qh (FM 7 (QH (nU (Qb (dF (rX rS GQ (Rm hr) (Qb (Qa 7) Qi) gr)) (Qb (dF (QB rfl Qi2 (dO (QP (Qa 7))) (λς=>Qt (Qm rfl ς)) (Qn _) (λfp s H G p=>⟨(Qq (i:=0) Qi2.nd rfl (oi rfl) (hf:=Or.inr rfl)),Qw,(dF (pM gr eO (Qa 0)))⟩))) Qi)))))))))))))) :)
abbrev BL:Stmt:=fb 60
theorem Qbd:Qo ["_law_cell_here","_law_rows","_law_many","_law_doors","_law_tame","_law_spare","_law_leads","_law_at","_law_to","_law_sends"] ["_law_cell_here","_law_rows","_law_many","_law_doors","_law_tame"] (Qc BL):=⟨rfl,rfl,rfl,dk,rfl,dk,dk⟩
abbrev VJ:PySem.Scope:={ kind:=PySem.ScopeKind.function,names:=[ (PySem.Str.ofString ".0",PySem.NameKind.local),(PySem.Str.ofString "_law_row",PySem.NameKind.local),(PySem.Str.ofString "_law_at",PySem.NameKind.free)],isGenerator:=false,isCoroutine:=false,more:=[]:PySem.Scope }
theorem QhZ:Qu ["_law_row","_law_at"] [none,some 7] VJ (Qc BL) ["_law_cell_here","_law_rows","_law_many","_law_doors","_law_tame","_law_spare","_law_leads","_law_at","_law_to","_law_sends"]:=⟨rfl,dk,dk,rfl,dk,dk⟩
def BM:SD->Out D:=(e2 eF (dU 0) (dU 1))
def yc:SD->Out Fl:=(dj (e8 8 (e2 fA (eA (λxs=>QU (xs++[])) (dW (dU 0) (dW (e2 fB (eC (.int 18)) (dU 7)) dY))) (e2 fB (dU 2) (dU 3)))) (dj (e8 9 (eA (f1 iM) (dW (dc [none,some 7] (fJ (dU 1)) (gN 0) da BM) dY))) (gW (iS (eD (e2 mT (dU 8) (dU 2))) (iZ (eD (e2 nT (dU 9) (dU 5))) (f7 (eD (dU 4))))) (dj (nE 6 (dU 8)) (e8 5 (e2 gC (dU 5) (dU 9)))) (nE 6 (e2 gC (e1 jD (eC (.int 1))) (e2 fA (dU 8) (dU 3)))))))
def BN:SD->Out Fl:=(dj (e8 5 (e2 gC (eA eB (dW (dU 1) dY)) (eC (.int 1)))) (dj (fL 6 (fU dY)) (dj (gu (gN 7) (eR (eA eB (dW (e2 eF (dU 1) (eC (.int 0))) dY))) yc) (iT 6))))
def vA:List D->Out D:=dy true 5 10 BN
theorem VL(d0 d1 d2 d3 d4:D):vA [d0,d1,d2,d3,d4]=(BN [zk d0,zk d1,zk d2,zk d3,zk d4,none,none,none,none,none]>>=eN true):=rfl
theorem VM(F:FunV K "_law_where" "_law_where" BL f fd dV)(qb:"e"^QU "_law_digit" 1 false)(e9:mg "len"=none)(du:mg "range"=none)(j1:mg "sum"=none):"f"^2 ["_law_cell_here","_law_rows","_law_many","_law_doors","_law_tame"] true vA:=
 (@gE P w K mg base CT true _ _ _ f fd dV _ _ 1 BN F Qbd λeE A outer s H E G hr=>
  (Qf (Qy (i:=5) Qbd.nd rfl (oi rfl) (kZ (dG (QW gr e9 (Qr (dG (Qa 1)) Qx))) (dG Qg))) (Qf (nV (i:=6) Qbd.nd rfl (oi rfl) (k7 Qi)) (Qf (mY aq rfl (QL gr du (dG (QW gr e9 (Qr (dG (dv (Qa 1) (dG Qg))) Qx)))) (Qq (i:=7) Qbd.nd rfl (Or.inr rfl)) (Qn _) (Qf (Qy (i:=8) Qbd.nd rfl (oi rfl) (Q4 (dG (eI qb (Rm hr) (Qb (Qa 0) (Qb (QZ (dG Qg) (dG (Qa 7))) Qi)) gr)) (dG (QZ (dG (Qa 2)) (dG (Qa 3)))))) (Qf (Qy (i:=9) Qbd.nd rfl (oi rfl) (Aj rfl gr j1 (Qr (dG (dF (QB rfl QhZ (dO (QP (Qa 1))) (λς=>Qt (Qm rfl ς)) (Qn _) (λfp s H G p=>⟨(Qq (i:=0) QhZ.nd rfl (oi rfl) (hf:=Or.inr rfl)),Qw,(dv (Qa 0) (dG (Qa 1)))⟩)))) Qx))) (Qh (eX (DW.dt (Ee (ji (dG (Qa 8)) (dG (Qa 2))) (Ed (DW.dt (iq (xR (dG (Qa 9)) (dG (Qa 5))) (qF (k4 (jz (Qa 4))))))))) (Qf (rP 6 (Qa 8) rfl (oi rfl)) (Qh (Qy (i:=5) Qbd.nd rfl (oi rfl) (kZ (dG (Qa 5)) (dG (Qa 9)))))) (Qh (rP 6 (kZ (dG (pI (dG Qg))) (dG (Q4 (dG (Qa 8)) (dG (Qa 3))))) rfl (oi rfl)))))))) (Qh (ue 6 rfl (oi rfl)))))) :)
abbrev GR:Stmt:=fb 61
theorem QaO:Qo ["_law_script","_law_first","_law_most","_law_doors","_law_tame","_law_many","_law_plan","_law_k","_law_cell_here","_law_clerk","_law_rows","_law_leads"] ["_law_script","_law_first","_law_most","_law_doors","_law_tame"] (Qc GR):=⟨rfl,rfl,rfl,dk,rfl,dk,dk⟩
def BO:SD->Out Fl:=(dj (e8 8 (eA (λxs=>oX (xs++[])) (dW (dU 0) (dW (e2 fB (e2 fB (dU 1) (eC (.int 1))) (dU 7)) dY)))) (dj (m4 [9,10] (eA (λxs=>ux (xs++[])) (dW (dU 8) dY))) (dj (e8 11 (eA (λxs=>vA (xs++[])) (dW (dU 8) (dW (dU 10) (dW (dU 5) (dW (dU 3) (dW (dU 4) dY))))))) (nE 6 (i3 (dW (dU 9) (dW (dU 10) (dW (dU 11) (dW (e2 fA (eA (λxs=>QU (xs++[])) (dW (dU 8) (dW (eC (.int 24)) dY))) (eA eB (dW (dU 10) dY))) dY)))))))))
def BP:SD->Out Fl:=(dj (e8 5 (e2 fB (eC (.int 1)) (e2 fA (eA (λxs=>oX (xs++[])) (dW (dU 0) (dW (dU 1) dY))) (dU 2)))) (dj (fL 6 (fU dY)) (dj (gu (gN 7) (eR (dU 5)) BO) (iT 6))))
def vB:List D->Out D:=dy true 5 12 BP
theorem VN(d0 d1 d2 d3 d4:D):vB [d0,d1,d2,d3,d4]=(BP [zk d0,zk d1,zk d2,zk d3,zk d4,none,none,none,none,none,none,none]>>=eN true):=rfl
theorem VO(F:FunV K "_law_drawn" "_law_drawn" GR f fd dV)(yd:"e"^oX "_law_cell" 1 false)(VP:"e"^ux "_law_kind" 7 false)(VQ:"e"^vA "_law_where" 2 true)(qb:"e"^QU "_law_digit" 1 false)(du:mg "range"=none)(e9:mg "len"=none):"f"^8 ["_law_script","_law_first","_law_most","_law_doors","_law_tame"] true vB:=
 (@gE P w K mg base CT true _ _ _ f fd dV _ _ 7 BP F QaO λeE A outer s H E G hr=>
  (Qf (Qy (i:=5) QaO.nd rfl (oi rfl) (QZ (dG Qg) (dG (Q4 (dG (eI yd (Rm hr) (Qb (Qa 0) (Qb (Qa 1) Qi)) gr)) (dG (Qa 2)))))) (Qf (nV (i:=6) QaO.nd rfl (oi rfl) (k7 Qi)) (Qf (mY aq rfl (QL gr du (dG (Qa 5))) (Qq (i:=7) QaO.nd rfl (oi rfl)) (Qn _) (Qf (Qy (i:=8) QaO.nd rfl (oi rfl) (eI yd (Rm hr) (Qb (Qa 0) (Qb (QZ (dG (QZ (dG (Qa 1)) (dG Qg))) (dG (Qa 7))) Qi)) gr)) (Qf (RF rfl (eI VP (Rm hr) (Qb (Qa 8) Qi) gr) (pL (i:=9) QaO.nd rfl (oi rfl) (pL (i:=10) QaO.nd rfl (oi rfl) xa))) (Qf (Qy (i:=11) QaO.nd rfl (oi rfl) (eI VQ (Rm hr) (Qb (Qa 8) (Qb (Qa 10) (Qb (Qa 5) (Qb (Qa 3) (Qb (Qa 4) Qi))))) gr)) (Qh (rP 6 (nU (Qb (Qa 9) (Qb (Qa 10) (Qb (Qa 11) (Qb (Q4 (dG (eI qb (Rm hr) (Qb (Qa 8) (Qb Qg Qi)) gr)) (dG (QW gr e9 (Qr (dG (Qa 10)) Qx)))) Qi))))) rfl (oi rfl))))))) (Qh (ue 6 rfl (oi rfl)))))) :)
abbrev GS:Stmt:=fb 41
theorem Qbv:Qo ["names","doors","places","k","name","d","door"] ["names","doors"] (Qc GS):=⟨rfl,rfl,rfl,dk,rfl,dk,dk⟩
def BQ:SD->Out Fl:=(kN 2 (dU 4) (dU 3))
def BR:SD->Out Fl:=(kN 2 (dU 6) (e2 gC (e1 jD (eC (.int 1))) (dU 5)))
def BS:SD->Out Fl:=(dj (fL 2 oJ) (dj (gu (gT [3,4]) (uk (dU 0)) BQ) (dj (gu (gT [5,6]) (uk (dU 1)) BR) (iT 2))))
def ye:List D->Out D:=dy true 2 7 BS
theorem VR(d0 d1:D):ye [d0,d1]=(BS [zk d0,zk d1,none,none,none,none,none]>>=eN true):=rfl
theorem VS(F:FunV K "places_of" "places_of" GS f fd dV)(gQ:mg "enumerate"=none):"f"^1 ["names","doors"] true ye:=
 (@gE P w K mg base CT true _ _ _ f fd dV _ _ 0 BS F Qbv λeE A outer s H E G hr=>
  (Qf (nV (i:=2) Qbv.nd rfl (oi rfl) Rq) (Qf (mY aq rfl (KA gr gQ (Qa 0)) (AQ rfl (pL (i:=3) Qbv.nd rfl (oi rfl) (pL (i:=4) Qbv.nd rfl (oi rfl) xa))) (AO _) (Qh (KJ hr.units 2 (dG (Qa 4)) (Qa 3) rfl (oi rfl)))) (Qf (mY aq rfl (KA gr gQ (Qa 1)) (AQ rfl (pL (i:=5) Qbv.nd rfl (oi rfl) (pL (i:=6) Qbv.nd rfl (oi rfl) xa))) (AO _) (Qh (KJ hr.units 2 (dG (Qa 6)) (kZ (dG (pI (dG Qg))) (dG (Qa 5))) rfl (oi rfl)))) (Qh (ue 2 rfl (oi rfl)))))) :)
abbrev GT:Stmt:=fb 32
theorem VT:Qo ["thing","most"] ["thing","most"] (Qc GT):=⟨rfl,rfl,rfl,dk,rfl,dk,dk⟩
def BU:SD->Out Fl:=(eV (iK (gS (fk "list") (dU 0)) (mQ nT nT (eC (.int 1)) (eA eB (dW (dU 0) dY)) (dU 1))))
def pX:List D->Out D:=dy false 2 2 BU
theorem VU(d0 d1:D):pX [d0,d1]=(BU [zk d0,zk d1]>>=eN false):=rfl
theorem VV(F:FunV K "is_list" "is_list" GT f fd dV)(dq:mg "isinstance"=none)(eO:mg "list"=none)(e9:mg "len"=none):"f"^1 ["thing","most"] false pX:=
 (@gE P w K mg base CT false _ _ _ f fd dV _ _ 0 BU F VT λeE A outer s H E G hr=>
  (Qh (QH (pJ (pN "list" AV gr eO PyProof.Rows.Boot.«list» gr dq (dG (Qa 0))) (tM (Jf ig mS (mR λ_ _=>rfl) ig mS (mR λ_ _=>rfl) (dG Qg) (dG (QW gr e9 (Qr (dG (Qa 0)) Qx))) (dG (Qa 1))))))) :)
abbrev GU:Stmt:=fb 33
theorem VW:Qo ["names"] ["names"] (Qc GU):=⟨rfl,rfl,rfl,dk,rfl,dk,dk⟩
def BV:SD->Out Fl:=(eV (e2 iL (e1 FS (dU 0)) (eA eB (dW (dU 0) dY))))
def Q5:List D->Out D:=dy false 1 1 BV
theorem VX(d0:D):Q5 [d0]=(BV [zk d0]>>=eN false):=rfl
theorem VY(F:FunV K "all_unlike" "all_unlike" GU f fd dV)(e9:mg "len"=none)(oa:mg "set"=none):"f"^1 ["names"] false Q5:=
 (@gE P w K mg base CT false _ _ _ f fd dV _ _ 0 BV F VW λeE A outer s H E G hr=>
  (Qh (QH (jk hr.units (dG (Sd hr.hd gr e9 gr oa (dG (Qa 0)))) (dG (QW gr e9 (Qr (dG (Qa 0)) Qx)))))) :)
abbrev BW:Stmt:=fb 31
theorem VZ:Qo ["thing"] ["thing"] (Qc BW):=⟨rfl,rfl,rfl,dk,rfl,dk,dk⟩
abbrev Va:PySem.Scope:={ kind:=PySem.ScopeKind.function,names:=[ (PySem.Str.ofString ".0",PySem.NameKind.local),(PySem.Str.ofString "sign",PySem.NameKind.local),(PySem.Str.ofString "LETTERS",PySem.NameKind.globalImplicit)],isGenerator:=false,isCoroutine:=false,more:=[]:PySem.Scope }
theorem Qjv:Qu ["sign"] [none] Va (Qc BW) ["thing"]:=⟨rfl,dk,dk,rfl,dk,dk⟩
def GV:SD->Out D:=(e2 AY (dU 0) (eC (.str "abcdefghijklmnopqrstuvwxyz")))
def BX:SD->Out Fl:=(dj (gW (iZ (f7 (eD (gS (fk "str") (dU 0)))) (f7 (eD (mQ nT nT (eC (.int 1)) (eA eB (dW (dU 0) dY)) (eC (.int 6)))))) (eV (eC (.bl false))) fH) (eV (eA (f1 gc) (dW (dc [none] (pP (dU 0)) (gN 0) da GV) dY))))
def mn:List D->Out D:=dy false 1 1 BX
theorem Vb(d0:D):mn [d0]=(BX [zk d0]>>=eN false):=rfl
theorem Vc{j2:Value}{gd:Value}(F:FunV K "is_name" "is_name" BW f fd dV)(dq:mg "isinstance"=none)(lR:mg "str"=none)(e9:mg "len"=none)(gA:mg "all"=none)(gx:mg "MOST_SIGNS"=some j2)(kh:RelV (gO (.int 6)) j2)(gI:mg "LETTERS"=some gd)(iH:RelV (gO (.str "abcdefghijklmnopqrstuvwxyz")) gd):"f"^1 ["thing"] false mn:=
 (@gE P w K mg base CT false _ _ _ f fd dV _ _ 0 BX F VZ λeE A outer s H E G hr=>
  (Qf (eX (DW.dt (iq (k4 (jz (pN "str" Jv gr lR PyProof.Rows.Boot.«str» gr dq (dG (Qa 0))))) (qF (k4 (Jg ig mS (mR λ_ _=>rfl) ig mS (mR λ_ _=>rfl) (dG Qg) (dG (QW gr e9 (Qr (dG (Qa 0)) Qx))) (dG (nB (d:=(.int 6)) gr gx rfl kh))))))) (Qh (QH gX)) QR) (Qh (QH (rR rfl gr gA (Qr (dG (dF (QB rfl Qjv (dO (F9 (dG (Qa 0)))) (λς=>Qt (Qm rfl ς)) (Qn _) (λfp s H G p=>⟨(Qq (i:=0) Qjv.nd rfl (oi rfl) (hf:=Or.inr rfl)),Qw,(xt (dG (Qa 0)) (dG (nB (d:=(.str "abcdefghijklmnopqrstuvwxyz")) gr gI rfl iH)))⟩)))) Qx))))) :)
abbrev BY:Stmt:=fb 34
theorem Vd:Qo ["thing","most"] ["thing","most"] (Qc BY):=⟨rfl,rfl,rfl,dk,rfl,dk,dk⟩
abbrev Ve:PySem.Scope:={ kind:=PySem.ScopeKind.function,names:=[ (PySem.Str.ofString ".0",PySem.NameKind.local),(PySem.Str.ofString "name",PySem.NameKind.local),(PySem.Str.ofString "is_name",PySem.NameKind.globalImplicit)],isGenerator:=false,isCoroutine:=false,more:=[]:PySem.Scope }
theorem Qh6:Qu ["name"] [none] Ve (Qc BY) ["thing","most"]:=⟨rfl,dk,dk,rfl,dk,dk⟩
def GW:SD->Out D:=(eA (λxs=>mn (xs++[])) (dW (dU 0) dY))
def BZ:SD->Out Fl:=(eV (iK (eA (λxs=>pX (xs++[])) (dW (dU 0) (dW (dU 1) dY))) (iK (eA (f1 gc) (dW (dc [none] (fJ (dU 0)) (gN 0) da GW) dY)) (eA (λxs=>Q5 (xs++[])) (dW (dU 0) dY)))))
def yf:List D->Out D:=dy false 2 2 BZ
theorem Vg(d0 d1:D):yf [d0,d1]=(BZ [zk d0,zk d1]>>=eN false):=rfl
theorem Vh(F:FunV K "are_names" "are_names" BY f fd dV)(yg:"e"^pX "is_list" 1 false)(vC:"e"^mn "is_name" 1 false)(yh:"e"^Q5 "all_unlike" 1 false)(gA:mg "all"=none):"f"^2 ["thing","most"] false yf:=
 (@gE P w K mg base CT false _ _ _ f fd dV _ _ 1 BZ F Vd λeE A outer s H E G hr=>
  (Qh (QH (pJ (eI yg (Rm hr) (Qb (Qa 0) (Qb (Qa 1) Qi)) gr) (pJ (rR rfl gr gA (Qr (dG (dF (QB rfl Qh6 (dO (QP (Qa 0))) (λς=>Qt (Qm rfl ς)) (Qn _) (λfp s H G p=>⟨(Qq (i:=0) Qh6.nd rfl (oi rfl) (hf:=Or.inr rfl)),Qw,(eI vC (Rm hr) (Qb (Qa 0) Qi) gr)⟩)))) Qx)) (tM (eI yh (Rm hr) (Qb (Qa 0) Qi) gr)))))) :)
abbrev Ba:Stmt:=fb 36
theorem Vi:Qo ["thing","many"] ["thing","many"] (Qc Ba):=⟨rfl,rfl,rfl,dk,rfl,dk,dk⟩
abbrev Vj:PySem.Scope:={ kind:=PySem.ScopeKind.function,names:=[ (PySem.Str.ofString ".0",PySem.NameKind.local),(PySem.Str.ofString "text",PySem.NameKind.local),(PySem.Str.ofString "isinstance",PySem.NameKind.globalImplicit),(PySem.Str.ofString "str",PySem.NameKind.globalImplicit)],isGenerator:=false,isCoroutine:=false,more:=[]:PySem.Scope }
theorem Qh7:Qu ["text"] [none] Vj (Qc Ba) ["thing","many"]:=⟨rfl,dk,dk,rfl,dk,dk⟩
def GX:SD->Out D:=(gS (fk "str") (dU 0))
def Bb:SD->Out Fl:=(eV (iK (gS (fk "list") (dU 0)) (iK (e2 iL (eA eB (dW (dU 0) dY)) (dU 1)) (eA (f1 gc) (dW (dc [none] (fJ (dU 0)) (gN 0) da GX) dY)))))
def yi:List D->Out D:=dy false 2 2 Bb
theorem Vk(d0 d1:D):yi [d0,d1]=(Bb [zk d0,zk d1]>>=eN false):=rfl
theorem Vl(F:FunV K "are_texts" "are_texts" Ba f fd dV)(dq:mg "isinstance"=none)(eO:mg "list"=none)(e9:mg "len"=none)(gA:mg "all"=none)(lR:mg "str"=none):"f"^1 ["thing","many"] false yi:=
 (@gE P w K mg base CT false _ _ _ f fd dV _ _ 0 Bb F Vi λeE A outer s H E G hr=>
  (Qh (QH (pJ (pN "list" AV gr eO PyProof.Rows.Boot.«list» gr dq (dG (Qa 0))) (pJ (jk hr.units (dG (QW gr e9 (Qr (dG (Qa 0)) Qx))) (dG (Qa 1))) (tM (rR rfl gr gA (Qr (dG (dF (QB rfl Qh7 (dO (QP (Qa 0))) (λς=>Qt (Qm rfl ς)) (Qn _) (λfp s H G p=>⟨(Qq (i:=0) Qh7.nd rfl (oi rfl) (hf:=Or.inr rfl)),Qw,(pN "str" Jv gr lR PyProof.Rows.Boot.«str» gr dq (dG (Qa 0)))⟩)))) Qx))))))) :)
abbrev GY:Stmt:=fb 23
theorem Vm:Qo ["thing"] ["thing"] (Qc GY):=⟨rfl,rfl,rfl,dk,rfl,dk,dk⟩
def Bc:SD->Out Fl:=(eV (gS (kO [[("Deal",true),("Bundle",false),("Copy",false),("Rows",false),("Office",false)],[("Deal",false),("Bundle",true),("Copy",false),("Rows",false),("Office",false)],[("Deal",false),("Bundle",false),("Copy",true),("Rows",false),("Office",false)],[("Deal",false),("Bundle",false),("Copy",false),("Rows",true),("Office",false)]]) (dU 0)))
def yj:List D->Out D:=dy false 1 1 Bc
theorem Vn(d0:D):yj [d0]=(Bc [zk d0]>>=eN false):=rfl
theorem Vo{QM:Addr}{Qz:Addr}{QN:Addr}{QK:Addr}(F:FunV K "is_clerk" "is_clerk" GY f fd dV)(dq:mg "isinstance"=none)(Vp:mg "Deal"=some (.ref QM))(Vq:mg "Bundle"=some (.ref Qz))(Vr:mg "Copy"=some (.ref QN))(Vs:mg "Rows"=some (.ref QK))(GZ:jY K CT (.ref QM) [("Deal",true),("Bundle",false),("Copy",false),("Rows",false),("Office",false)])(Ga:jY K CT (.ref Qz) [("Deal",false),("Bundle",true),("Copy",false),("Rows",false),("Office",false)])(Gb:jY K CT (.ref QN) [("Deal",false),("Bundle",false),("Copy",true),("Rows",false),("Office",false)])(Gc:jY K CT (.ref QK) [("Deal",false),("Bundle",false),("Copy",false),("Rows",true),("Office",false)]):"f"^1 ["thing"] false yj:=
 (@gE P w K mg base CT false _ _ _ f fd dV _ _ 0 Bc F Vm λeE A outer s H E G hr=>
  (Qh (QH (Sh (a:=QM) (as:=[Qz,QN,QK]) (Al (vX (v:=.ref QM) gr Vp rfl) (Al (vX (v:=.ref Qz) gr Vq rfl) (Al (vX (v:=.ref QN) gr Vr rfl) (Al (vX (v:=.ref QK) gr Vs rfl) Sf)))) ⟨GZ,Ga,Gb,Gc,True.intro⟩ (by simp) gr dq (dG (Qa 0))))) :)
abbrev Gd:Stmt:=g9 (fb 15) 3
theorem Vt:Qo ["self"] ["self"] (Qc Gd):=⟨rfl,rfl,rfl,dk,rfl,dk,dk⟩
def Bd:SD->Out Fl:=(eV (eA eB (dW (e2 eF (e1 (jF Qp "table") (dU 0)) (eC (.int 0))) dY)))
def vD:List D->Out D:=dy false 1 1 Bd
theorem Vu(d0:D):vD [d0]=(Bd [zk d0]>>=eN false):=rfl
theorem Vv(F:FunV K "outs" "Clerk.outs" Gd f fd dV)(e9:mg "len"=none)(fF:f6 K CT Qp "table"):"f"^1 ["self"] false vD:=
 (@gE P w K mg base CT false _ _ _ f fd dV _ _ 0 Bd F Vt λeE A outer s H E G hr=>
  (Qh (QH (QW gr e9 (Qr (dG (dv (pQ fF (Qa 0)) (dG Qg))) Qx)))) :)
abbrev Ge:Stmt:=g9 (fb 15) 2
theorem Vw:Qo ["self"] ["self"] (Qc Ge):=⟨rfl,rfl,rfl,dk,rfl,dk,dk⟩
def Be:SD->Out Fl:=(eV (eA eB (dW (e1 (jF Qp "table") (dU 0)) dY)))
def QG:List D->Out D:=dy false 1 1 Be
theorem Vx(d0:D):QG [d0]=(Be [zk d0]>>=eN false):=rfl
theorem Vy(F:FunV K "period" "Clerk.period" Ge f fd dV)(e9:mg "len"=none)(fF:f6 K CT Qp "table"):"f"^1 ["self"] false QG:=
 (@gE P w K mg base CT false _ _ _ f fd dV _ _ 0 Be F Vw λeE A outer s H E G hr=>
  (Qh (QH (QW gr e9 (Qr (dG (pQ fF (Qa 0))) Qx)))) :)
abbrev Gf:Stmt:=fb 37
theorem Vz:Qo ["thing"] ["thing"] (Qc Gf):=⟨rfl,rfl,rfl,dk,rfl,dk,dk⟩
def Bf:SD->Out Fl:=(dj (gW (iZ (f7 (eD (gS (fk "tuple") (dU 0)))) (eD (e2 lD (eA eB (dW (dU 0) dY)) (eC (.int 4))))) (eV (eC (.bl false))) fH) (dj (gW (iZ (f7 (eD (eA (λxs=>mn (xs++[])) (dW (e2 eF (dU 0) (eC (.int 0))) dY)))) (f7 (eD (eA (λxs=>yj (xs++[])) (dW (e2 eF (dU 0) (eC (.int 1))) dY))))) (eV (eC (.bl false))) fH) (eV (iK (eA (λxs=>yi (xs++[])) (dW (e2 eF (dU 0) (eC (.int 2))) (dW (e7 Qd "outs" (λ_=>vD) (e2 eF (dU 0) (eC (.int 1))) dY) dY))) (eA (λxs=>oZ (xs++[])) (dW (e2 eF (dU 0) (eC (.int 3))) (dW (eC (.int 0)) (dW (e2 gC (e7 Qd "period" (λ_=>QG) (e2 eF (dU 0) (eC (.int 1))) dY) (eC (.int 1))) dY))))))))
def yk:List D->Out D:=dy false 1 1 Bf
theorem W0(d0:D):yk [d0]=(Bf [zk d0]>>=eN false):=rfl
theorem W1(F:FunV K "is_seat" "is_seat" Gf f fd dV)(vC:"e"^mn "is_name" 1 false)(W2:"e"^yj "is_clerk" 1 false)(W3:"e"^yi "are_texts" 1 false)(u6:"e"^oZ "is_within" 2 false)(dq:mg "isinstance"=none)(j3:mg "tuple"=none)(e9:mg "len"=none)(ki:fK P w K mg base CT g8 "outs" 1 Qd (λc=>gY K CT false ((λ_=>vD) c)))(eL:fK P w K mg base CT g8 "period" 1 Qd (λc=>gY K CT false ((λ_=>QG) c))):"f"^3 ["thing"] false yk:=
 (@gE P w K mg base CT false _ _ _ f fd dV _ _ 2 Bf F Vz λeE A outer s H E G hr=>
  (Qf (eX (DW.dt (iq (k4 (jz (pN "tuple" Jw gr j3 PyProof.Rows.Boot.«tuple» gr dq (dG (Qa 0))))) (qF (oF hr.units (dG (QW gr e9 (Qr (dG (Qa 0)) Qx))) (dG Qg))))) (Qh (QH gX)) QR) (Qf (eX (DW.dt (iq (k4 (jz (eI vC (Rm hr) (Qb (dv (Qa 0) (dG Qg)) Qi) gr))) (qF (k4 (jz (eI W2 (Rm hr) (Qb (dv (Qa 0) (dG Qg)) Qi) gr)))))) (Qh (QH gX)) QR) (Qh (QH (pJ (eI W3 (Rm hr) (Qb (dv (Qa 0) (dG Qg)) (Qb (Q1 ki (Rm hr) (dv (Qa 0) (dG Qg))) Qi)) gr) (tM (eI u6 (Rm hr) (Qb (dv (Qa 0) (dG Qg)) (Qb Qg (Qb (kZ (dG (Q1 eL (Rm hr) (dv (Qa 0) (dG Qg)))) (dG Qg)) Qi))) gr))))))) :)
abbrev yl:Stmt:=fb 38
theorem W4:Qo ["thing","doors"] ["thing","doors"] (Qc yl):=⟨rfl,rfl,rfl,dk,rfl,dk,dk⟩
abbrev W5:PySem.Scope:={ kind:=PySem.ScopeKind.function,names:=[ (PySem.Str.ofString ".0",PySem.NameKind.local),(PySem.Str.ofString "seat",PySem.NameKind.local),(PySem.Str.ofString "is_seat",PySem.NameKind.globalImplicit)],isGenerator:=false,isCoroutine:=false,more:=[]:PySem.Scope }
theorem Qie:Qu ["seat"] [none] W5 (Qc yl) ["thing","doors"]:=⟨rfl,dk,dk,rfl,dk,dk⟩
def Gg:SD->Out D:=(eA (λxs=>yk (xs++[])) (dW (dU 0) dY))
abbrev W6:PySem.Scope:={ kind:=PySem.ScopeKind.function,names:=[(PySem.Str.ofString ".0",PySem.NameKind.local),(PySem.Str.ofString "seat",PySem.NameKind.local)],isGenerator:=false,isCoroutine:=false,more:=[]:PySem.Scope }
theorem Qh1:Qu ["seat"] [none] W6 (Qc yl) ["thing","doors"]:=⟨rfl,dk,dk,rfl,dk,dk⟩
def Gh:SD->Out D:=(e2 eF (dU 0) (eC (.int 0)))
def Bg:SD->Out Fl:=(dj (gW (iZ (f7 (eD (eA (λxs=>pX (xs++[])) (dW (dU 0) (dW (eC (.int 60)) dY))))) (f7 (eD (eA (f1 gc) (dW (dc [none] (fJ (dU 0)) (gN 0) da Gg) dY))))) (eV (eC (.bl false))) fH) (eV (eA (λxs=>Q5 (xs++[])) (dW (e2 kA (dc [none] (fJ (dU 0)) (gN 0) da Gh) (dU 1)) dY))))
def ym:List D->Out D:=dy false 2 2 Bg
theorem W7(d0 d1:D):ym [d0,d1]=(Bg [zk d0,zk d1]>>=eN false):=rfl
theorem W8{fQ:Value}(F:FunV K "are_seats" "are_seats" yl f fd dV)(yg:"e"^pX "is_list" 1 false)(W9:"e"^yk "is_seat" 3 false)(yh:"e"^Q5 "all_unlike" 1 false)(gA:mg "all"=none)(fR:mg "MOST_CLERKS"=some fQ)(gU:RelV (gO (.int 60)) fQ):"f"^4 ["thing","doors"] false ym:=
 (@gE P w K mg base CT false _ _ _ f fd dV _ _ 3 Bg F W4 λeE A outer s H E G hr=>
  (Qf (eX (DW.dt (iq (k4 (jz (eI yg (Rm hr) (Qb (Qa 0) (Qb (nB (d:=(.int 60)) gr fR rfl gU) Qi)) gr))) (qF (k4 (jz (rR rfl gr gA (Qr (dG (dF (QB rfl Qie (dO (QP (Qa 0))) (λς=>Qt (Qm rfl ς)) (Qn _) (λfp s H G p=>⟨(Qq (i:=0) Qie.nd rfl (oi rfl) (hf:=Or.inr rfl)),Qw,(eI W9 (Rm hr) (Qb (Qa 0) Qi) gr)⟩)))) Qx))))))) (Qh (QH gX)) QR) (Qh (QH (eI yh (Rm hr) (Qb (dF (tR (dF (QB rfl Qh1 (dO (QP (Qa 0))) (λς=>Qt (Qm rfl ς)) (Qn _) (λfp s H G p=>⟨(Qq (i:=0) Qh1.nd rfl (oi rfl) (hf:=Or.inr rfl)),Qw,(dv (Qa 0) (dG Qg))⟩))) (Qa 1))) Qi) gr)))) :)
abbrev Gi:Stmt:=fb 39
theorem WA:Qo ["thing","names"] ["thing","names"] (Qc Gi):=⟨rfl,rfl,rfl,dk,rfl,dk,dk⟩
def Bh:SD->Out Fl:=(dj (gW (iZ (f7 (eD (gS (fk "tuple") (dU 0)))) (eD (e2 lD (eA eB (dW (dU 0) dY)) (eC (.int 2))))) (eV (eC (.bl false))) fH) (eV (iK (eA (λxs=>mn (xs++[])) (dW (e2 eF (dU 0) (eC (.int 0))) dY)) (iK (eA (λxs=>mn (xs++[])) (dW (e2 eF (dU 0) (eC (.int 1))) dY)) (e2 m7 (e2 eF (dU 0) (eC (.int 1))) (dU 1))))))
def yn:List D->Out D:=dy false 2 2 Bh
theorem WB(d0 d1:D):yn [d0,d1]=(Bh [zk d0,zk d1]>>=eN false):=rfl
theorem WC(F:FunV K "is_entry" "is_entry" Gi f fd dV)(vC:"e"^mn "is_name" 1 false)(dq:mg "isinstance"=none)(j3:mg "tuple"=none)(e9:mg "len"=none):"f"^2 ["thing","names"] false yn:=
 (@gE P w K mg base CT false _ _ _ f fd dV _ _ 1 Bh F WA λeE A outer s H E G hr=>
  (Qf (eX (DW.dt (iq (k4 (jz (pN "tuple" Jw gr j3 PyProof.Rows.Boot.«tuple» gr dq (dG (Qa 0))))) (qF (oF hr.units (dG (QW gr e9 (Qr (dG (Qa 0)) Qx))) (dG Qg))))) (Qh (QH gX)) QR) (Qh (QH (pJ (eI vC (Rm hr) (Qb (dv (Qa 0) (dG Qg)) Qi) gr) (pJ (eI vC (Rm hr) (Qb (dv (Qa 0) (dG Qg)) Qi) gr) (tM (KP (dG (dv (Qa 0) (dG Qg))) (dG (Qa 1))))))))) :)
abbrev yo:Stmt:=fb 40
theorem WD:Qo ["thing","names"] ["thing","names"] (Qc yo):=⟨rfl,rfl,rfl,dk,rfl,dk,dk⟩
abbrev WE:PySem.Scope:={ kind:=PySem.ScopeKind.function,names:=[ (PySem.Str.ofString ".0",PySem.NameKind.local),(PySem.Str.ofString "entry",PySem.NameKind.local),(PySem.Str.ofString "is_entry",PySem.NameKind.globalImplicit),(PySem.Str.ofString "names",PySem.NameKind.free)],isGenerator:=false,isCoroutine:=false,more:=[]:PySem.Scope }
theorem Qgi:Qu ["entry","names"] [none,some 1] WE (Qc yo) ["thing","names"]:=⟨rfl,dk,dk,rfl,dk,dk⟩
def Gj:SD->Out D:=(eA (λxs=>yn (xs++[])) (dW (dU 0) (dW (dU 1) dY)))
abbrev WG:PySem.Scope:={ kind:=PySem.ScopeKind.function,names:=[(PySem.Str.ofString ".0",PySem.NameKind.local),(PySem.Str.ofString "entry",PySem.NameKind.local)],isGenerator:=false,isCoroutine:=false,more:=[]:PySem.Scope }
theorem QgG:Qu ["entry"] [none] WG (Qc yo) ["thing","names"]:=⟨rfl,dk,dk,rfl,dk,dk⟩
def Gk:SD->Out D:=(e2 eF (dU 0) (eC (.int 0)))
def Bi:SD->Out Fl:=(dj (gW (iZ (f7 (eD (eA (λxs=>pX (xs++[])) (dW (dU 0) (dW (eC (.int 6)) dY))))) (f7 (eD (eA (f1 gc) (dW (dc [none,some 1] (fJ (dU 0)) (gN 0) da Gj) dY))))) (eV (eC (.bl false))) fH) (eV (eA (λxs=>Q5 (xs++[])) (dW (dc [none] (fJ (dU 0)) (gN 0) da Gk) dY))))
def yp:List D->Out D:=dy false 2 2 Bi
theorem WH(d0 d1:D):yp [d0,d1]=(Bi [zk d0,zk d1]>>=eN false):=rfl
theorem WI{iE:Value}(F:FunV K "are_entries" "are_entries" yo f fd dV)(yg:"e"^pX "is_list" 1 false)(WJ:"e"^yn "is_entry" 2 false)(yh:"e"^Q5 "all_unlike" 1 false)(gA:mg "all"=none)(gL:mg "MOST_ENTRIES"=some iE)(jt:RelV (gO (.int 6)) iE):"f"^3 ["thing","names"] false yp:=
 (@gE P w K mg base CT false _ _ _ f fd dV _ _ 2 Bi F WD λeE A outer s H E G hr=>
  (Qf (eX (DW.dt (iq (k4 (jz (eI yg (Rm hr) (Qb (Qa 0) (Qb (nB (d:=(.int 6)) gr gL rfl jt) Qi)) gr))) (qF (k4 (jz (rR rfl gr gA (Qr (dG (dF (QB rfl Qgi (dO (QP (Qa 0))) (λς=>Qt (Qm rfl ς)) (Qn _) (λfp s H G p=>⟨(Qq (i:=0) Qgi.nd rfl (oi rfl) (hf:=Or.inr rfl)),Qw,(eI WJ (Rm hr) (Qb (Qa 0) (Qb (Qa 1) Qi)) gr)⟩)))) Qx))))))) (Qh (QH gX)) QR) (Qh (QH (eI yh (Rm hr) (Qb (dF (QB rfl QgG (dO (QP (Qa 0))) (λς=>Qt (Qm rfl ς)) (Qn _) (λfp s H G p=>⟨(Qq (i:=0) QgG.nd rfl (oi rfl) (hf:=Or.inr rfl)),Qw,(dv (Qa 0) (dG Qg))⟩))) Qi) gr)))) :)
abbrev Bj:Stmt:=fb 42
theorem WK:Qo ["seat","places"] ["seat","places"] (Qc Bj):=⟨rfl,rfl,rfl,dk,rfl,dk,dk⟩
abbrev WL:PySem.Scope:={ kind:=PySem.ScopeKind.function,names:=[ (PySem.Str.ofString ".0",PySem.NameKind.local),(PySem.Str.ofString "text",PySem.NameKind.local),(PySem.Str.ofString "places",PySem.NameKind.free)],isGenerator:=false,isCoroutine:=false,more:=[]:PySem.Scope }
theorem QiG:Qu ["text","places"] [none,some 1] WL (Qc Bj) ["seat","places"]:=⟨rfl,dk,dk,rfl,dk,dk⟩
def Gm:SD->Out D:=(lI (dU 1) (dU 0))
def Bk:SD->Out Fl:=(fD (dc [none,some 1] (fJ (e2 eF (dU 0) (eC (.int 2)))) (gN 0) da Gm))
def yq:List D->Out D:=dy true 2 2 Bk
theorem WM(d0 d1:D):yq [d0,d1]=(Bk [zk d0,zk d1]>>=eN true):=rfl
theorem WN(F:FunV K "leads_to" "leads_to" Bj f fd dV)  : "f"^1 ["seat","places"] true yq:=
 (@gE P w K mg base CT true _ _ _ f fd dV _ _ 0 Bk F WK λeE A outer s H E G hr=>
  (Qh (kc (QB rfl QiG (dO (QP (dv (Qa 0) (dG Qg)))) (λς=>Qt (Qm rfl ς)) (Qn _) (λfp s H G p=>⟨(Qq (i:=0) QiG.nd rfl (oi rfl) (hf:=Or.inr rfl)),Qw,(SY hr.units (Qa 1) (dG (Qa 0)))⟩)))) :)
abbrev qc:Stmt:=g9 (fb 43) 0
theorem Qce:Qo ["self","clerks","entries","doors","names","places","ways"] ["self","clerks","entries","doors"] (Qc qc):=⟨rfl,rfl,rfl,dk,rfl,dk,dk⟩
abbrev WO:PySem.Scope:={ kind:=PySem.ScopeKind.function,names:=[(PySem.Str.ofString ".0",PySem.NameKind.local),(PySem.Str.ofString "seat",PySem.NameKind.local)],isGenerator:=false,isCoroutine:=false,more:=[]:PySem.Scope }
theorem QgE:Qu ["seat"] [none] WO (Qc qc) ["self","clerks","entries","doors","names","places","ways"]:=⟨rfl,dk,dk,rfl,dk,dk⟩
def Gp:SD->Out D:=(e2 eF (dU 0) (eC (.int 0)))
abbrev WQ:PySem.Scope:={ kind:=PySem.ScopeKind.function,names:=[ (PySem.Str.ofString ".0",PySem.NameKind.local),(PySem.Str.ofString "seat",PySem.NameKind.local),(PySem.Str.ofString "leads_to",PySem.NameKind.globalImplicit),(PySem.Str.ofString "places",PySem.NameKind.free)],isGenerator:=false,isCoroutine:=false,more:=[]:PySem.Scope }
theorem Qgy:Qu ["seat","places"] [none,some 5] WQ (Qc qc) ["self","clerks","entries","doors","names","places","ways"]:=⟨rfl,dk,dk,rfl,dk,dk⟩
def Gq:SD->Out D:=(eA (λxs=>yq (xs++[])) (dW (dU 0) (dW (dU 1) dY)))
abbrev WR:PySem.Scope:={ kind:=PySem.ScopeKind.function,names:=[(PySem.Str.ofString ".0",PySem.NameKind.local),(PySem.Str.ofString "way",PySem.NameKind.local)],isGenerator:=false,isCoroutine:=false,more:=[]:PySem.Scope }
theorem Qgp:Qu ["way"] [none] WR (Qc qc) ["self","clerks","entries","doors","names","places","ways"]:=⟨rfl,dk,dk,rfl,dk,dk⟩
def Gr:SD->Out D:=(e2 m7 (eC .non) (dU 0))
abbrev WS:PySem.Scope:={ kind:=PySem.ScopeKind.function,names:=[ (PySem.Str.ofString ".0",PySem.NameKind.local),(PySem.Str.ofString "entry",PySem.NameKind.local),(PySem.Str.ofString "places",PySem.NameKind.free)],isGenerator:=false,isCoroutine:=false,more:=[]:PySem.Scope }
theorem Qgu:Qu ["entry","places"] [none,some 5] WS (Qc qc) ["self","clerks","entries","doors","names","places","ways"]:=⟨rfl,dk,dk,rfl,dk,dk⟩
def Bl:SD->Out D:=(i3 (dW (e2 eF (dU 0) (eC (.int 0))) (dW (nG (dU 1) (e2 eF (dU 0) (eC (.int 1)))) dY)))
abbrev WT:PySem.Scope:={ kind:=PySem.ScopeKind.function,names:=[(PySem.Str.ofString ".0",PySem.NameKind.local),(PySem.Str.ofString "seat",PySem.NameKind.local)],isGenerator:=false,isCoroutine:=false,more:=[]:PySem.Scope }
theorem Qgv:Qu ["seat"] [none] WT (Qc qc) ["self","clerks","entries","doors","names","places","ways"]:=⟨rfl,dk,dk,rfl,dk,dk⟩
def Bm:SD->Out D:=(e2 eF (dU 0) (eC (.int 1)))
abbrev WU:PySem.Scope:={ kind:=PySem.ScopeKind.function,names:=[(PySem.Str.ofString ".0",PySem.NameKind.local),(PySem.Str.ofString "seat",PySem.NameKind.local)],isGenerator:=false,isCoroutine:=false,more:=[]:PySem.Scope }
theorem QgH:Qu ["seat"] [none] WU (Qc qc) ["self","clerks","entries","doors","names","places","ways"]:=⟨rfl,dk,dk,rfl,dk,dk⟩
def Bn:SD->Out D:=(e2 eF (dU 0) (eC (.int 3)))
def Bo:SD->Out Fl:=(dj (λς=>gv ((gW (f7 (eD (eA (λxs=>yf (xs++[])) (dW (dU 3) (dW (eC (.int 6)) dY))))) qJ fH) ς)) (dj (λς=>gv ((gW (f7 (eD (eA (λxs=>ym (xs++[])) (dW (dU 1) (dW (dU 3) dY))))) qJ fH) ς)) (dj (λς=>gv ((e8 4 (dc [none] (fJ (dU 1)) (gN 0) da Gp)) ς)) (dj (λς=>gv ((gW (f7 (eD (eA (λxs=>yp (xs++[])) (dW (dU 2) (dW (dU 4) dY))))) qJ fH) ς)) (dj (λς=>gv ((e8 5 (eA (λxs=>ye (xs++[])) (dW (dU 4) (dW (dU 3) dY)))) ς)) (dj (λς=>gv ((e8 6 (dc [none,some 5] (fJ (dU 1)) (gN 0) da Gq)) ς)) (dj (λς=>gv ((gW (eD (eA (f1 ke) (dW (dc [none] (fJ (dU 6)) (gN 0) da Gr) dY))) qJ fH) ς)) (dj (λς=>gv (fO Qp "clerk_names" 0 (dU 4) ς)) (dj (λς=>gv (fO Qp "door_names" 0 (e1 fi (dU 3)) ς)) (dj (λς=>gv (fO Qp "entry_places" 0 (dc [none,some 5] (fJ (dU 2)) (gN 0) da Bl) ς)) (dj (λς=>gv (fO Qp "staff" 0 (dc [none] (fJ (dU 1)) (gN 0) da Bm) ς)) (dj (λς=>gv (fO Qp "first_states" 0 (dc [none] (fJ (dU 1)) (gN 0) da Bn) ς)) (λς=>gv (fO Qp "ways" 0 (dU 6) ς))))))))))))))
def qd:Str->List (Str×D)->List D->Out (List (Str×D)):=iV 4 7 Bo
theorem WV(c:Str)(fds:List (Str×D))(d1 d2 d3:D):qd c fds [d1,d2,d3]=(Bo [some (.s,.ins c fds),zk d1,zk d2,zk d3,none,none,none]>>=oM c):=rfl
theorem WW{j4:Value}(F:FunV K "__init__" "Office.__init__" qc f fd dV)(WX:"e"^yf "are_names" 2 false)(WY:"e"^ym "are_seats" 4 false)(WZ:"e"^yp "are_entries" 3 false)(Wa:"e"^ye "places_of" 1 true)(Wb:"e"^yq "leads_to" 1 true)(og:mg "any"=none)(eO:mg "list"=none)(gy:mg "MOST_DOORS"=some j4)(kj:RelV (gO (.int 6)) j4)(eQ:f6 K CT Qp "clerk_names")(fG:f6 K CT Qp "door_names")(et:f6 K CT Qp "entry_places")(gf:f6 K CT Qp "staff")(ez:f6 K CT Qp "first_states")(iI:f6 K CT Qp "ways"):FnOk P w K mg base (i7 P w) 5 f fd ["self","clerks","entries","doors"] (kB K CT qd):=
 (@ui P w K mg base CT _ _ _ f fd dV _ _ 4 Bo F Qce λeE A outer s H E G p hr=>
  (Qf (dP (eX (k4 (jz (eI WX (Rm hr) (Qb (Qa 3) (Qb (nB (d:=(.int 6)) gr gy rfl kj) Qi)) gr))) (Qh rN) QR)) (Qf (dP (eX (k4 (jz (eI WY (Rm hr) (Qb (Qa 1) (Qb (Qa 3) Qi)) gr))) (Qh rN) QR)) (Qf (dP (tU (i:=4) rfl QgE (dO (QP (Qa 1))) (λς=>Qt (Qm rfl ς)) (Qn _) (λfp s H G p=>⟨(Qq (i:=0) QgE.nd rfl (oi rfl) (hf:=Or.inr rfl)),Qw,(dv (Qa 0) (dG Qg))⟩) Qce.nd rfl (oi rfl))) (Qf (dP (eX (k4 (jz (eI WZ (Rm hr) (Qb (Qa 2) (Qb (Qa 4) Qi)) gr))) (Qh rN) QR)) (Qf (dP (Qy (i:=5) Qce.nd rfl (Or.inr rfl) (eI Wa (Rm hr) (Qb (Qa 4) (Qb (Qa 3) Qi)) gr))) (Qf (dP (tU (i:=6) rfl Qgy (dO (QP (Qa 1))) (λς=>Qt (Qm rfl ς)) (Qn _) (λfp s H G p=>⟨(Qq (i:=0) Qgy.nd rfl (oi rfl) (hf:=Or.inr rfl)),Qw,(eI Wb (Rm hr) (Qb (Qa 0) (Qb (Qa 1) Qi)) gr)⟩) Qce.nd rfl (oi rfl))) (Qf (dP (eX (jz (Ro rfl gr og (Qr (dG (dF (QB rfl Qgp (dO (QP (Qa 6))) (λς=>Qt (Qm rfl ς)) (Qn _) (λfp s H G p=>⟨(Qq (i:=0) Qgp.nd rfl (oi rfl) (hf:=Or.inr rfl)),Qw,(KP (dG AH) (dG (Qa 0)))⟩)))) Qx))) (Qh rN) QR)) (Qf (dP (rT 0 eQ (Qa 4) rfl (oi rfl))) (Qf (dP (rT 0 fG (dF (pM gr eO (Qa 3))) rfl (oi rfl))) (Qf (dP (rT 0 et (dF (QB rfl Qgu (dO (QP (Qa 2))) (λς=>Qt (Qm rfl ς)) (Qn _) (λfp s H G p=>⟨(Qq (i:=0) Qgu.nd rfl (oi rfl) (hf:=Or.inr rfl)),Qw,(nU (Qb (dv (Qa 0) (dG Qg)) (Qb (SV hr.units (Qa 1) (dG (dv (Qa 0) (dG Qg)))) Qi)))⟩))) rfl (oi rfl))) (Qf (dP (rT 0 gf (dF (QB rfl Qgv (dO (QP (Qa 1))) (λς=>Qt (Qm rfl ς)) (Qn _) (λfp s H G p=>⟨(Qq (i:=0) Qgv.nd rfl (oi rfl) (hf:=Or.inr rfl)),Qw,(dv (Qa 0) (dG Qg))⟩))) rfl (oi rfl))) (Qf (dP (rT 0 ez (dF (QB rfl QgH (dO (QP (Qa 1))) (λς=>Qt (Qm rfl ς)) (Qn _) (λfp s H G p=>⟨(Qq (i:=0) QgH.nd rfl (oi rfl) (hf:=Or.inr rfl)),Qw,(dv (Qa 0) (dG Qg))⟩))) rfl (oi rfl))) (Qh (dP (rT 0 iI (Qa 6) rfl (oi rfl)))))))))))))))) :)
abbrev Gs:Stmt:=fb 62
theorem Qh0:Qo ["_law_word","_law_k","_law_way","_law_letter"] ["_law_word","_law_k","_law_way"] (Qc Gs):=⟨rfl,rfl,rfl,dk,rfl,dk,dk⟩
def Bp:SD->Out Fl:=(dj (e8 3 (e2 eF (eC (.str "abcdefghijklmnopqrstuvwxyz")) (dU 1))) (dj (gW (eD (e2 iL (e2 fA (dU 2) (eC (.int 2))) (eC (.int 0)))) (eV (e2 fB (dU 0) (dU 3))) fH) (eV (e2 fB (dU 3) (dU 0)))))
def sO:List D->Out D:=dy false 3 4 Bp
theorem Wc(d0 d1 d2:D):sO [d0,d1,d2]=(Bp [zk d0,zk d1,zk d2,none]>>=eN false):=rfl
theorem Wd(F:FunV K "_law_called" "_law_called" Gs f fd dV)  : "f"^1 ["_law_word","_law_k","_law_way"] false sO:=
 (@gE P w K mg base CT false _ _ _ f fd dV _ _ 0 Bp F Qh0 λeE A outer s H E G hr=>
  (Qf (Qy (i:=3) Qh0.nd rfl (oi rfl) (dv qD (dG (Qa 1)))) (Qf (eX (ir hr.units (dG (Q4 (dG (Qa 2)) (dG Qg))) (dG Qg)) (Qh (QH (QZ (dG (Qa 0)) (dG (Qa 3))))) QR) (Qh (QH (QZ (dG (Qa 3)) (dG (Qa 0))))))) :)
abbrev sP:Stmt:=fb 63
theorem QaM:Qo ["_law_plan","_law_entries","_law_doors","_law_way","_law_word","_law_names","_law_outs","_law_lines","_law_k","_law_to"] ["_law_plan","_law_entries","_law_doors","_law_way"] (Qc sP):=⟨rfl,rfl,rfl,dk,rfl,dk,dk⟩
abbrev We:PySem.Scope:={ kind:=PySem.ScopeKind.function,names:=[ (PySem.Str.ofString ".0",PySem.NameKind.local),(PySem.Str.ofString "_law_k",PySem.NameKind.local),(PySem.Str.ofString "_law_called",PySem.NameKind.globalImplicit),(PySem.Str.ofString "_law_way",PySem.NameKind.free),(PySem.Str.ofString "_law_word",PySem.NameKind.free)],isGenerator:=false,isCoroutine:=false,more:=[]:PySem.Scope }
theorem Qid:Qu ["_law_k","_law_word","_law_way"] [none,some 4,some 3] We (Qc sP) ["_law_plan","_law_entries","_law_doors","_law_way","_law_word","_law_names","_law_outs","_law_lines","_law_k","_law_to"]:=⟨rfl,dk,dk,rfl,dk,dk⟩
def Gu:SD->Out D:=(eA (λxs=>sO (xs++[])) (dW (dU 1) (dW (dU 0) (dW (dU 2) dY))))
abbrev Wf:PySem.Scope:={ kind:=PySem.ScopeKind.function,names:=[ (PySem.Str.ofString ".0",PySem.NameKind.local),(PySem.Str.ofString "_law_k",PySem.NameKind.local),(PySem.Str.ofString "_law_called",PySem.NameKind.globalImplicit),(PySem.Str.ofString "_law_way",PySem.NameKind.free)],isGenerator:=false,isCoroutine:=false,more:=[]:PySem.Scope }
theorem Qh2:Qu ["_law_k","_law_way"] [none,some 3] Wf (Qc sP) ["_law_plan","_law_entries","_law_doors","_law_way","_law_word","_law_names","_law_outs","_law_lines","_law_k","_law_to"]:=⟨rfl,dk,dk,rfl,dk,dk⟩
def Gv:SD->Out D:=(eA (λxs=>sO (xs++[])) (dW (eC (.str "dx")) (dW (dU 0) (dW (dU 1) dY))))
abbrev Wg:PySem.Scope:={ kind:=PySem.ScopeKind.function,names:=[ (PySem.Str.ofString ".0",PySem.NameKind.local),(PySem.Str.ofString "_law_k",PySem.NameKind.local),(PySem.Str.ofString "_law_called",PySem.NameKind.globalImplicit),(PySem.Str.ofString "_law_names",PySem.NameKind.free),(PySem.Str.ofString "_law_way",PySem.NameKind.free)],isGenerator:=false,isCoroutine:=false,more:=[]:PySem.Scope }
theorem Qh9:Qu ["_law_k","_law_names","_law_way"] [none,some 5,some 3] Wg (Qc sP) ["_law_plan","_law_entries","_law_doors","_law_way","_law_word","_law_names","_law_outs","_law_lines","_law_k","_law_to"]:=⟨rfl,dk,dk,rfl,dk,dk⟩
def Gw:SD->Out D:=(e2 fB (e2 eF (dU 1) (eC (.int 0))) (eA (λxs=>sO (xs++[])) (dW (eC (.str "b")) (dW (dU 0) (dW (dU 2) dY)))))
abbrev Wh:PySem.Scope:={ kind:=PySem.ScopeKind.function,names:=[ (PySem.Str.ofString ".0",PySem.NameKind.local),(PySem.Str.ofString "_law_lead",PySem.NameKind.local),(PySem.Str.ofString "_law_names",PySem.NameKind.free),(PySem.Str.ofString "_law_outs",PySem.NameKind.free)],isGenerator:=false,isCoroutine:=false,more:=[]:PySem.Scope }
theorem Qh5:Qu ["_law_lead","_law_names","_law_outs"] [none,some 5,some 6] Wh (Qc sP) ["_law_plan","_law_entries","_law_doors","_law_way","_law_word","_law_names","_law_outs","_law_lines","_law_k","_law_to"]:=⟨rfl,dk,dk,rfl,dk,dk⟩
def Gx:SD->Out D:=(e2 eF (e2 kA (dU 1) (oW (dU 2))) (dU 0))
def Bq:SD->Out Fl:=(dj (e8 9 (dc [none,some 5,some 6] (fJ (e2 eF (e2 eF (dU 0) (dU 8)) (eC (.int 2)))) (gN 0) da Gx)) (nE 7 (i3 (dW (e2 eF (dU 5) (dU 8)) (dW (e2 eF (e2 eF (dU 0) (dU 8)) (eC (.int 0))) (dW (dU 9) (dW (e2 eF (e2 eF (dU 0) (dU 8)) (eC (.int 3))) dY)))))))
abbrev Wi:PySem.Scope:={ kind:=PySem.ScopeKind.function,names:=[ (PySem.Str.ofString ".0",PySem.NameKind.local),(PySem.Str.ofString "_law_k",PySem.NameKind.local),(PySem.Str.ofString "_law_called",PySem.NameKind.globalImplicit),(PySem.Str.ofString "_law_entries",PySem.NameKind.free),(PySem.Str.ofString "_law_names",PySem.NameKind.free),(PySem.Str.ofString "_law_way",PySem.NameKind.free)],isGenerator:=false,isCoroutine:=false,more:=[]:PySem.Scope }
theorem Qib:Qu ["_law_k","_law_way","_law_names","_law_entries"] [none,some 3,some 5,some 1] Wi (Qc sP) ["_law_plan","_law_entries","_law_doors","_law_way","_law_word","_law_names","_law_outs","_law_lines","_law_k","_law_to"]:=⟨rfl,dk,dk,rfl,dk,dk⟩
def Gy:SD->Out D:=(i3 (dW (eA (λxs=>sO (xs++[])) (dW (eC (.str "e")) (dW (dU 0) (dW (dU 1) dY)))) (dW (e2 eF (dU 2) (e2 eF (dU 3) (dU 0))) dY)))
def Br:SD->Out Fl:=(dj (e8 4 (e2 eF (fU (dW (eC (.str "co")) (dW (eC (.str "c")) (dW (eC (.str "coxab")) (dW (eC (.str "co")) dY))))) (e2 fA (e2 fh (dU 3) (eC (.int 2))) (eC (.int 4))))) (dj (e8 5 (dc [none,some 4,some 3] (eR (eA eB (dW (dU 0) dY))) (gN 0) da Gu)) (dj (e8 6 (dc [none,some 3] (eR (dU 2)) (gN 0) da Gv)) (dj (gW (iS (eD (e2 iL (e2 fA (e2 fh (dU 3) (eC (.int 8))) (eC (.int 2))) (eC (.int 1)))) (eD (e2 mT (eA eB (dW (dU 4) dY)) (eC (.int 5))))) (e8 6 (dc [none,some 5,some 3] (eR (dU 2)) (gN 0) da Gw)) fH) (dj (fL 7 (fU dY)) (dj (gu (gN 8) (eR (eA eB (dW (dU 0) dY))) Bq) (λς=>(fD (h9 "Office" qd (dW (dU 7) (dW (dc [none,some 3,some 5,some 1] (eR (eA eB (dW (dU 1) dY))) (gN 0) da Gy) (dW (dU 6) dY))))) (frz 7 ς))))))))
def vE:List D->Out D:=dy true 4 10 Br
theorem Wj(d0 d1 d2 d3:D):vE [d0,d1,d2,d3]=(Br [zk d0,zk d1,zk d2,zk d3,none,none,none,none,none,none]>>=eN true):=rfl
theorem Wl(F:FunV K "_law_built" "_law_built" sP f fd dV)(Bs:"e"^sO "_law_called" 1 false)(du:mg "range"=none)(e9:mg "len"=none)(vF:iw P w K mg base CT "Office" 5 qd):"f"^7 ["_law_plan","_law_entries","_law_doors","_law_way"] true vE:=
 (@gE P w K mg base CT true _ _ _ f fd dV _ _ 6 Br F QaM λeE A outer s H E G hr=>
  (Qf (Qy (i:=4) QaM.nd rfl (Or.inr rfl) (dv (dF (k7 (Qb qD (Qb qD (Qb qD (Qb qD Qi)))))) (dG (Q4 (dG (qE (dG (Qa 3)) (dG Qg))) (dG Qg))))) (Qf (Qy (i:=5) QaM.nd rfl (Or.inr rfl) (dF (QB rfl Qid (dO (QL gr du (dG (QW gr e9 (Qr (dG (Qa 0)) Qx))))) (λς=>Qt (Qm rfl ς)) (Qn _) (λfp s H G p=>⟨(Qq (i:=0) Qid.nd rfl (oi rfl) (hf:=Or.inr rfl)),Qw,(eI Bs (Rm hr) (Qb (Qa 1) (Qb (Qa 0) (Qb (Qa 2) Qi))) gr)⟩)))) (Qf (Qy (i:=6) QaM.nd rfl (Or.inr rfl) (dF (QB rfl Qh2 (dO (QL gr du (dG (Qa 2)))) (λς=>Qt (Qm rfl ς)) (Qn _) (λfp s H G p=>⟨(Qq (i:=0) Qh2.nd rfl (oi rfl) (hf:=Or.inr rfl)),Qw,(eI Bs (Rm hr) (Qb qD (Qb (Qa 0) (Qb (Qa 1) Qi))) gr)⟩)))) (Qf (eX (DW.dt (Ee (ir hr.units (dG (Q4 (dG (qE (dG (Qa 3)) (dG Qg))) (dG Qg))) (dG Qg)) (Ed (ji (dG (QW gr e9 (Qr (dG (Qa 4)) Qx))) (dG Qg))))) (Qh (Qy (i:=6) QaM.nd rfl (Or.inr rfl) (dF (QB rfl Qh9 (dO (QL gr du (dG (Qa 2)))) (λς=>Qt (Qm rfl ς)) (Qn _) (λfp s H G p=>⟨(Qq (i:=0) Qh9.nd rfl (oi rfl) (hf:=Or.inr rfl)),Qw,(QZ (dG (dv (Qa 1) (dG Qg))) (dG (eI Bs (Rm hr) (Qb qD (Qb (Qa 0) (Qb (Qa 2) Qi))) gr)))⟩))))) QR) (Qf (nV (i:=7) QaM.nd rfl (oi rfl) (k7 Qi)) (Qf (mY aq rfl (QL gr du (dG (QW gr e9 (Qr (dG (Qa 0)) Qx)))) (Qq (i:=8) QaM.nd rfl (oi rfl)) (Qn _) (Qf (tU (i:=9) rfl Qh5 (dO (QP (dv (dv (Qa 0) (dG (Qa 8))) (dG Qg)))) (λς=>Qt (Qm rfl ς)) (Qn _) (λfp s H G p=>⟨(Qq (i:=0) Qh5.nd rfl (oi rfl) (hf:=Or.inr rfl)),Qw,(dv (dF (tR (Qa 1) (dF (Kq (Qa 2) (qH (dG (pI (dG Qg)))))))) (dG (Qa 0)))⟩) QaM.nd rfl (oi rfl)) (Qh (rP 7 (nU (Qb (dv (Qa 5) (dG (Qa 8))) (Qb (dv (dv (Qa 0) (dG (Qa 8))) (dG Qg)) (Qb (Qa 9) (Qb (dv (dv (Qa 0) (dG (Qa 8))) (dG Qg)) Qi))))) rfl (oi rfl))))) (Qh (FM 7 (kc (rX rS vF (Rm hr) (Qb (Qa 7) (Qb (dF (QB rfl Qib (dO (QL gr du (dG (QW gr e9 (Qr (dG (Qa 1)) Qx))))) (λς=>Qt (Qm rfl ς)) (Qn _) (λfp s H G p=>⟨(Qq (i:=0) Qib.nd rfl (oi rfl) (hf:=Or.inr rfl)),Qw,(nU (Qb (eI Bs (Rm hr) (Qb qD (Qb (Qa 0) (Qb (Qa 1) Qi))) gr) (Qb (dv (Qa 2) (dG (dv (Qa 3) (dG (Qa 0))))) Qi)))⟩))) (Qb (Qa 6) Qi))) gr)))))))))) :)
abbrev Gz:Stmt:=g9 (fb 43) 1
theorem Wm:Qo ["self"] ["self"] (Qc Gz):=⟨rfl,rfl,rfl,dk,rfl,dk,dk⟩
def Bt:SD->Out Fl:=(fD (e1 fi (e1 (jF Qp "clerk_names") (dU 0))))
def pY:List D->Out D:=dy true 1 1 Bt
theorem Wn(d0:D):pY [d0]=(Bt [zk d0]>>=eN true):=rfl
theorem Wo(F:FunV K "names" "Office.names" Gz f fd dV)(eO:mg "list"=none)(eQ:f6 K CT Qp "clerk_names"):"f"^1 ["self"] true pY:=
 (@gE P w K mg base CT true _ _ _ f fd dV _ _ 0 Bt F Wm λeE A outer s H E G hr=>
  (Qh (kc (pM gr eO (pQ eQ (Qa 0))))) :)
abbrev yt:Stmt:=fb 35
theorem Qew:Qo ["taken","pairs","first"] ["taken"] (Qc yt):=⟨rfl,rfl,rfl,dk,rfl,dk,dk⟩
abbrev Wp:PySem.Scope:={ kind:=PySem.ScopeKind.function,names:=[ (PySem.Str.ofString ".0",PySem.NameKind.local),(PySem.Str.ofString "second",PySem.NameKind.local),(PySem.Str.ofString "first",PySem.NameKind.free)],isGenerator:=false,isCoroutine:=false,more:=[]:PySem.Scope }
theorem QgI:Qu ["second","first"] [none,some 2] Wp (Qc yt) ["taken","pairs","first"]:=⟨rfl,dk,dk,rfl,dk,dk⟩
def HA:SD->Out D:=(e2 fB (dU 1) (dU 0))
def Bu:SD->Out Fl:=(uo 1 (dc [none,some 2] (pP (eC (.str "abcdefghijklmnopqrstuvwxyz"))) (gN 0) da HA))
abbrev Wq:PySem.Scope:={ kind:=PySem.ScopeKind.function,names:=[ (PySem.Str.ofString ".0",PySem.NameKind.local),(PySem.Str.ofString "name",PySem.NameKind.local),(PySem.Str.ofString "taken",PySem.NameKind.free)],isGenerator:=false,isCoroutine:=false,more:=[]:PySem.Scope }
theorem Qgk:Qu ["name","taken"] [none,some 0] Wq (Qc yt) ["taken","pairs","first"]:=⟨rfl,dk,dk,rfl,dk,dk⟩
def HB:SD->Out Bool:=(eD (e2 yC (dU 0) (dU 1)))
def HC:SD->Out D:=(dU 0)
def Bv:SD->Out Fl:=(dj (fL 1 (fU dY)) (dj (gu (gN 2) (pP (eC (.str "abcdefghijklmnopqrstuvwxyz"))) Bu) (fD (dc [none,some 0] (oN (fg 1)) (gN 0) HB HC))))
def yu:List D->Out D:=dy true 1 3 Bv
theorem Wr(d0:D):yu [d0]=(Bv [zk d0,none,none]>>=eN true):=rfl
theorem Ws{gd:Value}(F:FunV K "spare_names" "spare_names" yt f fd dV)(gI:mg "LETTERS"=some gd)(iH:RelV (gO (.str "abcdefghijklmnopqrstuvwxyz")) gd):"f"^1 ["taken"] true yu:=
 (@gE P w K mg base CT true _ _ _ f fd dV _ _ 0 Bv F Qew λeE A outer s H E G hr=>
  (Qf (nV (i:=1) Qew.nd rfl (oi rfl) (k7 Qi)) (Qf (mY aq rfl (F9 (dG (nB (d:=(.str "abcdefghijklmnopqrstuvwxyz")) gr gI rfl iH))) (Qq (i:=2) Qew.nd rfl (Or.inr rfl)) (Qn _) (Qh (KQ 1 (QB rfl QgI (dO (F9 (dG (nB (d:=(.str "abcdefghijklmnopqrstuvwxyz")) gr gI rfl iH)))) (λς=>Qt (Qm rfl ς)) (Qn _) (λfp s H G p=>⟨(Qq (i:=0) QgI.nd rfl (oi rfl) (hf:=Or.inr rfl)),Qw,(QZ (dG (Qa 1)) (dG (Qa 0)))⟩)) rfl (oi rfl)))) (Qh (kc (QB rfl Qgk (SL (qC 1)) (λς=>Qt (Qm rfl ς)) (Qn _) (λfp s H G p=>⟨(Qq (i:=0) Qgk.nd rfl (oi rfl) (hf:=Or.inr rfl)),(RV (Sm (dG (Qa 0)) (dG (Qa 1)))),(Qa 0)⟩)))))) :)
abbrev HD:Stmt:=g9 (fb 43) 4
theorem Wt:Qo ["self"] ["self"] (Qc HD):=⟨rfl,rfl,rfl,dk,rfl,dk,dk⟩
def Bw:SD->Out Fl:=(eV (eA eB (dW (e1 (jF Qp "clerk_names") (dU 0)) dY)))
def Q0:List D->Out D:=dy false 1 1 Bw
theorem Wu(d0:D):Q0 [d0]=(Bw [zk d0]>>=eN false):=rfl
theorem Wv(F:FunV K "many" "Office.many" HD f fd dV)(e9:mg "len"=none)(eQ:f6 K CT Qp "clerk_names"):"f"^1 ["self"] false Q0:=
 (@gE P w K mg base CT false _ _ _ f fd dV _ _ 0 Bw F Wt λeE A outer s H E G hr=>
  (Qh (QH (QW gr e9 (Qr (dG (pQ eQ (Qa 0))) Qx)))) :)
abbrev HE:Stmt:=g9 (fb 43) 2
theorem Ww:Qo ["self"] ["self"] (Qc HE):=⟨rfl,rfl,rfl,dk,rfl,dk,dk⟩
def Bx:SD->Out Fl:=(fD (e1 fi (e1 (jF Qp "door_names") (dU 0))))
def qe:List D->Out D:=dy true 1 1 Bx
theorem Wx(d0:D):qe [d0]=(Bx [zk d0]>>=eN true):=rfl
theorem Wy(F:FunV K "doors" "Office.doors" HE f fd dV)(eO:mg "list"=none)(fG:f6 K CT Qp "door_names"):"f"^1 ["self"] true qe:=
 (@gE P w K mg base CT true _ _ _ f fd dV _ _ 0 Bx F Ww λeE A outer s H E G hr=>
  (Qh (kc (pM gr eO (pQ fG (Qa 0))))) :)
abbrev HF:Stmt:=fb 47
theorem Qf5:Qo ["period","width"] ["period"] (Qc HF):=⟨rfl,rfl,rfl,dk,rfl,dk,dk⟩
def vG:SD->Out Bool:=(eD (e2 mT (dU 1) (dU 0)))
def By:SD->Out Fl:=(e8 1 (e2 jX (dU 1) (eC (.int 2))))
def Bz:SD->Out Fl:=(dj (e8 1 (eC (.int 1))) (dj (kK vG By) (eV (dU 1))))
def oh:List D->Out D:=dy false 1 2 Bz
theorem Wz(d0:D):oh [d0]=(Bz [zk d0,none]>>=eN false):=rfl
theorem X0(F:FunV K "width_for" "width_for" HF f fd dV)  : "f"^1 ["period"] false oh:=
 (@gE P w K mg base CT false _ _ _ f fd dV _ _ 0 Bz F Qf5 λeE A outer s H E G hr=>
  (Qf (Qy (i:=1) Qf5.nd rfl (oi rfl) Qg) (Qf (El aq (ji (dG (Qa 1)) (dG (Qa 0))) (Qh (Qy (i:=1) Qf5.nd rfl (oi rfl) (tL (dG (Qa 1)) (dG Qg))))) (Qh (QH (Qa 1))))) :)
abbrev HG:Stmt:=fb 48
theorem X1:Qo ["period"] ["period"] (Qc HG):=⟨rfl,rfl,rfl,dk,rfl,dk,dk⟩
def C0:SD->Out Fl:=(eV (e2 gC (e2 fB (dU 0) (eA (λxs=>oh (xs++[])) (dW (dU 0) dY))) (eC (.int 1))))
def sQ:List D->Out D:=dy false 1 1 C0
theorem X2(d0:D):sQ [d0]=(C0 [zk d0]>>=eN false):=rfl
theorem X3(F:FunV K "size_for" "size_for" HG f fd dV)(uA:"e"^oh "width_for" 1 false):"f"^2 ["period"] false sQ:=
 (@gE P w K mg base CT false _ _ _ f fd dV _ _ 1 C0 F X1 λeE A outer s H E G hr=>
  (Qh (QH (kZ (dG (QZ (dG (Qa 0)) (dG (eI uA (Rm hr) (Qb (Qa 0) Qi) gr)))) (dG Qg)))) :)
abbrev HH:Stmt:=g9 (fb 43) 5
theorem X4:Qo ["self","k"] ["self","k"] (Qc HH):=⟨rfl,rfl,rfl,dk,rfl,dk,dk⟩
def C1:SD->Out Fl:=(eV (e2 eF (e1 (jF Qp "staff") (dU 0)) (dU 1)))
def Q9:List D->Out D:=dy false 2 2 C1
theorem X5(d0 d1:D):Q9 [d0,d1]=(C1 [zk d0,zk d1]>>=eN false):=rfl
theorem X6(F:FunV K "clerk" "Office.clerk" HH f fd dV)(gf:f6 K CT Qp "staff"):"f"^1 ["self","k"] false Q9:=
 (@gE P w K mg base CT false _ _ _ f fd dV _ _ 0 C1 F X4 λeE A outer s H E G hr=>
  (Qh (QH (dv (pQ gf (Qa 0)) (dG (Qa 1))))) :)
abbrev C2:Stmt:=fb 50
theorem Qfc:Qo ["name","period","spare","width","names"] ["name","period","spare"] (Qc C2):=⟨rfl,rfl,rfl,dk,rfl,dk,dk⟩
abbrev X7:PySem.Scope:={ kind:=PySem.ScopeKind.function,names:=[ (PySem.Str.ofString ".0",PySem.NameKind.local),(PySem.Str.ofString "again",PySem.NameKind.local),(PySem.Str.ofString "name",PySem.NameKind.free)],isGenerator:=false,isCoroutine:=false,more:=[]:PySem.Scope }
theorem Qhb:Qu ["again","name"] [none,some 0] X7 (Qc C2) ["name","period","spare","width","names"]:=⟨rfl,dk,dk,rfl,dk,dk⟩
def HI:SD->Out D:=(dU 1)
def C3:SD->Out Fl:=(dj (e8 3 (eA (λxs=>oh (xs++[])) (dW (dU 1) dY))) (dj (e8 4 (e2 kA (fU (dW (dU 0) (dW (dU 0) dY))) (mU (dU 2) pK (fV (e2 gC (eA (λxs=>sQ (xs++[])) (dW (dU 1) dY)) (eC (.int 1))))))) (fD (e2 kA (dU 4) (dc [none,some 0] (eR (e2 gC (dU 3) (dU 1))) (gN 0) da HI)))))
def yw:List D->Out D:=dy true 3 5 C3
theorem X8(d0 d1 d2:D):yw [d0,d1,d2]=(C3 [zk d0,zk d1,zk d2,none,none]>>=eN true):=rfl
theorem X9(F:FunV K "tree_names" "tree_names" C2 f fd dV)(uA:"e"^oh "width_for" 1 false)(HJ:"e"^sQ "size_for" 2 false)(du:mg "range"=none):"f"^3 ["name","period","spare"] true yw:=
 (@gE P w K mg base CT true _ _ _ f fd dV _ _ 2 C3 F Qfc λeE A outer s H E G hr=>
  (Qf (Qy (i:=3) Qfc.nd rfl (oi rfl) (eI uA (Rm hr) (Qb (Qa 1) Qi) gr)) (Qf (Qy (i:=4) Qfc.nd rfl (oi rfl) (dF (tR (dF (k7 (Qb (Qa 0) (Qb (Qa 0) Qi)))) (dF (lB (Qa 2) Ef (qH (dG (kZ (dG (eI HJ (Rm hr) (Qb (Qa 1) Qi) gr)) (dG Qg))))))))) (Qh (kc (tR (Qa 4) (dF (QB rfl Qhb (dO (QL gr du (dG (kZ (dG (Qa 3)) (dG (Qa 1)))))) (λς=>Qt (Qm rfl ς)) (Qn _) (λfp s H G p=>⟨(Qq (i:=0) Qhb.nd rfl (oi rfl) (hf:=Or.inr rfl)),Qw,(Qa 1)⟩)))))))) :)
abbrev HK:Stmt:=fb 49
theorem XA:Qo ["state","step","first"] ["state","step","first"] (Qc HK):=⟨rfl,rfl,rfl,dk,rfl,dk,dk⟩
def C4:SD->Out Fl:=(eV (e2 fh (e2 gC (e2 fB (e2 gC (dU 0) (dU 2)) (dU 1)) (eC (.int 1))) (dU 1)))
def yx:List D->Out D:=dy false 3 3 C4
theorem XB(d0 d1 d2:D):yx [d0,d1,d2]=(C4 [zk d0,zk d1,zk d2]>>=eN false):=rfl
theorem XC(F:FunV K "handled_ahead" "handled_ahead" HK f fd dV)  : "f"^1 ["state","step","first"] false yx:=
 (@gE P w K mg base CT false _ _ _ f fd dV _ _ 0 C4 F XA λeE A outer s H E G hr=>
  (Qh (QH (qE (dG (kZ (dG (QZ (dG (kZ (dG (Qa 0)) (dG (Qa 2)))) (dG (Qa 1)))) (dG Qg))) (dG (Qa 1))))) :)
abbrev HL:Stmt:=fb 51
theorem Qcj:Qo ["names","width","state","seats","step","first","leads"] ["names","width","state"] (Qc HL):=⟨rfl,rfl,rfl,dk,rfl,dk,dk⟩
def yy:SD->Out Fl:=(dj (e8 6 (fU (dW (e2 eF (dU 0) (e2 fB (e2 jX (eC (.int 2)) (dU 4)) (dU 5))) (dW (e2 eF (dU 0) (e2 fB (e2 jX (eC (.int 3)) (dU 4)) (dU 5))) dY)))) (nE 3 (i3 (dW (e2 eF (dU 0) (e2 fB (dU 4) (dU 5))) (dW (h9 "Deal" qY (dW (eC (.int 2)) dY)) (dW (dU 6) (dW (e2 fA (eA (λxs=>yx (xs++[])) (dW (dU 2) (dW (dU 4) (dW (dU 5) dY)))) (eC (.int 2))) dY)))))))
def vH:SD->Out Bool:=(eD (e2 mT (dU 4) (dU 1)))
def C5:SD->Out Fl:=(dj (gu (gN 5) (eR (dU 4)) yy) (e8 4 (e2 jX (dU 4) (eC (.int 2)))))
def C6:SD->Out Fl:=(dj (fL 3 (fU dY)) (dj (e8 4 (eC (.int 1))) (dj (kK vH C5) (iT 3))))
def yz:List D->Out D:=dy true 3 7 C6
theorem XE(d0 d1 d2:D):yz [d0,d1,d2]=(C6 [zk d0,zk d1,zk d2,none,none,none,none]>>=eN true):=rfl
theorem XF(F:FunV K "dealers" "dealers" HL f fd dV)(XG:"e"^yx "handled_ahead" 1 false)(du:mg "range"=none)(uy:iw P w K mg base CT "Deal" 4 qY):"f"^6 ["names","width","state"] true yz:=
 (@gE P w K mg base CT true _ _ _ f fd dV _ _ 5 C6 F Qcj λeE A outer s H E G hr=>
  (Qf (nV (i:=3) Qcj.nd rfl (oi rfl) (k7 Qi)) (Qf (Qy (i:=4) Qcj.nd rfl (oi rfl) Qg) (Qf (El aq (ji (dG (Qa 4)) (dG (Qa 1))) (Qf (mY aq rfl (QL gr du (dG (Qa 4))) (Qq (i:=5) Qcj.nd rfl (oi rfl)) (Qn _) (Qf (Qy (i:=6) Qcj.nd rfl (oi rfl) (dF (k7 (Qb (dv (Qa 0) (dG (QZ (dG (tL (dG Qg) (dG (Qa 4)))) (dG (Qa 5))))) (Qb (dv (Qa 0) (dG (QZ (dG (tL (dG Qg) (dG (Qa 4)))) (dG (Qa 5))))) Qi))))) (Qh (rP 3 (nU (Qb (dv (Qa 0) (dG (QZ (dG (Qa 4)) (dG (Qa 5))))) (Qb (dF (rX rS uy (Rm hr) (Qb Qg Qi) gr)) (Qb (Qa 6) (Qb (Q4 (dG (eI XG (Rm hr) (Qb (Qa 2) (Qb (Qa 4) (Qb (Qa 5) Qi))) gr)) (dG Qg)) Qi))))) rfl (oi rfl))))) (Qh (Qy (i:=4) Qcj.nd rfl (oi rfl) (tL (dG (Qa 4)) (dG Qg)))))) (Qh (ue 3 rfl (oi rfl)))))) :)
abbrev HM:Stmt:=g9 (fb 15) 4
theorem XH:Qo ["self","state"] ["self","state"] (Qc HM):=⟨rfl,rfl,rfl,dk,rfl,dk,dk⟩
def C7:SD->Out Fl:=(fD (e1 fi (e2 eF (e1 (jF Qp "table") (dU 0)) (dU 1))))
def sR:List D->Out D:=dy true 2 2 C7
theorem XI(d0 d1:D):sR [d0,d1]=(C7 [zk d0,zk d1]>>=eN true):=rfl
theorem XJ(F:FunV K "row" "Clerk.row" HM f fd dV)(eO:mg "list"=none)(fF:f6 K CT Qp "table"):"f"^1 ["self","state"] true sR:=
 (@gE P w K mg base CT true _ _ _ f fd dV _ _ 0 C7 F XH λeE A outer s H E G hr=>
  (Qh (kc (pM gr eO (dv (pQ fF (Qa 0)) (dG (Qa 1)))))) :)
abbrev C8:Stmt:=fb 52
theorem Qkd:Qo ["names","clerk","leads","width"] ["names","clerk","leads"] (Qc C8):=⟨rfl,rfl,rfl,dk,rfl,dk,dk⟩
abbrev XM:PySem.Scope:={ kind:=PySem.ScopeKind.function,names:=[ (PySem.Str.ofString ".0",PySem.NameKind.local),(PySem.Str.ofString "t",PySem.NameKind.local),(PySem.Str.ofString "Copy",PySem.NameKind.globalImplicit),(PySem.Str.ofString "clerk",PySem.NameKind.free),(PySem.Str.ofString "leads",PySem.NameKind.free),(PySem.Str.ofString "names",PySem.NameKind.free),(PySem.Str.ofString "width",PySem.NameKind.free)],isGenerator:=false,isCoroutine:=false,more:=[]:PySem.Scope }
theorem Qjw:Qu ["t","names","width","clerk","leads"] [none,some 0,some 3,some 1,some 2] XM (Qc C8) ["names","clerk","leads","width"]:=⟨rfl,dk,dk,rfl,dk,dk⟩
def HN:SD->Out D:=(i3 (dW (e2 eF (dU 1) (e2 fB (dU 2) (dU 0))) (dW (h9 "Copy" qZ (dW (e7 Qd "row" (λ_=>sR) (dU 3) (dW (dU 0) dY)) dY)) (dW (dU 4) (dW (eC (.int 0)) dY)))))
def C9:SD->Out Fl:=(dj (e8 3 (eA (λxs=>oh (xs++[])) (dW (e7 Qd "period" (λ_=>QG) (dU 1) dY) dY))) (fD (dc [none,some 0,some 3,some 1,some 2] (eR (e7 Qd "period" (λ_=>QG) (dU 1) dY)) (gN 0) da HN)))
def z6:List D->Out D:=dy true 3 4 C9
theorem XN(d0 d1 d2:D):z6 [d0,d1,d2]=(C9 [zk d0,zk d1,zk d2,none]>>=eN true):=rfl
theorem XO(F:FunV K "copiers" "copiers" C8 f fd dV)(uA:"e"^oh "width_for" 1 false)(du:mg "range"=none)(eL:fK P w K mg base CT g8 "period" 1 Qd (λc=>gY K CT false ((λ_=>QG) c)))(jG:fK P w K mg base CT g8 "row" 1 Qd (λc=>gY K CT true ((λ_=>sR) c)))(uz:iw P w K mg base CT "Copy" 4 qZ):"f"^6 ["names","clerk","leads"] true z6:=
 (@gE P w K mg base CT true _ _ _ f fd dV _ _ 5 C9 F Qkd λeE A outer s H E G hr=>
  (Qf (Qy (i:=3) Qkd.nd rfl (Or.inr rfl) (eI uA (Rm hr) (Qb (Q1 eL (Rm hr) (Qa 1)) Qi) gr)) (Qh (kc (QB rfl Qjw (dO (QL gr du (dG (Q1 eL (Rm hr) (Qa 1))))) (λς=>Qt (Qm rfl ς)) (Qn _) (λfp s H G p=>⟨(Qq (i:=0) Qjw.nd rfl (oi rfl) (hf:=Or.inr rfl)),Qw,(nU (Qb (dv (Qa 1) (dG (QZ (dG (Qa 2)) (dG (Qa 0))))) (Qb (dF (rX rS uz (Rm hr) (Qb (tZ jG (Rm hr) (Qa 3) (Qb (Qa 0) Qi)) Qi) gr)) (Qb (Qa 4) (Qb Qg Qi)))))⟩))))) :)
abbrev HP:Stmt:=g9 (fb 43) 7
theorem XQ:Qo ["self","k"] ["self","k"] (Qc HP):=⟨rfl,rfl,rfl,dk,rfl,dk,dk⟩
def CA:SD->Out Fl:=(fD (e1 fi (e2 eF (e1 (jF Qp "ways") (dU 0)) (dU 1))))
def qf:List D->Out D:=dy true 2 2 CA
theorem XR(d0 d1:D):qf [d0,d1]=(CA [zk d0,zk d1]>>=eN true):=rfl
theorem XS(F:FunV K "leads" "Office.leads" HP f fd dV)(eO:mg "list"=none)(iI:f6 K CT Qp "ways"):"f"^1 ["self","k"] true qf:=
 (@gE P w K mg base CT true _ _ _ f fd dV _ _ 0 CA F XQ λeE A outer s H E G hr=>
  (Qh (kc (pM gr eO (dv (pQ iI (Qa 0)) (dG (Qa 1)))))) :)
abbrev CB:Stmt:=fb 45
theorem Qfn:Qo ["office","k","names","doors"] ["office","k"] (Qc CB):=⟨rfl,rfl,rfl,dk,rfl,dk,dk⟩
abbrev XT:PySem.Scope:={ kind:=PySem.ScopeKind.function,names:=[ (PySem.Str.ofString ".0",PySem.NameKind.local),(PySem.Str.ofString "lead",PySem.NameKind.local),(PySem.Str.ofString "doors",PySem.NameKind.free),(PySem.Str.ofString "names",PySem.NameKind.free)],isGenerator:=false,isCoroutine:=false,more:=[]:PySem.Scope }
theorem Qhd:Qu ["lead","names","doors"] [none,some 2,some 3] XT (Qc CB) ["office","k","names","doors"]:=⟨rfl,dk,dk,rfl,dk,dk⟩
def HQ:SD->Out D:=(qG (eD (e2 Ec (dU 0) (eC (.int 0)))) (e2 eF (dU 1) (dU 0)) (e2 eF (dU 2) (e2 gC (e1 jD (eC (.int 1))) (dU 0))))
def CC:SD->Out Fl:=(dj (e8 2 (e7 Ql "names" (λ_=>pY) (dU 0) dY)) (dj (e8 3 (e7 Ql "doors" (λ_=>qe) (dU 0) dY)) (fD (dc [none,some 2,some 3] (fJ (e7 Ql "leads" (λ_=>qf) (dU 0) (dW (dU 1) dY))) (gN 0) da HQ))))
def z7:List D->Out D:=dy true 2 4 CC
theorem XU(d0 d1:D):z7 [d0,d1]=(CC [zk d0,zk d1,none,none]>>=eN true):=rfl
theorem XW(F:FunV K "lead_names" "lead_names" CB f fd dV)(fY:fK P w K mg base CT g8 "names" 1 Ql (λc=>gY K CT true ((λ_=>pY) c)))(gM:fK P w K mg base CT g8 "doors" 1 Ql (λc=>gY K CT true ((λ_=>qe) c)))(gi:fK P w K mg base CT g8 "leads" 1 Ql (λc=>gY K CT true ((λ_=>qf) c))):"f"^2 ["office","k"] true z7:=
 (@gE P w K mg base CT true _ _ _ f fd dV _ _ 1 CC F Qfn λeE A outer s H E G hr=>
  (Qf (Qy (i:=2) Qfn.nd rfl (Or.inr rfl) (Q1 fY (Rm hr) (Qa 0))) (Qf (Qy (i:=3) Qfn.nd rfl (Or.inr rfl) (Q1 gM (Rm hr) (Qa 0))) (Qh (kc (QB rfl Qhd (dO (QP (tZ gi (Rm hr) (Qa 0) (Qb (Qa 1) Qi)))) (λς=>Qt (Qm rfl ς)) (Qn _) (λfp s H G p=>⟨(Qq (i:=0) Qhd.nd rfl (oi rfl) (hf:=Or.inr rfl)),Qw,(oC (xS (dG (Qa 0)) (dG Qg)) (dv (Qa 1) (dG (Qa 0))) (dv (Qa 2) (dG (kZ (dG (pI (dG Qg))) (dG (Qa 0))))))⟩)))))) :)
abbrev HR:Stmt:=g9 (fb 43) 6
theorem XX:Qo ["self"] ["self"] (Qc HR):=⟨rfl,rfl,rfl,dk,rfl,dk,dk⟩
def CD:SD->Out Fl:=(fD (e1 fi (e1 (jF Qp "first_states") (dU 0))))
def sS:List D->Out D:=dy true 1 1 CD
theorem XY(d0:D):sS [d0]=(CD [zk d0]>>=eN true):=rfl
theorem XZ(F:FunV K "begin" "Office.begin" HR f fd dV)(eO:mg "list"=none)(ez:f6 K CT Qp "first_states"):"f"^1 ["self"] true sS:=
 (@gE P w K mg base CT true _ _ _ f fd dV _ _ 0 CD F XX λeE A outer s H E G hr=>
  (Qh (kc (pM gr eO (pQ ez (Qa 0))))) :)
abbrev HS:Stmt:=fb 53
theorem Qlf:Qo ["office","k","spare","clerk","names"] ["office","k","spare"] (Qc HS):=⟨rfl,rfl,rfl,dk,rfl,dk,dk⟩
def CF:SD->Out Fl:=(dj (e8 3 (e7 Ql "clerk" (λ_=>Q9) (dU 0) (dW (dU 1) dY))) (dj (e8 4 (eA (λxs=>yw (xs++[])) (dW (e2 eF (e7 Ql "names" (λ_=>pY) (dU 0) dY) (dU 1)) (dW (e7 Qd "period" (λ_=>QG) (dU 3) dY) (dW (dU 2) dY))))) (fD (e2 kA (eA (λxs=>yz (xs++[])) (dW (dU 4) (dW (eA (λxs=>oh (xs++[])) (dW (e7 Qd "period" (λ_=>QG) (dU 3) dY) dY)) (dW (e2 eF (e7 Ql "begin" (λ_=>sS) (dU 0) dY) (dU 1)) dY)))) (eA (λxs=>z6 (xs++[])) (dW (dU 4) (dW (dU 3) (dW (eA (λxs=>z7 (xs++[])) (dW (dU 0) (dW (dU 1) dY))) dY))))))))
def z8:List D->Out D:=dy true 3 5 CF
theorem Xa(d0 d1 d2:D):z8 [d0,d1,d2]=(CF [zk d0,zk d1,zk d2,none,none]>>=eN true):=rfl
theorem Xb(F:FunV K "tree" "tree" HS f fd dV)(Xc:"e"^yw "tree_names" 3 true)(Xd:"e"^yz "dealers" 6 true)(uA:"e"^oh "width_for" 1 false)(Xe:"e"^z6 "copiers" 6 true)(Xf:"e"^z7 "lead_names" 2 true)(fZ:fK P w K mg base CT g8 "clerk" 1 Ql (λc=>gY K CT false ((λ_=>Q9) c)))(fY:fK P w K mg base CT g8 "names" 1 Ql (λc=>gY K CT true ((λ_=>pY) c)))(eL:fK P w K mg base CT g8 "period" 1 Qd (λc=>gY K CT false ((λ_=>QG) c)))(gj:fK P w K mg base CT g8 "begin" 1 Ql (λc=>gY K CT true ((λ_=>sS) c))):"f"^7 ["office","k","spare"] true z8:=
 (@gE P w K mg base CT true _ _ _ f fd dV _ _ 6 CF F Qlf λeE A outer s H E G hr=>
  (Qf (Qy (i:=3) Qlf.nd rfl (oi rfl) (tZ fZ (Rm hr) (Qa 0) (Qb (Qa 1) Qi))) (Qf (Qy (i:=4) Qlf.nd rfl (oi rfl) (eI Xc (Rm hr) (Qb (dv (Q1 fY (Rm hr) (Qa 0)) (dG (Qa 1))) (Qb (Q1 eL (Rm hr) (Qa 3)) (Qb (Qa 2) Qi))) gr)) (Qh (kc (tR (eI Xd (Rm hr) (Qb (Qa 4) (Qb (eI uA (Rm hr) (Qb (Q1 eL (Rm hr) (Qa 3)) Qi) gr) (Qb (dv (Q1 gj (Rm hr) (Qa 0)) (dG (Qa 1))) Qi))) gr) (eI Xe (Rm hr) (Qb (Qa 4) (Qb (Qa 3) (Qb (eI Xf (Rm hr) (Qb (Qa 0) (Qb (Qa 1) Qi)) gr) Qi))) gr)))))) :)
abbrev HU:Stmt:=g9 (fb 43) 3
theorem Xg:Qo ["self"] ["self"] (Qc HU):=⟨rfl,rfl,rfl,dk,rfl,dk,dk⟩
def CG:SD->Out Fl:=(fD (e1 fi (e1 (jF Qp "entry_places") (dU 0))))
def QX:List D->Out D:=dy true 1 1 CG
theorem Xh(d0:D):QX [d0]=(CG [zk d0]>>=eN true):=rfl
theorem Xi(F:FunV K "entries" "Office.entries" HU f fd dV)(eO:mg "list"=none)(et:f6 K CT Qp "entry_places"):"f"^1 ["self"] true QX:=
 (@gE P w K mg base CT true _ _ _ f fd dV _ _ 0 CG F Xg λeE A outer s H E G hr=>
  (Qh (kc (pM gr eO (pQ et (Qa 0))))) :)
abbrev vI:Stmt:=fb 54
theorem QbS:Qo ["office","many","names","spare","seats","k"] ["office"] (Qc vI):=⟨rfl,rfl,rfl,dk,rfl,dk,dk⟩
abbrev Xj:PySem.Scope:={ kind:=PySem.ScopeKind.function,names:=[ (PySem.Str.ofString ".0",PySem.NameKind.local),(PySem.Str.ofString "k",PySem.NameKind.local),(PySem.Str.ofString "size_for",PySem.NameKind.globalImplicit),(PySem.Str.ofString "office",PySem.NameKind.free)],isGenerator:=false,isCoroutine:=false,more:=[]:PySem.Scope }
theorem Qig:Qu ["k","office"] [none,some 0] Xj (Qc vI) ["office","many","names","spare","seats","k"]:=⟨rfl,dk,dk,rfl,dk,dk⟩
def z9:SD->Out D:=(eA (λxs=>sQ (xs++[])) (dW (e7 Qd "period" (λ_=>QG) (e7 Ql "clerk" (λ_=>Q9) (dU 1) (dW (dU 0) dY)) dY) dY))
def CH:SD->Out Fl:=(uo 4 (λς=>AU ((eA (λxs=>z8 (xs++[])) (dW (dU 0) (dW (dU 5) (dW (mU (dU 3) (fV (eA eB (dW (fg 4) dY))) pK) dY)))) ς)))
abbrev Xk:PySem.Scope:={ kind:=PySem.ScopeKind.function,names:=[ (PySem.Str.ofString ".0",PySem.NameKind.local),(PySem.Str.ofString "entry",PySem.NameKind.local),(PySem.Str.ofString "names",PySem.NameKind.free)],isGenerator:=false,isCoroutine:=false,more:=[]:PySem.Scope }
theorem Qir:Qu ["entry","names"] [none,some 2] Xk (Qc vI) ["office","many","names","spare","seats","k"]:=⟨rfl,dk,dk,rfl,dk,dk⟩
def HV:SD->Out D:=(i3 (dW (e2 eF (dU 0) (eC (.int 0))) (dW (e2 eF (dU 1) (e2 eF (dU 0) (eC (.int 1)))) dY)))
def zA:SD->Out Fl:=(dj (λς=>gv ((e8 1 (eA (f1 iM) (dW (dc [none,some 0] (eR (e7 Ql "many" (λ_=>Q0) (dU 0) dY)) (gN 0) da z9) dY))) ς)) (dj (gW (λς=>gv ((eD (e2 oA (dU 1) (eC (.int 60)))) ς)) (xw "TooMany" (dW (eC (.str "the narrow office has too many clerks")) dY)) fH) (dj (λς=>gv ((e8 2 (e7 Ql "names" (λ_=>pY) (dU 0) dY)) ς)) (dj (λς=>gv ((e8 3 (eA (λxs=>yu (xs++[])) (dW (e2 kA (dU 2) (e7 Ql "doors" (λ_=>qe) (dU 0) dY)) dY))) ς)) (dj (λς=>gv ((fL 4 (fU dY)) ς)) (dj (λς=>gv ((gu (gN 5) (eR (e7 Ql "many" (λ_=>Q0) (dU 0) dY)) CH) ς)) (λς=>gv ((λς=>(fD (h9 "Office" qd (dW (dU 4) (dW (dc [none,some 2] (fJ (e7 Ql "entries" (λ_=>QX) (dU 0) dY)) (gN 0) da HV) (dW (e7 Ql "doors" (λ_=>qe) (dU 0) dY) dY))))) (frz 4 ς)) ς))))))))
def Q7:List D->Out D:=dy true 1 6 zA
theorem L9(d0:D):Q7 [d0]=(zA [zk d0,none,none,none,none,none]>>=eN true):=rfl
theorem Xl{fQ:Value}{eS:Addr}(F:FunV K "narrowed" "narrowed" vI f fd dV)(HJ:"e"^sQ "size_for" 2 false)(Xm:"e"^yu "spare_names" 1 true)(Xn:"e"^z8 "tree" 7 true)(j1:mg "sum"=none)(du:mg "range"=none)(e9:mg "len"=none)(fR:mg "MOST_CLERKS"=some fQ)(gU:RelV (gO (.int 60)) fQ)(jH:mg "TooMany"=some (.ref eS))(kQ:CT "TooMany"=some eS)(gk:pG K eS)(gz:fK P w K mg base CT g8 "many" 1 Ql (λc=>gY K CT false ((λ_=>Q0) c)))(eL:fK P w K mg base CT g8 "period" 1 Qd (λc=>gY K CT false ((λ_=>QG) c)))(fZ:fK P w K mg base CT g8 "clerk" 1 Ql (λc=>gY K CT false ((λ_=>Q9) c)))(fY:fK P w K mg base CT g8 "names" 1 Ql (λc=>gY K CT true ((λ_=>pY) c)))(gM:fK P w K mg base CT g8 "doors" 1 Ql (λc=>gY K CT true ((λ_=>qe) c)))(fo:fK P w K mg base CT g8 "entries" 1 Ql (λc=>gY K CT true ((λ_=>QX) c)))(vF:iw P w K mg base CT "Office" 5 qd):FnOk P w K mg base (i7 P w) 8 f fd ["office"] (AZ K CT true Q7):=
 @Rt P w K mg base CT true "narrowed" "narrowed" vI f fd dV ["office","many","names","spare","seats","k"] ["office"] 7 zA F QbS λeE A outer s H E G hr=>
  (Qf (dP (Qy (i:=1) QbS.nd rfl (oi rfl) (Aj rfl gr j1 (Qr (dG (dF (QB rfl Qig (dO (QL gr du (dG (Q1 gz (Rm hr) (Qa 0))))) (λς=>Qt (Qm rfl ς)) (Qn _) (λfp s H G p=>⟨(Qq (i:=0) Qig.nd rfl (oi rfl) (hf:=Or.inr rfl)),Qw,(eI HJ (Rm hr) (Qb (Q1 eL (Rm hr) (tZ fZ (Rm hr) (Qa 1) (Qb (Qa 0) Qi))) Qi) gr)⟩)))) Qx)))) (Qf (eX (DT.lift (mV (dG (Qa 1)) (dG (nB (d:=(.int 60)) gr fR rfl gU)))) (Qh (Rv Rr gr jH kQ gk (Qb qD Qi))) QR) (Qf (dP (Qy (i:=2) QbS.nd rfl (Or.inr rfl) (Q1 fY (Rm hr) (Qa 0)))) (Qf (dP (Qy (i:=3) QbS.nd rfl (oi rfl) (eI Xm (Rm hr) (Qb (dF (tR (Qa 2) (Q1 gM (Rm hr) (Qa 0)))) Qi) gr))) (Qf (dP (nV (i:=4) QbS.nd rfl (oi rfl) (k7 Qi))) (Qf (dP (mY aq rfl (QL gr du (dG (Q1 gz (Rm hr) (Qa 0)))) (Qq (i:=5) QbS.nd rfl (oi rfl)) (Qn _) (Qh (KQ 4 (Ep Xn (Rm hr) (Qb (Qa 0) (Qb (Qa 5) (Qb (dF (lB (Qa 3) (qH (dG (QW gr e9 (Qr (qC 4) Qx)))) Ef)) Qi))) gr) rfl (oi rfl))))) (Qh (dP (FM 4 (kc (rX rS vF (Rm hr) (Qb (Qa 4) (Qb (dF (QB rfl Qir (dO (QP (Q1 fo (Rm hr) (Qa 0)))) (λς=>Qt (Qm rfl ς)) (Qn _) (λfp s H G p=>⟨(Qq (i:=0) Qir.nd rfl (oi rfl) (hf:=Or.inr rfl)),Qw,(nU (Qb (dv (Qa 0) (dG Qg)) (Qb (dv (Qa 1) (dG (dv (Qa 0) (dG Qg)))) Qi)))⟩))) (Qb (Q1 gM (Rm hr) (Qa 0)) Qi))) gr)))))))))))
abbrev HW:Stmt:=fb 67
theorem QbY:Qo ["_law_office","_law_found"] ["_law_office"] (Qc HW):=⟨rfl,rfl,rfl,dk,rfl,dk,dk⟩
def zB:SD->Out Fl:=(dj (e8 1 (eC .non)) (dj (jq ["TooMany"] (jm 1 (i8 (λxs=>Q7 (xs++[])) (dW (dU 0) dY))) (e8 1 (eC .non))) (eV (dU 1))))
def sT:List D->Out D:=dy false 1 2 zB
theorem LA(d0:D):sT [d0]=(zB [zk d0,none]>>=eN false):=rfl
theorem Xo{eS:Addr}(F:FunV K "_law_narrowed" "_law_narrowed" HW f fd dV)(Xp:tV P w K mg base CT "narrowed" 8 true [] Q7)(jH:mg "TooMany"=some (.ref eS))(kQ:CT "TooMany"=some eS)(gk:pG K eS)(ia:∀ c∈(["TooMany"]:List Str),∃ Cc,CT c=some Cc/\PySem.W.subIn K (.ref Cc) (.ref eS)=some true):"f"^9 ["_law_office"] false sT:=
 (@gE P w K mg base CT false _ _ _ f fd dV _ _ 8 zB F QbY λeE A outer s H E G hr=>
  (Qf (Qy (i:=1) QbY.nd rfl (oi rfl) AH) (Qf (Tw (cs:=["TooMany"]) rfl rfl gr jH gk ia (Rx (Rw (i:=1) QbY.nd rfl (oi rfl) (FF Xp (Rm hr) (Qb (Qa 0) Qi) gr))) (λea=>(Qh (Qy (i:=1) QbY.nd rfl (oi rfl) AH)))) (Qh (QH (Qa 1))))) :)
abbrev CI:Stmt:=fb 65
theorem Qb9:Qo ["_law_office","_law_plan","_law_k","_law_clerk","_law_rows"] ["_law_office"] (Qc CI):=⟨rfl,rfl,rfl,dk,rfl,dk,dk⟩
abbrev Xq:PySem.Scope:={ kind:=PySem.ScopeKind.function,names:=[ (PySem.Str.ofString ".0",PySem.NameKind.local),(PySem.Str.ofString "_law_state",PySem.NameKind.local),(PySem.Str.ofString "_law_clerk",PySem.NameKind.free)],isGenerator:=false,isCoroutine:=false,more:=[]:PySem.Scope }
theorem Qh4:Qu ["_law_state","_law_clerk"] [none,some 3] Xq (Qc CI) ["_law_office","_law_plan","_law_k","_law_clerk","_law_rows"]:=⟨rfl,dk,dk,rfl,dk,dk⟩
def HX:SD->Out D:=(e7 Qd "row" (λ_=>sR) (dU 1) (dW (dU 0) dY))
def CJ:SD->Out Fl:=(dj (e8 3 (e7 Ql "clerk" (λ_=>Q9) (dU 0) (dW (dU 2) dY))) (dj (e8 4 (dc [none,some 3] (eR (e7 Qd "period" (λ_=>QG) (dU 3) dY)) (gN 0) da HX)) (nE 1 (i3 (dW (dU 3) (dW (dU 4) (dW (e7 Ql "leads" (λ_=>qf) (dU 0) (dW (dU 2) dY)) (dW (e2 eF (e7 Ql "begin" (λ_=>sS) (dU 0) dY) (dU 2)) dY))))))))
def CL:SD->Out Fl:=(dj (fL 1 (fU dY)) (dj (gu (gN 2) (eR (e7 Ql "many" (λ_=>Q0) (dU 0) dY)) CJ) (iT 1)))
def zC:List D->Out D:=dy true 1 5 CL
theorem Xr(d0:D):zC [d0]=(CL [zk d0,none,none,none,none]>>=eN true):=rfl
theorem Xs(F:FunV K "_law_apart" "_law_apart" CI f fd dV)(du:mg "range"=none)(gz:fK P w K mg base CT g8 "many" 1 Ql (λc=>gY K CT false ((λ_=>Q0) c)))(fZ:fK P w K mg base CT g8 "clerk" 1 Ql (λc=>gY K CT false ((λ_=>Q9) c)))(eL:fK P w K mg base CT g8 "period" 1 Qd (λc=>gY K CT false ((λ_=>QG) c)))(jG:fK P w K mg base CT g8 "row" 1 Qd (λc=>gY K CT true ((λ_=>sR) c)))(gi:fK P w K mg base CT g8 "leads" 1 Ql (λc=>gY K CT true ((λ_=>qf) c)))(gj:fK P w K mg base CT g8 "begin" 1 Ql (λc=>gY K CT true ((λ_=>sS) c))):"f"^2 ["_law_office"] true zC:=
 (@gE P w K mg base CT true _ _ _ f fd dV _ _ 1 CL F Qb9 λeE A outer s H E G hr=>
  (Qf (nV (i:=1) Qb9.nd rfl (oi rfl) (k7 Qi)) (Qf (mY aq rfl (QL gr du (dG (Q1 gz (Rm hr) (Qa 0)))) (Qq (i:=2) Qb9.nd rfl (oi rfl)) (Qn _) (Qf (Qy (i:=3) Qb9.nd rfl (Or.inr rfl) (tZ fZ (Rm hr) (Qa 0) (Qb (Qa 2) Qi))) (Qf (tU (i:=4) rfl Qh4 (dO (QL gr du (dG (Q1 eL (Rm hr) (Qa 3))))) (λς=>Qt (Qm rfl ς)) (Qn _) (λfp s H G p=>⟨(Qq (i:=0) Qh4.nd rfl (oi rfl) (hf:=Or.inr rfl)),Qw,(tZ jG (Rm hr) (Qa 1) (Qb (Qa 0) Qi))⟩) Qb9.nd rfl (oi rfl)) (Qh (rP 1 (nU (Qb (Qa 3) (Qb (Qa 4) (Qb (tZ gi (Rm hr) (Qa 0) (Qb (Qa 2) Qi)) (Qb (dv (Q1 gj (Rm hr) (Qa 0)) (dG (Qa 2))) Qi))))) rfl (oi rfl)))))) (Qh (ue 1 rfl (oi rfl))))) :)
abbrev CM:Stmt:=fb 64
theorem Qcx:Qo ["_law_plan","_law_states","_law_desks","_law_out","_law_k","_law_rows","_law_row","_law_at","_law_lead"] ["_law_plan","_law_states","_law_desks","_law_out","_law_k"] (Qc CM):=⟨rfl,rfl,rfl,dk,rfl,dk,dk⟩
def CN:SD->Out Fl:=(dj (e8 8 (e2 eF (e2 eF (e2 eF (dU 0) (dU 4)) (eC (.int 2))) (dU 7))) (gW (eD (e2 mT (dU 8) (eC (.int 0)))) (jR 3 (e2 gC (e1 jD (eC (.int 1))) (dU 8)) (e2 fB (e2 eF (fg 3) (e2 gC (e1 jD (eC (.int 1))) (dU 8))) (e2 eF (dU 6) (dU 7)))) (jR 2 (dU 8) (e2 fB (e2 eF (fg 2) (dU 8)) (e2 eF (dU 6) (dU 7))))))
def zD:SD->Out Fl:=(dj (e8 5 (e2 eF (e2 eF (dU 0) (dU 4)) (eC (.int 1)))) (dj (e8 6 (e2 eF (dU 5) (e2 eF (fg 1) (dU 4)))) (dj (jR 2 (dU 4) (e2 gC (e2 eF (fg 2) (dU 4)) (eC (.int 1)))) (dj (jR 1 (dU 4) (e2 fA (e2 fB (e2 eF (fg 1) (dU 4)) (eC (.int 1))) (eA eB (dW (dU 5) dY)))) (gu (gN 7) (eR (eA eB (dW (dU 6) dY))) CN)))))
def zE:List D->Out (D×Option (List D)):=ma false [false,true,true,true,false] 9 zD
theorem Xt(d0 d1 d2 d3 d4:D):zE [d0,d1,d2,d3,d4]=(zD [zk d0,some (.s,d1),some (.s,d2),some (.s,d3),zk d4,none,none,none,none]>>=yF false [false,true,true,true,false]):=rfl
theorem Xu(F:FunV K "_law_step" "_law_step" CM f fd dV)(e9:mg "len"=none)(du:mg "range"=none):FnOk P w K mg base g8 1 f fd ["_law_plan","_law_states","_law_desks","_law_out","_law_k"] (qP K CT false [false,true,true,true,false] zE):=
 @Sr P w K mg base CT false "_law_step" "_law_step" CM f fd dV ["_law_plan","_law_states","_law_desks","_law_out","_law_k","_law_rows","_law_row","_law_at","_law_lead"] ["_law_plan","_law_states","_law_desks","_law_out","_law_k"] 0 zD [false,true,true,true,false] rfl F Qcx λeE A outer s H E G ps vs hr=>
  (Qf (Qy (i:=5) Qcx.nd rfl (oi rfl) (dv (dv (Qa 0) (dG (Qa 4))) (dG Qg))) (Qf (Qy (i:=6) Qcx.nd rfl (oi rfl) (dv (Qa 5) (kI (qC 1) (dG (Qa 4))))) (Qf (Am 2 (dG (Qa 4)) (kZ (kI (qC 2) (dG (Qa 4))) (dG Qg)) rfl (oi rfl)) (Qf (Am 1 (dG (Qa 4)) (Q4 (dG (QZ (kI (qC 1) (dG (Qa 4))) (dG Qg))) (dG (QW gr e9 (Qr (dG (Qa 5)) Qx)))) rfl (oi rfl)) (Qh (mY aq rfl (QL gr du (dG (QW gr e9 (Qr (dG (Qa 6)) Qx)))) (Qq (i:=7) Qcx.nd rfl (oi rfl)) (Qn _) (Qf (Qy (i:=8) Qcx.nd rfl (oi rfl) (dv (dv (dv (Qa 0) (dG (Qa 4))) (dG Qg)) (dG (Qa 7)))) (Qh (eX (ji (dG (Qa 8)) (dG Qg)) (Qh (Am 3 (dG (kZ (dG (pI (dG Qg))) (dG (Qa 8)))) (QZ (kI (qC 3) (dG (kZ (dG (pI (dG Qg))) (dG (Qa 8))))) (dG (dv (Qa 6) (dG (Qa 7))))) rfl (oi rfl))) (Qh (Am 2 (dG (Qa 8)) (QZ (kI (qC 2) (dG (Qa 8))) (dG (dv (Qa 6) (dG (Qa 7))))) rfl (oi rfl))))))))))))
abbrev CO:Stmt:=fb 66
theorem Qa4:Qo ["_law_plan","_law_states","_law_k","_law_many","_law_doors","_law_back","_law_desks","_law_out","_law_order","_law_done","_law_at"] ["_law_plan","_law_states","_law_k","_law_many","_law_doors","_law_back"] (Qc CO):=⟨rfl,rfl,rfl,dk,rfl,dk,dk⟩
def uB:SD->Out Fl:=(gW (eD (e2 oA (e2 eF (fg 6) (dU 10)) (eC (.int 0)))) (yH [none,some 1,some 6,some 7,none] zE (dW (dU 0) (dW (iy 1) (dW (iy 6) (dW (iy 7) (dW (dU 10) dY)))))) fH)
def CP:SD->Out Bool:=(iS (eD (e2 oA (eA (f1 iM) (dW (fg 6) dY)) (eC (.int 0)))) (eD (e2 mT (dU 9) (eC (.int 4000)))))
def HY:SD->Out Fl:=(dj (gu (gN 10) (fJ (dU 8)) uB) (e8 9 (e2 fB (dU 9) (eC (.int 1)))))
def zF:SD->Out (D×SD):=(jo (fL 6 (e2 oG (fU (dW (eC (.int 0)) dY)) (eA eB (dW (dU 0) dY)))) (jo (lF 6 (dU 2) (dU 3)) (jo (fL 7 (e2 oG (fU (dW (eC (.int 0)) dY)) (dU 4))) (jo (e8 8 (yD (dW (eA eB (dW (dU 0) dY)) dY))) (jo (gW (eD (dU 5)) (e8 8 (oW (dU 8))) fH) (jo (e8 9 (eC (.int 0))) (jo (kK CP HY) (tj 7))))))))
def pZ:List D->Out (D×Option (List D)):=me [false,true,false,false,false,false] 11 zF
theorem Xv(d0 d1 d2 d3 d4 d5:D):pZ [d0,d1,d2,d3,d4,d5]=(zF [zk d0,some (.s,d1),zk d2,zk d3,zk d4,zk d5,none,none,none,none,none]>>=λr=>lJ [false,true,false,false,false,false] r.2>>=λws=>.ok (r.1,some ws)):=rfl
theorem Xw(F:FunV K "_law_rest" "_law_rest" CO f fd dV)(Xx:mB P w K mg base CT "_law_step" 1 false [false,true,true,true,false] zE)(e9:mg "len"=none)(eO:mg "list"=none)(du:mg "range"=none)(j1:mg "sum"=none):FnOk P w K mg base g8 2 f fd ["_law_plan","_law_states","_law_k","_law_many","_law_doors","_law_back"] (qP K CT true [false,true,false,false,false,false] pZ):=
 @Sy P w K mg base CT "_law_rest" "_law_rest" CO f fd dV ["_law_plan","_law_states","_law_k","_law_many","_law_doors","_law_back","_law_desks","_law_out","_law_order","_law_done","_law_at"] ["_law_plan","_law_states","_law_k","_law_many","_law_doors","_law_back"] 1 zF 7 [false,true,false,false,false,false] rfl F Qa4 λeE A outer s H E G ps vs hr=>
  (tm (nV (i:=6) Qa4.nd rfl (oi rfl) (Jr (k7 (Qb Qg Qi)) (dG (QW gr e9 (Qr (dG (Qa 0)) Qx))))) (tm (RS 6 (dG (Qa 2)) (Qa 3) rfl (oi rfl)) (tm (nV (i:=7) Qa4.nd rfl (oi rfl) (Jr (k7 (Qb Qg Qi)) (dG (Qa 4)))) (tm (Qy (i:=8) Qa4.nd rfl (oi rfl) (dF (Sq hr.hd gr eO gr du (Qr (dG (QW gr e9 (Qr (dG (Qa 0)) Qx))) Qx)))) (tm (eX (jz (Qa 5)) (Qh (Qy (i:=8) Qa4.nd rfl (oi rfl) (dF (Kq (Qa 8) (qH (dG (pI (dG Qg)))))))) QR) (tm (Qy (i:=9) Qa4.nd rfl (oi rfl) Qg) (tm (El aq (DW.dt (Ee (mV (dG (Aj rfl gr j1 (Qr (qC 6) Qx))) (dG Qg)) (Ed (ji (dG (Qa 9)) (dG Qg))))) (Qf (mY aq rfl (QP (Qa 8)) (Qq (i:=10) Qa4.nd rfl (oi rfl)) (Qn _) (Qh (eX (mV (kI (qC 6) (dG (Qa 10))) (dG Qg)) (Qh (Su (ms:=[none,some 1,some 6,some 7,none]) Xx (Rm hr) (hJ (Qa 0) (lL 1 (lL 6 (lL 7 (hJ (Qa 10) FZ) rfl (oi rfl)) rfl (oi rfl)) rfl (oi rfl))) gr)) QR))) (Qh (Qy (i:=9) Qa4.nd rfl (oi rfl) (QZ (dG (Qa 9)) (dG Qg)))))) (Sx rfl (oi rfl)))))))))
abbrev mq:Stmt:=fb 68
theorem QaW:Qo ["_law_script","_law_number","_law_doors","_law_plan","_law_entries","_law_office","_law_found","_law_other","_law_starts","_law_states","_law_narrow_states","_law_cell_here","_law_at","_law_many","_law_due"] ["_law_script"] (Qc mq):=⟨rfl,rfl,rfl,dk,rfl,dk,dk⟩
abbrev Xy:PySem.Scope:={ kind:=PySem.ScopeKind.function,names:=[ (PySem.Str.ofString ".0",PySem.NameKind.local),(PySem.Str.ofString "_law_k",PySem.NameKind.local),(PySem.Str.ofString "_law_cell",PySem.NameKind.globalImplicit),(PySem.Str.ofString "len",PySem.NameKind.globalImplicit),(PySem.Str.ofString "_law_plan",PySem.NameKind.free),(PySem.Str.ofString "_law_script",PySem.NameKind.free)],isGenerator:=false,isCoroutine:=false,more:=[]:PySem.Scope }
theorem QqT:Qu ["_law_k","_law_script","_law_plan"] [none,some 0,some 3] Xy (Qc mq) ["_law_script","_law_number","_law_doors","_law_plan","_law_entries","_law_office","_law_found","_law_other","_law_starts","_law_states","_law_narrow_states","_law_cell_here","_law_at","_law_many","_law_due"]:=⟨rfl,dk,dk,rfl,dk,dk⟩
def CQ:SD->Out D:=(e2 fA (eA (λxs=>oX (xs++[])) (dW (dU 1) (dW (e2 fB (eC (.int 6)) (dU 0)) dY))) (eA eB (dW (dU 2) dY)))
abbrev Xz:PySem.Scope:={ kind:=PySem.ScopeKind.function,names:=[ (PySem.Str.ofString ".0",PySem.NameKind.local),(PySem.Str.ofString "_law_clerk",PySem.NameKind.local),(PySem.Str.ofString "len",PySem.NameKind.globalImplicit)],isGenerator:=false,isCoroutine:=false,more:=[]:PySem.Scope }
theorem Qrr:Qu ["_law_clerk"] [none] Xz (Qc mq) ["_law_script","_law_number","_law_doors","_law_plan","_law_entries","_law_office","_law_found","_law_other","_law_starts","_law_states","_law_narrow_states","_law_cell_here","_law_at","_law_many","_law_due"]:=⟨rfl,dk,dk,rfl,dk,dk⟩
def HZ:SD->Out D:=(eA eB (dW (e2 eF (dU 0) (eC (.int 1))) dY))
abbrev Y0:PySem.Scope:={ kind:=PySem.ScopeKind.function,names:=[ (PySem.Str.ofString ".0",PySem.NameKind.local),(PySem.Str.ofString "_law_name",PySem.NameKind.local),(PySem.Str.ofString "_law_k",PySem.NameKind.local)],isGenerator:=false,isCoroutine:=false,more:=[]:PySem.Scope }
theorem QlA:Qu ["_law_name","_law_k"] [none,none] Y0 (Qc mq) ["_law_script","_law_number","_law_doors","_law_plan","_law_entries","_law_office","_law_found","_law_other","_law_starts","_law_states","_law_narrow_states","_law_cell_here","_law_at","_law_many","_law_due"]:=⟨rfl,dk,dk,rfl,dk,dk⟩
def Ha:SD->Out D:=(dU 1)
abbrev Y3:PySem.Scope:={ kind:=PySem.ScopeKind.function,names:=[(PySem.Str.ofString ".0",PySem.NameKind.local),(PySem.Str.ofString "_law_clerk",PySem.NameKind.local)],isGenerator:=false,isCoroutine:=false,more:=[]:PySem.Scope }
theorem Qrl:Qu ["_law_clerk"] [none] Y3 (Qc mq) ["_law_script","_law_number","_law_doors","_law_plan","_law_entries","_law_office","_law_found","_law_other","_law_starts","_law_states","_law_narrow_states","_law_cell_here","_law_at","_law_many","_law_due"]:=⟨rfl,dk,dk,rfl,dk,dk⟩
def Hb:SD->Out D:=(e2 eF (dU 0) (eC (.int 3)))
abbrev Y4:PySem.Scope:={ kind:=PySem.ScopeKind.function,names:=[(PySem.Str.ofString ".0",PySem.NameKind.local),(PySem.Str.ofString "_law_clerk",PySem.NameKind.local)],isGenerator:=false,isCoroutine:=false,more:=[]:PySem.Scope }
theorem QqZ:Qu ["_law_clerk"] [none] Y4 (Qc mq) ["_law_script","_law_number","_law_doors","_law_plan","_law_entries","_law_office","_law_found","_law_other","_law_starts","_law_states","_law_narrow_states","_law_cell_here","_law_at","_law_many","_law_due"]:=⟨rfl,dk,dk,rfl,dk,dk⟩
def Hc:SD->Out D:=(e2 eF (dU 0) (eC (.int 3)))
def zG:SD->Out Fl:=(dj (e8 12 (e2 fA (dU 11) (eA eB (dW (dU 4) dY)))) (dj (e8 13 (e2 fB (eC (.int 1)) (e2 fA (e2 fh (dU 11) (eC (.int 3))) (eC (.int 3))))) (dj (lO 14 [none,some 9,none,none,none,none] pZ (dW (dU 3) (dW (iy 9) (dW (e2 eF (dU 4) (dU 12)) (dW (dU 13) (dW (dU 2) (dW (e2 iL (e2 fA (e2 fh (dU 11) (eC (.int 9))) (eC (.int 2))) (eC (.int 0))) dY))))))) (oP (eW [none,some 10,none,none,none,none] pZ (dW (dU 7) (dW (iy 10) (dW (e2 eF (dU 8) (dU 12)) (dW (dU 13) (dW (dU 2) (dW (e2 iL (e2 fA (e2 fh (dU 11) (eC (.int 18))) (eC (.int 2))) (eC (.int 0))) dY))))))) (dU 14) (eV (eC (.bl false))) fH))))
def CS:SD->Out Fl:=(dj (e8 0 (eA (λxs=>uv (xs++[])) (dW (dU 0) (dW (eC (.int 44)) dY)))) (dj (e8 1 (eA (λxs=>oX (xs++[])) (dW (dU 0) (dW (eC (.int 0)) dY)))) (dj (e8 2 (e2 fB (eC (.int 1)) (e2 fA (dU 1) (eC (.int 3))))) (dj (e8 3 (eA (λxs=>vB (xs++[])) (dW (dU 0) (dW (eC (.int 1)) (dW (eC (.int 4)) (dW (dU 2) (dW (eC (.bl true)) dY))))))) (dj (e8 4 (dc [none,some 0,some 3] (eR (e2 fB (eC (.int 1)) (e2 fA (e2 fh (dU 1) (eC (.int 3))) (eC (.int 3))))) (gN 0) da CQ)) (dj (e8 5 (eA (λxs=>vE (xs++[])) (dW (dU 3) (dW (dU 4) (dW (dU 2) (dW (e2 fh (dU 1) (eC (.int 9))) dY)))))) (dj (e8 6 (eA (λxs=>sT (xs++[])) (dW (dU 5) dY))) (dj (gW (eD (e2 xU (dU 6) (eC .non))) (eV (e2 oA (eA (f1 iM) (dW (dc [none] (fJ (dU 3)) (gN 0) da HZ) dY)) (eC (.int 20)))) fH) (dj (e8 7 (eA (λxs=>zC (xs++[])) (dW (dU 6) dY))) (dj (e8 8 (dc [none,none] (fJ (e7 Ql "entries" (λ_=>QX) (dU 6) dY)) (gT [0,1]) da Ha)) (dj (gW (eD (e2 lD (eA eB (dW (dU 8) dY)) (eA eB (dW (dU 4) dY)))) (eV (eC (.bl false))) fH) (dj (fL 9 (dc [none] (fJ (dU 3)) (gN 0) da Hb)) (dj (fL 10 (dc [none] (fJ (dU 7)) (gN 0) da Hc)) (dj (gu (gN 11) (fJ (mU (dU 0) (fV (eC (.int 12))) (fV (eC (.int 44))))) zG) (eV (eC (.bl true)))))))))))))))))
def sU:List D->Out D:=dy false 1 15 CS
theorem Y5(d0:D):sU [d0]=(CS [zk d0,none,none,none,none,none,none,none,none,none,none,none,none,none,none]>>=eN false):=rfl
theorem Y6(F:FunV K "law" "law" mq f fd dV)(Y7:"e"^uv "_law_mixed" 1 true)(yd:"e"^oX "_law_cell" 1 false)(Y8:"e"^vB "_law_drawn" 8 true)(Y9:"e"^vE "_law_built" 7 true)(YA:"e"^sT "_law_narrowed" 9 false)(YB:"e"^zC "_law_apart" 2 true)(LB:mB P w K mg base CT "_law_rest" 2 true [false,true,false,false,false,false] pZ)(du:mg "range"=none)(e9:mg "len"=none)(j1:mg "sum"=none)(fo:fK P w K mg base CT g8 "entries" 1 Ql (λc=>gY K CT true ((λ_=>QX) c))):"f"^10 ["_law_script"] false sU:=
 (@gE P w K mg base CT false _ _ _ f fd dV _ _ 9 CS F QaW λeE A outer s H E G hr=>
  (Qf (Qy (i:=0) QaW.nd rfl (Or.inr rfl) (eI Y7 (Rm hr) (Qb (Qa 0) (Qb Qg Qi)) gr)) (Qf (Qy (i:=1) QaW.nd rfl (oi rfl) (eI yd (Rm hr) (Qb (Qa 0) (Qb Qg Qi)) gr)) (Qf (Qy (i:=2) QaW.nd rfl (oi rfl) (QZ (dG Qg) (dG (Q4 (dG (Qa 1)) (dG Qg))))) (Qf (Qy (i:=3) QaW.nd rfl (Or.inr rfl) (eI Y8 (Rm hr) (Qb (Qa 0) (Qb Qg (Qb Qg (Qb (Qa 2) (Qb gX Qi))))) gr)) (Qf (tU (i:=4) rfl QqT (dO (QL gr du (dG (QZ (dG Qg) (dG (Q4 (dG (qE (dG (Qa 1)) (dG Qg))) (dG Qg))))))) (λς=>Qt (Qm rfl ς)) (Qn _) (λfp s H G p=>⟨(Qq (i:=0) QqT.nd rfl (oi rfl) (hf:=Or.inr rfl)),Qw,(Q4 (dG (eI yd (Rm hr) (Qb (Qa 1) (Qb (QZ (dG Qg) (dG (Qa 0))) Qi)) gr)) (dG (QW gr e9 (Qr (dG (Qa 2)) Qx))))⟩) QaW.nd rfl (oi rfl)) (Qf (Qy (i:=5) QaW.nd rfl (oi rfl) (eI Y9 (Rm hr) (Qb (Qa 3) (Qb (Qa 4) (Qb (Qa 2) (Qb (qE (dG (Qa 1)) (dG Qg)) Qi)))) gr)) (Qf (Qy (i:=6) QaW.nd rfl (oi rfl) (eI YA (Rm hr) (Qb (Qa 5) Qi) gr)) (Qf (eX (xW (dG (Qa 6)) (dG AH)) (Qh (QH (xQ (dG (Aj rfl gr j1 (Qr (dG (dF (QB rfl Qrr (dO (QP (Qa 3))) (λς=>Qt (Qm rfl ς)) (Qn _) (λfp s H G p=>⟨(Qq (i:=0) Qrr.nd rfl (oi rfl) (hf:=Or.inr rfl)),Qw,(QW gr e9 (Qr (dG (dv (Qa 0) (dG Qg))) Qx))⟩)))) Qx))) (dG Qg)))) QR) (Qf (Qy (i:=7) QaW.nd rfl (oi rfl) (eI YB (Rm hr) (Qb (Qa 6) Qi) gr)) (Qf (tU (i:=8) rfl QlA (dO (QP (Q1 fo (Rm hr) (Qa 6)))) (λς=>Jx (λi hi=>Qm (by revert hi;revert i;decide) ς)) (AO _) (λfp s H G p=>⟨(AQ rfl (pL (i:=0) QlA.nd rfl (oi rfl) (pL (i:=1) QlA.nd rfl (oi rfl) xa (hf:=Or.inr rfl)) (hf:=Or.inr rfl))),Qw,(Qa 1)⟩) QaW.nd rfl (oi rfl)) (Qf (eX (oF hr.units (dG (QW gr e9 (Qr (dG (Qa 8)) Qx))) (dG (QW gr e9 (Qr (dG (Qa 4)) Qx)))) (Qh (QH gX)) QR) (Qf (K2 (i:=9) rfl Qrl (dO (QP (Qa 3))) (λς=>Qt (Qm rfl ς)) (Qn _) (λfp s H G p=>⟨(Qq (i:=0) Qrl.nd rfl (oi rfl) (hf:=Or.inr rfl)),Qw,(dv (Qa 0) (dG Qg))⟩) QaW.nd rfl (oi rfl)) (Qf (K2 (i:=10) rfl QqZ (dO (QP (Qa 7))) (λς=>Qt (Qm rfl ς)) (Qn _) (λfp s H G p=>⟨(Qq (i:=0) QqZ.nd rfl (oi rfl) (hf:=Or.inr rfl)),Qw,(dv (Qa 0) (dG Qg))⟩) QaW.nd rfl (oi rfl)) (Qf (mY aq rfl (QP (dF (lB (Qa 0) (qH (dG Qg)) (qH (dG Qg))))) (Qq (i:=11) QaW.nd rfl (oi rfl)) (Qn _) (Qf (Qy (i:=12) QaW.nd rfl (oi rfl) (Q4 (dG (Qa 11)) (dG (QW gr e9 (Qr (dG (Qa 4)) Qx))))) (Qf (Qy (i:=13) QaW.nd rfl (oi rfl) (QZ (dG Qg) (dG (Q4 (dG (qE (dG (Qa 11)) (dG Qg))) (dG Qg))))) (Qf (Sz (i:=14) (ms:=[none,some 9,none,none,none,none]) LB (Rm hr) (hJ (Qa 3) (lL 9 (hJ (dv (Qa 4) (dG (Qa 12))) (hJ (Qa 13) (hJ (Qa 2) (hJ (jk hr.units (dG (Q4 (dG (qE (dG (Qa 11)) (dG Qg))) (dG Qg))) (dG Qg)) FZ)))) rfl (oi rfl))) gr QaW.nd rfl (oi rfl)) (Qh (T1 hr.units (KY (ms:=[none,some 10,none,none,none,none]) LB (Rm hr) (hJ (Qa 7) (lL 10 (hJ (dv (Qa 8) (dG (Qa 12))) (hJ (Qa 13) (hJ (Qa 2) (hJ (jk hr.units (dG (Q4 (dG (qE (dG (Qa 11)) (dG Qg))) (dG Qg))) (dG Qg)) FZ)))) rfl (oi rfl))) gr) (dG (Qa 14)) (Qh (QH gX)) QR)))))) (Qh (QH gX)))))))))))))))) :)
end
end My
set_option exponentiation.threshold 20000
namespace My
open PySem PySem.Spec L2 DL
set_option hygiene false
local macro_rules
 | `(tactic|exists "E",$xs,*)=>`(tactic|simp[$[$xs:term],*,dy,eN,dj,jN,e8,eV,gW,fH,dU,eC,e1,e2,eA,f1,dY,dW,eD,iS,iZ,f7,iK,Jh,oB,qG,i3,fU,gS,fk,nC,pK,fV,xY,m4,Q8,gN,gT,eB,yL,dQ,Out.bind_exc,Out.bind_stuck,Out.pure_eq,D.scal,rm,Q3,qS,Fk,lb,uq,rn,yK,nI,ur,aZ,cI,aj,List.map_nil,List.cons_append,cg,az,bA,bF,List.set_cons_zero,List.set_cons_succ,List.replicate,Nat.reduceAdd,Nat.reduceSub,Nat.reduceLeDiff,bX,cD,reduceIte,Bool.not_true,Bool.not_false,Bool.true_and,Bool.and_true,Bool.false_and,Bool.and_false,Bool.or_true,Bool.true_or,Bool.or_false,Bool.false_or,Bool.false_eq_true,decide_true,decide_false,d9,cQ,cw,Int.reduceEq,Int.reduceLT,Int.reduceLE,Int.reduceNeg,Nat.reduceEqDiff, ↓reduceIte,not_true_eq_false,not_false_eq_true])
 | `(tactic|exists "O",$xs,*)=>`(tactic|simp only[$[$xs:term],*,dy,eN,dj,jN,e8,eV,gW,fH,dU,eC,e1,e2,eA,f1,dY,dW,eD,iS,iZ,f7,iK,Jh,oB,qG,i3,fU,gS,fk,nC,pK,fV,xY,m4,Q8,gN,gT,eB,yL,dQ,Out.bind_exc,Out.bind_stuck,Out.pure_eq,D.scal,rm,Q3,qS,Fk,lb,uq,rn,yK,nI,ur,aZ,cI,aj,List.map_nil,List.cons_append,cg,az,bA,bF,List.set_cons_zero,List.set_cons_succ,List.replicate,Nat.reduceAdd,Nat.reduceSub,Nat.reduceLeDiff,bX,cD,reduceIte,Bool.not_true,Bool.not_false,Bool.true_and,Bool.and_true,Bool.false_and,Bool.and_false,Bool.or_true,Bool.true_or,Bool.or_false,Bool.false_or,Bool.false_eq_true,decide_true,decide_false,d9,cQ,cw,Int.reduceEq,Int.reduceLT,Int.reduceLE,Int.reduceNeg,Nat.reduceEqDiff, ↓reduceIte,not_true_eq_false,not_false_eq_true])
set_option hygiene true
local macro_rules | `(tactic| walk_at "g") => `(tactic| ((repeat (first | exact Te | apply Tf));done))
local macro_rules | `(tactic| walk_at "s") => `(tactic| repeat (first | exact Kn | apply Ko))
local macro_rules | `(tactic| walk_at "all") => `(tactic| repeat (first | with_reducible exact Kk | (apply Kl;focus walk_at "s")))
local macro_rules | `(tactic| walk_at "cap") => `(tactic| repeat (first | exact jU | apply sI | (apply Av;focus walk_at "g") | (apply c_o;focus walk_at "g") | (apply c_l;focus walk_at "g") | (apply c_s;focus walk_at "g")))
local macro_rules | `(tactic| walk_at "b") => `(tactic| first | rfl | with_reducible assumption | (simp only[cQ,Bool.not_eq_false',d9,cw,Bool.not_true,Bool.not_false];first | with_reducible assumption | omega) | (simp;done))
local macro_rules | `(tactic| walk_at "p") => `(tactic| first | decide | with_reducible assumption | omega)
local macro_rules | `(tactic| walk_at "l") => `(tactic| first | decide | with_reducible assumption | (simp only[aD,aZ,cI,aC,aV];omega) | omega | (simp;omega))
local macro_rules | `(tactic| walk_at "e") => `(tactic| first
 | ((with_reducible apply Fp);with_reducible assumption)
 | with_reducible exact r_okR | with_reducible exact Td
 | with_reducible apply dX | with_reducible apply qT | with_reducible exact eG | with_reducible exact df | with_reducible exact mh | with_reducible exact kq | with_reducible exact sA
 | with_reducible exact rm _ _ | with_reducible exact Q3 _ _ | with_reducible exact qS _ | with_reducible exact Fk _ | with_reducible exact lb _ _ | with_reducible exact uq _ _ | with_reducible exact rn _ _ | with_reducible exact yK _ _ | with_reducible exact nI _ _ | with_reducible exact ur _ _
 | with_reducible exact yJ (by walk_at "p")
 | with_reducible exact iA | with_reducible exact fW | with_reducible exact r_rtS rfl
 | with_reducible apply yN
 | with_reducible exact Kn | with_reducible apply Ko
 | with_reducible exact Tg | with_reducible apply Th
 | with_reducible exact Kk | with_reducible apply Kl
 | with_reducible exact jU | with_reducible apply sI | ((with_reducible apply Av);focus walk_at "g") | ((with_reducible apply c_o);focus walk_at "g") | ((with_reducible apply c_l);focus walk_at "g") | ((with_reducible apply c_s);focus walk_at "g")
 | ((with_reducible apply r_scal);exact rfl)
 | ((with_reducible apply yO);focus walk_at "g")
 | ((with_reducible apply r_bits);with_reducible assumption)
 | ((with_reducible apply bd_mod);focus walk_at "p") | with_reducible apply bd_add | with_reducible apply bd_sub | with_reducible apply bd_mul | with_reducible apply bd_div | with_reducible apply bd_neg | with_reducible exact bd_lit rfl
 | ((with_reducible apply r_dec);focus exact rfl)
 | ((with_reducible apply yP);focus walk_at "l")
 | with_reducible apply sJ
 | ((with_reducible apply r_fdiv);focus walk_at "p")
 | ((with_reducible apply pV);focus walk_at "b")
 | ((with_reducible apply sC);focus walk_at "b")
 | with_reducible apply Qe | with_reducible apply dZ | with_reducible apply gw | with_reducible apply dh | with_reducible apply dz | with_reducible apply nJ | with_reducible apply oV | with_reducible apply Qj | with_reducible apply QT | with_reducible apply Ki | with_reducible apply oS | with_reducible apply qU | with_reducible apply TL | with_reducible apply r_eOr | with_reducible apply r_eNot | with_reducible apply oU | with_reducible apply yM | with_reducible apply TM | with_reducible apply TN | with_reducible apply fu | with_reducible apply lg | with_reducible apply r_drop | with_reducible apply hU | with_reducible apply fX | with_reducible apply r_scalar | with_reducible apply r_nonScal | with_reducible apply iX | with_reducible apply sE | with_reducible apply QS | with_reducible apply j0 | with_reducible apply tx | with_reducible apply sF | with_reducible apply r_for | with_reducible apply gP | with_reducible apply r_itT | with_reducible apply r_itE | with_reducible apply r_itZ | with_reducible apply QV | with_reducible apply fe | with_reducible apply nL | with_reducible apply r_slB | with_reducible apply r_ixO | with_reducible apply r_meth | with_reducible apply qV | with_reducible apply jT | with_reducible apply sD | with_reducible apply QE | with_reducible apply Km | with_reducible apply TR | with_reducible apply TQ | with_reducible apply r_lm)
abbrev CK:List Str:=Qd
theorem LD{c:Str}(h:CK.contains c=true):Qp.contains c=true:=by
 have hm:c∈Qd:=by simpa using h
 simp only[Qd,aL,b9,cB]at hm
 rcases hm with rfl | rfl | rfl | rfl<;>decide +kernel
noncomputable def dl(r:List Int):D:=.lst (r.map .int)
def eh(t:List (List Int)):D:=.lst (t.map dl)
theorem Hd{js:List (Option Nat)}{its:SD->Out (List D)}{g:D->SD->Out SD}{e:SD->Out D}{ς:SD}{xs:List D}{h:D->D}(hi:its ς=.ok xs)(ht:∀ x∈xs,fE js g da e ς x=.ok (some (h x)))(hl:xs.length<=1000):
 dc js its g da e ς=.ok (.lst (xs.map h)):=by
 unfold dc
 rw[hi,dQ,Au (h:=λx=>some (h x)) ht,dQ]
 have e:xs.filterMap (λx=>some (h x))=xs.map h:=by rw[← List.filterMap_eq_map];rfl
 rw[e,aA (pU (by rw[aD];exact hl))]
theorem YC{js:List (Option Nat)}{its:SD->Out (List D)}{e:SD->Out D}{ς:SD}{a b:List Int}(f:Int->Int->Int)(hi:its ς=.ok (List.zipWith (λx y=>.tup [x,y]) (a.map .int) (b.map .int)))
 (ht:∀ x∈a,∀ y∈b,fE js (gT [0,1]) da e ς (.tup [.int x,.int y])=.ok (some (.int (f x y)))) (hl:a.length<=1000):dc js its (gT [0,1]) da e ς=.ok (dl (List.zipWith f a b)):=by
 have hz:List.zipWith (λx y=>D.tup [x,y]) (a.map .int) (b.map .int)=(List.zip a b).map λp=>D.tup [.int p.1,.int p.2]:=by
  rw[List.zipWith_map,List.map_zip_eq_zipWith]
  rfl
 rw[Hd (h:=λd=>match d with | .tup [.int x,.int y]=>.int (f x y) | _=>.non) (by rw[hi,hz]) ?_ ?_]
 ·unfold dl
  rw[aY,List.map_zipWith,List.map_zip_eq_zipWith]
  rfl
 ·intro x hx
  obtain⟨⟨p,q⟩,hp,rfl⟩:=ah.mp hx
  exact ht p (cf hp).1 q (cf hp).2
 ·rw[aD,List.length_zip]
  omega
theorem sV{body:D->SD->Out Fl}{P:Nat->SD->Prop}:∀{xs:List D}(n:Nat),(∀ k x,xs[k]?=some x->∀ ς,P (n+k) ς->∃ ς',body x ς=zt ς'/\P (n+k+1) ς')->∀ ς,P n ς->∃ ς',fM body xs ς=zt ς'/\P (n+xs.length) ς'
 | [],n,_,ς,p=>⟨ς,rfl,p⟩
 | x::xs,n,h,ς,p=>by
  obtain⟨ς1,j9,p1⟩:=h 0 x rfl ς p
  obtain⟨ς2,lH,p2⟩:=sV (xs:=xs) (n+1) (λk y hy ς q=>by
   have:=h (k+1) y hy ς (by rw[show n+(k+1)=n+1+k by omega];exact q)
   rw[show n+(k+1)+1=n+1+k+1 by omega]at this
   exact this) ς1 p1
  refine⟨ς2,?_,by rw[aZ,show n+(xs.length+1)=n+1+xs.length by omega];exact p2⟩
  rw[fM,j9]
  exact lH
noncomputable def cs(t:List (List Int))(k j:Nat):Int:=((t.take k).map λr=>r.getD j 0).sum
def pre(t:List (List Int))(m k:Nat):List Int:=(List.range m).map (cs t k)
theorem YD{t:List (List Int)}{m k:Nat}{r:List Int}(hr:t[k]?=some r)(hm:r.length=m):List.zipWith (· + ·) (pre t m k) r=pre t m (k+1):=by
 apply bN
 intro j
 unfold pre
 rw[List.getElem?_zipWith,aH,aH]
 by_cases hj:j<m
 ·have h1:(List.range m)[j]?=some j:=by simp[hj]
  have h2:r[j]?=some r[j]:=by simp[hm,hj]
  rw[h1,h2]
  show some (cs t k j+r[j])=some (cs t (k+1) j)
  unfold cs
  rw[List.take_add_one,hr]
  simp[hm,hj,aM]
 ·have h1:(List.range m)[j]?=none:=by simp;omega
  rw[h1];rfl
theorem YE(t:List (List Int))(m:Nat):pre t m 0=List.replicate m 0:=by
 unfold pre
 rw[List.eq_replicate_iff]
 refine⟨by simp,λx hx=>?_⟩
 obtain⟨j,_,rfl⟩:=ah.mp hx
 rfl
structure Tb(t:List (List Int))(m:Nat):Prop where
 n1:1<=t.length
 n2:t.length<=12
 m6:m<=6
 row:∀ r∈t,r.length=m
 ent:∀ r∈t,∀ x∈r,0<=x/\x<=9
theorem YF{a b:List Int}(hl:a.length<=1000):uw [dl a,dl b]=.ok (dl (List.zipWith (· + ·) a b)):=by
 have h:=YC (js:=[none,none]) (its:=Ad (dU 0) (dU 1)) (e:=L6) (ς:=[zk (dl a),zk (dl b)]) (a:=a) (b:=b) (· + ·) rfl (λx _ y _=>rfl) hl
 rw[UJ]
 unfold B0 fD
 rw[h];rfl
def l4(t:List (List Int))(m:Nat)(k:Nat):D:=.lst ((List.range (k+1)).map λi=>dl (pre t m i))
theorem YG{t:List (List Int)}{m:Nat}(h:Tb t m):u4 [eh t]=.ok (l4 t m t.length):=by
 obtain⟨n1,n2,m6,row,_⟩:=h
 have r0:t[0]?=some t[0]:=by simp
 have He:(t[0]).length=m:=row _ (bG _)
 have LF:eF (eh t) (.int 0)=.ok (dl t[0]):=mC 0 (by rw[aH,r0];rfl)
 have hc:dc [none] (fJ (e2 eF (dU 0) (eC (.int 0)))) (gN 0) da G6 [zk (eh t),none,none]=.ok (dl (pre t m 0)):=by
  rw[Hd (xs:=(t[0]).map .int) (h:=λ_=>.int 0) (by simp only[fJ,e2,dU,eC,dQ,bA,LF];rfl) (λx _=>rfl) (by rw[aD];omega)]
  rw[YE,aY]
  unfold dl
  congr 2
  rw[List.map_replicate]
  exact List.eq_replicate_iff.mpr ⟨by simp[He],λx hx=>by obtain⟨_,_,rfl⟩:=ah.mp hx;rfl⟩
 obtain⟨ς',hL,a2,rfl⟩:=sV (body:=λx ς=>gN 2 x ς>>=λς'=>yX ς') (xs:=t.map dl) (P:=λk ς=>∃ a2,ς=[zk (eh t),zo (l4 t m k),a2]) 0
  (by
   rintro k x hx ς ⟨a2,rfl⟩
   rw[bX]at *
   rw[aH]at hx
   cases ht:t[k]? with
   | none=>rw[ht]at hx;cases hx
   | some r=>
    rw[ht]at hx
    cases hx
    have hk:k<t.length:=(aW.mp ht).1
    have YH:r.length=m:=row r (bW ht)
    have hl:(pre t m k).length=m:=by simp[pre]
    have s:=YF (a:=pre t m k) (b:=r) (by omega)
    rw[YD ht YH]at s
    have YI:jW ((List.range (k+1)).map λi=>dl (pre t m i)) (-1)=some (dl (pre t m k)):=by
     unfold jW kW
     simp
     rw[aA (by omega),show((-1:Int)+((k:Int)+1)).toNat=k by omega]
     simp
    refine⟨[zk (eh t),zo (l4 t m (k+1)),zk (dl r)],?_,_,rfl⟩
    have j9:nF 1 (e1 jD (eC (.int 1))) [zk (eh t),zo (l4 t m k),zk (dl r)]=.ok (dl (pre t m k)):=by
     unfold nF l4
     simp only[bF,bA,e1,eC,dQ,qS,YI];rfl
    have ly:decide (((List.range (k+1)).map λi=>dl (pre t m i)).length<sizeLine)=true:=by
     have:(1000:Nat)<=sizeLine:=by decide
     rw[aD,aC]
     exact aF (by omega)
    have zH:((List.range (k+1)).map λi=>dl (pre t m i))++[dl (pre t m (k+1))]=(List.range (k+1+1)).map λi=>dl (pre t m i):=by
     rw[b7 (n:=k+1),ao];rfl
    show yX [zk (eh t),zo (l4 t m k),zk (dl r)]=_
    unfold yX nE
    simp only[bF,bA,l4]
    have uj:eA (λxs=>uw (xs++[])) (dW (nF 1 (e1 jD (eC (.int 1)))) (dW (dU 2) dY)) [zk (eh t),zo (l4 t m k),zk (dl r)]=.ok (dl (pre t m (k+1))):=by
     simp only[eA,dW,dY,j9,dU,dQ,bF,bA,az,s]
    rw[show(D.lst ((List.range (k+1)).map λi=>dl (pre t m i)))=l4 t m k from rfl,uj,dQ,aA ly,zH]
    rfl)
  [zk (eh t),zo (l4 t m 0),none] ⟨_,rfl⟩
 rw[bX,aD]at hL
 have oj:=mf (g:=gN 2) (its:=fJ (dU 0)) (T:=yX) (ς:=[zk (eh t),zo (l4 t m 0),none]) (xs:=t.map dl) rfl hL
 rw[UM]
 unfold B3
 have hs:fL 1 (fU (dW (dc [none] (fJ (e2 eF (dU 0) (eC (.int 0)))) (gN 0) da G6) dY)) [zk (eh t),none,none]=zt [zk (eh t),zo (l4 t m 0),none]:=by
  simp only[fL,fU,dW,dY,hc,dQ,aZ,cI,yL,Nat.reduceAdd,Nat.reduceLeDiff,cv];rfl
 simp only[dj,hs,dQ,jN,oj]
 rfl
def ku(t:List (List Int))(m:Nat):List (Str×D):=[("table",eh t),("heads",l4 t m t.length)]
def ck(c:Str)(t:List (List Int))(m:Nat):D:=.ins c (ku t m)
theorem YJ(t:List (List Int))(m:Nat):(ku t m).lookup ("table":Str)=some (eh t):=by
 unfold ku;rw[aK,bD]
theorem YK{n:Str}(h1:(n == ("table":Str))=false)(h2:(n == ("heads":Str))=false)(t:List (List Int))(m:Nat):(ku t m).lookup n=none:=by
 unfold ku;rw[aK,h1,aK,h2];rfl
theorem zI(t:List (List Int))(m:Nat):lG "heads" (l4 t m t.length) [("table",eh t)]=ku t m:=by
 have:¬ (("table":Str)=("heads":Str)):=dk
 unfold lG
 rw[aB this];rfl
theorem CU{c:Str}(hc:CK.contains c=true){t:List (List Int)}{m:Nat}(h:Tb t m):QI c [] [eh t]=.ok (ku t m):=by
 have hk:dc [none] (fJ (dU 1)) (gN 0) da G7 [some (.s,.ins c []),zk (eh t)]=.ok (eh t):=by
  rw[Hd (xs:=t.map dl) (h:=id) rfl ?_ (by rw[aD];have:=h.n2;omega),List.map_id]
  ·rfl
  ·intro x hx
   obtain⟨r,_,rfl⟩:=ah.mp hx
   rfl
 have r1:=YG h
 have hz:∀ n:Nat,n<10->(Qp.contains c&&decide (n<1000))=true:=λn hn=>by rw[LD hc,Bool.true_and];exact aF (by omega)
 have s1:fO Qp "table" 0 (dc [none] (fJ (dU 1)) (gN 0) da G7) [some (.s,.ins c []),zk (eh t)]=zt [some (.s,.ins c [("table",eh t)]),zk (eh t)]:=by
  unfold fO
  rw[hk,dQ]
  show(if (Qp.contains c&&decide (([]:List (Str×D)).length<1000))=true then _ else _)=_
  exact(aA (c:=(Qp.contains c&&decide (0<1000))=true) (hz 0 (by decide))).trans rfl
 have s2:fO Qp "heads" 0 (eA (λxs=>u4 (xs++[])) (dW (dU 1) dY)) [some (.s,.ins c [("table",eh t)]),zk (eh t)]=zt [some (.s,.ins c (ku t m)),zk (eh t)]:=by
  unfold fO
  have:eA (λxs=>u4 (xs++[])) (dW (dU 1) dY) [some (.s,.ins c [("table",eh t)]),zk (eh t)]=.ok (l4 t m t.length):=by
   simp only[eA,dW,dY,dU,dQ,bF,bA,az,r1]
  rw[this,dQ]
  show(if (Qp.contains c&&decide ([(("table":Str),eh t)].length<1000))=true then _ else _)=_
  refine(aA (c:=(Qp.contains c&&decide (1<1000))=true) (hz 1 (by decide))).trans ?_
  rw[zI];rfl
 rw[UR]
 unfold B5
 simp only[dj,s1,Ru,dQ,jN,s2]
 simp only[oM,y0,bA,cv]
theorem vJ{c:Str}(hc:CK.contains c=true){t:List (List Int)}{m:Nat}{n:Str}{mt:Str->List D->Out D}{O:SD->Out D}{A:SD->Out (List D)}{ς:SD}{xs:List D}(hO:O ς=.ok (ck c t m))(hA:A ς=.ok xs)(h1:(n == ("table":Str))=false)(h2:(n == ("heads":Str))=false):
 e7 CK n mt O A ς=mt c (ck c t m::xs):=by
 unfold e7
 rw[hO,dQ]
 show(if (CK.contains c&&((ku t m).lookup n).isNone)=true then A ς>>=λxs=>mt c (.ins c (ku t m)::xs) else .stuck)=_
 simp only[YK h1 h2,hc,Option.isNone_none,Bool.and_self,cv,hA,dQ]
 rfl
theorem oo{c:Str}(hc:CK.contains c=true)(t:List (List Int))(m:Nat):jF Qp "table" (ck c t m)=.ok (eh t):=by
 show(if Qp.contains c=true then gq ((ku t m).lookup ("table":Str)) else .stuck)=_
 rw[aA (LD hc),YJ];rfl
theorem CV{c:Str}(hc:CK.contains c=true)(t:List (List Int))(m:Nat):QG [ck c t m]=.ok (.int (t.length:Int)):=by
 have:eB [eh t]=.ok (.int (t.length:Int)):=by simp[eB,eh]
 simp only[Vx,Be,eV,eA,dW,dY,e1,dU,bA,dQ,oo hc,this]
 rfl
theorem YL(i:Int):yY [.int i]=zn true:=by
 rw[UV];exists"E",B6
theorem CW{i a b:Int}(h1:a<=i)(h2:i<=b):oZ [.int i,.int a,.int b]=zn true:=by
 have hw:=YL i
 have j9:decide (a<=i)=true:=aF h1
 have lH:decide (i<=b)=true:=aF h2
 rw[UY]
 exists"E",B7,hw,mQ,h1,h2
theorem LG{r:List Int}(hl:r.length<=6)(h:∀ x∈r,0<=x/\x<=9):u5 [dl r]=zn true:=by
 have hlen:eB [dl r]=.ok (.int (r.length:Int)):=by simp[eB,dl]
 have hc:dc [none] (fJ (dU 0)) (gN 0) da GA [zk (dl r)]=.ok (.lst (r.map λ_=>D.bl true)):=by
  refine QO D.int (λ_=>.bl true) rfl (λx hx=>?_) (by omega)
  have hw:=CW (h x hx).1 (h x hx).2
  refine QE (by walk_at "cap") (by walk_at "s") ?_
  unfold GA
  (repeat walk_at "e")
 have ha:gc (.lst (r.map λ_=>D.bl true))=zn true:=by rw[uu (λ_=>true)];simp
 have hf:f1 gc [.lst (r.map λ_=>D.bl true)]=zn true:=ha
 have hi:fk "list" (dl r)=.ok true:=by simp[fk,dl,nC]
 have hg:decide ((6:Int)<(r.length:Int))=false:=aQ (by omega)
 rw[Ue]
 unfold B9
 (repeat walk_at "e")
theorem YM{t:List (List Int)}{m:Nat}(h:Tb t m):ya [eh t]=zn true:=by
 obtain⟨n1,n2,m6,row,ent'⟩:=h
 have hlen:eB [eh t]=.ok (.int (t.length:Int)):=by simp[eB,eh]
 have hc:dc [none] (fJ (dU 0)) (gN 0) da GB [zk (eh t)]=.ok (.lst (t.map λ_=>D.bl true)):=by
  refine QO dl (λ_=>.bl true) rfl (λx hx=>?_) (by omega)
  have hw:=LG (r:=x) (by rw[row x hx];exact m6) (ent' x hx)
  refine QE (by walk_at "cap") (by walk_at "s") ?_
  unfold GB
  (repeat walk_at "e")
 have r0:t[0]?=some t[0]:=by simp
 have He:(t[0]).length=m:=row _ (bG _)
 have zJ:eF (eh t) (.int 0)=.ok (dl t[0]):=mC 0 (by rw[aH,r0];rfl)
 have vK:eB [dl t[0]]=.ok (.int (m:Int)):=by simp[eB,dl,He]
 have xh:dc [none,some 0] (fJ (dU 0)) (gN 0) da GC [zk (eh t)]=.ok (.lst (t.map λ_=>D.bl true)):=by
  refine QO dl (λ_=>.bl true) rfl (λx hx=>?_) (by omega)
  have LH:eB [dl x]=.ok (.int (m:Int)):=by simp[eB,dl,row x hx]
  have he:iL (.int (m:Int)) (.int (m:Int))=zn true:=by rw[nI];simp
  refine QE (by walk_at "cap") (by walk_at "s") ?_
  unfold GC
  (repeat walk_at "e")
 have ha:gc (.lst (t.map λ_=>D.bl true))=zn true:=by rw[uu (λ_=>true)];simp
 have hf:f1 gc [.lst (t.map λ_=>D.bl true)]=zn true:=ha
 have hi:fk "list" (eh t)=.ok true:=by simp[fk,eh,nC]
 have hg:decide ((1:Int)<=(t.length:Int))=true:=aF (by omega)
 have FK:decide ((t.length:Int)<=12)=true:=aF (by omega)
 rw[Uk]
 unfold BA
 (repeat walk_at "e")
theorem YN{c:Str}(hc:CK.contains c=true){t:List (List Int)}{m:Nat}(h:Tb t m):u7 c [] [eh t]=.ok (ku t m):=by
 have h1:=YM h
 have h2:=CU hc h
 rw[Uo]
 unfold BB
 (repeat walk_at "e")
theorem LI{c:Str}(hc:CK.contains c=true){r:List Int}{m:Nat}(h:Tb [r] m):qZ c [] [dl r]=.ok (ku [r] m):=by
 have h1:=LG (r:=r) (by rw[h.row r (by simp)];exact h.m6) (h.ent r (by simp))
 have h2:QI c [] [.lst [dl r]]=.ok (ku [r] m):=CU hc h
 rw[VA]
 unfold BI
 (repeat walk_at "e")
noncomputable def one(n s:Nat):List Int:=(List.range n).map λk=>if k=s then 1 else 0
def fN(n:Nat):List (List Int):=(List.range n).map (one n)
noncomputable def jI(n:Nat):List (List Int):=(List.range n).map λs=>[if s+1=n then 1 else 0]
theorem YO{n s:Nat}(h:n<=100):yb [.int n,.int s]=.ok (dl (one n s)):=by
 have hc:dc [none,some 1] (eR (dU 0)) (gN 0) da GF [zk (.int n),zk (.int s)]=.ok (.lst ((List.range n).map λk=>D.int (if k=s then 1 else 0))):=by
  refine mD (λk=>D.int (if k=s then 1 else 0)) (Q6 n rfl (by omega)) (λk hk=>?_) (by omega)
  refine QE (by walk_at "cap") (by walk_at "s") ?_
  unfold GF
  by_cases e:k=s
  ·have e':decide ((k:Int)=(s:Int))=true:=aF (by omega)
   rw[aA e]
   (repeat walk_at "e")
  ·have e':decide ((k:Int)=(s:Int))=false:=aQ (by omega)
   rw[aB e]
   (repeat walk_at "e")
 have he:dl (one n s)=.lst ((List.range n).map λk=>D.int (if k=s then 1 else 0)):=by unfold dl one;rw[aY];rfl
 rw[he,Ut]
 unfold BD
 (repeat walk_at "e")
theorem Hf{n:Nat}(h1:1<=n)(h6:n<=6):Tb (fN n) n:=by
 refine⟨by simp[fN];omega,by simp[fN];omega,h6,λr hr=>?_,λr hr x hx=>?_⟩<;>obtain⟨s,_,rfl⟩:=ah.mp hr
 ·simp[one]
 ·obtain⟨k,_,rfl⟩:=ah.mp hx
  split<;>decide
theorem LJ{n:Nat}(h1:1<=n)(h6:n<=12):Tb (jI n) 1:=by
 refine⟨by simp[jI];omega,by simp[jI];omega,by decide,λr hr=>?_,λr hr x hx=>?_⟩<;>obtain⟨s,_,rfl⟩:=ah.mp hr
 ·simp
 ·rw[cu.mp hx]
  split<;>decide
theorem LK{c:Str}(hc:CK.contains c=true){n:Nat}(n1:1<=n)(n6:n<=6):qY c [] [.int n]=.ok (ku (fN n) n):=by
 have h1:=CW (i:=n) (a:=1) (b:=6) (by omega) (by omega)
 have h2:=CU hc (Hf n1 n6)
 have uR:dc [none,some 1] (eR (dU 1)) (gN 0) da GG [some (.s,.ins c []),zk (.int n)]=.ok (eh (fN n)):=by
  have he:eh (fN n)=.lst ((List.range n).map λs=>dl (one n s)):=by unfold eh fN;rw[aY];rfl
  rw[he]
  refine mD (λs=>dl (one n s)) (Q6 n rfl (by omega)) (λk hk=>?_) (by omega)
  have hs:=YO (n:=n) (s:=k) (by omega)
  refine QE (by walk_at "cap") (by walk_at "s") ?_
  unfold GG
  (repeat walk_at "e")
 rw[Ux]
 unfold BF
 (repeat walk_at "e")
theorem YQ{c:Str}(hc:CK.contains c=true){n:Nat}(n1:1<=n)(n6:n<=12):u9 c [] [.int n]=.ok (ku (jI n) 1):=by
 have h1:=CW (i:=n) (a:=1) (b:=12) (by omega) (by omega)
 have h2:=CU hc (LJ n1 n6)
 have uR:dc [none,some 1] (eR (dU 1)) (gN 0) da GI [some (.s,.ins c []),zk (.int n)]=.ok (eh (jI n)):=by
  have he:eh (jI n)=.lst ((List.range n).map λs=>D.lst [.int (if s+1=n then 1 else 0)]):=by unfold eh jI;rw[aY];rfl
  rw[he]
  refine mD (λs=>D.lst [.int (if s+1=n then 1 else 0)]) (Q6 n rfl (by omega)) (λk hk=>?_) (by omega)
  refine QE (by walk_at "cap") (by walk_at "s") ?_
  unfold GI
  by_cases e:k+1=n
  ·have e':decide ((k:Int)=(n:Int) - 1)=true:=aF (by omega)
   rw[aA e]
   (repeat walk_at "e")
  ·have e':decide ((k:Int)=(n:Int) - 1)=false:=aQ (by omega)
   rw[aB e]
   (repeat walk_at "e")
 rw[V7]
 unfold BH
 (repeat walk_at "e")
abbrev rl(n:Nat)(f:Nat->D):D:=.lst ((List.range n).map f)
theorem uC{n i:Nat}{f:Nat->D}(h:i<n):((List.range n).map f)[i]?=some (f i):=by
 rw[aH,ae h];rfl
theorem ja{n i:Nat}{f:Nat->D}(h:i<n):eF (rl n f) (.int (i:Int))=.ok (f i):=mC i (uC h)
theorem jJ(n:Nat)(f:Nat->D):eB [rl n f]=.ok (.int (n:Int)):=by simp[eB]
theorem mw{n:Nat}{f g:Nat->D}(h:∀ i,i<n->f i=g i):rl n f=rl n g:=by
 show D.lst _=D.lst _
 rw[b8 λi hi=>h i (aU.mp hi)]
theorem Hg{body:D->SD->Out Fl}{P:Nat->SD->Prop}{f:Nat->D}{n:Nat}(h:∀ k:Nat,k<n->∀ ς,P k ς->∃ ς',body (f k) ς=zt ς'/\P (k+1) ς')(ς:SD)(p0:P 0 ς):∃ ς',fM body ((List.range n).map f) ς=zt ς'/\P n ς':=by
 have go:∀ m k:Nat,k+m=n->∀ ς,P k ς->∃ ς',fM body ((List.range' k m).map f) ς=zt ς'/\P n ς':=by
  intro m
  induction m with
  | zero=>intro k hk ς p;exact⟨ς,rfl,by rw[← hk];exact p⟩
  | succ m ih=>
   intro k hk ς p
   obtain⟨ς1,j9,p1⟩:=h k (by omega) ς p
   obtain⟨ς2,lH,p2⟩:=ih (k+1) (by omega) ς1 p1
   refine⟨ς2,?_,p2⟩
   rw[List.range'_succ,aj,fM,j9]
   exact lH
 rw[List.range_eq_range']
 exact go n 0 (by omega) ς p0
noncomputable def fr(x:Int×Int):D:=.tup [.int x.1,.int x.2]
theorem uD{n k:Nat}(hk:k<n)(f:Nat->D)(v:D):((List.range n).map f).set k v=(List.range n).map λi=>if i=k then v else f i:=by
 apply bN
 intro i
 rw[cR]
 by_cases hi:i<n
 ·have r1:((List.range n).map λi=>if i=k then v else f i)[i]?=some (if i=k then v else f i):=uC hi
  rw[r1]
  by_cases e:k=i
  ·subst e
   rw[aA rfl,aA (by simpa using hi),aA rfl]
  ·rw[aB e,uC hi,aB (bR e)]
 ·have h1:((List.range n).map f)[i]?=none:=by simp;omega
  have h2:((List.range n).map λi=>if i=k then v else f i)[i]?=none:=by simp;omega
  rw[h1,h2,aB (by omega)]
theorem oq{n k:Nat}(hk:k<n)(f:Nat->D):kW ((List.range n).map f).length (k:Int)=some k:=by
 rw[aD,aC]
 unfold kW
 rw[aA (by omega),aA (by omega)];simp
theorem zK{n:Nat}{f:Nat->D}(h:∀ i,i<n->(f i).scal=true):((List.range n).map f).all D.scal=true:=cA.mpr λd hd=>by
 obtain⟨i,hi,rfl⟩:=ah.mp hd
 exact h i (aU.mp hi)
theorem LL:∀ xs:List Str,jQ (xs.map D.str)=some xs
 | []=>rfl
 | x::xs=>by show(jQ (xs.map D.str)).map (x :: ·)=_;rw[LL xs];rfl
def Hh(xs:List Str):Prop:=∀ i j,i<xs.length->xs[i]?=xs[j]?->i=j
theorem LM{xs:List Str}(h:Hh xs):∀ i,i<=xs.length->LS.met (λi=>xs.getD i "") i=xs.take i
 | 0,_=>rfl
 | i+1,hi=>by
  have ih:=LM h i (by omega)
  have hl:i<xs.length:=by omega
  have e:xs.getD i ""=xs[i]:=by rw[aM,aE hl];rfl
  have ni:¬ xs[i]∈xs.take i:=λz=>by
   obtain⟨j,hj,ej⟩:=List.getElem_of_mem z
   rw[List.getElem_take]at ej
   rw[bK]at hj
   have:=h i j (by omega) (by rw[aE hl,aE (show j<xs.length by omega),ej])
   omega
  show(if xs.getD i ""∈LS.met (λi=>xs.getD i "") i then LS.met (λi=>xs.getD i "") i else LS.met (λi=>xs.getD i "") i++[xs.getD i ""])=_
  rw[ih,e,aB ni,List.take_add_one,aE hl];rfl
theorem Hi{xs:List Str}(h:Hh xs)(hl:xs.length<=1000):Q5 [.lst (xs.map .str)]=zn true:=by
 have hu:FS (.lst (xs.map .str))=.ok (.int (xs.length:Int)):=by
  show(match jQ (xs.map .str) with | some xs=>if decide (xs.length<4000)=true then Out.ok (D.int (oO xs)) else .stuck | none=>.stuck)=_
  rw[LL]
  show(if decide (xs.length<4000)=true then Out.ok (D.int (oO xs)) else .stuck)=_
  rw[aA (aF (by omega))]
  unfold oO
  rw[LM h _ (aJ _),List.take_length]
 have hlen:eB [.lst (xs.map D.str)]=.ok (.int (xs.length:Int)):=by simp[eB]
 have he:iL (.int (xs.length:Int)) (.int (xs.length:Int))=zn true:=by rw[nI];simp
 rw[VX]
 unfold BV
 (repeat walk_at "e")
theorem Hj{n:Nat}{f:Nat->D}{M:Int}(h1:1<=n)(h2:(n:Int)<=M):pX [rl n f,.int M]=zn true:=by
 have hlen:=jJ n f
 have hi:fk "list" (rl n f)=.ok true:=by simp[fk,nC]
 have g1:decide ((1:Int)<=(n:Int))=true:=aF (by omega)
 have g2:decide ((n:Int)<=M)=true:=aF h2
 have g3:nT (.int (n:Int)) (.int M)=zn true:=by rw[uq,g2]
 rw[VU]
 unfold BU
 (repeat walk_at "e")
theorem CY(n:Nat):f1 gc [rl n (λ_=>.bl true)]=zn true:=by
 show gc (.lst ((List.range n).map λ_=>D.bl true))=_
 rw[uu (λ_=>true)];simp
theorem Hk(n:Nat)(f:Nat->Str):(List.range n).map (λi=>D.str (f i))=((List.range n).map f).map D.str:=by rw[aY];rfl
theorem YR{n:Nat}{f:Nat->Str}(h:∀ i j,i<n->j<n->f i=f j->i=j):Hh ((List.range n).map f):=by
 intro i j hi z
 rw[aD,aC]at hi
 rw[aH,aH,ae hi]at z
 by_cases hj:j<n
 ·rw[ae hj]at z
  exact h i j hi hj (ag z)
 ·have h1:(List.range n)[j]?=none:=by simp;omega
  rw[h1]at z;cases z
structure fj(n nd:Nat)(nm dn c:Nat->Str)(t:Nat->List (List Int))(m:Nat->Nat)(ld:Nat->Nat->Int)(st:Nat->Int):Prop where
 n1:1<=n
 n2:n<=60
 d1:1<=nd
 d2:nd<=6
 ck:∀ k,k<n->CK.contains (c k)=true
 tb:∀ k,k<n->Tb (t k) (m k)
 ldr:∀ k j,k<n->j<m k -> -(nd:Int)<=ld k j/\ld k j<(n:Int)
 str:∀ k,k<n->0<=st k/\st k<((t k).length:Int)
 isn:∀ k,k<n->mn [.str (nm k)]=zn true
 isd:∀ d,d<nd->mn [.str (dn d)]=zn true
 inj:∀ i j,i<n->j<n->nm i=nm j->i=j
 injd:∀ i j,i<nd->j<nd->dn i=dn j->i=j
 sep:∀ i d,i<n->d<nd->nm i≠dn d
noncomputable def iJ(nm dn:Nat->Str)(l:Int):Str:=if l<0 then dn (-1 - l).toNat else nm l.toNat
def eM(nm dn c:Nat->Str)(t:Nat->List (List Int))(m:Nat->Nat)(ld:Nat->Nat->Int)(st:Nat->Int)(k:Nat):D:=
 .tup [.str (nm k),ck (c k) (t k) (m k),rl (m k) (λj=>.str (iJ nm dn (ld k j))),.int (st k)]
theorem j5{xs:List D}{d:D}(i:Nat)(h:xs[i]?=some d):eF (.tup xs) (.int (i:Int))=.ok d:=by
 show gq (jW xs (i:Int))=_
 have hi:i<xs.length:=(aW.mp h).1
 have:jW xs (i:Int)=some d:=by
  unfold jW kW
  rw[aA (by omega),aA (by omega)]
  simpa using h
 rw[this];rfl
theorem YS{c:Str}(hc:CK.contains c=true)(t:List (List Int))(m:Nat):yj [ck c t m]=zn true:=by
 have hm:c∈Qd:=by simpa using hc
 simp only[Qd,aL,b9,cB]at hm
 have key:∀ c:Str,(c="Deal"∨c="Bundle"∨c="Copy"∨c="Rows")->jZ [[("Deal",true),("Bundle",false),("Copy",false),("Rows",false),("Office",false)],[("Deal",false),("Bundle",true),("Copy",false),("Rows",false),("Office",false)],[("Deal",false),("Bundle",false),("Copy",true),("Rows",false),("Office",false)],[("Deal",false),("Bundle",false),("Copy",false),("Rows",true),("Office",false)]] c=some true:=by
  rintro c (rfl | rfl | rfl | rfl)<;>decide +kernel
 have k:=key c hm
 rw[Vn]
 unfold Bc
 show(eV (gS (kO _) (dU 0)) [zk (.ins c (ku t m))]>>=eN false)=_
 have hi:kO [[("Deal",true),("Bundle",false),("Copy",false),("Rows",false),("Office",false)],[("Deal",false),("Bundle",true),("Copy",false),("Rows",false),("Office",false)],[("Deal",false),("Bundle",false),("Copy",true),("Rows",false),("Office",false)],[("Deal",false),("Bundle",false),("Copy",false),("Rows",true),("Office",false)]] (.ins c (ku t m))=.ok true:=by
  show(match jZ _ c with | some b=>Out.ok b | none=>Out.stuck)=_
  rw[k]
 (repeat walk_at "e")
theorem YT{c:Str}(hc:CK.contains c=true){t:List (List Int)}{m:Nat}(h:Tb t m):vD [ck c t m]=.ok (.int (m:Int)):=by
 have n1:=h.n1
 have r0:t[0]?=some t[0]:=by simp
 have LF:eF (eh t) (.int 0)=.ok (dl t[0]):=mC 0 (by rw[aH,r0];rfl)
 have vK:eB [dl t[0]]=.ok (.int (m:Int)):=by simp[eB,dl,h.row _ (bG _)]
 have hf:=oo hc t m
 rw[Vu]
 unfold Bd
 (repeat walk_at "e")
theorem YU{n:Nat}(hn:n<=100)(f:Nat->Str):yi [rl n (λj=>.str (f j)),.int (n:Int)]=zn true:=by
 have hlen:=jJ n (λj=>D.str (f j))
 have hi:fk "list" (rl n (λj=>D.str (f j)))=.ok true:=by simp[fk,nC]
 have hc:dc [none] (fJ (dU 0)) (gN 0) da GX [zk (rl n (λj=>.str (f j))),zk (.int (n:Int))]=.ok (rl n (λ_=>.bl true)):=by
  refine QO (λj=>D.str (f j)) (λ_=>.bl true) rfl (λj _=>?_) (by rw[aC];omega)
  have hs:fk "str" (D.str (f j))=.ok true:=by simp[fk,nC]
  refine QE (by walk_at "cap") (by walk_at "s") ?_
  unfold GX
  (repeat walk_at "e")
 have he:iL (.int (n:Int)) (.int (n:Int))=zn true:=by rw[nI];simp
 have ha:=CY n
 rw[Vk]
 unfold Bb
 (repeat walk_at "e")
section
variable{n nd:Nat}{nm dn c:Nat->Str}{t:Nat->List (List Int)}{m:Nat->Nat}{ld:Nat->Nat->Int}{st:Nat->Int}(hs:fj n nd nm dn c t m ld st)
include hs
theorem YV:yf [rl nd (λd=>.str (dn d)),.int 6]=zn true:=by
 have d2:=hs.d2
 have h1:=Hj (n:=nd) (f:=λd=>.str (dn d)) (M:=6) hs.d1 (by omega)
 have hc:dc [none] (fJ (dU 0)) (gN 0) da GW [zk (rl nd (λd=>.str (dn d))),zk (.int 6)]=.ok (rl nd (λ_=>.bl true)):=by
  refine QO (λd=>D.str (dn d)) (λ_=>.bl true) rfl (λd hd=>?_) (by rw[aC];omega)
  have h:=hs.isd d (aU.mp hd)
  refine QE (by walk_at "cap") (by walk_at "s") ?_
  unfold GW
  (repeat walk_at "e")
 have ha:=CY nd
 have hu:Q5 [rl nd (λd=>.str (dn d))]=zn true:=by
  show Q5 [.lst _]=_
  rw[Hk]
  exact Hi (YR hs.injd) (by simp;omega)
 rw[Vg]
 unfold BZ
 (repeat walk_at "e")
theorem YW{k:Nat}(hk:k<n):yk [eM nm dn c t m ld st k]=zn true:=by
 have tb:=hs.tb k hk
 have hc:=hs.ck k hk
 have m6:=tb.m6
 obtain⟨s0,s1⟩:=hs.str k hk
 have hi:fk "tuple" (eM nm dn c t m ld st k)=.ok true:=by simp[fk,nC,eM]
 have hl:eB [eM nm dn c t m ld st k]=zi 4:=by simp[eB,eM]
 have x0:eF (eM nm dn c t m ld st k) (.int 0)=zl (nm k):=j5 0 rfl
 have x1:eF (eM nm dn c t m ld st k) (.int 1)=.ok (ck (c k) (t k) (m k)):=j5 1 rfl
 have x2:eF (eM nm dn c t m ld st k) (.int 2)=.ok (rl (m k) (λj=>.str (iJ nm dn (ld k j)))):=j5 2 rfl
 have x3:eF (eM nm dn c t m ld st k) (.int 3)=zi (st k):=j5 3 rfl
 have h0:=hs.isn k hk
 have h1:=YS hc (t k) (m k)
 have h2:=YU (n:=m k) (by omega) (λj=>iJ nm dn (ld k j))
 have h3:=CW (i:=st k) (a:=0) (b:=((t k).length:Int) - 1) s0 (by omega)
 have mo:e7 Qd "outs" (λ_=>vD) (e2 eF (dU 0) (eC (.int 1))) dY [zk (eM nm dn c t m ld st k)]=.ok (.int (m k:Int)):=by
  rw[vJ (c:=c k) (t:=t k) (m:=m k) hc (xs:=[]) (by (repeat walk_at "e")) rfl (dk) (dk)]
  exact YT hc tb
 have mp:e7 Qd "period" (λ_=>QG) (e2 eF (dU 0) (eC (.int 1))) dY [zk (eM nm dn c t m ld st k)]=.ok (.int ((t k).length:Int)):=by
  rw[vJ (c:=c k) (t:=t k) (m:=m k) hc (xs:=[]) (by (repeat walk_at "e")) rfl (dk) (dk)]
  exact CV hc _ _
 have fT:lD (.int 4) (.int 4)=zn false:=by rw[ur];rfl
 rw[W0]
 unfold Bf
 (repeat walk_at "e")
theorem YX:ym [rl n (eM nm dn c t m ld st),rl nd (λd=>.str (dn d))]=zn true:=by
 have n2:=hs.n2
 have d2:=hs.d2
 have h1:=Hj (n:=n) (f:=eM nm dn c t m ld st) (M:=60) hs.n1 (by omega)
 have hc:dc [none] (fJ (dU 0)) (gN 0) da Gg [zk (rl n (eM nm dn c t m ld st)),zk (rl nd (λd=>.str (dn d)))]=.ok (rl n (λ_=>.bl true)):=by
  refine QO (eM nm dn c t m ld st) (λ_=>.bl true) rfl (λk hk=>?_) (by rw[aC];omega)
  have h:=YW hs (aU.mp hk)
  refine QE (by walk_at "cap") (by walk_at "s") ?_
  unfold Gg
  (repeat walk_at "e")
 have ha:=CY n
 have hn:dc [none] (fJ (dU 0)) (gN 0) da Gh [zk (rl n (eM nm dn c t m ld st)),zk (rl nd (λd=>.str (dn d)))]=.ok (rl n (λk=>.str (nm k))):=by
  refine QO (eM nm dn c t m ld st) (λk=>D.str (nm k)) rfl (λk hk=>?_) (by rw[aC];omega)
  have x0:eF (eM nm dn c t m ld st k) (.int 0)=zl (nm k):=j5 0 rfl
  refine QE (by walk_at "cap") (by walk_at "s") ?_
  unfold Gh
  (repeat walk_at "e")
 have YY:kA (rl n (λk=>.str (nm k))) (rl nd (λd=>.str (dn d)))=.ok (.lst ((((List.range n).map nm)++((List.range nd).map dn)).map .str)):=by
  rw[tw (by simp;omega),ao, ← Hk, ← Hk]
 have hu:Q5 [.lst ((((List.range n).map nm)++((List.range nd).map dn)).map .str)]=zn true:=by
  refine Hi ?_ (by simp;omega)
  intro i j hi z
  rw[aV,aD,aD,aC,aC]at hi
  have at':∀ i,(((List.range n).map nm)++((List.range nd).map dn))[i]?=if i<n then some (nm i) else if i - n<nd then some (dn (i - n)) else none:=λi=>by
   rw[List.getElem?_append,aD,aC]
   split
   ·rw[aH,ae (by assumption)];rfl
   ·split
    ·rw[aH,ae (by assumption)];rfl
    ·simp;omega
  rw[at',at']at z
  by_cases a:i<n
  ·rw[aA a]at z
   by_cases b:j<n
   ·rw[aA b]at z;exact hs.inj i j a b (ag z)
   ·rw[aB b]at z
    by_cases d:j - n<nd
    ·rw[aA d]at z;exact absurd (ag z) (hs.sep i _ a d)
    ·rw[aB d]at z;cases z
  ·rw[aB a,aA (show i - n<nd by omega)]at z
   by_cases b:j<n
   ·rw[aA b]at z;exact absurd (ag z).symm (hs.sep j _ b (by omega))
   ·rw[aB b]at z
    by_cases d:j - n<nd
    ·rw[aA d]at z
     have:=hs.injd _ _ (by omega) d (ag z)
     omega
    ·rw[aB d]at z;cases z
 rw[W7]
 unfold Bg
 (repeat walk_at "e")
theorem YZ{i:Nat}(hi:i<n):m7 (.str (nm i)) (rl n (λk=>.str (nm k)))=zn true:=by
 show(if (_&&((List.range n).map λk=>D.str (nm k)).all D.scal)=true then Out.ok (D.bl (jf _ _)) else _)=_
 rw[aA (by rw[aO];exact⟨rfl,zK λi _=>rfl⟩)]
 have:jf (gO (.str (nm i))) (((List.range n).map λk=>D.str (nm k)).map gO)=true:=by
  unfold jf
  rw[cW]
  refine⟨V.str (nm i),?_,by show(nm i == nm i)=true;exact bD _⟩
  rw[aY,ah]
  exact⟨i,aU.mpr hi,rfl⟩
 rw[this]
end
structure zL(n ne:Nat)(en:Nat->Str)(ek:Nat->Nat):Prop where
 e1:1<=ne
 e6:ne<=6
 isn:∀ j,j<ne->mn [.str (en j)]=zn true
 inj:∀ i j,i<ne->j<ne->en i=en j->i=j
 rng:∀ j,j<ne->ek j<n
noncomputable def g6(nm en:Nat->Str)(ek:Nat->Nat)(j:Nat):D:=.tup [.str (en j),.str (nm (ek j))]
section
variable{n nd ne:Nat}{nm dn c en:Nat->Str}{ek:Nat->Nat}{t:Nat->List (List Int)}{m:Nat->Nat}{ld:Nat->Nat->Int}{st:Nat->Int}(hs:fj n nd nm dn c t m ld st)(he:zL n ne en ek)
include hs he
theorem Ya:yp [rl ne (g6 nm en ek),rl n (λk=>.str (nm k))]=zn true:=by
 have e1:=he.e1
 have e6:=he.e6
 have h1:pX [rl ne (g6 nm en ek),.int 6]=zn true:=Hj (n:=ne) (f:=g6 nm en ek) (M:=6) (by omega) (by omega)
 have hc:dc [none,some 1] (fJ (dU 0)) (gN 0) da Gj [zk (rl ne (g6 nm en ek)),zk (rl n (λk=>.str (nm k)))]=.ok (rl ne (λ_=>.bl true)):=by
  refine QO (g6 nm en ek) (λ_=>.bl true) rfl (λj hj=>?_) (by rw[aC];omega)
  have hj:=aU.mp hj
  have mO:=he.isn j hj
  have h0:=hs.isn (ek j) (he.rng j hj)
  have hL:=YZ hs (he.rng j hj)
  have j9:yn [g6 nm en ek j,rl n (λk=>.str (nm k))]=zn true:=by
   have hi:fk "tuple" (g6 nm en ek j)=.ok true:=by simp[fk,nC,g6]
   have hl:eB [g6 nm en ek j]=zi 2:=by simp[eB,g6]
   have x0:eF (g6 nm en ek j) (.int 0)=zl (en j):=j5 0 rfl
   have x1:eF (g6 nm en ek j) (.int 1)=zl (nm (ek j)):=j5 1 rfl
   have fT:lD (.int 2) (.int 2)=zn false:=by rw[ur];rfl
   rw[WB]
   unfold Bh
   (repeat walk_at "e")
  refine QE (by walk_at "cap") (by walk_at "s") ?_
  unfold Gj
  (repeat walk_at "e")
 have ha:=CY ne
 have hn:dc [none] (fJ (dU 0)) (gN 0) da Gk [zk (rl ne (g6 nm en ek)),zk (rl n (λk=>.str (nm k)))]=.ok (.lst (((List.range ne).map en).map .str)):=by
  have e:(.lst (((List.range ne).map en).map .str):D)=rl ne (λj=>.str (en j)):=by show D.lst _=D.lst _;rw[aY];rfl
  rw[e]
  refine QO (g6 nm en ek) (λj=>.str (en j)) rfl (λj hj=>?_) (by rw[aC];omega)
  have x0:eF (g6 nm en ek j) (.int 0)=zl (en j):=j5 0 rfl
  refine QE (by walk_at "cap") (by walk_at "s") ?_
  unfold Gk
  (repeat walk_at "e")
 have hu:Q5 [.lst (((List.range ne).map en).map .str)]=zn true:=Hi (by
  intro i j hi z
  rw[aD,aC]at hi
  rw[aH,aH,ae hi]at z
  by_cases hj:j<ne
  ·rw[ae hj]at z
   exact he.inj i j hi hj (ag z)
  ·rw[au (by rw[aC];omega)]at z;cases z) (by rw[aD,aC];omega)
 rw[WH]
 unfold Bi
 (repeat walk_at "e")
end
theorem LN{i:Nat}{I E:SD->Out D}{ς ς':SD}{kds:List (f9×D)}{d y:D}{k:f9}(a:E ς=.ok d)(e:ς[i]?=some (zo (.dic kds)))(a':I ς=.ok y)(hk:kC y=some k)(hl:kds.length<=1000)
 (l:ς.set i (some (.o,.dic (jP kds k d)))=ς'):kN i I E ς=zt ς':=by
 unfold kN
 rw[a,dQ,e]
 show(I ς>>=_)=_
 rw[a',dQ,hk]
 show(if _ then _ else _)=_
 rw[aA (Kj hl),l]
theorem Yb{A B:SD->Out D}{ς:SD}{kds:List (f9×D)}{y:D}{k:f9}(a:A ς=.ok (.dic kds))(a':B ς=.ok y)(hk:kC y=some k):lI A B ς=.ok ((fm kds k).getD .non):=by
 unfold lI
 rw[a,dQ]
 show(B ς>>=_)=_
 rw[a',dQ,hk]
theorem zM{A B:SD->Out D}{ς:SD}{kds:List (f9×D)}{y d:D}{k:f9}(a:A ς=.ok (.dic kds))(a':B ς=.ok y)(hk:kC y=some k)(hv:fm kds k=some d):nG A B ς=.ok d:=by
 unfold nG
 rw[a,dQ]
 show(B ς>>=_)=_
 rw[a',dQ,hk]
 show gq (fm kds k)=_
 rw[hv];rfl
theorem LO{kds:List (f9×D)}{k:f9}{d:D}(h:∀ kv∈kds,kv.1≠k):jP kds k d=kds++[(k,d)]:=by
 unfold jP
 rw[aB]
 intro z
 obtain⟨kv,hk,e⟩:=cW.mp z
 exact h kv hk (aN e)
theorem Hl{k:f9}{d:D}:∀{kds:List (f9×D)}(i:Nat),kds[i]?=some (k,d)->(∀ j kv,j<i->kds[j]?=some kv->kv.1≠k)->fm kds k=some d
 | [],i,h,_=>by simp at h
 | kv::kds,0,h,_=>by
  simp at h
  subst h
  simp[fm]
 | kv::kds,i+1,h,hn=>by
  have h0:=hn 0 kv (by omega) rfl
  have:fm (kv::kds) k=fm kds k:=by simp[fm,bC,h0]
  rw[this]
  exact Hl i (by simpa using h) λj Yc hj he=>hn (j+1) Yc (by omega) (by simpa using he)
theorem sW(n:Nat)(f:Nat->D):jO 0 ((List.range n).map f)=(List.range n).map λi:Nat=>D.tup [.int (i:Int),f i]:=by
 apply bN
 intro i
 rw[FL,bX]
 by_cases hi:i<n
 ·have r1:((List.range n).map λi:Nat=>D.tup [.int (i:Int),f i])[i]?=some (D.tup [.int (i:Int),f i]):=uC hi
  rw[uC hi,r1];rfl
 ·have h1:((List.range n).map f)[i]?=none:=by simp;omega
  have h2:((List.range n).map λi:Nat=>D.tup [.int (i:Int),f i])[i]?=none:=by simp;omega
  rw[h1,h2];rfl
noncomputable def jK(n nd:Nat)(nm dn:Nat->Str):List (f9×D):=((List.range n).map λi:Nat=>((.inr (nm i):f9),D.int (i:Int)))++((List.range nd).map λi:Nat=>((.inr (dn i):f9),D.int (-1 - (i:Int))))
theorem CZ(n nd:Nat)(nm dn:Nat->Str)(i:Nat):(jK n nd nm dn)[i]?=if i<n then some (.inr (nm i),.int (i:Int)) else if i - n<nd then some (.inr (dn (i - n)),.int (-1 - ((i - n:Nat):Int))) else none:=by
 unfold jK
 rw[List.getElem?_append,aD,aC]
 split
 ·rw[aH,ae (by assumption)];rfl
 ·split
  ·rw[aH,ae (by assumption)];rfl
  ·simp;omega
section
variable{n nd:Nat}{nm dn c:Nat->Str}{t:Nat->List (List Int)}{m:Nat->Nat}{ld:Nat->Nat->Int}{st:Nat->Int}(hs:fj n nd nm dn c t m ld st)
include hs
theorem sX{i:Nat}(hi:i<n):fm (jK n nd nm dn) (.inr (nm i))=some (.int (i:Int)):=by
 refine Hl i (by rw[CZ,aA hi]) λj kv hj he=>?_
 rw[CZ,aA (by omega)]at he
 cases he
 intro z
 have:=hs.inj j i (by omega) hi (cY z)
 omega
theorem zN{d:Nat}(hd:d<nd):fm (jK n nd nm dn) (.inr (dn d))=some (.int (-1 - (d:Int))):=by
 refine Hl (n+d) (by rw[CZ,aB (by omega),aA (by omega),show n+d - n=d by omega]) λj kv hj he=>?_
 rw[CZ]at he
 by_cases a:j<n
 ·rw[aA a]at he
  cases he
  intro z
  exact hs.sep j d a hd (cY z)
 ·rw[aB a,aA (by omega)]at he
  cases he
  intro z
  have:=hs.injd _ _ (by omega) hd (cY z)
  omega
theorem Yd:ye [rl n (λk=>.str (nm k)),rl nd (λd=>.str (dn d))]=.ok (.dic (jK n nd nm dn)):=by
 have n2:=hs.n2
 have d2:=hs.d2
 obtain⟨ς1,hL1,a3,a4,rfl⟩:=Hg (body:=λx ς=>gT [3,4] x ς>>=λς'=>BQ ς') (f:=λi:Nat=>D.tup [.int (i:Int),.str (nm i)]) (n:=n)
  (P:=λk ς=>∃(a3 a4:Option (SM×D)),ς=[zk (rl n (λk=>.str (nm k))),zk (rl nd (λd=>.str (dn d))),zo (.dic (jK k 0 nm dn)),a3,a4,none,none])
  (by
   rintro k hk ς ⟨a3,a4,rfl⟩
   refine⟨[zk (rl n (λk=>.str (nm k))),zk (rl nd (λd=>.str (dn d))),zo (.dic (jK (k+1) 0 nm dn)),zk (.int (k:Int)),zk (.str (nm k)),none,none],?_,_,_,rfl⟩
   have e:jK (k+1) 0 nm dn=jP (jK k 0 nm dn) (.inr (nm k)) (.int (k:Int)):=by
    rw[LO]
    ·show((List.range (k+1)).map _)++[]=((List.range k).map _++[])++[_]
     rw[az,az,b7,ao];rfl
    ·intro kv vL
     have vL:kv∈((List.range k).map λi:Nat=>((.inr (nm i):f9),D.int (i:Int)))++[]:=vL
     rw[az]at vL
     obtain⟨i,hi,rfl⟩:=ah.mp vL
     have hi:=aU.mp hi
     intro z
     have:=hs.inj i k (by omega) hk (cY z)
     omega
   rw[e]
   refine tx (by walk_at "all") ?_
   unfold BQ
   exact LN (d:=.int (k:Int)) (y:=.str (nm k)) (k:=.inr (nm k)) (by (repeat walk_at "e")) rfl (by (repeat walk_at "e")) rfl (by unfold jK;simp;omega) rfl)
  [zk (rl n (λk=>.str (nm k))),zk (rl nd (λd=>.str (dn d))),zo (.dic []),none,none,none,none] ⟨_,_,rfl⟩
 obtain⟨ς2,hL2,a5,a6,rfl⟩:=Hg (body:=λx ς=>gT [5,6] x ς>>=λς'=>BR ς') (f:=λi:Nat=>D.tup [.int (i:Int),.str (dn i)]) (n:=nd)
  (P:=λk ς=>∃(a5 a6:Option (SM×D)),ς=[zk (rl n (λk=>.str (nm k))),zk (rl nd (λd=>.str (dn d))),zo (.dic (jK n k nm dn)),a3,a4,a5,a6])
  (by
   rintro k hk ς ⟨a5,a6,rfl⟩
   refine⟨[zk (rl n (λk=>.str (nm k))),zk (rl nd (λd=>.str (dn d))),zo (.dic (jK n (k+1) nm dn)),a3,a4,zk (.int (k:Int)),zk (.str (dn k))],?_,_,_,rfl⟩
   have e:jK n (k+1) nm dn=jP (jK n k nm dn) (.inr (dn k)) (.int (-1 - (k:Int))):=by
    rw[LO]
    ·unfold jK
     rw[b7,ao,List.append_assoc];rfl
    ·intro kv vL
     rcases List.mem_append.mp vL with w | w
     ·obtain⟨i,hi,rfl⟩:=ah.mp w
      intro z
      exact hs.sep i k (aU.mp hi) hk (cY z)
     ·obtain⟨i,hi,rfl⟩:=ah.mp w
      have hi:=aU.mp hi
      intro z
      have:=hs.injd i k (by omega) hk (cY z)
      omega
   rw[e]
   refine tx (by walk_at "all") ?_
   unfold BR
   exact LN (d:=.int (-1 - (k:Int))) (y:=.str (dn k)) (k:=.inr (dn k)) (by (repeat walk_at "e")) rfl (by (repeat walk_at "e")) rfl (by unfold jK;simp;omega) rfl)
  [zk (rl n (λk=>.str (nm k))),zk (rl nd (λd=>.str (dn d))),zo (.dic (jK n 0 nm dn)),a3,a4,none,none] ⟨_,_,rfl⟩
 have Ye:uk (dU 0) [zk (rl n (λk=>.str (nm k))),zk (rl nd (λd=>.str (dn d))),zo (.dic []),none,none,none,none]=.ok ((List.range n).map λi:Nat=>D.tup [.int (i:Int),.str (nm i)]):=by rw[← sW];rfl
 have Hm:uk (dU 1) [zk (rl n (λk=>.str (nm k))),zk (rl nd (λd=>.str (dn d))),zo (.dic (jK n 0 nm dn)),a3,a4,none,none]=.ok ((List.range nd).map λi:Nat=>D.tup [.int (i:Int),.str (dn i)]):=by rw[← sW];rfl
 have f1':=mf (g:=gT [3,4]) (T:=BQ) Ye hL1
 have f2':=mf (g:=gT [5,6]) (T:=BR) Hm hL2
 have s0:fL 2 oJ [zk (rl n (λk=>.str (nm k))),zk (rl nd (λd=>.str (dn d))),none,none,none,none,none]=zt [zk (rl n (λk=>.str (nm k))),zk (rl nd (λd=>.str (dn d))),zo (.dic []),none,none,none,none]:=rfl
 rw[VR]
 unfold BS
 (repeat walk_at "e")
theorem Yf{k:Nat}(hk:k<n):yq [eM nm dn c t m ld st k,.dic (jK n nd nm dn)]=.ok (rl (m k) (λj=>.int (ld k j))):=by
 have m6:=(hs.tb k hk).m6
 have x2:eF (eM nm dn c t m ld st k) (.int 2)=.ok (rl (m k) (λj=>.str (iJ nm dn (ld k j)))):=j5 2 rfl
 have hc:dc [none,some 1] (fJ (e2 eF (dU 0) (eC (.int 2)))) (gN 0) da Gm [zk (eM nm dn c t m ld st k),zk (.dic (jK n nd nm dn))]=.ok (rl (m k) (λj=>.int (ld k j))):=by
  refine QO (λj=>D.str (iJ nm dn (ld k j))) (λj=>D.int (ld k j)) (by (repeat walk_at "e")) (λj hj=>?_) (by rw[aC];omega)
  obtain⟨l1,l2⟩:=hs.ldr k j hk (aU.mp hj)
  refine QE (by walk_at "cap") (by walk_at "s") ?_
  unfold Gm
  have hv:fm (jK n nd nm dn) (.inr (iJ nm dn (ld k j)))=some (.int (ld k j)):=by
   unfold iJ
   by_cases h:ld k j<0
   ·rw[aA h,zN hs (show(-1 - ld k j).toNat<nd by omega)]
    congr 2;omega
   ·rw[aB h,sX hs (show(ld k j).toNat<n by omega)]
    congr 2;omega
  rw[Yb (kds:=jK n nd nm dn) (y:=.str (iJ nm dn (ld k j))) (k:=.inr (iJ nm dn (ld k j))) (by (repeat walk_at "e")) (by (repeat walk_at "e")) rfl,hv];rfl
 rw[WM]
 unfold Bk
 (repeat walk_at "e")
end
theorem LP{f:Str}{d:D}:∀{fs:List (Str×D)},(fs.map Prod.fst).contains f=false->lG f d fs=fs++[(f,d)]
 | [],_=>rfl
 | (g,x)::fs,h=>by
  rw[aj,List.contains_cons,Bool.or_eq_false_iff]at h
  have ne:¬ g=f:=λz=>by subst z;simp at h
  show(if g=f then _ else(g,x)::lG f d fs)=_
  rw[aB ne,LP h.2];rfl
theorem vM{cs:List Str}{f c:Str}{i:Nat}{E:SD->Out D}{ς ς':SD}{d:D}{fds:List (Str×D)}(a:E ς=.ok d)(e:ς[i]?=some (some (.s,.ins c fds)))(hc:cs.contains c=true)(hl:fds.length<=900)(hf:(fds.map Prod.fst).contains f=false)
 (l:ς.set i (some (.s,.ins c (fds++[(f,d)])))=ς'):fO cs f i E ς=zt ς':=by
 unfold fO
 rw[a,dQ,e]
 show(if (cs.contains c&&decide (fds.length<1000))=true then _ else _)=_
 rw[aA (by rw[hc,Bool.true_and];exact aF (by omega)),LP hf,l]
section
variable(n nd ne:Nat)(nm dn c en:Nat->Str)(ek:Nat->Nat)(t:Nat->List (List Int))(m:Nat->Nat)(ld:Nat->Nat->Int)(st:Nat->Int)
def gF:List (Str×D):=[("clerk_names",rl n (λk=>.str (nm k))),("door_names",rl nd (λd=>.str (dn d))),("entry_places",rl ne (λj=>.tup [.str (en j),.int ((ek j:Nat):Int)])),("staff",rl n (λk=>ck (c k) (t k) (m k))),("first_states",rl n (λk=>.int (st k))),("ways",rl n (λk=>rl (m k) (λj=>.int (ld k j))))]
def fP:D:=.ins "Office" (gF n nd ne nm dn c en ek t m ld st)
end
theorem LQ:Qp.contains "Office"=true:=dk
section
variable{n nd:Nat}{nm dn c:Nat->Str}{t:Nat->List (List Int)}{m:Nat->Nat}{ld:Nat->Nat->Int}{st:Nat->Int}(hs:fj n nd nm dn c t m ld st)
include hs
theorem Yg{k:Nat}(hk:k<n):m7 .non (rl (m k) (λj=>.int (ld k j)))=zn false:=by
 show(if (_&&((List.range (m k)).map λj=>D.int (ld k j)).all D.scal)=true then Out.ok (D.bl (jf _ _)) else _)=_
 rw[aA (by rw[aO];exact⟨rfl,zK λi _=>rfl⟩)]
 have:jf (gO .non) (((List.range (m k)).map λj=>D.int (ld k j)).map gO)=false:=by
  unfold jf
  rw[List.any_eq_false]
  intro v hv
  rw[aY]at hv
  obtain⟨j,_,rfl⟩:=ah.mp hv
  simp[gO,pz]
 rw[this]
end
section
variable{n nd ne:Nat}{nm dn c en:Nat->Str}{ek:Nat->Nat}{t:Nat->List (List Int)}{m:Nat->Nat}{ld:Nat->Nat->Int}{st:Nat->Int}(hs:fj n nd nm dn c t m ld st)(he:zL n ne en ek)
include hs he
theorem LR:qd "Office" [] [rl n (eM nm dn c t m ld st),rl ne (g6 nm en ek),rl nd (λd=>.str (dn d))]=.ok (gF n nd ne nm dn c en ek t m ld st):=by
 have n1:=hs.n1
 have n2:=hs.n2
 have d2:=hs.d2
 have h1:=YV hs
 have h2:=YX hs
 have h3:=Ya hs he
 have e6:=he.e6
 have h4:=Yd hs
 have oc:=LQ
 generalize hS:rl n (eM nm dn c t m ld st)=S at *
 generalize hE:rl ne (g6 nm en ek)=E at *
 generalize LU:rl nd (λd=>.str (dn d))=Do at *
 generalize hN:rl n (λk=>.str (nm k))=N at *
 generalize hP:D.dic (jK n nd nm dn)=P at *
 generalize hW:rl n (λk=>rl (m k) (λj=>.int (ld k j)))=W
 have q0:dc [none] (fJ (dU 1)) (gN 0) da Gp [some (.s,.ins "Office" []),zk S,zk E,zk Do,none,none,none]=.ok N:=by
  subst hS;subst hN
  refine QO (eM nm dn c t m ld st) (λk=>D.str (nm k)) rfl (λk hk=>?_) (by rw[aC];omega)
  have x0:eF (eM nm dn c t m ld st k) (.int 0)=zl (nm k):=j5 0 rfl
  refine QE (τ0:=[none]) (sI jU) (by walk_at "s") ?_
  unfold Gp
  (repeat walk_at "e")
 have q1:dc [none,some 5] (fJ (dU 1)) (gN 0) da Gq [some (.s,.ins "Office" []),zk S,zk E,zk Do,zk N,zk P,none]=.ok W:=by
  subst hS;subst hW;subst hP
  refine QO (eM nm dn c t m ld st) (λk=>rl (m k) (λj=>.int (ld k j))) rfl (λk hk=>?_) (by rw[aC];omega)
  have hl:=Yf hs (aU.mp hk)
  refine QE (τ0:=[none,zk (.dic (jK n nd nm dn))]) (sI (Av rfl jU)) (by walk_at "s") ?_
  unfold Gq
  (repeat walk_at "e")
 have q2:dc [none] (fJ (dU 6)) (gN 0) da Gr [some (.s,.ins "Office" []),zk S,zk E,zk Do,zk N,zk P,zk W]=.ok (rl n (λ_=>.bl false)):=by
  subst hW
  refine QO (λk=>rl (m k) (λj=>.int (ld k j))) (λ_=>D.bl false) rfl (λk hk=>?_) (by rw[aC];omega)
  have hl:=Yg hs (aU.mp hk)
  refine QE (τ0:=[none]) (sI jU) (by walk_at "s") ?_
  unfold Gr
  (repeat walk_at "e")
 have ha:f1 ke [rl n (λ_=>.bl false)]=zn false:=by
  show ke (.lst ((List.range n).map λ_=>D.bl false))=_
  rw[TJ (λ_=>false)];simp
 have q3:∀ F:List (Str×D),dc [none,some 5] (fJ (dU 2)) (gN 0) da Bl [some (.s,.ins "Office" F),zk S,zk E,zk Do,zk N,zk P,zk W]=.ok (rl ne (λj=>.tup [.str (en j),.int ((ek j:Nat):Int)])):=λF=>by
  subst hE;subst hP
  refine QO (g6 nm en ek) (λj=>D.tup [.str (en j),.int ((ek j:Nat):Int)]) rfl (λj hj=>?_) (by rw[aC];omega)
  have p0:=sX hs (he.rng j (aU.mp hj))
  have x0:eF (g6 nm en ek j) (.int 0)=zl (en j):=j5 0 rfl
  have x1:eF (g6 nm en ek j) (.int 1)=zl (nm (ek j)):=j5 1 rfl
  refine QE (τ0:=[none,zk (.dic (jK n nd nm dn))]) (sI (Av rfl jU)) (by walk_at "s") ?_
  unfold Bl
  have hd:nG (dU 1) (e2 eF (dU 0) (eC (.int 1))) [zk (g6 nm en ek j),zk (.dic (jK n nd nm dn))]=.ok (.int ((ek j:Nat):Int)):=zM (kds:=jK n nd nm dn) (y:=.str (nm (ek j))) (k:=.inr (nm (ek j))) (by (repeat walk_at "e")) (by (repeat walk_at "e")) rfl p0
  (repeat walk_at "e")
 have q4:∀ F:List (Str×D),dc [none] (fJ (dU 1)) (gN 0) da Bm [some (.s,.ins "Office" F),zk S,zk E,zk Do,zk N,zk P,zk W]=.ok (rl n (λk=>ck (c k) (t k) (m k))):=λF=>by
  subst hS
  refine QO (eM nm dn c t m ld st) (λk=>ck (c k) (t k) (m k)) rfl (λk hk=>?_) (by rw[aC];omega)
  have x0:eF (eM nm dn c t m ld st k) (.int 1)=.ok (ck (c k) (t k) (m k)):=j5 1 rfl
  refine QE (τ0:=[none]) (sI jU) (by walk_at "s") ?_
  unfold Bm
  (repeat walk_at "e")
 have q5:∀ F:List (Str×D),dc [none] (fJ (dU 1)) (gN 0) da Bn [some (.s,.ins "Office" F),zk S,zk E,zk Do,zk N,zk P,zk W]=.ok (rl n (λk=>.int (st k))):=λF=>by
  subst hS
  refine QO (eM nm dn c t m ld st) (λk=>D.int (st k)) rfl (λk hk=>?_) (by rw[aC];omega)
  have x0:eF (eM nm dn c t m ld st k) (.int 3)=zi (st k):=j5 3 rfl
  refine QE (τ0:=[none]) (sI jU) (by walk_at "s") ?_
  unfold Bn
  (repeat walk_at "e")
 have hdl:fi Do=.ok Do:=by subst LU;rfl
 let F1:List (Str×D):=[("clerk_names",N)]
 let F2:List (Str×D):=[("clerk_names",N),("door_names",Do)]
 let F3:List (Str×D):=[("clerk_names",N),("door_names",Do),("entry_places",rl ne (λj=>.tup [.str (en j),.int ((ek j:Nat):Int)]))]
 let F4:List (Str×D):=[("clerk_names",N),("door_names",Do),("entry_places",rl ne (λj=>.tup [.str (en j),.int ((ek j:Nat):Int)])),("staff",rl n (λk=>ck (c k) (t k) (m k)))]
 let F5:List (Str×D):=[("clerk_names",N),("door_names",Do),("entry_places",rl ne (λj=>.tup [.str (en j),.int ((ek j:Nat):Int)])),("staff",rl n (λk=>ck (c k) (t k) (m k))),("first_states",rl n (λk=>.int (st k)))]
 have s1:fO Qp "clerk_names" 0 (dU 4) [some (.s,.ins "Office" []),zk S,zk E,zk Do,zk N,zk P,zk W]=zt [some (.s,.ins "Office" F1),zk S,zk E,zk Do,zk N,zk P,zk W]:=
  vM (d:=N) (by (repeat walk_at "e")) rfl oc (by decide) (by decide) rfl
 have s2:fO Qp "door_names" 0 (e1 fi (dU 3)) [some (.s,.ins "Office" F1),zk S,zk E,zk Do,zk N,zk P,zk W]=zt [some (.s,.ins "Office" F2),zk S,zk E,zk Do,zk N,zk P,zk W]:=
  vM (d:=Do) (by (repeat walk_at "e")) rfl oc (bu rfl) (by show(["clerk_names"]:List Str).contains "door_names"=false;decide +kernel) rfl
 have s3:fO Qp "entry_places" 0 (dc [none,some 5] (fJ (dU 2)) (gN 0) da Bl) [some (.s,.ins "Office" F2),zk S,zk E,zk Do,zk N,zk P,zk W]=zt [some (.s,.ins "Office" F3),zk S,zk E,zk Do,zk N,zk P,zk W]:=
  vM (q3 _) rfl oc (bu rfl) (by show(["clerk_names","door_names"]:List Str).contains "entry_places"=false;decide +kernel) rfl
 have s4:fO Qp "staff" 0 (dc [none] (fJ (dU 1)) (gN 0) da Bm) [some (.s,.ins "Office" F3),zk S,zk E,zk Do,zk N,zk P,zk W]=zt [some (.s,.ins "Office" F4),zk S,zk E,zk Do,zk N,zk P,zk W]:=
  vM (q4 _) rfl oc (bu rfl) (by show(["clerk_names","door_names","entry_places"]:List Str).contains "staff"=false;decide +kernel) rfl
 have s5:fO Qp "first_states" 0 (dc [none] (fJ (dU 1)) (gN 0) da Bn) [some (.s,.ins "Office" F4),zk S,zk E,zk Do,zk N,zk P,zk W]=zt [some (.s,.ins "Office" F5),zk S,zk E,zk Do,zk N,zk P,zk W]:=
  vM (q5 _) rfl oc (bu rfl) (by show(["clerk_names","door_names","entry_places","staff"]:List Str).contains "first_states"=false;decide +kernel) rfl
 have s6:fO Qp "ways" 0 (dU 6) [some (.s,.ins "Office" F5),zk S,zk E,zk Do,zk N,zk P,zk W]=zt [some (.s,.ins "Office" (gF n nd ne nm dn c en ek t m ld st)),zk S,zk E,zk Do,zk N,zk P,zk W]:=
  vM (d:=W) (by (repeat walk_at "e")) rfl oc (bu rfl) (by show(["clerk_names","door_names","entry_places","staff","first_states"]:List Str).contains "ways"=false;decide +kernel) (by subst hN;subst LU;subst hW;rfl)
 have fin:oM "Office" (.nx [some (.s,.ins "Office" (gF n nd ne nm dn c en ek t m ld st)),zk S,zk E,zk Do,zk N,zk P,zk W])=.ok (gF n nd ne nm dn c en ek t m ld st):=by
  show(if ("Office":Str)="Office" then Out.ok (gF n nd ne nm dn c en ek t m ld st) else .stuck)=_
  rw[aA rfl]
 rw[WV]
 unfold Bo
 (repeat walk_at "e")
end
section
variable{n nd ne:Nat}{nm dn c en:Nat->Str}{ek:Nat->Nat}{t:Nat->List (List Int)}{m:Nat->Nat}{ld:Nat->Nat->Int}{st:Nat->Int}
theorem Yh:(gF n nd ne nm dn c en ek t m ld st).lookup ("staff":Str)=some (rl n (λk=>ck (c k) (t k) (m k))):=by
 have h1:(("staff":Str) == "clerk_names")=false:=dk
 have h2:(("staff":Str) == "door_names")=false:=dk
 have h3:(("staff":Str) == "entry_places")=false:=dk
 unfold gF
 rw[aK,h1,aK,h2,aK,h3,aK,bD]
theorem Yi:(gF n nd ne nm dn c en ek t m ld st).lookup ("ways":Str)=some (rl n (λk=>rl (m k) (λj=>.int (ld k j)))):=by
 have h1:(("ways":Str) == "clerk_names")=false:=dk
 have h2:(("ways":Str) == "door_names")=false:=dk
 have h3:(("ways":Str) == "entry_places")=false:=dk
 have h4:(("ways":Str) == "staff")=false:=dk
 have h5:(("ways":Str) == "first_states")=false:=dk
 unfold gF
 rw[aK,h1,aK,h2,aK,h3,aK,h4,aK,h5,aK,bD]
theorem Yj{x:Str}(h:(["clerk_names","door_names","entry_places","staff","first_states","ways"]:List Str).all (λy => !(x == y))=true):(gF n nd ne nm dn c en ek t m ld st).lookup x=none:=by
 simp only[cF,List.all_nil,aO,cQ,Bool.and_true]at h
 obtain⟨h1,h2,h3,h4,h5,h6⟩:=h
 unfold gF
 rw[aK,h1,aK,h2,aK,h3,aK,h4,aK,h5,aK,h6];rfl
theorem ju{x:Str}{d:D}(h:(gF n nd ne nm dn c en ek t m ld st).lookup x=some d):jF Qp x (fP n nd ne nm dn c en ek t m ld st)=.ok d:=by
 show(if Qp.contains "Office"=true then gq ((gF n nd ne nm dn c en ek t m ld st).lookup x) else .stuck)=_
 rw[aA LQ,h];rfl
theorem uE{x:Str}{mt:Str->List D->Out D}{O:SD->Out D}{A:SD->Out (List D)}{ς:SD}{xs:List D}(hO:O ς=.ok (fP n nd ne nm dn c en ek t m ld st))(hA:A ς=.ok xs)
 (h:(["clerk_names","door_names","entry_places","staff","first_states","ways"]:List Str).all (λy => !(x == y))=true):e7 Ql x mt O A ς=mt "Office" (fP n nd ne nm dn c en ek t m ld st::xs):=by
 have hc:Ql.contains "Office"=true:=dk
 unfold e7
 rw[hO,dQ]
 show(if (Ql.contains "Office"&&((gF n nd ne nm dn c en ek t m ld st).lookup x).isNone)=true then A ς>>=λxs=>mt "Office" (.ins "Office" (gF n nd ne nm dn c en ek t m ld st)::xs) else .stuck)=_
 rw[Yj h,hc,aA (show(true&&(none:Option D).isNone)=true from rfl),hA];rfl
theorem Yk{k:Nat}(hk:k<n):Q9 [fP n nd ne nm dn c en ek t m ld st,.int (k:Int)]=.ok (ck (c k) (t k) (m k)):=by
 have h1:=ju (Yh (n:=n) (nd:=nd) (ne:=ne) (nm:=nm) (dn:=dn) (c:=c) (en:=en) (ek:=ek) (t:=t) (m:=m) (ld:=ld) (st:=st))
 have x1:eF (rl n (λk=>ck (c k) (t k) (m k))) (.int (k:Int))=.ok (ck (c k) (t k) (m k)):=ja hk
 rw[X5]
 unfold C1
 (repeat walk_at "e")
theorem Yl{k:Nat}(hk:k<n):qf [fP n nd ne nm dn c en ek t m ld st,.int (k:Int)]=.ok (rl (m k) (λj=>.int (ld k j))):=by
 have h1:=ju (Yi (n:=n) (nd:=nd) (ne:=ne) (nm:=nm) (dn:=dn) (c:=c) (en:=en) (ek:=ek) (t:=t) (m:=m) (ld:=ld) (st:=st))
 have x1:eF (rl n (λk=>rl (m k) (λj=>.int (ld k j)))) (.int (k:Int))=.ok (rl (m k) (λj=>.int (ld k j))):=ja hk
 have hd:fi (rl (m k) (λj=>.int (ld k j)))=.ok (rl (m k) (λj=>.int (ld k j))):=rfl
 rw[XR]
 unfold CA
 (repeat walk_at "e")
theorem LV:(gF n nd ne nm dn c en ek t m ld st).lookup ("clerk_names":Str)=some (rl n (λk=>.str (nm k))):=by
 unfold gF
 rw[aK,bD]
theorem Ym:(gF n nd ne nm dn c en ek t m ld st).lookup ("door_names":Str)=some (rl nd (λd=>.str (dn d))):=by
 have h1:(("door_names":Str) == "clerk_names")=false:=dk
 unfold gF
 rw[aK,h1,aK,bD]
theorem Yn:(gF n nd ne nm dn c en ek t m ld st).lookup ("entry_places":Str)=some (rl ne (λj=>.tup [.str (en j),.int ((ek j:Nat):Int)])):=by
 have h1:(("entry_places":Str) == "clerk_names")=false:=dk
 have h2:(("entry_places":Str) == "door_names")=false:=dk
 unfold gF
 rw[aK,h1,aK,h2,aK,bD]
theorem Yo:(gF n nd ne nm dn c en ek t m ld st).lookup ("first_states":Str)=some (rl n (λk=>.int (st k))):=by
 have h1:(("first_states":Str) == "clerk_names")=false:=dk
 have h2:(("first_states":Str) == "door_names")=false:=dk
 have h3:(("first_states":Str) == "entry_places")=false:=dk
 have h4:(("first_states":Str) == "staff")=false:=dk
 unfold gF
 rw[aK,h1,aK,h2,aK,h3,aK,h4,aK,bD]
theorem on:pY [fP n nd ne nm dn c en ek t m ld st]=.ok (rl n (λk=>.str (nm k))):=by
 have h1:=ju (LV (n:=n) (nd:=nd) (ne:=ne) (nm:=nm) (dn:=dn) (c:=c) (en:=en) (ek:=ek) (t:=t) (m:=m) (ld:=ld) (st:=st))
 have hd:fi (rl n (λk=>.str (nm k)))=.ok (rl n (λk=>.str (nm k))):=rfl
 rw[Wn]
 unfold Bt
 exact QS (lg (gw (gw (dX rfl) h1) hd)) fW
theorem Hn{i:Nat}{ς:SD}(h:ς[i]?=some (zk (fP n nd ne nm dn c en ek t m ld st))):e7 Ql "names" (λ_=>pY) (dU i) dY ς=.ok (rl n (λk=>.str (nm k))):=by
 rw[uE (xs:=[]) (dX h) rfl (dk)]
 exact on
theorem od:qe [fP n nd ne nm dn c en ek t m ld st]=.ok (rl nd (λd=>.str (dn d))):=by
 have h1:=ju (Ym (n:=n) (nd:=nd) (ne:=ne) (nm:=nm) (dn:=dn) (c:=c) (en:=en) (ek:=ek) (t:=t) (m:=m) (ld:=ld) (st:=st))
 have hd:fi (rl nd (λd=>.str (dn d)))=.ok (rl nd (λd=>.str (dn d))):=rfl
 rw[Wx]
 unfold Bx
 exact QS (lg (gw (gw (dX rfl) h1) hd)) fW
theorem Ho{i:Nat}{ς:SD}(h:ς[i]?=some (zk (fP n nd ne nm dn c en ek t m ld st))):e7 Ql "doors" (λ_=>qe) (dU i) dY ς=.ok (rl nd (λd=>.str (dn d))):=by
 rw[uE (xs:=[]) (dX h) rfl (dk)]
 exact od
theorem oe:QX [fP n nd ne nm dn c en ek t m ld st]=.ok (rl ne (λj=>.tup [.str (en j),.int ((ek j:Nat):Int)])):=by
 have h1:=ju (Yn (n:=n) (nd:=nd) (ne:=ne) (nm:=nm) (dn:=dn) (c:=c) (en:=en) (ek:=ek) (t:=t) (m:=m) (ld:=ld) (st:=st))
 have hd:fi (rl ne (λj=>.tup [.str (en j),.int ((ek j:Nat):Int)]))=.ok (rl ne (λj=>.tup [.str (en j),.int ((ek j:Nat):Int)])):=rfl
 rw[Xh]
 unfold CG
 exact QS (lg (gw (gw (dX rfl) h1) hd)) fW
theorem LW{i:Nat}{ς:SD}(h:ς[i]?=some (zk (fP n nd ne nm dn c en ek t m ld st))):e7 Ql "entries" (λ_=>QX) (dU i) dY ς=.ok (rl ne (λj=>.tup [.str (en j),.int ((ek j:Nat):Int)])):=by
 rw[uE (xs:=[]) (dX h) rfl (dk)]
 exact oe
theorem ob:sS [fP n nd ne nm dn c en ek t m ld st]=.ok (rl n (λk=>.int (st k))):=by
 have h1:=ju (Yo (n:=n) (nd:=nd) (ne:=ne) (nm:=nm) (dn:=dn) (c:=c) (en:=en) (ek:=ek) (t:=t) (m:=m) (ld:=ld) (st:=st))
 have hd:fi (rl n (λk=>.int (st k)))=.ok (rl n (λk=>.int (st k))):=rfl
 rw[XY]
 unfold CD
 exact QS (lg (gw (gw (dX rfl) h1) hd)) fW
theorem LX{i:Nat}{ς:SD}(h:ς[i]?=some (zk (fP n nd ne nm dn c en ek t m ld st))):e7 Ql "begin" (λ_=>sS) (dU i) dY ς=.ok (rl n (λk=>.int (st k))):=by
 rw[uE (xs:=[]) (dX h) rfl (dk)]
 exact ob
theorem om:Q0 [fP n nd ne nm dn c en ek t m ld st]=.ok (.int (n:Int)):=by
 have h1:=ju (LV (n:=n) (nd:=nd) (ne:=ne) (nm:=nm) (dn:=dn) (c:=c) (en:=en) (ek:=ek) (t:=t) (m:=m) (ld:=ld) (st:=st))
 have hl:=jJ n (λk=>D.str (nm k))
 rw[Wu]
 unfold Bw
 exact QS (fu (fe (Qe (gw (dX rfl) h1) df) hl)) iA
theorem Ca{i:Nat}{ς:SD}(h:ς[i]?=some (zk (fP n nd ne nm dn c en ek t m ld st))):e7 Ql "many" (λ_=>Q0) (dU i) dY ς=.ok (.int (n:Int)):=by
 rw[uE (xs:=[]) (dX h) rfl (dk)]
 exact om
theorem Cb{i j k:Nat}{ς:SD}(hk:k<n)(h:ς[i]?=some (zk (fP n nd ne nm dn c en ek t m ld st)))(h':ς[j]?=some (zk (.int (k:Int)))):e7 Ql "clerk" (λ_=>Q9) (dU i) (dW (dU j) dY) ς=.ok (ck (c k) (t k) (m k)):=by
 rw[uE (xs:=[.int (k:Int)]) (dX h) (Qe (dX h') df) (dk)]
 exact Yk hk
theorem La{i j k:Nat}{ς:SD}(hk:k<n)(h:ς[i]?=some (zk (fP n nd ne nm dn c en ek t m ld st)))(h':ς[j]?=some (zk (.int (k:Int)))):e7 Ql "leads" (λ_=>qf) (dU i) (dW (dU j) dY) ς=.ok (rl (m k) (λj=>.int (ld k j))):=by
 rw[uE (xs:=[.int (k:Int)]) (dX h) (Qe (dX h') df) (dk)]
 exact Yl hk
end
section
variable{n nd ne:Nat}{nm dn c en:Nat->Str}{ek:Nat->Nat}{t:Nat->List (List Int)}{m:Nat->Nat}{ld:Nat->Nat->Int}{st:Nat->Int}(hs:fj n nd nm dn c t m ld st)
include hs
theorem Yp{k:Nat}(hk:k<n):z7 [fP n nd ne nm dn c en ek t m ld st,.int (k:Int)]=.ok (rl (m k) (λj=>.str (iJ nm dn (ld k j)))):=by
 have m6:=(hs.tb k hk).m6
 have hc:dc [none,some 2,some 3] (fJ (e7 Ql "leads" (λ_=>qf) (dU 0) (dW (dU 1) dY))) (gN 0) da HQ [zk (fP n nd ne nm dn c en ek t m ld st),zk (.int (k:Int)),zk (rl n (λk=>.str (nm k))),zk (rl nd (λd=>.str (dn d)))]=.ok (rl (m k) (λj=>.str (iJ nm dn (ld k j)))):=by
  refine QO (λj=>D.int (ld k j)) (λj=>D.str (iJ nm dn (ld k j))) (gP (La hk rfl rfl)) (λj hj=>?_) (by rw[aC];omega)
  obtain⟨l1,l2⟩:=hs.ldr k j hk (aU.mp hj)
  refine QE (by walk_at "cap") (by walk_at "s") ?_
  unfold HQ
  by_cases h:0<=ld k j
  ·obtain⟨p,hp⟩:∃ p:Nat,ld k j=(p:Int):=⟨(ld k j).toNat,by omega⟩
   have e:iJ nm dn (ld k j)=nm p:=by unfold iJ;rw[aB (by omega),hp,ax]
   have hx:eF (rl n (λk=>.str (nm k))) (.int (p:Int))=zl (nm p):=ja (f:=λk=>D.str (nm k)) (by omega)
   rw[e,hp]
   exact oU (QT (dZ (dX rfl) eG (yK _ _))) (pV (aF (by omega)) (dZ (dX rfl) (dX rfl) hx))
  ·obtain⟨p,hp⟩:∃ p:Nat, -1 - ld k j=(p:Int):=⟨(-1 - ld k j).toNat,by omega⟩
   have e:iJ nm dn (ld k j)=dn p:=by unfold iJ;rw[aA (by omega),hp,ax]
   have hx:eF (rl nd (λd=>.str (dn d))) (.int (-1 - ld k j))=zl (dn p):=by rw[hp];exact ja (f:=λk=>D.str (dn k)) (by omega)
   rw[e]
   exact oU (QT (dZ (dX rfl) eG (yK _ _))) (sC (aQ h) (dZ (dX rfl) (dZ (gw eG (qS _)) (dX rfl) (Q3 _ _)) hx))
 rw[XU]
 unfold CC
 exact QS (dh (dz (Hn rfl) (by walk_at "s")) (Qj (dh (dz (Ho rfl) (by walk_at "s")) (Qj (lg hc))))) fW
end
theorem gV(a b:Nat):fB (.int (a:Int)) (.int (b:Int))=.ok (.int ((a+b:Nat):Int)):=by rw[rm];rfl
theorem gG(a:Nat){m:Nat}(h:0<m):fA (.int (a:Int)) (.int (m:Int))=.ok (.int ((a % m:Nat):Int)):=by rw[yJ (by omega)];rfl
theorem j6(a:Nat){m:Nat}(h:0<m)(h':rK (m:Int)=true):fh (.int (a:Int)) (.int (m:Int))=.ok (.int ((a / m:Nat):Int)):=by
 rw[T7 (by omega) h'];rfl
theorem Hq{ς ς':SD}{i:Nat}{d:D}(e:ς[i]?=some (zo d))(h:ς.set i (some (.k,d))=ς'):frz i ς=ς':=by
 unfold frz
 rw[e];exact h
theorem Hr{T:SD->Out Fl}{j:Nat}{ς ς1:SD}{r:Out Fl}(hz:frz j ς=ς1)(h:T ς1=r):(λς=>T (frz j ς)) ς=r:=by
 show T (frz j ς)=r
 rw[hz];exact h
theorem Lb(b:Bool):f1 qK [.bl b]=zi (if b=true then 1 else 0):=by cases b<;>rfl
theorem Lc{x:D}{N:Nat}(h:N<=1000):oG (.lst [x]) (.int (N:Int))=.ok (rl N (λ_=>x)):=by
 have e:(List.replicate N x)=(List.range N).map λ_=>x:=by
  apply bN
  intro i
  rw[aH,ba]
  by_cases hi:i<N
  ·rw[aA hi,ae hi];rfl
  ·rw[aB hi,au (by rw[aC];omega)];rfl
 show _=Out.ok (D.lst ((List.range N).map λ_=>x))
 rw[← e]
 unfold oG
 simp only[ax,List.flatten_replicate_singleton,aZ,cI]
 rw[aA]
 rw[aO,aO]
 exact⟨⟨aF (by omega),aF (by omega)⟩,pU (by omega)⟩
theorem nM{a b:Nat}(ha:a<2 ^ 40)(hb:b<2 ^ 40):jX (.int (a:Int)) (.int (b:Int))=.ok (.int ((a * b:Nat):Int)):=by
 rw[KZ (Fj (n:=40) (show((a:Int)).natAbs<2 ^ 40 by omega)) (Fj (n:=40) (show((b:Int)).natAbs<2 ^ 40 by omega)) (by decide)];rfl
theorem Yq{n:Nat}(hn:n<=100){ς:SD}(h:ς[3]?=some (zk (.int (n:Int))))(hc:fC [none,some 3] ς=[none,zk (.int (n:Int))]):dc [none,some 3] (eR (dU 3)) (gN 0) da GK ς=.ok (eh (fN n)):=by
 have e:eh (fN n)=.lst ((List.range n).map λs=>dl (one n s)):=by unfold eh fN;rw[aY];rfl
 rw[e]
 refine QO (λs:Nat=>D.int ((0:Int)+s)) (λs=>dl (one n s)) (Q6 n (dX h) (by omega)) (λs _=>?_) (by rw[aC];omega)
 refine QE hc (by walk_at "s") ?_
 unfold GK
 have lH:dl (one n s)=.lst ((List.range n).map λk=>D.int (if k=s then 1 else 0)):=by unfold dl one;rw[aY];rfl
 rw[lH,Int.zero_add]
 refine QO (λk:Nat=>D.int ((0:Int)+k)) (λk=>D.int (if k=s then 1 else 0)) (Q6 n rfl (by omega)) (λk _=>?_) (by rw[aC];omega)
 refine QE (by walk_at "cap") (by walk_at "s") ?_
 unfold L8
 have hd:=Lb (decide (((0:Int)+(k:Int))=(s:Int)))
 have hh:(if decide (((0:Int)+(k:Int))=(s:Int))=true then(1:Int) else 0)=if k=s then 1 else 0:=by
  by_cases q:k=s
  ·rw[aA q,aA (aF (by omega))]
  ·rw[aB q,aQ (by omega)];rfl
 rw[hh]at hd
 (repeat walk_at "e")
theorem Yr{n:Nat}(hn:n<=100){ς:SD}(h:ς[4]?=some (zk (.int (n:Int))))(hc:fC [none,some 4] ς=[none,zk (.int (n:Int))]):dc [none,some 4] (eR (dU 4)) (gN 0) da GL ς=.ok (eh (jI n)):=by
 have e:eh (jI n)=.lst ((List.range n).map λs=>dl [if s+1=n then 1 else 0]):=by unfold eh jI;rw[aY];rfl
 rw[e]
 refine QO (λs:Nat=>D.int ((0:Int)+s)) (λs=>dl [if s+1=n then 1 else 0]) (Q6 n (dX h) (by omega)) (λs _=>?_) (by rw[aC];omega)
 refine QE hc (by walk_at "s") ?_
 unfold GL
 show _=Out.ok (D.lst [.int (if s+1=n then 1 else 0)])
 have hd:=Lb (decide (((0:Int)+(s:Int))=(n:Int) - 1))
 have hh:(if decide (((0:Int)+(s:Int))=(n:Int) - 1)=true then(1:Int) else 0)=if s+1=n then 1 else 0:=by
  by_cases q:s+1=n
  ·rw[aA q,aA (aF (by omega))]
  ·rw[aB q,aQ (by omega)];rfl
 rw[hh]at hd
 (repeat walk_at "e")
theorem hV{P:SD->Out Bool}{T U:SD->Out Fl}{ς:SD}{b:Bool}{rf:Out Fl}(a:P ς=.ok b)(hb:b=true)(k:T ς=rf):gW P T U ς=rf:=oV a (pV hb k)
theorem g7{P:SD->Out Bool}{T U:SD->Out Fl}{ς:SD}{b:Bool}{rf:Out Fl}(a:P ς=.ok b)(hb:b=false)(k:U ς=rf):gW P T U ς=rf:=oV a (sC hb k)
abbrev nl(ys:List Nat):D:=.lst (ys.map λy:Nat=>D.int (y:Int))
theorem Ld:∀ l:List Int,iz (l.map D.int)=true
 | []=>rfl
 | x::l=>by show(oR (D.int x)&&iz (l.map D.int))=true;rw[Ld l];rfl
theorem Le:∀ l:List Int,lP (l.map D.int)<=1
 | []=>bV _
 | x::l=>by
  have:=Le l
  show max (tq (D.int x)) (lP (l.map D.int))<=1
  have h:tq (D.int x)=0:=rfl
  omega
theorem Cd(l:List Int):m3 (.lst (l.map D.int))=true:=Kc (d:=.lst (l.map D.int)) (Ld l) (by show lP (l.map D.int)+1<=64;have:=Le l;omega)
theorem Lf(i:Int):lE [.int i,.int (-1 - i)]=.ok (.int (((max i (-1 - i)).toNat:Nat):Int)):=by
 show Out.ok (D.int (if -1 - i > i then -1 - i else i))=_
 congr 2
 split<;>omega
theorem Ys(ns:List Int)(hl:ns.length<=63)(hb:∀ z∈ns,gK z<=1048576):∃ ys:List Nat,ys.length<=44/\uv [.lst (ns.map .int),.int 44]=.ok (nl ys):=by
 cases ns with
 | nil=>
  refine⟨[],by decide,?_⟩
  rw[L4]
  unfold yV
  exact QS (fl:=.rt true (.lst [])) (dh (hV (QT (dZ (dX rfl) (fX df (by decide)) (show iL (.lst []) (.lst [])=zn true from rfl))) rfl (lg (fX df (by decide)))) sA) fW
 | cons z zs=>
  have fT:iL (.lst ((z::zs).map D.int)) (.lst [])=zn false:=by rw[Kd (Cd _) (show m3 (.lst [])=true from Cd [])];rfl
  have hx:eF (.lst ((z::zs).map D.int)) (.int 0)=zi z:=mC 0 rfl
  have hm:fA (.int z) (.int 2)=zi (z % 2):=yJ (by decide)
  have s0:∀(T:SD->Out Fl)(rf:Out Fl),T [zk (.lst ((z::zs).map D.int)),zk (.int 44),none]=rf->dj (gW (eD (e2 iL (dU 0) (fU dY))) (fD (fU dY)) fH) T [zk (.lst ((z::zs).map D.int)),zk (.int 44),none]=rf:=λT rf h=>dh (g7 (QT (dZ (dX rfl) (fX df (by decide)) fT)) rfl kq) (Qj h)
  have mF:eD (e2 iL (e2 fA (e2 eF (dU 0) (eC (.int 0))) (eC (.int 2))) (eC (.int 0))) [zk (.lst ((z::zs).map D.int)),zk (.int 44),none]=.ok (decide (z % 2=0)):=QT (dZ (dZ (dZ (dX rfl) eG hx) eG hm) eG (nI _ _))
  rw[L4]
  unfold yV
  by_cases h:z % 2=0
  ·have hc:dc [none] (fJ (mU (dU 0) (fV (eC (.int 1))) (fV (dU 1)))) (gN 0) da Fx [zk (.lst ((z::zs).map D.int)),zk (.int 44),none]=.ok (.lst ((zs.take 43).map λi=>D.int (((max i (-1 - i)).toNat:Nat):Int))):=by
    refine QO (l:=zs.take 43) D.int (λi=>D.int (((max i (-1 - i)).toNat:Nat):Int)) (gP (nL (dX rfl) (sE eG) (sE (dX rfl)) ?_)) (λi _=>?_) (by rw[bK];omega)
    ·rw[show(1:Int)=((1:Nat):Int) from rfl,show(44:Int)=((44:Nat):Int) from rfl,Kh,List.map_take];rfl
    ·refine QE (by walk_at "cap") (by walk_at "s") ?_
     unfold Fx
     exact fe (Qe (dX rfl) (Qe (dZ (gw eG (qS _)) (dX rfl) (Q3 _ _)) df)) (Lf i)
   refine⟨(max z (-1 - z)).toNat / 2::(zs.take 43).map λi=>(max i (-1 - i)).toNat,by rw[aZ,aD,bK];omega,?_⟩
   refine QS (fl:=.rt true _) (s0 _ _ (dh (hV mF (aF h) (lg (dZ (fX (Qe (dZ (fe (Qe (dZ (dX rfl) eG hx) (Qe (dZ (gw eG (qS _)) (dZ (dX rfl) eG hx) (Q3 _ _)) df)) (Lf z)) eG (j6 _ (m:=2) (by decide) (by decide))) df) (show 1<=1000 by decide)) hc (tw (by rw[aD,bK];show 1+_<=_;omega))))) sA)) ?_
   rw[fW]
   show Out.ok (D.lst (_::_))=Out.ok (D.lst (_::_))
   rw[aY];rfl
  ·have hp:mi (.int 105152070229383420083013462309641843003) (.int 4)=zi (105152070229383420083013462309641843003 ^ 4):=by
    unfold mi dI
    exact aA (dk)
   have tE:qR (.int 1) (.int 521)=zi (1 * 2 ^ 521):=by rw[T5 (by decide)];rfl
   have hf:gK (105152070229383420083013462309641843003 ^ 4)<=600:=Fj (dk)
   have Yt:mU (dU 0) pK (fV (dU 1)) [zk (.lst ((z::zs).map D.int)),zk (.int 44),zk (.int (105152070229383420083013462309641843003 ^ 4))]=.ok (.lst (((z::zs).take 44).map D.int)):=
    nL (p:=none) (q:=some 44) (dX rfl) mh (sE (dX rfl)) (by rw[show(44:Int)=((44:Nat):Int) from rfl,Kg,List.map_take])
   have hc:dc [none,some 2] (fJ (mU (dU 0) pK (fV (dU 1)))) (gN 0) da Fy [zk (.lst ((z::zs).map D.int)),zk (.int 44),zk (.int (105152070229383420083013462309641843003 ^ 4))]=.ok (.lst (((z::zs).take 44).map λi:Int=>D.int (((i * 105152070229383420083013462309641843003 ^ 4 % (1 * 2 ^ 521 - 1)).toNat:Nat):Int))):=by
    refine QO (l:=(z::zs).take 44) D.int (λi:Int=>D.int (((i * 105152070229383420083013462309641843003 ^ 4 % (1 * 2 ^ 521 - 1)).toNat:Nat):Int)) (gP Yt) (λi hi=>?_) (by rw[bK];omega)
    ·refine QE rfl rfl ?_
     unfold Fy
     have Hm:=hb i (List.mem_of_mem_take hi)
     have Yu:(0:Int)<1 * 2 ^ 521 - 1:=by decide
     refine dZ (dZ (dX rfl) (dX rfl) (sJ Hm hf (by decide))) (dZ (dZ eG eG tE) eG (Q3 _ _)) ?_
     rw[yJ Yu,Int.toNat_of_nonneg (Int.emod_nonneg _ (by omega))]
   refine⟨((z::zs).take 44).map λi=>(i * 105152070229383420083013462309641843003 ^ 4 % (1 * 2 ^ 521 - 1)).toNat,by rw[aD,bK];omega,?_⟩
   refine QS (fl:=.rt true _) (s0 _ _ (dh (g7 mF (aQ h) kq) (Qj (dh (dz (dZ eG eG hp) rfl) (Qj (lg hc)))))) ?_
   rw[fW]
   show Out.ok (D.lst _)=Out.ok (D.lst _)
   rw[aY];rfl
theorem Hs(ys:List Nat)(k:Nat):oX [nl ys,.int (k:Int)]=.ok (.int ((ys.getD k 0:Nat):Int)):=by
 have hlen:eB [nl ys]=.ok (.int (ys.length:Int)):=by simp[eB]
 by_cases h:k<ys.length
 ·have ly:mT (.int (k:Int)) (.int (ys.length:Int))=zn true:=by rw[lb,aF (by omega)]
  have hx:eF (nl ys) (.int (k:Int))=.ok (.int ((ys[k]:Nat):Int)):=mC k (by rw[aH,aE h];rfl)
  rw[show ys.getD k 0=ys[k] by rw[aM,aE h];rfl]
  rw[L5]
  unfold yW
  (repeat walk_at "e")
 ·have ly:mT (.int (k:Int)) (.int (ys.length:Int))=zn false:=by rw[lb,aQ (by omega)]
  rw[show ys.getD k 0=0 by rw[aM,au (by omega)];rfl]
  rw[L5]
  unfold yW
  exact QS (fl:=.rt false (.int 0)) (dh (g7 (QT (dZ (dX rfl) (fe (Qe (dX rfl) df) hlen) ly)) rfl kq) (Qj (fu eG))) iA
theorem Yv(c k:Nat)(hk:k<=1000):QU [.int (c:Int),.int (k:Int)]=.ok (.int ((c / 2 ^ (10 * k) % 1024:Nat):Int)):=by
 have hs:qQ (.int (c:Int)) (.int ((10 * k:Nat):Int))=.ok (.int ((c / 2 ^ (10 * k):Nat):Int)):=by
  rw[T4 (by omega),ax,Int.natCast_ediv,Int.natCast_pow];rfl
 rw[UF]
 unfold Ay
 exact QS (fl:=.rt false _) (fu (dZ (dZ (dX rfl) (dZ eG (dX rfl) (nM (a:=10) (b:=k) (by decide) (by omega))) hs) eG (gG _ (m:=1024) (by decide)))) iA
theorem QV{f:List D->Out D}{AA:SD->Out (List D)}{ς:SD}{xs:List D}{r:Out D}(a:AA ς=.ok xs)(h:f xs=r):eA (λxs=>f (xs++[])) AA ς=r:=fe a (by rw[az];exact h)
theorem dg{c k:Nat}{E:SD->Out D}{K:SD->Out D}{ς:SD}(h:E ς=.ok (.int (c:Int)))(hk:K ς=.ok (.int (k:Int)))(k1:k<=1000):eA (λxs=>QU (xs++[])) (dW E (dW K dY)) ς=.ok (.int ((c / 2 ^ (10 * k) % 1024:Nat):Int)):=QV (Qe h (Qe hk df)) (Yv c k k1)
theorem zO(l:List (List Int)){ς:SD}{E:SD->Out D}(h:E ς=.ok (eh l))(hl:l.length<=100)(hc:fC [none] ς=[none]):dc [none] (fJ E) (gN 0) da GO ς=.ok (eh l):=by
 refine QO (l:=l) dl dl (gP h) (λr _=>?_) (by omega)
 refine QE hc (by walk_at "s") ?_
 unfold GO
 exact gw (dX rfl) rfl
theorem Yw(c:Nat):∃ cn t m,CK.contains cn=true/\Tb t m/\ux [.int (c:Int)]=.ok (.tup [ck cn t m,eh t]):=by
 obtain⟨w,hw⟩:∃ w,w=c / 2 ^ (10 * 0) % 1024 % 4:=⟨_,rfl⟩
 obtain⟨u,hu⟩:∃ u,u=c / 2 ^ (10 * 1) % 1024:=⟨_,rfl⟩
 have hw4:w<4:=by rw[hw];omega
 let Z:(a3 a4 a5 a6 a7 a8:Option (SM×D))->SD:=λa3 a4 a5 a6 a7 a8=>[zk (.int (c:Int)),zk (.int (w:Int)),zk (.int (u:Int)),a3,a4,a5,a6,a7,a8]
 have mF:∀(q:Int)(ς:SD),ς[1]?=some (zk (.int (w:Int)))->eD (e2 iL (dU 1) (eC (.int q))) ς=.ok (decide ((w:Int)=q)):=λq ς h=>QT (dZ (dX h) eG (nI _ _))
 have s0:∀(T:SD->Out Fl)(rf:Out Fl),T (Z none none none none none none)=rf->dj (e8 1 (e2 fA (eA (λxs=>QU (xs++[])) (dW (dU 0) (dW (eC (.int 0)) dY))) (eC (.int 4)))) (dj (e8 2 (eA (λxs=>QU (xs++[])) (dW (dU 0) (dW (eC (.int 1)) dY)))) T) [zk (.int (c:Int)),none,none,none,none,none,none,none,none]=rf:=λT rf h=>
  dh (dz (d:=.int (w:Int)) (dZ (dg (k:=0) (dX rfl) eG (by decide)) eG (by rw[hw];exact gG _ (m:=4) (by decide))) rfl) (Qj (dh (dz (d:=.int (u:Int)) (by rw[hu];exact dg (k:=1) (dX rfl) eG (by decide)) rfl) (Qj h)))
 rw[VH]
 unfold BK
 by_cases h0:w=0
 ·obtain⟨n,hn,n1,n6⟩:∃ n,n=1+u % 6/\1<=n/\n<=6:=⟨_,rfl,by omega,by omega⟩
  have hi:=LK (c:="Deal") (dk) n1 n6
  refine⟨"Deal",fN n,n,dk,Hf n1 n6,?_⟩
  refine QS (fl:=.rt false _) (s0 _ _ (dh (fl:=.rt false (.tup [ck "Deal" (fN n) n,eh (fN n)])) (hV (mF 0 _ rfl) (aF (by omega)) ?_) sA)) iA
  exact dh (dz (d:=.int (n:Int)) (dZ eG (dZ (dX rfl) eG (gG u (m:=6) (by decide))) (by rw[hn];exact gV 1 _)) rfl) (Qj (fu (hU (Qe (qV (Qe (dX rfl) df) hi) (Qe (Yq (n:=n) (by omega) rfl rfl) df)) (show 2<=1000 by decide))))
 ·by_cases h1:w=1
  ·obtain⟨n,hn,n1,n12⟩:∃ n,n=1+u % 12/\1<=n/\n<=12:=⟨_,rfl,by omega,by omega⟩
   have hi:=YQ (c:="Bundle") (dk) n1 n12
   refine⟨"Bundle",jI n,1,dk,LJ n1 n12,?_⟩
   refine QS (fl:=.rt false _) (s0 _ _ (dh (g7 (mF 0 _ rfl) (aQ (by omega)) kq) (Qj (dh (fl:=.rt false (.tup [ck "Bundle" (jI n) 1,eh (jI n)])) (hV (mF 1 _ rfl) (aF (by omega)) ?_) sA)))) iA
   exact dh (dz (d:=.int (n:Int)) (dZ eG (dZ (dX rfl) eG (gG u (m:=12) (by decide))) (by rw[hn];exact gV 1 _)) rfl) (Qj (fu (hU (Qe (qV (Qe (dX rfl) df) hi) (Qe (Yr (n:=n) (by omega) rfl rfl) df)) (show 2<=1000 by decide))))
  ·by_cases h2:w=2
   ·obtain⟨ot,hot,o5⟩:∃ o,o=u % 5/\o<=4:=⟨_,rfl,by omega⟩
    obtain⟨R,hR⟩:∃ R:List Int,R=(List.range ot).map λk:Nat=>((c / 2 ^ (10 * (3+k)) % 1024 % 3:Nat):Int):=⟨_,rfl⟩
    have hl:R.length=ot:=by rw[hR,aD,aC]
    have zP:Tb [R] ot:=by
     refine⟨aJ 1,show 1<=12 by decide,by omega,λr hr=>?_,λr hr=>?_⟩<;>rw[cu]at hr<;>subst hr
     ·exact hl
     ·intro x hx
      rw[hR]at hx
      obtain⟨k,_,rfl⟩:=ah.mp hx
      omega
    have hc:dc [none,some 0] (eR (e2 fA (dU 2) (eC (.int 5)))) (gN 0) da GM (Z none none none none none none)=.ok (dl R):=by
     have e:dl R=.lst ((List.range ot).map λk:Nat=>D.int ((c / 2 ^ (10 * (3+k)) % 1024 % 3:Nat):Int)):=by unfold dl;rw[hR,aY];rfl
     rw[e]
     refine mD (λk:Nat=>D.int ((c / 2 ^ (10 * (3+k)) % 1024 % 3:Nat):Int)) (Q6 ot (by rw[hot];exact dZ (dX rfl) eG (gG u (m:=5) (by decide))) (by omega)) (λk hk=>?_) (by omega)
     refine QE rfl rfl ?_
     unfold GM
     exact dZ (dg (dX rfl) (dZ eG (dX rfl) (gV 3 k)) (by omega)) eG (gG _ (m:=3) (by decide))
    have hi:=LI (c:="Copy") (dk) zP
    refine⟨"Copy",[R],ot,dk,zP,?_⟩
    refine QS (fl:=.rt false _) (s0 _ _ (dh (g7 (mF 0 _ rfl) (aQ (by omega)) kq) (Qj (dh (g7 (mF 1 _ rfl) (aQ (by omega)) kq) (Qj (dh (fl:=.rt false (.tup [ck "Copy" [R] ot,eh [R]])) (hV (mF 2 _ rfl) (aF (by omega)) ?_) sA)))))) iA
    exact dh (dz hc rfl) (Qj (fu (hU (Qe (qV (Qe (dX rfl) df) hi) (Qe (fX (Qe (gw (dX rfl) rfl) df) (show 1<=1000 by decide)) df)) (show 2<=1000 by decide))))
   ·obtain⟨sz,pq,z1,z12⟩:∃ sz:Nat,sz=1+c / 2 ^ (10 * 2) % 1024 % 5/\1<=sz/\sz<=12:=⟨_,rfl,by omega,by omega⟩
    obtain⟨ot,hot,o6⟩:∃ o,o=u % 4/\o<=6:=⟨_,rfl,by omega⟩
    obtain⟨R,hR⟩:∃ R:Nat->List Int,∀ s,R s=(List.range ot).map λk:Nat=>((c / 2 ^ (10 * (3+3 * s+k)) % 1024 % 3:Nat):Int):=⟨_,λ_=>rfl⟩
    have hl:∀ s,(R s).length=ot:=λs=>by rw[hR,aD,aC]
    have zP:Tb ((List.range sz).map R) ot:=by
     refine⟨by rw[aD,aC];exact z1,by rw[aD,aC];exact z12,o6,λr hr=>?_,λr hr=>?_⟩
     ·obtain⟨s,_,rfl⟩:=ah.mp hr
      exact hl s
     ·obtain⟨s,_,rfl⟩:=ah.mp hr
      intro x hx
      rw[hR]at hx
      obtain⟨k,_,rfl⟩:=ah.mp hx
      omega
    have Lg:∀ k,eh ((List.range k).map R)=.lst ((List.range k).map λs=>dl (R s)):=λk=>by unfold eh;rw[aY];rfl
    let Y:D->Option (SM×D)->SD:=λr a8=>Z none none none (zk (.int (ot:Int))) (zo r) a8
    obtain⟨ς',hL,a8,rfl⟩:=rq (body:=λx ς=>gN 8 x ς>>=λς'=>BJ ς') (n:=sz) (P:=λk ς=>∃ a8,ς=Y (eh ((List.range k).map R)) a8)
     (by
      rintro s hs ς ⟨a8,rfl⟩
      refine⟨Y (eh ((List.range (s+1)).map R)) (zk (.int (s:Int))),?_,_,rfl⟩
      refine j0 (ς1:=Y (eh ((List.range s).map R)) (zk (.int (s:Int)))) rfl ?_
      unfold BJ
      have hc:dc [none,some 0,some 8] (eR (dU 6)) (gN 0) da GN (Y (eh ((List.range s).map R)) (zk (.int (s:Int))))=.ok (dl (R s)):=by
       have e:dl (R s)=.lst ((List.range ot).map λk:Nat=>D.int ((c / 2 ^ (10 * (3+3 * s+k)) % 1024 % 3:Nat):Int)):=by unfold dl;rw[hR,aY];rfl
       rw[e]
       refine mD (λk:Nat=>D.int ((c / 2 ^ (10 * (3+3 * s+k)) % 1024 % 3:Nat):Int)) (Q6 ot (dX rfl) (by omega)) (λk hk=>?_) (by omega)
       refine QE rfl rfl ?_
       unfold GN
       exact dZ (dg (dX rfl) (dZ (dZ eG (dZ eG (dX rfl) (nM (a:=3) (b:=s) (by decide) (by omega))) (gV 3 _)) (dX rfl) (gV _ k)) (by omega)) eG (gG _ (m:=3) (by decide))
      refine jT (xs:=(List.range s).map λs=>dl (R s)) (by show some (some (SM.o,eh _))=_;rw[Lg]) hc (by rw[aD,aC];omega) ?_
      show [_,_,_,_,_,_,_,some (SM.o,D.lst _),_]=[_,_,_,_,_,_,_,some (SM.o,eh _),_]
      rw[Lg,b7,ao];rfl)
     (Y (.lst []) none) ⟨_,rfl⟩
    have oj:=mf (g:=gN 8) (T:=BJ) (show eR (e2 fB (eC (.int 1)) (e2 fA (eA (λxs=>QU (xs++[])) (dW (dU 0) (dW (eC (.int 2)) dY))) (eC (.int 5)))) (Y (.lst []) none)=.ok (k9 0 sz) from Q6 sz (by rw[pq];exact dZ eG (dZ (dg (k:=2) (dX rfl) eG (by decide)) eG (gG _ (m:=5) (by decide))) (gV 1 _)) (by omega)) hL
    have hi:=YN (c:="Rows") (dk) zP
    refine⟨"Rows",(List.range sz).map R,ot,dk,zP,?_⟩
    refine QS (fl:=.rt false _) (s0 _ _ (dh (g7 (mF 0 _ rfl) (aQ (by omega)) kq) (Qj (dh (g7 (mF 1 _ rfl) (aQ (by omega)) kq) (Qj (dh (g7 (mF 2 _ rfl) (aQ (by omega)) kq) (Qj (dh (dz (d:=.int (ot:Int)) (dZ (dX rfl) eG (by rw[hot];exact gG u (m:=4) (by decide))) rfl) (Qj (dh (nJ (d:=.lst []) (fX df (by decide)) rfl) (Qj (dh oj (Qj (Hr (j:=7) (ς1:=Z none none none (zk (.int (ot:Int))) (zk (eh ((List.range sz).map R))) a8) (Hq rfl rfl) ?_)))))))))))))) iA
    exact fu (hU (Qe (qV (Qe (dX rfl) df) hi) (Qe (zO _ (dX rfl) (by rw[aD,aC];omega) rfl) df)) (show 2<=1000 by decide))
noncomputable def h8(t:List (List Int))(j:Nat):Int:=(t.map λr=>r.getD j 0).sum
theorem zQ:∀ l:List Int,f1 iM [.lst (l.map D.int)]=zi l.sum:=by
 intro l
 show iM (.lst _)=_
 have e:∀ l:List Int,iW (l.map D.int)=some l:=λl=>by
  induction l with
  | nil=>rfl
  | cons x l ih=>show(iW (l.map .int)).map (x :: ·)=_;rw[ih];rfl
 rw[iM,e]
theorem Yx{t:List (List Int)}{m:Nat}(h:Tb t m)(j:Nat):0<=h8 t j:=by
 unfold h8
 have:∀ l:List Int,(∀ x∈l,0<=x)->0<=l.sum:=λl=>by
  induction l with
  | nil=>intro _;exact bI _
  | cons x l ih=>
   intro hx
   have h1:=hx x (aR)
   have h2:=ih λy hy=>hx y (aG _ hy)
   rw[List.sum_cons];omega
 refine this _ λx hx=>?_
 obtain⟨r,hr,rfl⟩:=ah.mp hx
 by_cases hj:j<r.length
 ·rw[aM,aE hj]
  exact(h.ent r hr _ (bG hj)).1
 ·rw[aM,au (by omega)];exact bI _
theorem Yy{n:Nat}{f:Nat->Int}{x:Int}:rl (n+1) (λj=>.int (if j=n then x else f j))=.lst ((List.range n).map (λj=>D.int (f j))++[.int x]):=by
 show D.lst _=_
 rw[b7,ao]
 congr 2
 ·exact b8 λj hj=>by rw[aB (by have:=aU.mp hj;omega)]
 ·show [D.int (if n=n then x else f n)]=_
  rw[aA rfl]
theorem Yz(c:Nat){t:List (List Int)}{m n nd:Nat}(h:Tb t m)(n1:1<=n)(n4:n<=100)(d1:1<=nd)(d3:nd<=100):∃ ld:Nat->Int,(∀ j,j<m -> -(nd:Int)<=ld j/\ld j<(n:Int))/\Abl.sm m (λj=>if 0<=ld j then h8 t j else 0)<=(t.length:Int) - 1/\
 vA [.int (c:Int),eh t,.int (n:Int),.int (nd:Int),.bl true]=.ok (rl m (λj=>.int (ld j))):=by
 obtain⟨t1,Z0,m6,row,ent'⟩:=id h
 let Z:Int->D->(a7 a8 a9:Option (SM×D))->SD:=λsp l a7 a8 a9=>[zk (.int (c:Int)),zk (eh t),zk (.int (n:Int)),zk (.int (nd:Int)),zk (.bl true),zk (.int sp),zo l,a7,a8,a9]
 have hlen:eB [eh t]=.ok (.int (t.length:Int)):=by simp[eB,eh]
 have r0:t[0]?=some t[0]:=by simp
 have zJ:eF (eh t) (.int 0)=.ok (dl t[0]):=mC 0 (by rw[aH,r0];rfl)
 have vK:eB [dl t[0]]=.ok (.int (m:Int)):=by simp[eB,dl,row _ (bG _)]
 obtain⟨ς',hL,ld,sp,a7,a8,a9,hld,jC,zR,rfl⟩:=rq (body:=λx ς=>gN 7 x ς>>=λς'=>yc ς') (n:=m) (P:=λa ς=>∃(ld:Nat->Int)(sp:Int)(a7 a8 a9:Option (SM×D)),(∀ j,j<a -> -(nd:Int)<=ld j/\ld j<(n:Int))/\0<=sp/\sp+Abl.sm a (λj=>if 0<=ld j then h8 t j else 0)=(t.length:Int) - 1/\ς=Z sp (rl a (λj=>.int (ld j))) a7 a8 a9)
  (by
   rintro a ha ς ⟨ld,sp,a7,a8,a9,hld,jC,zR,rfl⟩
   obtain⟨to,hto,hto2⟩:∃ to,to=c / 2 ^ (10 * (18+a)) % 1024 % (n+nd)/\to<n+nd:=⟨_,rfl,bB _ (by omega)⟩
   have hc:dc [none,some 7] (fJ (dU 1)) (gN 0) da BM (Z sp (rl a (λj=>.int (ld j))) (zk (.int (a:Int))) (zk (.int (to:Int))) a9)=.ok (.lst ((t.map λr=>r.getD a 0).map D.int)):=by
    rw[aY]
    refine QO (l:=t) dl (λr=>D.int (r.getD a 0)) (gP (dX rfl)) (λr hr=>?_) (by omega)
    refine QE rfl rfl ?_
    unfold BM
    have hq:a<r.length:=by rw[row r hr];exact ha
    refine dZ (dX rfl) (dX rfl) (mC a ?_)
    rw[aH,aE hq,aM,aE hq];rfl
   have s8:e8 8 (e2 fA (eA (λxs=>QU (xs++[])) (dW (dU 0) (dW (e2 fB (eC (.int 18)) (dU 7)) dY))) (e2 fB (dU 2) (dU 3))) (Z sp (rl a (λj=>.int (ld j))) (zk (.int (a:Int))) a8 a9)=zt (Z sp (rl a (λj=>.int (ld j))) (zk (.int (a:Int))) (zk (.int (to:Int))) a9):=
    dz (d:=.int (to:Int)) (dZ (dg (dX rfl) (dZ eG (dX rfl) (gV 18 a)) (by omega)) (dZ (dX rfl) (dX rfl) (gV n nd)) (by rw[hto];exact gG _ (by omega))) rfl
   have s9:e8 9 (eA (f1 iM) (dW (dc [none,some 7] (fJ (dU 1)) (gN 0) da BM) dY)) (Z sp (rl a (λj=>.int (ld j))) (zk (.int (a:Int))) (zk (.int (to:Int))) a9)=zt (Z sp (rl a (λj=>.int (ld j))) (zk (.int (a:Int))) (zk (.int (to:Int))) (zk (.int (h8 t a)))):=
    dz (fe (Qe hc df) (zQ _)) rfl
   have fin:∀ x zS:Int, -(nd:Int)<=x->x<(n:Int)->0<=zS->zS+(if 0<=x then h8 t a else 0)=sp->∃ pb:Nat->Int,(∀ j,j<a+1 -> -(nd:Int)<=pb j/\pb j<(n:Int))/\zS+Abl.sm (a+1) (λj=>if 0<=pb j then h8 t j else 0)=(t.length:Int) - 1/\rl (a+1) (λj=>.int (pb j))=.lst ((List.range a).map (λj=>D.int (ld j))++[.int x]):=by
    intro x zS x1 x2 h0 hs
    refine⟨λj=>if j=a then x else ld j,λj hj=>?_,?_,Yy⟩
    ·by_cases z:j=a
     ·show _<=(if j=a then x else ld j)/\(if j=a then x else ld j)<_
      rw[aA z];exact⟨x1,x2⟩
     ·show _<=(if j=a then x else ld j)/\(if j=a then x else ld j)<_
      rw[aB z];exact hld j (by omega)
    ·show zS+(Abl.sm a (λj=>if 0<=(if j=a then x else ld j) then h8 t j else 0)+if 0<=(if a=a then x else ld a) then h8 t a else 0)=_
     rw[aA (rfl:a=a),Abl.sm_congr (g:=λj=>if 0<=ld j then h8 t j else 0) λj hj=>by rw[aB (show ¬ j=a by omega)]]
     omega
   have Lh:=Yx h a
   by_cases z:to<n/\h8 t a<=sp
   ·obtain⟨pb,l1,l2,l3⟩:=fin (to:Int) (sp - h8 t a) (by omega) (by omega) (by omega) (by rw[aA (by omega)];omega)
    refine⟨Z (sp - h8 t a) (rl (a+1) (λj=>.int (pb j))) (zk (.int (a:Int))) (zk (.int (to:Int))) (zk (.int (h8 t a))),?_,pb,_,_,_,_,l1,by omega,l2,rfl⟩
    refine j0 (ς1:=Z sp (rl a (λj=>.int (ld j))) (zk (.int (a:Int))) a8 a9) rfl ?_
    unfold yc
    refine dh s8 (Qj (dh s9 (Qj (hV (b:=true) ?_ rfl (dh (jT (xs:=(List.range a).map (λj=>D.int (ld j))) (ς':=Z sp (.lst ((List.range a).map (λj=>D.int (ld j))++[.int (to:Int)])) (zk (.int (a:Int))) (zk (.int (to:Int))) (zk (.int (h8 t a)))) rfl (dX rfl) (by rw[aD,aC];omega) rfl) (Qj (dz (dZ (dX rfl) (dX rfl) (Q3 _ _)) (by rw[l3];rfl))))))))
    exact qU (QT (dZ (dX rfl) (dX rfl) (by rw[lb,aF (by omega)]))) (pV rfl (oS (QT (dZ (dX rfl) (dX rfl) (by rw[uq,aF z.2]))) (pV rfl rfl)))
   ·obtain⟨pb,l1,l2,l3⟩:=fin (-1 - ((to % nd:Nat):Int)) sp (by have:=bB to (show 0<nd by omega);omega) (by omega) jC (by rw[aB (by omega)];omega)
    refine⟨Z sp (rl (a+1) (λj=>.int (pb j))) (zk (.int (a:Int))) (zk (.int (to:Int))) (zk (.int (h8 t a))),?_,pb,_,_,_,_,l1,jC,l2,rfl⟩
    refine j0 (ς1:=Z sp (rl a (λj=>.int (ld j))) (zk (.int (a:Int))) a8 a9) rfl ?_
    unfold yc
    refine dh s8 (Qj (dh s9 (Qj (g7 (b:=false) ?_ rfl (jT (xs:=(List.range a).map (λj=>D.int (ld j))) rfl (dZ (gw eG (qS _)) (dZ (dX rfl) (dX rfl) (gG to (by omega))) (Q3 _ _)) (by rw[aD,aC];omega) (by rw[l3];rfl))))))
    by_cases z1:to<n
    ·exact qU (QT (dZ (dX rfl) (dX rfl) (by rw[lb,aF (by omega)]))) (pV rfl (oS (QT (dZ (dX rfl) (dX rfl) (by rw[uq,aQ (by omega)]))) (sC rfl (show _=Out.ok (!true) from Ki (QT (dX rfl))))))
    ·exact qU (QT (dZ (dX rfl) (dX rfl) (by rw[lb,aQ (by omega)]))) (sC rfl rfl))
  (Z ((t.length:Int) - 1) (.lst []) none none none) ⟨λ_=>0,_,_,_,_,λj hj=>absurd hj (cJ _),by omega,by show _+(0:Int)=_;omega,rfl⟩
 refine⟨ld,hld,by omega,?_⟩
 rw[VL]
 unfold BN
 exact QS (fl:=.rt true _) (dh (dz (dZ (fe (Qe (dX rfl) df) hlen) eG (Q3 _ _)) rfl) (Qj (dh (nJ (d:=.lst []) (fX df (by decide)) rfl) (Qj (dh (mf (g:=gN 7) (T:=yc) (show eR (eA eB (dW (e2 eF (dU 1) (eC (.int 0))) dY)) (Z ((t.length:Int) - 1) (.lst []) none none none)=.ok (k9 0 m) from Q6 m (fe (Qe (dZ (dX rfl) eG zJ) df) vK) (by omega)) hL) (Qj (yN rfl))))))) fW
structure Cl where
 c:Str
 t:List (List Int)
 m:Nat
 ld:Nat->Int
 st:Nat
def kl(X:Cl):D:=.tup [ck X.c X.t X.m,eh X.t,rl X.m (λj=>.int (X.ld j)),.int (X.st:Int)]
structure iY(n nd:Nat)(X:Cl):Prop where
 ck:CK.contains X.c=true
 tb:Tb X.t X.m
 ldr:∀ j,j<X.m -> -(nd:Int)<=X.ld j/\X.ld j<(n:Int)
 st:X.st<X.t.length
 tame:Abl.sm X.m (λj=>if 0<=X.ld j then h8 X.t j else 0)<=(X.t.length:Int) - 1
theorem Z1(ys:List Nat){nd:Nat}(d1:1<=nd)(d3:nd<=3):∃(n:Nat)(X:Nat->Cl),1<=n/\n<=4/\(∀ k,iY n nd (X k))/\vB [nl ys,.int 1,.int 4,.int (nd:Int),.bl true]=.ok (rl n (λk=>kl (X k))):=by
 obtain⟨n,hn,n1,n4⟩:∃ n,n=1+ys.getD 1 0 % 4/\1<=n/\n<=4:=⟨_,rfl,by omega,by omega⟩
 have H:∀ k:Nat,∃ X:Cl,iY n nd X/\ux [.int ((ys.getD (1+1+k) 0:Nat):Int)]=.ok (.tup [ck X.c X.t X.m,eh X.t])/\vA [.int ((ys.getD (1+1+k) 0:Nat):Int),eh X.t,.int (n:Int),.int (nd:Int),.bl true]=.ok (rl X.m (λj=>.int (X.ld j)))/\X.st=ys.getD (1+1+k) 0 / 2 ^ (10 * 24) % 1024 % X.t.length:=by
  intro k
  obtain⟨cn,t,m,h1,h2,h3⟩:=Yw (ys.getD (1+1+k) 0)
  obtain⟨ld,h4,h5,h6⟩:=Yz (ys.getD (1+1+k) 0) h2 n1 (show n<=100 by omega) d1 (show nd<=100 by omega)
  exact⟨⟨cn,t,m,ld,ys.getD (1+1+k) 0 / 2 ^ (10 * 24) % 1024 % t.length⟩,⟨h1,h2,h4,bB _ h2.n1,h5⟩,h3,h6,rfl⟩
 obtain⟨X,hX⟩:=Classical.axiomOfChoice H
 refine⟨n,X,n1,n4,λk=>(hX k).1,?_⟩
 let Z:D->(a7 a8 a9 j7 kD:Option (SM×D))->SD:=λl a7 a8 a9 j7 kD=>[zk (nl ys),zk (.int 1),zk (.int 4),zk (.int (nd:Int)),zk (.bl true),zk (.int (n:Int)),zo l,a7,a8,a9,j7,kD]
 obtain⟨ς',hL,a7,a8,a9,j7,kD,rfl⟩:=rq (body:=λx ς=>gN 7 x ς>>=λς'=>BO ς') (n:=n) (P:=λk ς=>∃(a7 a8 a9 j7 kD:Option (SM×D)),ς=Z (rl k (λk=>kl (X k))) a7 a8 a9 j7 kD)
  (by
   rintro k hk ς ⟨a7,a8,a9,j7,kD,rfl⟩
   obtain⟨g,e1,e2,e3⟩:=hX k
   have hlen:eB [eh (X k).t]=.ok (.int ((X k).t.length:Int)):=by simp[eB,eh]
   refine⟨Z (rl (k+1) (λk=>kl (X k))) (zk (.int (k:Int))) (zk (.int ((ys.getD (1+1+k) 0:Nat):Int))) (zk (ck (X k).c (X k).t (X k).m)) (zk (eh (X k).t)) (zk (rl (X k).m (λj=>.int ((X k).ld j)))),?_,_,_,_,_,_,rfl⟩
   refine j0 (ς1:=Z (rl k (λk=>kl (X k))) (zk (.int (k:Int))) a8 a9 j7 kD) rfl ?_
   unfold BO
   refine dh (dz (QV (Qe (dX rfl) (Qe (dZ (dZ (dX rfl) eG (gV 1 1)) (dX rfl) (gV _ k)) df)) (Hs ys _)) rfl) (Qj (dh (sF (QV (Qe (dX rfl) df) e1) rfl) (Qj (dh (dz (QV (Qe (dX rfl) (Qe (dX rfl) (Qe (dX rfl) (Qe (dX rfl) (Qe (dX rfl) df))))) e2) rfl) (Qj (jT (xs:=(List.range k).map (λk=>kl (X k))) (d:=kl (X k)) rfl ?_ (by rw[aD,aC];omega) ?_))))))
   ·refine hU (Qe (dX rfl) (Qe (dX rfl) (Qe (dX rfl) (Qe (dZ (dg (k:=24) (dX rfl) eG (by decide)) (fe (Qe (dX rfl) df) hlen) (by rw[e3];exact gG _ g.tb.n1)) df)))) (show 4<=1000 by decide)
   ·show [_,_,_,_,_,_,some (SM.o,D.lst _),_,_,_,_,_]=[_,_,_,_,_,_,some (SM.o,D.lst _),_,_,_,_,_]
    rw[b7,ao];rfl)
  (Z (.lst []) none none none none none) ⟨_,_,_,_,_,rfl⟩
 rw[VN]
 unfold BP
 exact QS (fl:=.rt true _) (dh (dz (d:=.int (n:Int)) (dZ eG (dZ (QV (Qe (dX rfl) (Qe (dX rfl) df)) (Hs ys 1)) (dX rfl) (gG _ (m:=4) (by decide))) (by rw[hn];exact gV 1 _)) rfl) (Qj (dh (nJ (d:=.lst []) (fX df (by decide)) rfl) (Qj (dh (mf (g:=gN 7) (T:=BO) (show eR (dU 5) (Z (.lst []) none none none none none)=.ok (k9 0 n) from Q6 n (dX rfl) (by omega)) hL) (Qj (yN rfl))))))) fW
noncomputable def uF(c:Nat):Bool := !(Builtin.Str.occurrences ("abcdefghijklmnopqrstuvwxyz":Str) ⟨#[c]⟩ 0 ("abcdefghijklmnopqrstuvwxyz":Str).length 1).isEmpty
theorem ou(z:Str)(hz:z.length<=1000):dc [none] (pP (dU 0)) (gN 0) da GV [zk (.str z)]=.ok (.lst (z.cps.toList.map λc=>D.bl (uF c))):=by
 unfold dc
 have h:=Au (f:=fE [none] (gN 0) da GV [zk (.str z)]) (h:=λd=>match d with | .str x=>some (.bl (!(Builtin.Str.occurrences ("abcdefghijklmnopqrstuvwxyz":Str) x 0 ("abcdefghijklmnopqrstuvwxyz":Str).length 1).isEmpty)) | _=>none) (xs:=iU z) (by
  intro x hx
  obtain⟨c,_,rfl⟩:=ah.mp hx
  rfl)
 have e:(iU z).filterMap (λd=>match d with | .str x=>some (D.bl (!(Builtin.Str.occurrences ("abcdefghijklmnopqrstuvwxyz":Str) x 0 ("abcdefghijklmnopqrstuvwxyz":Str).length 1).isEmpty)) | _=>none)=z.cps.toList.map λc=>D.bl (uF c):=by
  unfold iU
  rw[List.filterMap_map]
  exact List.filterMap_eq_map' (f:=λc=>D.bl (uF c)) ▸ rfl
 show(ft _ (iU z)>>=_)=_
 rw[h,e,dQ,aA (pU (by rw[aD,TK];exact hz))]
def pd(z:Str):Bool:=decide (1<=z.length)&&decide (z.length<=6)&&z.cps.toList.all uF
theorem Z2(z:Str)(hz:z.length<=1000):mn [.str z]=zn (pd z):=by
 rw[Vb]
 unfold BX
 have hf:=pU hz
 unfold pd
 by_cases h1:1<=z.length
 ·by_cases h2:z.length<=6
  ·have rQ:(1:Int)<=(z.length:Int):=by omega
   have o3:(z.length:Int)<=6:=by omega
   exists"O",mQ,ou z hz,uu,hf,h1,h2,rQ,o3,bD
  ·have rQ:(1:Int)<=(z.length:Int):=by omega
   have o3:¬ (z.length:Int)<=6:=by omega
   exists"O",mQ,ou z hz,uu,hf,h1,h2,rQ,o3,bD
 ·have rQ:¬ (1:Int)<=(z.length:Int):=by omega
  exists"O",mQ,ou z hz,uu,hf,h1,rQ,bD
noncomputable def lt(k:Nat):Str:=⟨#[97+k]⟩
def lS(x:Str)(k w:Nat):Str:=if w % 2=0 then x++lt k else lt k++x
noncomputable def jv(w:Nat):Str:=if w / 2 % 4=1 then "c" else if w / 2 % 4=2 then "coxab" else "co"
def gm(w k:Nat):Str:=lS (jv w) k w
def iF(w d:Nat):Str:=if w / 8 % 2=1/\(jv w).length<5 then gm w 0++lS "b" d w else lS "dx" d w
def lh(w j:Nat):Str:=lS "e" j w
theorem mx(x:Str)(k w:Nat):lS x k (w % 16)=lS x k w:=by
 unfold lS;rw[show w % 16 % 2=w % 2 by omega]
theorem sY(w:Nat):jv (w % 16)=jv w:=by
 unfold jv;rw[show w % 16 / 2 % 4=w / 2 % 4 by omega]
theorem lT(w k:Nat):gm (w % 16) k=gm w k:=by unfold gm;rw[mx,sY]
theorem my(w k:Nat):iF (w % 16) k=iF w k:=by unfold iF;rw[mx,mx,sY,lT,show w % 16 / 8 % 2=w / 8 % 2 by omega]
theorem oy(w k:Nat):lh (w % 16) k=lh w k:=mx _ _ _
theorem Ht:∀ w,w<16->∀ i,i<4->pd (gm w i)=true:=dk
theorem Hu:∀ w,w<16->∀ i,i<3->pd (iF w i)=true:=dk
theorem Hv:∀ w,w<16->∀ i,i<3->pd (lh w i)=true:=dk
theorem zT:∀ w,w<16->∀ i,i<4->∀ j,j<4->gm w i=gm w j->i=j:=dk
theorem Z3:∀ w,w<16->∀ i,i<3->∀ j,j<3->iF w i=iF w j->i=j:=dk
theorem Z4:∀ w,w<16->∀ i,i<3->∀ j,j<3->lh w i=lh w j->i=j:=dk
theorem zU:∀ w,w<16->∀ i,i<4->∀ d,d<3->¬ gm w i=iF w d:=dk
theorem Ce{x y:Str}(h:x.length+y.length<=1000):fB (.str x) (.str y)=zl (x++y):=by
 show(if _ then _ else _)=_
 exact aA (b0 h (by decide))
theorem zV(k:Nat):(lt k).length=1:=rfl
theorem sZ{k:Nat}(h:k<4):eF (.str "abcdefghijklmnopqrstuvwxyz") (.int (k:Int))=zl (lt k):=by
 match k,h with
 | 0,_=>with_unfolding_all rfl
 | 1,_=>with_unfolding_all rfl
 | 2,_=>with_unfolding_all rfl
 | 3,_=>with_unfolding_all rfl
theorem Cf{x:Str}{k w:Nat}(hk:k<4)(hx:x.length<=100):sO [.str x,.int (k:Int),.int (w:Int)]=zl (lS x k w):=by
 have hm:=gG w (m:=2) (by decide)
 rw[Wc]
 unfold Bp lS
 by_cases h:w % 2=0
 ·rw[aA h]
  exact QS (fl:=.rt false _) (dh (dz (dZ eG (dX rfl) (sZ hk)) rfl) (Qj (dh (hV (QT (dZ (dZ (dX rfl) eG hm) eG (nI _ _))) (aF (by omega)) (fu (dZ (dX rfl) (dX rfl) (Ce (by rw[zV];omega))))) sA))) iA
 ·rw[aB h]
  exact QS (fl:=.rt false _) (dh (dz (dZ eG (dX rfl) (sZ hk)) rfl) (Qj (dh (g7 (QT (dZ (dZ (dX rfl) eG hm) eG (nI _ _))) (aQ (by omega)) kq) (Qj (fu (dZ (dX rfl) (dX rfl) (Ce (by rw[zV];omega)))))))) iA
theorem Cg{x:Str}(h:pd x=true):mn [.str x]=zn true:=by
 have h':=h
 unfold pd at h'
 rw[aO,aO]at h'
 have:=aN h'.1.2
 rw[Z2 x (by omega),h]
abbrev cC(X:Nat->Cl)(k:Nat):Str:=(X k).c
abbrev cT(X:Nat->Cl)(k:Nat):List (List Int):=(X k).t
abbrev cM(X:Nat->Cl)(k:Nat):Nat:=(X k).m
abbrev cL(X:Nat->Cl)(k:Nat):Nat->Int:=(X k).ld
abbrev cS(X:Nat->Cl)(k:Nat):Int:=((X k).st:Int)
theorem Li{n nd:Nat}{X:Nat->Cl}(w:Nat)(n1:1<=n)(n4:n<=4)(d1:1<=nd)(d3:nd<=3)(h:∀ k,iY n nd (X k)):fj n nd (gm w) (iF w) (cC X) (cT X) (cM X) (cL X) (cS X):=by
 have hw:w % 16<16:=bB _ (by decide)
 refine⟨n1,by omega,d1,by omega,λk _=>(h k).ck,λk _=>(h k).tb,λk j _ hj=>(h k).ldr j hj,λk _=>⟨by show(0:Int)<=((X k).st:Int);omega,by have:=(h k).st;show(((X k).st:Nat):Int)<((X k).t.length:Int);omega⟩,λk hk=>Cg ?_,λk hk=>Cg ?_,λi j hi hj e=>?_,λi j hi hj e=>?_,λi d hi hd e=>?_⟩
 ·rw[← lT];exact Ht _ hw k (by omega)
 ·rw[← my];exact Hu _ hw k (by omega)
 ·rw[← lT, ← lT w j]at e;exact zT _ hw i (by omega) j (by omega) e
 ·rw[← my, ← my w j]at e;exact Z3 _ hw i (by omega) j (by omega) e
 ·rw[← lT, ← my w d]at e;exact zU _ hw i (by omega) d (by omega) e
theorem Lj{n ne:Nat}{ek:Nat->Nat}(w:Nat)(e1:1<=ne)(e3:ne<=3)(h:∀ j,j<ne->ek j<n):zL n ne (lh w) ek:=by
 have hw:w % 16<16:=bB _ (by decide)
 refine⟨e1,by omega,λk hk=>Cg ?_,λi j hi hj e=>?_,h⟩
 ·rw[← oy];exact Hv _ hw k (by omega)
 ·rw[← oy, ← oy w j]at e;exact Z4 _ hw i (by omega) j (by omega) e
theorem Z5{n nd:Nat}{f g:Nat->D}{l:Int}(h1 : -(nd:Int)<=l)(h2:l<(n:Int)):eF (.lst ((List.range n).map f++((List.range nd).map g).reverse)) (.int l)=.ok (if l<0 then g (-1 - l).toNat else f l.toNat):=by
 by_cases h:l<0
 ·rw[aA h]
  show gq (jW _ l)=_
  have hl:((List.range n).map f++((List.range nd).map g).reverse).length=n+nd:=by simp
  unfold jW kW
  rw[hl,aB (by omega),aA (by omega)]
  show gq (((List.range n).map f++((List.range nd).map g).reverse)[_]?)=_
  rw[bT (by rw[aD,aC];omega),aD,aC,List.getElem?_reverse (by rw[aD,aC];omega),aD,aC,uC (show nd - 1 - (_ - n)<nd by omega)]
  show Out.ok (g _)=_
  congr 2
  omega
 ·rw[aB h]
  obtain⟨k,rfl⟩:∃ k:Nat,l=(k:Int):=⟨l.toNat,by omega⟩
  refine mC k ?_
  rw[bH (by rw[aD,aC];omega),ax]
  exact uC (by omega)
theorem Z6(w:Nat):eF (.lst [.str "co",.str "c",.str "coxab",.str "co"]) (.int ((w / 2 % 4:Nat):Int))=zl (jv w):=by
 unfold jv
 have h:w / 2 % 4<4:=bB _ (by decide)
 match hq:w / 2 % 4,h with
 | 0,_=>exact mC 0 rfl
 | 1,_=>exact mC 1 rfl
 | 2,_=>exact mC 2 rfl
 | 3,_=>exact mC 3 rfl
theorem Z7(w:Nat):(jv w).length<=5:=by
 unfold jv
 split
 ·decide
 ·split<;>decide
theorem Lk(x:Str)(k w:Nat):(lS x k w).length=x.length+1:=by
 unfold lS
 split<;>rw[Str.length_append]<;>rw[zV]<;>omega
theorem Z8{n nd ne:Nat}{X:Nat->Cl}{ek:Nat->Nat}(w:Nat)(n1:1<=n)(n4:n<=4)(d1:1<=nd)(d3:nd<=3)(e1:1<=ne)(e3:ne<=3)(h:∀ k,iY n nd (X k))(he:∀ j,j<ne->ek j<n):
 vE [rl n (λk=>kl (X k)),rl ne (λj=>.int ((ek j:Nat):Int)),.int (nd:Int),.int (w:Int)]=.ok (fP n nd ne (gm w) (iF w) (cC X) (lh w) ek (cT X) (cM X) (cL X) (cS X)):=by
 have hs:=Li w n1 n4 d1 d3 h
 have zW:=Lj w e1 e3 he
 have hi:=LR hs zW
 have hw5:=Z7 w
 let Z:(a4 a5 a6 a7 a8 a9:Option (SM×D))->SD:=λa4 a5 a6 a7 a8 a9=>[zk (rl n (λk=>kl (X k))),zk (rl ne (λj=>.int ((ek j:Nat):Int))),zk (.int (nd:Int)),zk (.int (w:Int)),a4,a5,a6,a7,a8,a9]
 have c0:dc [none,some 4,some 3] (eR (eA eB (dW (dU 0) dY))) (gN 0) da Gu (Z (zk (.str (jv w))) none none none none none)=.ok (rl n (λk=>.str (gm w k))):=by
  refine mD (λk=>D.str (gm w k)) (Q6 n (fe (Qe (dX rfl) df) (jJ n _)) (by omega)) (λk hk=>?_) (by omega)
  refine QE rfl rfl ?_
  unfold Gu
  exact QV (Qe (dX rfl) (Qe (dX rfl) (Qe (dX rfl) df))) (Cf (by omega) (by omega))
 have c1:dc [none,some 3] (eR (dU 2)) (gN 0) da Gv (Z (zk (.str (jv w))) (zk (rl n (λk=>.str (gm w k)))) none none none none)=.ok (rl nd (λk=>.str (lS "dx" k w))):=by
  refine mD (λk=>D.str (lS "dx" k w)) (Q6 nd (dX rfl) (by omega)) (λk hk=>?_) (by omega)
  refine QE rfl rfl ?_
  unfold Gv
  exact QV (Qe eG (Qe (dX rfl) (Qe (dX rfl) df))) (Cf (by omega) (by decide))
 have s6:gW (iS (eD (e2 iL (e2 fA (e2 fh (dU 3) (eC (.int 8))) (eC (.int 2))) (eC (.int 1)))) (eD (e2 mT (eA eB (dW (dU 4) dY)) (eC (.int 5))))) (e8 6 (dc [none,some 5,some 3] (eR (dU 2)) (gN 0) da Gw)) fH (Z (zk (.str (jv w))) (zk (rl n (λk=>.str (gm w k)))) (zk (rl nd (λk=>.str (lS "dx" k w)))) none none none)=zt (Z (zk (.str (jv w))) (zk (rl n (λk=>.str (gm w k)))) (zk (rl nd (λk=>.str (iF w k)))) none none none):=by
  have t1:eD (e2 iL (e2 fA (e2 fh (dU 3) (eC (.int 8))) (eC (.int 2))) (eC (.int 1))) (Z (zk (.str (jv w))) (zk (rl n (λk=>.str (gm w k)))) (zk (rl nd (λk=>.str (lS "dx" k w)))) none none none)=.ok (decide (((w / 8 % 2:Nat):Int)=1)):=QT (dZ (dZ (dZ (dX rfl) eG (j6 w (m:=8) (by decide) (by decide))) eG (gG _ (m:=2) (by decide))) eG (nI _ _))
  have hl:eB [.str (jv w)]=.ok (.int ((jv w).length:Int)):=by show(if _ then _ else _)=_;exact aA (pU (by omega))
  have t2:eD (e2 mT (eA eB (dW (dU 4) dY)) (eC (.int 5))) (Z (zk (.str (jv w))) (zk (rl n (λk=>.str (gm w k)))) (zk (rl nd (λk=>.str (lS "dx" k w)))) none none none)=.ok (decide (((jv w).length:Int)<5)):=QT (dZ (fe (Qe (dX rfl) df) hl) eG (lb _ _))
  by_cases q:w / 8 % 2=1/\(jv w).length<5
  ·refine hV (b:=true) (qU t1 (pV (aF (by omega)) (by rw[t2,aF (by omega)]))) rfl (dz (d:=rl nd (λk=>.str (iF w k))) ?_ rfl)
   refine mD (λk=>D.str (iF w k)) (Q6 nd (dX rfl) (by omega)) (λk hk=>?_) (by omega)
   refine QE rfl rfl ?_
   unfold Gw iF
   rw[aA q]
   exact dZ (dZ (dX rfl) eG (ja (i:=0) (by omega))) (QV (Qe eG (Qe (dX rfl) (Qe (dX rfl) df))) (Cf (by omega) (by decide))) (Ce (by unfold gm;rw[Lk,Lk];show _+(1+1)<=_;omega))
  ·have e:rl nd (λk=>D.str (iF w k))=rl nd (λk=>.str (lS "dx" k w)):=mw λk _=>by unfold iF;rw[aB q]
   rw[e]
   refine g7 (b:=false) ?_ rfl kq
   by_cases q1:w / 8 % 2=1
   ·exact qU t1 (pV (aF (by omega)) (by rw[t2,aQ (by omega)]))
   ·exact qU t1 (sC (aQ (by omega)) rfl)
 let Y:D->(a8 a9:Option (SM×D))->SD:=λl a8 a9=>Z (zk (.str (jv w))) (zk (rl n (λk=>.str (gm w k)))) (zk (rl nd (λk=>.str (iF w k)))) (zo l) a8 a9
 obtain⟨ς',hL,a8,a9,rfl⟩:=rq (body:=λx ς=>gN 8 x ς>>=λς'=>Bq ς') (n:=n) (P:=λk ς=>∃(a8 a9:Option (SM×D)),ς=Y (rl k (eM (gm w) (iF w) (cC X) (cT X) (cM X) (cL X) (cS X))) a8 a9)
  (by
   rintro k hk ς ⟨a8,a9,rfl⟩
   have m6:=(h k).tb.m6
   have xk:eF (rl n (λk=>kl (X k))) (.int (k:Int))=.ok (kl (X k)):=ja (f:=λk=>kl (X k)) hk
   have x0:eF (kl (X k)) (.int 0)=.ok (ck (X k).c (X k).t (X k).m):=pT 0 rfl
   have x2:eF (kl (X k)) (.int 2)=.ok (rl (X k).m (λj=>.int ((X k).ld j))):=pT 2 rfl
   have x3:eF (kl (X k)) (.int 3)=.ok (.int ((X k).st:Int)):=pT 3 rfl
   have hc:dc [none,some 5,some 6] (fJ (e2 eF (e2 eF (dU 0) (dU 8)) (eC (.int 2)))) (gN 0) da Gx (Y (rl k (eM (gm w) (iF w) (cC X) (cT X) (cM X) (cL X) (cS X))) (zk (.int (k:Int))) a9)=.ok (rl (X k).m (λj=>.str (iJ (gm w) (iF w) ((X k).ld j)))):=by
    refine QO (l:=List.range (X k).m) (λj=>D.int ((X k).ld j)) (λj=>D.str (iJ (gm w) (iF w) ((X k).ld j))) (gP (dZ (dZ (dX rfl) (dX rfl) xk) eG x2)) (λj hj=>?_) (by rw[aC];omega)
    obtain⟨l1,l2⟩:=(h k).ldr j (aU.mp hj)
    refine QE rfl rfl ?_
    unfold Gx
    have Z9:oW (dU 2) [zk (.int ((X k).ld j)),zk (rl n (λk=>.str (gm w k))),zk (rl nd (λk=>.str (iF w k)))]=.ok (.lst ((List.range nd).map (λk=>D.str (iF w k))).reverse):=rfl
    refine dZ (dZ (dX rfl) Z9 (tw (by rw[aD,List.length_reverse,aD,aC,aC];omega))) (dX rfl) ?_
    rw[Z5 l1 l2]
    unfold iJ
    split<;>rfl
   refine⟨Y (rl (k+1) (eM (gm w) (iF w) (cC X) (cT X) (cM X) (cL X) (cS X))) (zk (.int (k:Int))) (zk (rl (X k).m (λj=>.str (iJ (gm w) (iF w) ((X k).ld j))))),?_,_,_,rfl⟩
   refine j0 (ς1:=Y (rl k (eM (gm w) (iF w) (cC X) (cT X) (cM X) (cL X) (cS X))) (zk (.int (k:Int))) a9) rfl ?_
   unfold Bq
   refine dh (dz hc rfl) (Qj (jT (xs:=(List.range k).map (eM (gm w) (iF w) (cC X) (cT X) (cM X) (cL X) (cS X))) (d:=eM (gm w) (iF w) (cC X) (cT X) (cM X) (cL X) (cS X) k) rfl ?_ (by rw[aD,aC];omega) ?_))
   ·exact hU (Qe (dZ (dX rfl) (dX rfl) (ja (f:=λk=>D.str (gm w k)) hk)) (Qe (dZ (dZ (dX rfl) (dX rfl) xk) eG x0) (Qe (dX rfl) (Qe (dZ (dZ (dX rfl) (dX rfl) xk) eG x3) df)))) (show 4<=1000 by decide)
   ·show [_,_,_,_,_,_,_,some (SM.o,D.lst _),_,_]=[_,_,_,_,_,_,_,some (SM.o,D.lst _),_,_]
    rw[b7,ao];rfl)
  (Y (.lst []) none none) ⟨_,_,rfl⟩
 have c4:dc [none,some 3,some 5,some 1] (eR (eA eB (dW (dU 1) dY))) (gN 0) da Gy (Z (zk (.str (jv w))) (zk (rl n (λk=>.str (gm w k)))) (zk (rl nd (λk=>.str (iF w k)))) (zk (rl n (eM (gm w) (iF w) (cC X) (cT X) (cM X) (cL X) (cS X)))) a8 a9)=.ok (rl ne (g6 (gm w) (lh w) ek)):=by
  refine mD (g6 (gm w) (lh w) ek) (Q6 ne (fe (Qe (dX rfl) df) (jJ ne _)) (by omega)) (λj hj=>?_) (by omega)
  refine QE rfl rfl ?_
  unfold Gy
  exact hU (Qe (QV (Qe eG (Qe (dX rfl) (Qe (dX rfl) df))) (Cf (by omega) (by decide))) (Qe (dZ (dX rfl) (dZ (dX rfl) (dX rfl) (ja (f:=λj=>D.int ((ek j:Nat):Int)) hj)) (ja (f:=λk=>D.str (gm w k)) (he j hj))) df)) (show 2<=1000 by decide)
 rw[Wj]
 unfold Br
 refine QS (fl:=.rt true _) (dh (dz (d:=.str (jv w)) (dZ (fX (Qe eG (Qe eG (Qe eG (Qe eG df)))) (show 4<=1000 by decide)) (dZ (dZ (dX rfl) eG (j6 w (m:=2) (by decide) (by decide))) eG (gG _ (m:=4) (by decide))) (Z6 w)) rfl) (Qj (dh (dz c0 rfl) (Qj (dh (dz c1 rfl) (Qj (dh s6 (Qj (dh (nJ (d:=.lst []) (fX df (by decide)) rfl) (Qj (dh (mf (g:=gN 8) (T:=Bq) (show eR (eA eB (dW (dU 0) dY)) (Y (.lst []) none none)=.ok (k9 0 n) from Q6 n (fe (Qe (dX rfl) df) (jJ n _)) (by omega)) hL) (Qj (Hr (j:=7) (ς1:=Z (zk (.str (jv w))) (zk (rl n (λk=>.str (gm w k)))) (zk (rl nd (λk=>.str (iF w k)))) (zk (rl n (eM (gm w) (iF w) (cC X) (cT X) (cM X) (cL X) (cS X)))) a8 a9) (Hq rfl rfl) ?_))))))))))))) fW
 exact lg (qV (Qe (dX rfl) (Qe c4 (Qe (dX rfl) df))) hi)
noncomputable def pr(i:Nat):Str:=⟨#[97+i / 26,97+i % 26]⟩
theorem ZA{i j:Nat}(h:pr i=pr j):i=j:=by
 have h : #[97+i / 26,97+i % 26] = #[97+j / 26,97+j % 26]:=bO Str.cps h
 have h:[97+i / 26,97+i % 26]=[97+j / 26,97+j % 26]:=bO Array.toList h
 simp only[List.cons.injEq]at h
 omega
theorem Ll:∀ c,c<26->uF (97+c)=true:=dk
theorem ZC{i:Nat}(h:i<676):pd (pr i)=true:=by
 have h1:=Ll (i / 26) (by omega)
 have h2:=Ll (i % 26) (by omega)
 show(decide (1<=2)&&decide (2<=6)&&(uF (97+i / 26)&&(uF (97+i % 26)&&true)))=true
 rw[h1,h2];rfl
def ie(T:List Str):List Str:=((List.range 676).map pr).filter λx => !jf (V.str x) (T.map V.str)
theorem Qq5{x:Str}{T:List Str}:jf (V.str x) (T.map V.str)=true↔x∈T:=by
 unfold jf
 rw[List.any_map,cW]
 constructor
 ·rintro ⟨y,hy,e⟩
  have e:(y == x)=true:=e
  rw[← eq_of_beq e];exact hy
 ·intro h
  exact⟨x,h,by show(x == x)=true;exact bD x⟩
theorem Lm:((List.range 676).map pr).Nodup:=List.pairwise_map.mpr (List.Pairwise.imp (λh e=>h (ZA e)) List.nodup_range)
theorem ZD(T:List Str):(ie T).Nodup:=List.Pairwise.filter _ Lm
theorem ZE{T:List Str}{x:Str}(h:x∈ie T):pd x=true/\x∉T:=by
 obtain⟨h1,h2⟩:=List.mem_filter.mp h
 obtain⟨i,hi,rfl⟩:=ah.mp h1
 refine⟨ZC (aU.mp hi),λz=>?_⟩
 rw[Qq5.mpr z]at h2;cases h2
theorem ZF{T:List Str}:676<=(ie T).length+T.length:=by
 have h1:=List.length_eq_countP_add_countP (λx => !jf (V.str x) (T.map V.str)) (l:=(List.range 676).map pr)
 rw[aD,aC,List.countP_eq_length_filter,List.countP_eq_length_filter]at h1
 have h2:(((List.range 676).map pr).filter λa=>decide ¬(!jf (V.str a) (T.map V.str))=true).length<=T.length:=by
  refine List.Nodup.length_le_of_subset (List.Pairwise.filter _ Lm) λx hx=>?_
  have h3:=aN (List.mem_filter.mp hx).2
  refine Qq5.mp ?_
  cases q:jf (V.str x) (T.map V.str) with
  | true=>rfl
  | false=>rw[q]at h3;exact absurd rfl h3
 unfold ie
 omega
theorem sd{i:Nat}{E:SD->Out D}{ς ς':SD}{xs zs:List D}(e:ς[i]?=some (zo (.lst xs)))(a:E ς=.ok (.lst zs))(k:xs.length+zs.length<=1000)(l:ς.set i (some (.o,.lst (xs++zs)))=ς'):uo i E ς=zt ς':=by
 unfold uo
 rw[e]
 show(E ς>>=_)=_
 rw[a,dQ]
 show(if _ then _ else _)=_
 rw[aA (aF (b0 k (by decide))),l]
theorem Ln:iU ("abcdefghijklmnopqrstuvwxyz":Str)=(List.range 26).map λi=>D.str (lt i):=by with_unfolding_all rfl
theorem se{E:SD->Out D}{ς:SD}{z:Str}(h:E ς=zl z):pP E ς=.ok (iU z):=by unfold pP;rw[h];rfl
theorem ZG(T:List Str)(hT:T.length<=100):yu [.lst (T.map .str)]=.ok (.lst ((ie T).map .str)):=by
 let Z:Nat->Option (SM×D)->SD:=λa a2=>[zk (.lst (T.map .str)),zo (.lst ((List.range (26 * a)).map λi=>D.str (pr i))),a2]
 obtain⟨ς',hL,a2,rfl⟩:=Hg (body:=λx ς=>gN 2 x ς>>=λς'=>Bu ς') (f:=λi=>D.str (lt i)) (n:=26) (P:=λa ς=>∃ a2,ς=Z a a2)
  (by
   rintro a ha ς ⟨a2,rfl⟩
   refine⟨Z (a+1) (zk (.str (lt a))),?_,_,rfl⟩
   refine j0 (ς1:=Z a (zk (.str (lt a)))) rfl ?_
   unfold Bu
   have hc:dc [none,some 2] (pP (eC (.str "abcdefghijklmnopqrstuvwxyz"))) (gN 0) da HA (Z a (zk (.str (lt a))))=.ok (.lst ((List.range 26).map λb=>D.str (pr (26 * a+b)))):=by
    refine QO (l:=List.range 26) (λb=>D.str (lt b)) (λb=>D.str (pr (26 * a+b))) (by rw[se eG,Ln]) (λb hb=>?_) (by rw[aC];decide)
    have hb:=aU.mp hb
    refine QE rfl rfl ?_
    unfold HA
    refine dZ (dX rfl) (dX rfl) ?_
    rw[Ce (by rw[zV,zV];decide)]
    have e:lt a++lt b=pr (26 * a+b):=by
     unfold pr
     rw[show(26 * a+b) / 26=a by omega,show(26 * a+b) % 26=b by omega];rfl
    rw[e]
   refine sd (xs:=(List.range (26 * a)).map λi=>D.str (pr i)) rfl hc (by rw[aD,aD,aC,aC];omega) ?_
   show [_,some (SM.o,D.lst _),_]=[_,some (SM.o,D.lst _),_]
   rw[show 26 * (a+1)=26 * a+26 by omega,List.range_add,ao,aY];rfl)
  (Z 0 none) ⟨_,rfl⟩
 have hc:dc [none,some 0] (oN (fg 1)) (gN 0) HB HC (Z 26 a2)=.ok (.lst ((ie T).map .str)):=by
  unfold dc
  have hi:oN (fg 1) (Z 26 a2)=.ok (((List.range 676).map pr).map D.str):=by
   rw[aY];rfl
  rw[hi,dQ]
  have hn:∀ x:Str,yC (.str x) (.lst (T.map .str))=zn (!jf (V.str x) (T.map V.str)):=λx=>by
   have h1:(T.map D.str).all D.scal=true:=cA.mpr λd hd=>by obtain⟨y,_,rfl⟩:=ah.mp hd;rfl
   show(if (true&&(T.map D.str).all D.scal)=true then Out.ok (D.bl (!jf (V.str x) ((T.map D.str).map gO))) else .stuck)=_
   rw[h1,aY];rfl
  rw[Au (h:=λd=>match d with | .str x=>(if (!jf (V.str x) (T.map V.str))=true then some (D.str x) else none) | _=>none) λd hd=>by
   obtain⟨x,_,rfl⟩:=ah.mp hd
   refine Tc rfl rfl ?_ ?_
   ·unfold HB
    exact QT (dZ (dX rfl) (dX rfl) (hn x))
   ·unfold HC
    exact dX rfl]
  have e:(((List.range 676).map pr).map D.str).filterMap (λd=>match d with | .str x=>(if (!jf (V.str x) (T.map V.str))=true then some (D.str x) else none) | _=>none)=(ie T).map D.str:=by
   unfold ie
   rw[List.filterMap_map]
   generalize (List.range 676).map pr=l
   induction l with
   | nil=>rfl
   | cons x l ih=>
    rw[bb,List.filter_cons]
    simp only[Function.comp]
    cases q:(!jf (V.str x) (T.map V.str)) with
    | true=>exact bO _ ih
    | false=>exact ih
  rw[e,dQ,aA (pU ?_)]
  rw[aD]
  have:(ie T).length<=((List.range 676).map pr).length:=List.length_filter_le _ _
  rw[aD,aC]at this
  omega
 rw[Wr]
 unfold Bv
 exact QS (fl:=.rt true _) (dh (nJ (d:=.lst []) (fX df (by decide)) rfl) (Qj (dh (mf (g:=gN 2) (T:=Bu) (show pP (eC (.str "abcdefghijklmnopqrstuvwxyz")) (Z 0 none)=.ok ((List.range 26).map λi=>D.str (lt i)) by rw[se eG,Ln]) hL) (Qj (lg hc))))) fW
noncomputable def ee(p:Nat):Nat:=if p<=1 then 0 else if p<=2 then 1 else if p<=4 then 2 else if p<=8 then 3 else 4
theorem qg:∀ p,p<13->1<=p->p<=2 ^ ee p/\2 ^ ee p<2 * p/\ee p<=4/\2 ^ ee p<=p+7/\∀ i,i<ee p->2 ^ i<p:=dk
theorem Ci{p:Nat}(h1:1<=p)(h2:p<=12):oh [.int (p:Int)]=.ok (.int ((2 ^ ee p:Nat):Int)):=by
 obtain⟨a1,_,a3,_,a5⟩:=qg p (by omega) h1
 have hw:∀ m a,a+m=ee p->kK vG By [zk (.int (p:Int)),zk (.int ((2 ^ a:Nat):Int))]=zt [zk (.int (p:Int)),zk (.int ((2 ^ ee p:Nat):Int))]:=by
  intro m
  induction m with
  | zero=>
   intro a e
   rw[cD]at e;subst e
   have q:vG [zk (.int (p:Int)),zk (.int ((2 ^ ee p:Nat):Int))]=.ok false:=by
    unfold vG
    exact QT (dZ (dX rfl) (dX rfl) (by rw[lb,aQ (by omega)]))
   rw[uf,q];rfl
  | succ m ih=>
   intro a e
   have ha:=a5 a (by omega)
   have q:vG [zk (.int (p:Int)),zk (.int ((2 ^ a:Nat):Int))]=.ok true:=by
    unfold vG
    exact QT (dZ (dX rfl) (dX rfl) (by rw[lb,aF (by omega)]))
   have l:By [zk (.int (p:Int)),zk (.int ((2 ^ a:Nat):Int))]=zt [zk (.int (p:Int)),zk (.int ((2 ^ (a+1):Nat):Int))]:=by
    unfold By
    refine dz (dZ (dX rfl) eG (nM (a:=2 ^ a) (b:=2) (by omega) (by decide))) ?_
    rw[← bp];rfl
   rw[uf,q,dQ,aA rfl,l]
   exact ih (a+1) (by omega)
 rw[Wz]
 unfold Bz
 exact QS (fl:=.rt false _) (dh (dz (d:=.int ((2 ^ 0:Nat):Int)) eG rfl) (Qj (dh (hw (ee p) 0 (by omega)) (Qj (fu (dX rfl)))))) iA
theorem Hw{p:Nat}(h1:1<=p)(h2:p<=12):sQ [.int (p:Int)]=.ok (.int ((2 ^ ee p+p - 1:Nat):Int)):=by
 have:=Nar.pw (ee p)
 rw[X2]
 unfold C0
 refine QS (fl:=.rt false _) (fu (dZ (dZ (dX rfl) (QV (Qe (dX rfl) df) (Ci h1 h2)) (gV _ _)) eG (Q3 _ _))) ?_
 rw[iA]
 congr 2
 omega
theorem ZH{s f v:Nat}(hf:f<s)(hb:rK (s:Int)=true):yx [.int (v:Int),.int (s:Int),.int (f:Int)]=.ok (.int ((Nar.N s f v:Nat):Int)):=by
 have e:Nar.N s f v=(v+(s - 1 - f)) / s:=by
  have h1:=cO v s
  have h2:=bB v (show 0<s by omega)
  unfold Nar.N
  rw[show v+(s - 1 - f)=(v % s+(s - 1 - f))+s * (v / s) by omega,Nat.add_mul_div_left _ _ (by omega)]
  split
  ·rename_i q
   rw[show v % s+(s - 1 - f)=(v % s - 1 - f)+s * 1 by omega,Nat.add_mul_div_left _ _ (by omega),dB (show v % s - 1 - f<s by omega)];omega
  ·rw[dB (show v % s+(s - 1 - f)<s by omega)];omega
 rw[XB]
 unfold C4
 refine QS (fl:=.rt false _) (fu (dZ (r:=.ok (.int ((Nar.N s f v:Nat):Int))) (dZ (dZ (dZ (dX rfl) (dX rfl) (Q3 _ _)) (dX rfl) (rm _ _)) eG (Q3 _ _)) (dX rfl) ?_)) iA
 rw[show(v:Int) - (f:Int)+(s:Int) - 1=((v+(s - 1 - f):Nat):Int) by omega,j6 _ (by omega) hb,e]
theorem ZI{p:Nat}(h1:1<=p)(h2:p<=12)(x:Str)(S:List Str)(hS:2 ^ ee p+p - 2<=S.length)(ZJ:S.length<=700):yw [.str x,.int (p:Int),.lst (S.map .str)]=.ok (rl (2 * 2 ^ ee p) (λq=>.str (if q<2∨2 ^ ee p+p<=q then x else S.getD (q - 2) ""))):=by
 obtain⟨a1,_,a3,a4,_⟩:=qg p (by omega) h1
 have p0:=Nar.pw (ee p)
 have tE:∀ a3 a4:Option (SM×D),mU (dU 2) pK (fV (e2 gC (eA (λxs=>sQ (xs++[])) (dW (dU 1) dY)) (eC (.int 1)))) [zk (.str x),zk (.int (p:Int)),zk (.lst (S.map .str)),a3,a4]=.ok (.lst ((S.take (2 ^ ee p+p - 2)).map .str)):=λa3 a4=>
  nL (p:=none) (q:=some ((2 ^ ee p+p - 2:Nat):Int)) (dX rfl) mh (sE (dZ (QV (Qe (dX rfl) df) (Hw h1 h2)) eG (by rw[Q3];congr 2;omega))) (by rw[Kg,List.map_take])
 have hl:(S.take (2 ^ ee p+p - 2)).length=2 ^ ee p+p - 2:=by rw[bK];omega
 have hc:∀ a4:Option (SM×D),dc [none,some 0] (eR (e2 gC (dU 3) (dU 1))) (gN 0) da HI [zk (.str x),zk (.int (p:Int)),zk (.lst (S.map .str)),zk (.int ((2 ^ ee p:Nat):Int)),a4]=.ok (rl (2 ^ ee p - p) (λ_=>.str x)):=λa4=>by
  refine mD (λ_=>D.str x) (Q6 (2 ^ ee p - p) (dZ (dX rfl) (dX rfl) (by rw[Q3];congr 2;omega)) (by omega)) (λk hk=>?_) (by omega)
  refine QE rfl rfl ?_
  unfold HI
  exact dX rfl
 have e:D.lst (([D.str x,.str x]++(S.take (2 ^ ee p+p - 2)).map .str)++(List.range (2 ^ ee p - p)).map (λ_=>D.str x))=rl (2 * 2 ^ ee p) (λq=>.str (if q<2∨2 ^ ee p+p<=q then x else S.getD (q - 2) "")):=by
  show D.lst _=D.lst _
  congr 1
  apply bN
  intro i
  rw[aH]
  by_cases hi:i<2 * 2 ^ ee p
  ·rw[ae hi]
   show _=some (D.str (if i<2∨2 ^ ee p+p<=i then x else S.getD (i - 2) ""))
   by_cases c1:i<2
   ·rw[aA (.inl c1),bH (by rw[aV,aD,hl];show i<2+_;omega),bH (by show i<2;omega)]
    match i,c1 with
    | 0,_=>rfl
    | 1,_=>rfl
   ·by_cases c2:2 ^ ee p+p<=i
    ·rw[aA (.inr c2),bT (by rw[aV,aD,hl];show 2+_<=i;omega),aH,ae (by rw[aV,aD,hl];show i - (2+_)<_;omega)];rfl
    ·rw[aB (by omega),bH (by rw[aV,aD,hl];show i<2+_;omega),bT (by show 2<=i;omega),aH,List.getElem?_take_of_lt (by show i - 2<_;omega),aE (by show i - 2<_;omega)]
     show some (D.str _)=_
     rw[aM,aE (by omega)];rfl
  ·rw[au (by rw[aV,aV,aD,aD,aC,hl];show 2+_+_<=i;omega),au (by rw[aC];omega)];rfl
 rw[X8]
 unfold C3
 refine QS (fl:=.rt true _) (dh (dz (QV (Qe (dX rfl) df) (Ci h1 h2)) rfl) (Qj (dh (dz (dZ (fX (Qe (dX rfl) (Qe (dX rfl) df)) (show 2<=1000 by decide)) (tE _ _) (tw (by rw[aD,hl];show 2+_<=_;omega))) rfl) (Qj (lg (dZ (dX rfl) (hc _) (tw (by rw[aV,aD,aD,aC,hl];show 2+_+_<=_;omega)))))))) ?_
 rw[fW,e]
def Cj(NM:Nat->Str)(v a f:Nat):D:=.tup [.str (NM (2 ^ a+f)),ck "Deal" (fN 2) 2,.lst [.str (NM (2 * 2 ^ a+f)),.str (NM (3 * 2 ^ a+f))],.int ((Nar.N (2 ^ a) f v % 2:Nat):Int)]
def kR(NM:Nat->Str)(v i:Nat):D:=Cj NM v (i+1).log2 (i+1 - 2 ^ (i+1).log2)
theorem Hx{a f:Nat}(hf:f<2 ^ a):(2 ^ a+f).log2=a:=by
 have:=Nar.pw a
 exact(Nat.log2_eq_iff (by omega)).mpr ⟨by omega,by rw[bp];omega⟩
theorem ZK(NM:Nat->Str)(v:Nat){a f:Nat}(hf:f<2 ^ a):kR NM v (2 ^ a - 1+f)=Cj NM v a f:=by
 have:=Nar.pw a
 unfold kR
 rw[show 2 ^ a - 1+f+1=2 ^ a+f by omega,Hx hf,show 2 ^ a+f - 2 ^ a=f by omega]
theorem ZL{NM:Nat->Str}{e v:Nat}(he:e<=4):yz [rl (2 * 2 ^ e) (λq=>.str (NM q)),.int ((2 ^ e:Nat):Int),.int (v:Int)]=.ok (rl (2 ^ e - 1) (kR NM v)):=by
 have hi:=LK (c:="Deal") (dk) (n:=2) (by decide) (by decide)
 let Z:Nat->D->(a5 a6:Option (SM×D))->SD:=λs l a5 a6=>[zk (rl (2 * 2 ^ e) (λq=>.str (NM q))),zk (.int ((2 ^ e:Nat):Int)),zk (.int (v:Int)),zo l,zk (.int (s:Int)),a5,a6]
 have h16:2 ^ e<=16:=bz (n:=2) (by decide) he
 have ix:∀ q:Nat,q<2 * 2 ^ e->eF (rl (2 * 2 ^ e) (λq=>.str (NM q))) (.int (q:Int))=zl (NM q):=λq hq=>ja (f:=λq=>D.str (NM q)) hq
 have inner:∀ a,a<e->∀ a5 a6:Option (SM×D),∃ b5 b6,gu (gN 5) (eR (dU 4)) yy (Z (2 ^ a) (rl (2 ^ a - 1) (kR NM v)) a5 a6)=zt (Z (2 ^ a) (rl (2 ^ (a+1) - 1) (kR NM v)) b5 b6):=by
  intro a ha a5 a6
  have p0:=Nar.pw a
  have fc:=Nar.pw_lt ha
  have hb:rK ((2 ^ a:Nat):Int)=true:=aF (by rw[Int.natAbs_natCast];exact aa (show 2 ^ a<2 ^ 5 by omega) (by decide))
  obtain⟨ς',hL,b5,b6,rfl⟩:=rq (body:=λx ς=>gN 5 x ς>>=λς'=>yy ς') (n:=2 ^ a) (P:=λf ς=>∃ b5 b6,ς=Z (2 ^ a) (rl (2 ^ a - 1+f) (kR NM v)) b5 b6)
   (by
    rintro f hf ς ⟨b5,b6,rfl⟩
    refine⟨Z (2 ^ a) (rl (2 ^ a - 1+(f+1)) (kR NM v)) (zk (.int (f:Int))) (zk (.lst [.str (NM (2 * 2 ^ a+f)),.str (NM (3 * 2 ^ a+f))])),?_,_,_,rfl⟩
    refine j0 (ς1:=Z (2 ^ a) (rl (2 ^ a - 1+f) (kR NM v)) (zk (.int (f:Int))) b6) rfl ?_
    unfold yy
    refine dh (dz (fX (Qe (dZ (dX rfl) (dZ (dZ eG (dX rfl) (nM (a:=2) (b:=2 ^ a) (by decide) (by omega))) (dX rfl) (gV _ _)) (ix _ (by omega))) (Qe (dZ (dX rfl) (dZ (dZ eG (dX rfl) (nM (a:=3) (b:=2 ^ a) (by decide) (by omega))) (dX rfl) (gV _ _)) (ix _ (by omega))) df)) (show 2<=1000 by decide)) rfl) (Qj (jT (xs:=(List.range (2 ^ a - 1+f)).map (kR NM v)) (d:=Cj NM v a f) rfl ?_ (by rw[aD,aC];omega) ?_))
    ·exact hU (Qe (dZ (dX rfl) (dZ (dX rfl) (dX rfl) (gV _ _)) (ix _ (by omega))) (Qe (qV (Qe eG df) hi) (Qe (dX rfl) (Qe (dZ (QV (Qe (dX rfl) (Qe (dX rfl) (Qe (dX rfl) df))) (ZH hf hb)) eG (gG _ (m:=2) (by decide))) df)))) (show 4<=1000 by decide)
    ·show [_,_,_,some (SM.o,D.lst _),_,_,_]=[_,_,_,some (SM.o,D.lst _),_,_,_]
     rw[show 2 ^ a - 1+(f+1)=2 ^ a - 1+f+1 by omega,b7,ao,aj,List.map_nil,ZK NM v hf])
   (Z (2 ^ a) (rl (2 ^ a - 1) (kR NM v)) a5 a6) ⟨_,_,rfl⟩
  refine⟨b5,b6,?_⟩
  rw[show 2 ^ (a+1) - 1=2 ^ a - 1+2 ^ a by rw[bp];omega]
  exact mf (g:=gN 5) (T:=yy) (show eR (dU 4) (Z (2 ^ a) (rl (2 ^ a - 1) (kR NM v)) a5 a6)=.ok (k9 0 (2 ^ a)) from Q6 (2 ^ a) (dX rfl) (by omega)) hL
 have hw:∀ m a,a+m=e->∀ a5 a6:Option (SM×D),∃ b5 b6,kK vH C5 (Z (2 ^ a) (rl (2 ^ a - 1) (kR NM v)) a5 a6)=zt (Z (2 ^ e) (rl (2 ^ e - 1) (kR NM v)) b5 b6):=by
  intro m
  induction m with
  | zero=>
   intro a ha a5 a6
   rw[cD]at ha;subst ha
   have q:vH (Z (2 ^ a) (rl (2 ^ a - 1) (kR NM v)) a5 a6)=.ok false:=by
    unfold vH
    exact QT (dZ (dX rfl) (dX rfl) (by rw[lb,aQ (by omega)]))
   refine⟨a5,a6,?_⟩
   rw[uf,q];rfl
  | succ m ih=>
   intro a ha a5 a6
   have fc:=Nar.pw_lt (show a<e by omega)
   have p0:=Nar.pw a
   have q:vH (Z (2 ^ a) (rl (2 ^ a - 1) (kR NM v)) a5 a6)=.ok true:=by
    unfold vH
    exact QT (dZ (dX rfl) (dX rfl) (by rw[lb,aF (by omega)]))
   obtain⟨b5,b6,hf⟩:=inner a (by omega) a5 a6
   have l:C5 (Z (2 ^ a) (rl (2 ^ a - 1) (kR NM v)) a5 a6)=zt (Z (2 ^ (a+1)) (rl (2 ^ (a+1) - 1) (kR NM v)) b5 b6):=by
    unfold C5
    refine dh hf (Qj (dz (dZ (dX rfl) eG (nM (a:=2 ^ a) (b:=2) (by omega) (by decide))) ?_))
    rw[← bp];rfl
   obtain⟨c5,c6,hh⟩:=ih (a+1) (by omega) b5 b6
   refine⟨c5,c6,?_⟩
   rw[uf,q,dQ,aA rfl,l]
   exact hh
 obtain⟨b5,b6,hh⟩:=hw e 0 (by omega) none none
 rw[XE]
 unfold C6
 exact QS (fl:=.rt true _) (dh (nJ (d:=.lst []) (fX df (by decide)) rfl) (Qj (dh (dz (d:=.int ((2 ^ 0:Nat):Int)) eG rfl) (Qj (dh hh (Qj (yN rfl))))))) fW
def vN(NM:Nat->Str)(t:List (List Int))(m e:Nat)(L:D)(s:Nat):D:=.tup [.str (NM (2 ^ e+s)),ck "Copy" [t.getD s []] m,L,.int 0]
theorem Lo{t:List (List Int)}{m s:Nat}(h:Tb t m)(hs:s<t.length):Tb [t.getD s []] m:=by
 have e:t.getD s []=t[s]:=by rw[aM,aE hs];rfl
 rw[e]
 refine⟨aJ 1,show 1<=12 by decide,h.m6,λr hr=>?_,λr hr=>?_⟩<;>rw[cu]at hr<;>subst hr
 ·exact h.row _ (bG hs)
 ·exact h.ent _ (bG hs)
theorem ZM{c:Str}(hc:CK.contains c=true){t:List (List Int)}{m s:Nat}(hs:s<t.length):sR [ck c t m,.int (s:Int)]=.ok (dl (t.getD s [])):=by
 have hx:eF (eh t) (.int (s:Int))=.ok (dl (t.getD s [])):=mC s (by rw[aH,aE hs,aM,aE hs];rfl)
 rw[XI]
 unfold C7
 exact QS (fl:=.rt true _) (lg (gw (dZ (gw (dX rfl) (oo hc t m)) (dX rfl) hx) rfl)) fW
theorem lU{c:Str}(hc:CK.contains c=true){t:List (List Int)}{m i:Nat}{ς:SD}(h:ς[i]?=some (zk (ck c t m))):e7 Qd "period" (λ_=>QG) (dU i) dY ς=.ok (.int (t.length:Int)):=by
 rw[show Qd=CK from rfl,vJ (c:=c) (t:=t) (m:=m) hc (xs:=[]) (by unfold dU;rw[h]) rfl (dk) (dk)]
 exact CV hc t m
theorem sh{c:Str}(hc:CK.contains c=true){t:List (List Int)}{m i j s:Nat}{ς:SD}(h:ς[i]?=some (zk (ck c t m)))(h':ς[j]?=some (zk (.int (s:Int))))(hs:s<t.length):e7 Qd "row" (λ_=>sR) (dU i) (dW (dU j) dY) ς=.ok (dl (t.getD s [])):=by
 rw[show Qd=CK from rfl,vJ (c:=c) (t:=t) (m:=m) hc (xs:=[.int (s:Int)]) (by unfold dU;rw[h]) (Qe (dX h') df) (dk) (dk)]
 exact ZM hc hs
theorem ZN{NM:Nat->Str}{c:Str}(hc:CK.contains c=true){t:List (List Int)}{m:Nat}(h:Tb t m)(L:D):z6 [rl (2 * 2 ^ ee t.length) (λq=>.str (NM q)),ck c t m,L]=.ok (rl t.length (vN NM t m (ee t.length) L)):=by
 have n1:=h.n1
 have n2:=h.n2
 have h0:=(qg t.length (by omega) n1).1
 have zp:dc [none,some 0,some 3,some 1,some 2] (eR (e7 Qd "period" (λ_=>QG) (dU 1) dY)) (gN 0) da HN [zk (rl (2 * 2 ^ ee t.length) (λq=>.str (NM q))),zk (ck c t m),zk L,zk (.int ((2 ^ ee t.length:Nat):Int))]=.ok (rl t.length (vN NM t m (ee t.length) L)):=by
  refine mD (vN NM t m (ee t.length) L) (Q6 t.length (lU hc rfl) (by omega)) (λs hs=>?_) (by omega)
  refine QE rfl rfl ?_
  unfold HN
  exact hU (Qe (dZ (dX rfl) (dZ (dX rfl) (dX rfl) (gV _ s)) (ja (f:=λq=>D.str (NM q)) (by omega))) (Qe (qV (Qe (sh hc rfl rfl hs) df) (LI (c:="Copy") (dk) (Lo h hs))) (Qe (dX rfl) (Qe eG df)))) (show 4<=1000 by decide)
 rw[XN]
 unfold C9
 exact QS (fl:=.rt true _) (dh (dz (QV (Qe (lU hc rfl) df) (Ci n1 n2)) rfl) (Qj (lg zp))) fW
def sz(p:Nat->Nat)(k:Nat):Nat:=2 ^ ee (p k)+p k - 1
def di(p:Nat->Nat):Nat->Nat
 | 0=>0
 | k+1=>di p k+sz p k
def loc(p:Nat->Nat):Nat->Nat×Nat
 | 0=>(0,0)
 | P+1=>if (loc p P).2+1<sz p (loc p P).1 then((loc p P).1,(loc p P).2+1) else((loc p P).1+1,0)
theorem Lp(p:Nat->Nat)(P:Nat):loc p (P+1)=if (loc p P).2+1<sz p (loc p P).1 then((loc p P).1,(loc p P).2+1) else((loc p P).1+1,0):=rfl
theorem vO{p:Nat->Nat}{k:Nat}(h:1<=p k):1<=sz p k:=by
 have:=Nar.pw (ee (p k))
 unfold sz;omega
theorem ZO{p:Nat->Nat}(h:∀ k,1<=p k):∀ k i,i<sz p k->loc p (di p k+i)=(k,i):=by
 have go:∀ k,loc p (di p k)=(k,0)->∀ i,i<sz p k->loc p (di p k+i)=(k,i):=by
  intro k hk i
  induction i with
  | zero=>intro _;exact hk
  | succ i ih=>
   intro hi
   rw[← Nat.add_assoc,Lp,ih (by omega)]
   exact aA hi
 have hz:∀ k,loc p (di p k)=(k,0):=by
  intro k
  induction k with
  | zero=>rfl
  | succ k ih=>
   have s1:=vO (h k)
   have:=go k ih (sz p k - 1) (by omega)
   rw[show di p (k+1)=di p k+(sz p k - 1)+1 by show di p k+sz p k=_;omega,Lp,this]
   exact aB (by show ¬ sz p k - 1+1<sz p k;omega)
 exact λk i hi=>go k (hz k) i hi
theorem Ck{p:Nat->Nat}{j k:Nat}(h:j<=k):di p j<=di p k:=by
 induction k with
 | zero=>rw[Nat.le_zero.mp h];exact aJ _
 | succ k ih=>
  by_cases e:j=k+1
  ·rw[e];exact aJ _
  ·exact b0 (ih (by omega)) (Nat.le_add_right _ _)
theorem oz{p:Nat->Nat}{n P:Nat}(h:P<di p n):∃ k i,k<n/\i<sz p k/\P=di p k+i:=by
 induction n with
 | zero=>exact absurd h (cJ _)
 | succ n ih=>
  by_cases q:P<di p n
  ·obtain⟨k,i,a,b,c⟩:=ih q
   exact⟨k,i,by omega,b,c⟩
  ·have h:P<di p n+sz p n:=h
   exact⟨n,P - di p n,by omega,by omega,by omega⟩
theorem qh{p:Nat->Nat}{n k i:Nat}(hk:k<n)(hi:i<sz p k):di p k+i<di p n:=by
 have h:di p (k+1)<=di p n:=Ck hk
 have h:di p k+sz p k<=di p n:=h
 omega
section
variable(X:Nat->Cl)(nm:Nat->Str)(S:List Str)
abbrev pp(k:Nat):Nat:=(X k).t.length
def cK(k i:Nat):Str:=if i+1<2 ^ ee (pp X k) then "Deal" else "Copy"
def tK(k i:Nat):List (List Int):=if i+1<2 ^ ee (pp X k) then fN 2 else [(X k).t.getD (i+1 - 2 ^ ee (pp X k)) []]
def mK(k i:Nat):Nat:=if i+1<2 ^ ee (pp X k) then 2 else(X k).m
def sK(k i:Nat):Int:=if i+1<2 ^ ee (pp X k) then((Nar.N (2 ^ (i+1).log2) (i+1 - 2 ^ (i+1).log2) (X k).st % 2:Nat):Int) else 0
def lK(k i j:Nat):Int:=if i+1<2 ^ ee (pp X k) then((Nar.at' (pp X) (λk=>ee (pp X k)) (di (pp X)) k ((i+1).log2+1) (i+1 - 2 ^ (i+1).log2+2 ^ (i+1).log2 * j):Nat):Int) else if 0<=(X k).ld j then((di (pp X) ((X k).ld j).toNat:Nat):Int) else(X k).ld j
def nK(k i:Nat):Str:=if i=0 then nm k else S.getD (di (pp X) k+i - 1) ""
abbrev lc(P:Nat):Nat×Nat:=loc (pp X) P
def nN(P:Nat):Str:=nK X nm S (lc X P).1 (lc X P).2
def cN(P:Nat):Str:=cK X (lc X P).1 (lc X P).2
def tN(P:Nat):List (List Int):=tK X (lc X P).1 (lc X P).2
def mN(P:Nat):Nat:=mK X (lc X P).1 (lc X P).2
def sN(P:Nat):Int:=sK X (lc X P).1 (lc X P).2
def lN(P:Nat):Nat->Int:=lK X (lc X P).1 (lc X P).2
end
section
variable{X:Nat->Cl}{nm dn:Nat->Str}{S:List Str}{n nd:Nat}(hp:∀ k,1<=pp X k/\pp X k<=12){k:Nat}
include hp
theorem i4{i:Nat}(hi:i<sz (pp X) k):lc X (di (pp X) k+i)=(k,i):=ZO (λk=>(hp k).1) k i hi
theorem lV{i:Nat}(hi:i<sz (pp X) k):nN X nm S (di (pp X) k+i)=nK X nm S k i:=by unfold nN;rw[i4 hp hi]
theorem nO:0<sz (pp X) k:=vO (hp k).1
theorem Hy:nN X nm S (di (pp X) k)=nm k:=by
 have:=lV (nm:=nm) (S:=S) hp (nO hp (k:=k))
 rw[cD]at this
 rw[this];exact aA rfl
theorem zX{a g:Nat}(h1:1<=a)(ha:a<=ee (pp X k))(hg:g<2 ^ a):nN X nm S (Nar.at' (pp X) (λk=>ee (pp X k)) (di (pp X)) k a g)=(if 2 ^ a+g<2∨2 ^ ee (pp X k)+pp X k<=2 ^ a+g then nm k else(S.drop (di (pp X) k)).getD (2 ^ a+g - 2) ""):=by
 have p0:=Nar.pw a
 have p1:=Nar.pw_lt (show 0<a by omega)
 have hq:=(hp k).1
 unfold Nar.at'
 by_cases c:a=ee (pp X k)/\pp X k<=g
 ·rw[aA c,Hy hp,aA (.inr (by rw[← c.1];omega))]
 ·have ly:2 ^ a+g<2 ^ ee (pp X k)+pp X k:=by
   by_cases q:a=ee (pp X k)
   ·subst q;omega
   ·have:=Nar.pw_lt (show a<ee (pp X k) by omega);omega
  rw[aB c,lV hp (by unfold sz;omega),aB (by omega)]
  unfold nK
  rw[aB (by omega),aM,aM,List.getElem?_drop,show di (pp X) k+(2 ^ a+g - 1) - 1=di (pp X) k+(2 ^ a+g - 2) by omega]
end
section
variable{X:Nat->Cl}{nm dn:Nat->Str}{S:List Str}{n nd:Nat}(hp:∀ k,1<=pp X k/\pp X k<=12){k:Nat}
abbrev nZ(X:Nat->Cl)(nm dn:Nat->Str)(S:List Str)(P:Nat):D:=eM (nN X nm S) dn (cN X) (tN X) (mN X) (lN X) (sN X) P
abbrev p5(X:Nat->Cl)(nm:Nat->Str)(S:List Str)(k q:Nat):Str:=if q<2∨2 ^ ee (pp X k)+pp X k<=q then nm k else(S.drop (di (pp X) k)).getD (q - 2) ""
include hp
theorem si{i:Nat}(hi:i<sz (pp X) k):nK X nm S k i=p5 X nm S k (i+1):=by
 unfold nK p5
 have:=Nar.pw (ee (pp X k))
 unfold sz at hi
 by_cases q:i=0
 ·rw[aA q,aA (.inl (by omega))]
 ·rw[aB q,aB (by omega),aM,aM,List.getElem?_drop,show di (pp X) k+i - 1=di (pp X) k+(i+1 - 2) by omega]
theorem Lq{P:Nat}:iJ (nN X nm S) dn ((P:Nat):Int)=nN X nm S P:=by
 unfold iJ;rw[aB (by omega),ax]
theorem ZP{i:Nat}(hi:i+1<2 ^ ee (pp X k)):kR (p5 X nm S k) (X k).st i=nZ X nm dn S (di (pp X) k+i):=by
 have h1:=(hp k).1
 have hs:i<sz (pp X) k:=by unfold sz;omega
 have hl:=i4 hp hs
 obtain⟨a,ha⟩:∃ a,a=(i+1).log2:=⟨_,rfl⟩
 have a1:2 ^ a<=i+1:=by rw[ha];exact Nat.log2_self_le (by omega)
 have a2:i+1<2 ^ (a+1):=by rw[ha];exact Nat.lt_log2_self
 have a3:a<ee (pp X k):=by
  rcases Nat.lt_or_ge a (ee (pp X k)) with l | l
  ·exact l
  ·have:=bz (n:=2) (by decide) l;omega
 have a4:2 ^ (a+1)=2 * 2 ^ a:=by rw[bp];omega
 have e1:nN X nm S (di (pp X) k+i)=p5 X nm S k (2 ^ a+(i+1 - 2 ^ a)):=by rw[lV hp hs,si hp hs,show 2 ^ a+(i+1 - 2 ^ a)=i+1 by omega]
 have e2:cN X (di (pp X) k+i)="Deal":=by unfold cN;rw[hl];exact aA hi
 have e3:tN X (di (pp X) k+i)=fN 2:=by unfold tN;rw[hl];exact aA hi
 have e4:mN X (di (pp X) k+i)=2:=by unfold mN;rw[hl];exact aA hi
 have e5:sN X (di (pp X) k+i)=((Nar.N (2 ^ a) (i+1 - 2 ^ a) (X k).st % 2:Nat):Int):=by unfold sN;rw[hl,ha];exact aA hi
 have e6:∀ j,j<2->iJ (nN X nm S) dn (lN X (di (pp X) k+i) j)=p5 X nm S k (2 * 2 ^ a+(i+1 - 2 ^ a+2 ^ a * j)):=by
  intro j hj
  have hb:2 ^ a * j<=2 ^ a:=b0 (Nat.mul_le_mul_left _ (show j<=1 by omega)) (by rw[Nat.mul_one];exact aJ _)
  have:lN X (di (pp X) k+i) j=((Nar.at' (pp X) (λk=>ee (pp X k)) (di (pp X)) k (a+1) (i+1 - 2 ^ a+2 ^ a * j):Nat):Int):=by unfold lN;rw[hl,ha];exact aA hi
  rw[this,Lq hp,zX hp (by omega) (by omega) (by omega),a4]
 unfold kR Cj nZ eM
 rw[← ha,e1,e2,e3,e4,e5]
 show D.tup [_,_,D.lst [_,_],_]=D.tup [_,_,D.lst [.str (iJ (nN X nm S) dn (lN X (di (pp X) k+i) 0)),.str (iJ (nN X nm S) dn (lN X (di (pp X) k+i) 1))],_]
 rw[e6 0 (by decide),e6 1 (by decide),Nat.mul_zero,Nat.mul_one,cD,show 2 * 2 ^ a+(i+1 - 2 ^ a+2 ^ a)=3 * 2 ^ a+(i+1 - 2 ^ a) by omega]
 exact rfl
theorem ZQ(g:∀ k,iY n nd (X k)){s:Nat}(hs:s<pp X k):vN (p5 X nm S k) (X k).t (X k).m (ee (pp X k)) (rl (X k).m (λj=>.str (iJ nm dn ((X k).ld j)))) s=nZ X nm dn S (di (pp X) k+(2 ^ ee (pp X k) - 1+s)):=by
 have p0:=Nar.pw (ee (pp X k))
 have hi:2 ^ ee (pp X k) - 1+s<sz (pp X) k:=by unfold sz;omega
 have hl:=i4 hp hi
 have hn:¬ 2 ^ ee (pp X k) - 1+s+1<2 ^ ee (pp X k):=by omega
 have e1:nN X nm S (di (pp X) k+(2 ^ ee (pp X k) - 1+s))=p5 X nm S k (2 ^ ee (pp X k)+s):=by rw[lV hp hi,si hp hi,show 2 ^ ee (pp X k) - 1+s+1=2 ^ ee (pp X k)+s by omega]
 have e2:cN X (di (pp X) k+(2 ^ ee (pp X k) - 1+s))="Copy":=by unfold cN;rw[hl];exact aB hn
 have e3:tN X (di (pp X) k+(2 ^ ee (pp X k) - 1+s))=[(X k).t.getD s []]:=by
  unfold tN;rw[hl]
  show tK X k _=_
  unfold tK
  rw[aB hn,show 2 ^ ee (pp X k) - 1+s+1 - 2 ^ ee (pp X k)=s by omega]
 have e4:mN X (di (pp X) k+(2 ^ ee (pp X k) - 1+s))=(X k).m:=by unfold mN;rw[hl];exact aB hn
 have e5:sN X (di (pp X) k+(2 ^ ee (pp X k) - 1+s))=0:=by unfold sN;rw[hl];exact aB hn
 have e6:∀ j,iJ (nN X nm S) dn (lN X (di (pp X) k+(2 ^ ee (pp X k) - 1+s)) j)=iJ nm dn ((X k).ld j):=by
  intro j
  have:lN X (di (pp X) k+(2 ^ ee (pp X k) - 1+s)) j=if 0<=(X k).ld j then((di (pp X) ((X k).ld j).toNat:Nat):Int) else(X k).ld j:=by unfold lN;rw[hl];exact aB hn
  rw[this]
  by_cases q:0<=(X k).ld j
  ·rw[aA q,Lq hp,Hy hp]
   unfold iJ;rw[aB (by omega)]
  ·rw[aB q]
   unfold iJ;rw[aA (by omega),aA (by omega)]
 unfold vN nZ eM
 have hr:rl (X k).m (λj=>D.str (iJ (nN X nm S) dn (lN X (di (pp X) k+(2 ^ ee (pp X k) - 1+s)) j)))=rl (X k).m (λj=>.str (iJ nm dn ((X k).ld j))):=mw λj _=>by rw[e6 j]
 rw[e1,e2,e3,e4,e5,hr]
theorem ZR{ne:Nat}{en:Nat->Str}{ek:Nat->Nat}(hs:fj n nd nm dn (cC X) (cT X) (cM X) (cL X) (cS X))(g:∀ k,iY n nd (X k))(hk:k<n)(h6:di (pp X) n<=60)(hS:600<=S.length)(ZJ:S.length<=700):
 z8 [fP n nd ne nm dn (cC X) en ek (cT X) (cM X) (cL X) (cS X),.int (k:Int),.lst ((S.drop (di (pp X) k)).map .str)]=.ok (.lst ((List.range (sz (pp X) k)).map λi=>nZ X nm dn S (di (pp X) k+i))):=by
 have p0:=Nar.pw (ee (pp X k))
 have h1:=(hp k).1
 have h2:=(hp k).2
 have h4:=(qg (pp X k) (by omega) h1).2.2.1
 have pq:di (pp X) k+sz (pp X) k<=di (pp X) n:=Ck (p:=pp X) (show k+1<=n by omega)
 have hb:eF (rl n (λk=>.int (cS X k))) (.int (k:Int))=.ok (.int ((X k).st:Int)):=ja (f:=λk=>D.int (cS X k)) hk
 have hc:=(g k).ck
 have tn:=ZI h1 h2 (nm k) (S.drop (di (pp X) k)) (by rw[c9];unfold sz at pq;omega) (by rw[c9];omega)
 have td:=ZL (NM:=p5 X nm S k) (v:=(X k).st) h4
 have tc:=ZN (NM:=p5 X nm S k) hc (g k).tb (rl (X k).m (λj=>.str (iJ nm dn ((X k).ld j))))
 have e:(List.range (2 ^ ee (pp X k) - 1)).map (kR (p5 X nm S k) (X k).st)++(List.range (pp X k)).map (vN (p5 X nm S k) (X k).t (X k).m (ee (pp X k)) (rl (X k).m (λj=>.str (iJ nm dn ((X k).ld j)))))=(List.range (sz (pp X) k)).map λi=>nZ X nm dn S (di (pp X) k+i):=by
  rw[show sz (pp X) k=(2 ^ ee (pp X k) - 1)+pp X k by unfold sz;omega,List.range_add,ao,aY]
  congr 1
  ·exact b8 λi hi=>ZP hp (by have:=aU.mp hi;omega)
  ·exact b8 λs hi=>ZQ hp g (aU.mp hi)
 rw[Xa]
 unfold CF
 refine QS (fl:=.rt true _) (dh (dz (Cb hk rfl rfl) rfl) (Qj (dh (dz (QV (Qe (dZ (Hn rfl) (dX rfl) (ja (f:=λk=>D.str (nm k)) hk)) (Qe (lU hc rfl) (Qe (dX rfl) df))) tn) rfl) (Qj (lg (dZ (QV (Qe (dX rfl) (Qe (QV (Qe (lU hc rfl) df) (Ci h1 h2)) (Qe (dZ (LX rfl) (dX rfl) hb) df))) td) (QV (Qe (dX rfl) (Qe (dX rfl) (Qe (QV (Qe (dX rfl) (Qe (dX rfl) df)) (Yp hs hk)) df))) tc) (tw (by rw[aD,aD,aC,aC];unfold sz at pq;show _+pp X k<=_;omega)))))))) ?_
 rw[fW, ← e]
end
noncomputable def i5(n nd:Nat)(nm dn:Nat->Str):List Str:=(List.range n).map nm++(List.range nd).map dn
section
variable{X:Nat->Cl}{nm dn:Nat->Str}{n nd:Nat}(hp:∀ k,1<=pp X k/\pp X k<=12)(hs:fj n nd nm dn (cC X) (cT X) (cM X) (cL X) (cS X))(g:∀ k,iY n nd (X k))(h6:di (pp X) n<=60)
theorem Lr{k:Nat}(hk:k<n):nm k∈i5 n nd nm dn:=List.mem_append_left _ (ah.mpr ⟨k,aU.mpr hk,rfl⟩)
theorem ZS{d:Nat}(hd:d<nd):dn d∈i5 n nd nm dn:=ay _ (ah.mpr ⟨d,aU.mpr hd,rfl⟩)
theorem Lu:(i5 n nd nm dn).length=n+nd:=by unfold i5;rw[aV,aD,aD,aC,aC]
theorem Lv(hn:n+nd<=66):600<=(ie (i5 n nd nm dn)).length/\(ie (i5 n nd nm dn)).length<=700:=by
 have h1:=ZF (T:=i5 n nd nm dn)
 have h2:(ie (i5 n nd nm dn)).length<=((List.range 676).map pr).length:=List.length_filter_le _ _
 rw[aD,aC]at h2
 rw[Lu]at h1
 omega
theorem ZT{S:List Str}{j:Nat}(h:j<S.length):S.getD j ""∈S:=by
 rw[aM,aE h];exact bG h
theorem ZU{S:List Str}(hS:S.Nodup){i j:Nat}(hi:i<S.length)(hj:j<S.length)(h:S.getD i ""=S.getD j ""):i=j:=by
 rw[aM,aE hi,aM,aE hj]at h
 have h:S[i]=S[j]:=h
 rcases Nat.lt_trichotomy i j with l | l | l
 ·exact absurd h ((List.pairwise_iff_getElem.mp hS) i j hi hj l)
 ·exact l
 ·exact absurd h.symm ((List.pairwise_iff_getElem.mp hS) j i hj hi l)
include hp hs g h6
theorem Hz:fj (di (pp X) n) nd (nN X nm (ie (i5 n nd nm dn))) dn (cN X) (tN X) (mN X) (lN X) (sN X):=by
 have hn2:=hs.n2
 have hd2:=hs.d2
 obtain⟨s6,s7⟩:=Lv (n:=n) (nd:=nd) (nm:=nm) (dn:=dn) (by omega)
 have ZV:=ZD (i5 n nd nm dn)
 have sm:∀ j,j<100->pd ((ie (i5 n nd nm dn)).getD j "")=true/\(ie (i5 n nd nm dn)).getD j ""∉i5 n nd nm dn:=λj hj=>ZE (ZT (by omega))
 generalize ie (i5 n nd nm dn)=S at *
 have Cm:∀ k i,k<n->i<sz (pp X) k->nN X nm S (di (pp X) k+i)=nK X nm S k i/\di (pp X) k+i<60:=λk i hk hi=>⟨lV hp hi,aa (qh hk hi) h6⟩
 have one:∀ k i,i<sz (pp X) k->(cN X (di (pp X) k+i)="Deal"/\tN X (di (pp X) k+i)=fN 2/\mN X (di (pp X) k+i)=2/\i+1<2 ^ ee (pp X k))∨(cN X (di (pp X) k+i)="Copy"/\tN X (di (pp X) k+i)=[(X k).t.getD (i+1 - 2 ^ ee (pp X k)) []]/\mN X (di (pp X) k+i)=(X k).m/\¬ i+1<2 ^ ee (pp X k)/\sN X (di (pp X) k+i)=0):=by
  intro k i hi
  have hl:=i4 hp hi
  unfold cN tN mN sN
  rw[hl]
  by_cases q:i+1<2 ^ ee (pp X k)
  ·exact .inl ⟨aA q,aA q,aA q,q⟩
  ·exact .inr ⟨aB q,aB q,aB q,q,aB q⟩
 refine⟨?_,h6,hs.d1,hs.d2,λP hP=>?_,λP hP=>?_,λP j hP hj=>?_,λP hP=>?_,λP hP=>?_,hs.isd,λP Q hP hQ e=>?_,hs.injd,λP d hP hd e=>?_⟩
 ·have:=qh (p:=pp X) (n:=n) (k:=0) (i:=0) hs.n1 (vO (hp 0).1);omega
 ·obtain⟨k,i,hk,hi,rfl⟩:=oz hP
  rcases one k i hi with h | h<;>rw[h.1]<;>decide +kernel
 ·obtain⟨k,i,hk,hi,rfl⟩:=oz hP
  rcases one k i hi with h | h<;>rw[h.2.1,h.2.2.1]
  ·exact Hf (by decide) (by decide)
  ·exact Lo (g k).tb (by have:=h.2.2.2.1;have:=Nar.pw (ee (pp X k));unfold sz at hi;show _<pp X k;omega)
 ·obtain⟨k,i,hk,hi,rfl⟩:=oz hP
  have hl:=i4 hp hi
  have hz:=vO (hp k).1
  rcases one k i hi with h | h
  ·rw[h.2.2.1]at hj
   have q:=h.2.2.2
   have e:lN X (di (pp X) k+i) j=((Nar.at' (pp X) (λk=>ee (pp X k)) (di (pp X)) k ((i+1).log2+1) (i+1 - 2 ^ (i+1).log2+2 ^ (i+1).log2 * j):Nat):Int):=by unfold lN;rw[hl];exact aA q
   have a1:2 ^ (i+1).log2<=i+1:=Nat.log2_self_le (by omega)
   have a2:i+1<2 ^ ((i+1).log2+1):=Nat.lt_log2_self
   generalize (i+1).log2=a at *
   have a4:2 ^ (a+1)=2 * 2 ^ a:=by rw[bp];omega
   have a3:a<ee (pp X k):=by
    rcases Nat.lt_or_ge a (ee (pp X k)) with l | l
    ·exact l
    ·have:=bz (n:=2) (by decide) l;omega
   have hb:2 ^ a * j<=2 ^ a:=b0 (Nat.mul_le_mul_left _ (show j<=1 by omega)) (by rw[Nat.mul_one];exact aJ _)
   rw[e]
   unfold Nar.at'
   by_cases c:a+1=ee (pp X k)/\pp X k<=i+1 - 2 ^ a+2 ^ a * j
   ·rw[aA c]
    have:=qh (p:=pp X) hk (i:=0) (by omega)
    omega
   ·rw[aB c]
    have:=qh (p:=pp X) hk (i:=2 ^ (a+1)+(i+1 - 2 ^ a+2 ^ a * j) - 1) (by
     unfold sz
     by_cases q2:a+1=ee (pp X k)
     ·rw[← q2];rw[← q2]at c;have:=Nar.pw (a+1);omega
     ·have:=Nar.pw_lt (show a+1<ee (pp X k) by omega);have:=(hp k).1;omega)
    omega
  ·rw[h.2.2.1]at hj
   have e:lN X (di (pp X) k+i) j=if 0<=(X k).ld j then((di (pp X) ((X k).ld j).toNat:Nat):Int) else(X k).ld j:=by unfold lN;rw[hl];exact aB h.2.2.2.1
   have hr:=(g k).ldr j hj
   rw[e]
   split
   ·have:=qh (p:=pp X) (n:=n) (k:=((X k).ld j).toNat) (i:=0) (by omega) (vO (hp _).1)
    omega
   ·omega
 ·obtain⟨k,i,hk,hi,rfl⟩:=oz hP
  rcases one k i hi with h | h
  ·rw[h.2.1]
   have e:sN X (di (pp X) k+i)=((Nar.N (2 ^ (i+1).log2) (i+1 - 2 ^ (i+1).log2) (X k).st % 2:Nat):Int):=by unfold sN;rw[i4 hp hi];exact aA h.2.2.2
   rw[e]
   show _/\_<((2:Nat):Int)
   omega
  ·rw[h.2.1,h.2.2.2.2]
   exact⟨bI _,show(0:Int)<1 by decide⟩
 ·obtain⟨k,i,hk,hi,rfl⟩:=oz hP
  obtain⟨e,hb⟩:=Cm k i hk hi
  rw[e]
  unfold nK
  by_cases q:i=0
  ·rw[aA q];exact hs.isn k hk
  ·rw[aB q];exact Cg (sm _ (by omega)).1
 ·obtain⟨k,i,hk,hi,rfl⟩:=oz hP
  obtain⟨k',i',I0,pO,rfl⟩:=oz hQ
  obtain⟨e1,hb⟩:=Cm k i hk hi
  obtain⟨e2,uh⟩:=Cm k' i' I0 pO
  rw[e1,e2]at e
  unfold nK at e
  by_cases q:i=0
  ·by_cases q':i'=0
   ·rw[aA q,aA q']at e
    rw[hs.inj k k' hk I0 e,q,q']
   ·rw[aA q,aB q']at e
    exact absurd (show _∈i5 n nd nm dn from e ▸ (Lr hk:nm k∈i5 n nd nm dn)) (sm (di (pp X) k'+i' - 1) (by omega)).2
  ·by_cases q':i'=0
   ·rw[aB q,aA q']at e
    exact absurd (show _∈i5 n nd nm dn from e ▸ (Lr I0:nm k'∈i5 n nd nm dn)) (sm (di (pp X) k+i - 1) (by omega)).2
   ·rw[aB q,aB q']at e
    have:=ZU ZV (by omega) (by omega) e
    omega
 ·obtain⟨k,i,hk,hi,rfl⟩:=oz hP
  obtain⟨e1,hb⟩:=Cm k i hk hi
  rw[e1]at e
  unfold nK at e
  by_cases q:i=0
  ·rw[aA q]at e;exact hs.sep k d hk hd e
  ·rw[aB q]at e
   exact absurd (show _∈i5 n nd nm dn from e ▸ (ZS hd:dn d∈i5 n nd nm dn)) (sm (di (pp X) k+i - 1) (by omega)).2
theorem ZW{ne:Nat}{en:Nat->Str}{ek:Nat->Nat}(he:zL n ne en ek):Q7 [fP n nd ne nm dn (cC X) en ek (cT X) (cM X) (cL X) (cS X)]=.ok (fP (di (pp X) n) nd ne (nN X nm (ie (i5 n nd nm dn))) dn (cN X) en (λj=>di (pp X) (ek j)) (tN X) (mN X) (lN X) (sN X)):=by
 have ZX:=Hz hp hs g h6
 have zW:zL (di (pp X) n) ne en (λj=>di (pp X) (ek j)):=⟨he.e1,he.e6,he.isn,he.inj,λj hj=>by have:=qh (p:=pp X) (he.rng j hj) (i:=0) (vO (hp _).1);exact this⟩
 have hi:=LR ZX zW
 have hn2:=hs.n2
 have hd2:=hs.d2
 have he6:=he.e6
 obtain⟨s6,s7⟩:=Lv (n:=n) (nd:=nd) (nm:=nm) (dn:=dn) (by omega)
 have jC:=ZG (i5 n nd nm dn) (by rw[Lu];omega)
 have ht:D.lst ((List.range n).map (λk=>D.str (nm k))++(List.range nd).map (λd=>D.str (dn d)))=.lst ((i5 n nd nm dn).map .str):=by
  unfold i5;rw[ao,aY,aY];rfl
 have zY:dc [none,some 0] (eR (e7 Ql "many" (λ_=>Q0) (dU 0) dY)) (gN 0) da z9 [zk (fP n nd ne nm dn (cC X) en ek (cT X) (cM X) (cL X) (cS X)),none,none,none,none,none]=.ok (.lst (((List.range n).map λk=>((sz (pp X) k:Nat):Int)).map D.int)):=by
  rw[aY]
  refine mD (λk=>D.int ((sz (pp X) k:Nat):Int)) (Q6 n (Ca rfl) (by omega)) (λk hk=>?_) (by omega)
  refine QE rfl rfl ?_
  unfold z9
  refine QV (Qe ?_ df) (Hw (hp k).1 (hp k).2)
  rw[show Qd=CK from rfl,vJ (c:=cC X k) (t:=cT X k) (m:=cM X k) (hs.ck k hk) (xs:=[]) (Cb hk rfl rfl) rfl (dk) (dk)]
  exact CV (hs.ck k hk) _ _
 have mG:∀ m,((List.range m).map λk=>((sz (pp X) k:Nat):Int)).sum=((di (pp X) m:Nat):Int):=by
  intro m
  induction m with
  | zero=>rfl
  | succ m ih=>
   rw[b7,ao,List.sum_append,ih]
   show _+(((sz (pp X) m:Nat):Int)+0)=((di (pp X) m+sz (pp X) m:Nat):Int)
   omega
 generalize hO:fP n nd ne nm dn (cC X) en ek (cT X) (cM X) (cL X) (cS X)=O at *
 let Z:D->Option (SM×D)->SD:=λl a5=>[zk O,zk (.int ((di (pp X) n:Nat):Int)),zk (rl n (λk=>.str (nm k))),zk (.lst ((ie (i5 n nd nm dn)).map .str)),zo l,a5]
 obtain⟨ς',hL,a5,rfl⟩:=rq (body:=λx ς=>gN 5 x ς>>=λς'=>CH ς') (n:=n) (P:=λk ς=>∃ a5,ς=Z (rl (di (pp X) k) (nZ X nm dn (ie (i5 n nd nm dn)))) a5)
  (by
   rintro k hk ς ⟨a5,rfl⟩
   refine⟨Z (rl (di (pp X) (k+1)) (nZ X nm dn (ie (i5 n nd nm dn)))) (zk (.int (k:Int))),?_,_,rfl⟩
   refine j0 (ς1:=Z (rl (di (pp X) k) (nZ X nm dn (ie (i5 n nd nm dn)))) (zk (.int (k:Int)))) rfl ?_
   unfold CH
   have tr:=ZR (ne:=ne) (en:=en) (ek:=ek) (S:=ie (i5 n nd nm dn)) hp hs g hk h6 s6 s7
   rw[hO]at tr
   have hof:=Ck (p:=pp X) (show k+1<=n by omega)
   have IA:di (pp X) (k+1)=di (pp X) k+sz (pp X) k:=rfl
   refine sd (xs:=(List.range (di (pp X) k)).map (nZ X nm dn (ie (i5 n nd nm dn)))) (zs:=(List.range (sz (pp X) k)).map λi=>nZ X nm dn (ie (i5 n nd nm dn)) (di (pp X) k+i)) rfl ?_ (by rw[aD,aD,aC,aC];omega) ?_
   ·show AU _=_
    rw[QV (Qe (dX rfl) (Qe (dX rfl) (Qe (nL (dX rfl) (sE (fe (Qe (qT rfl) df) (jJ _ _))) mh (by rw[TH, ← List.map_drop])) df))) tr]
    rfl
   ·show [_,_,_,_,some (SM.o,D.lst _),_]=[_,_,_,_,some (SM.o,D.lst _),_]
    rw[IA,List.range_add,ao,aY];rfl)
  (Z (.lst []) none) ⟨_,rfl⟩
 subst hO
 have IB:dc [none,some 2] (fJ (e7 Ql "entries" (λ_=>QX) (dU 0) dY)) (gN 0) da HV [zk (fP n nd ne nm dn (cC X) en ek (cT X) (cM X) (cL X) (cS X)),zk (.int ((di (pp X) n:Nat):Int)),zk (rl n (λk=>.str (nm k))),zk (.lst ((ie (i5 n nd nm dn)).map .str)),zk (rl (di (pp X) n) (nZ X nm dn (ie (i5 n nd nm dn)))),a5]=.ok (rl ne (g6 (nN X nm (ie (i5 n nd nm dn))) en (λj=>di (pp X) (ek j)))):=by
  refine QO (l:=List.range ne) (λj=>D.tup [.str (en j),.int ((ek j:Nat):Int)]) (g6 (nN X nm (ie (i5 n nd nm dn))) en (λj=>di (pp X) (ek j))) (gP (LW rfl)) (λj hj=>?_) (by rw[aC];omega)
  have hj:=aU.mp hj
  refine QE rfl rfl ?_
  unfold HV g6
  rw[Hy hp]
  exact hU (Qe (dZ (dX rfl) eG (T9 _ _)) (Qe (dZ (dX rfl) (dZ (dX rfl) eG (TF _ _ _)) (ja (f:=λk=>D.str (nm k)) (he.rng j hj))) df)) (show 2<=1000 by decide)
 have zR:f1 iM [.lst (((List.range n).map λk=>((sz (pp X) k:Nat):Int)).map D.int)]=.ok (.int ((di (pp X) n:Nat):Int)):=by rw[zQ,mG]
 rw[L9]
 unfold zA
 refine QS (fl:=.rt true _) (dh (iX (dz (fe (Qe zY df) zR) rfl)) (Qj (dh (oV (b:=false) (iX (QT (dZ (dX rfl) eG (by rw[rn,aQ (by omega)])))) (sC rfl kq)) (Qj (dh (iX (dz (Hn rfl) rfl)) (Qj (dh (iX (dz (QV (Qe (dZ (dX rfl) (Ho rfl) (tw (by rw[aD,aD,aC,aC];omega))) df) (by rw[ht];exact jC)) rfl)) (Qj (dh (iX (nJ (d:=.lst []) (fX df (by decide)) rfl)) (Qj (dh (iX (mf (g:=gN 5) (T:=CH) (show eR (e7 Ql "many" (λ_=>Q0) (dU 0) dY) (Z (.lst []) none)=.ok (k9 0 n) from Q6 n (Ca rfl) (by omega)) hL)) (Qj (iX (Hr (j:=4) (Hq rfl rfl) (lg (qV (Qe (dX rfl) (Qe IB (Qe (Ho rfl) df))) hi)))))))))))))))) fW
end
noncomputable def fS:Nat->(Nat->Int)->(Nat->Int)->Int->Int
 | 0,_,_,_=>0
 | m+1,l,w,x=>fS m l w x+if l m=x then w m else 0
theorem Lw{N p:Nat}(hp:p<N)(F:Nat->Int)(c:Int):((List.range N).map λi=>D.int (F i)).set p (.int (F p+c))=(List.range N).map λi=>D.int (F i+if (p:Int)=(i:Int) then c else 0):=by
 rw[uD hp]
 apply b8
 intro i _
 by_cases e:i=p
 ·subst e
  rw[aA rfl,aA rfl]
 ·rw[aB e,aB (by omega),cV]
theorem ZY{r:List Int}{m:Nat}(h:r.length=m):r.map D.int=(List.range m).map λj=>D.int (r.getD j 0):=by
 apply bN
 intro i
 rw[aH,aH]
 by_cases hi:i<m
 ·rw[ae hi,aE (by omega)]
  simp[aM,aE (show i<r.length by omega)]
 ·rw[au (by omega),au (by rw[aC];omega)];rfl
theorem Cn{I E:SD->Out D}{ς ς':SD}{i j:Nat}{k:Int}{s:SM}{xs:List D}{d:D}(hm:wr s=true)(a:E ς=.ok d)(e:ς[i]?=some (some (s,.lst xs)))(a':I ς=zi k)(q:kW xs.length k=some j)(l:ς.set i (some (s,.lst (xs.set j d)))=ς'):jR i I E ς=zt ς':=by
 unfold jR
 rw[a,dQ,e]
 show(if wr s=true then _ else _)=_
 rw[aA hm,a',dQ]
 show(gq (kW xs.length k)>>=_)=_
 rw[q]
 show Out.ok (Fl.nx (ς.set i _))=_
 rw[l]
theorem ZZ{ms:List (Option Nat)}{f:List D->Out (D×Option (List D))}{A:SD->Out (List D)}{ς ς':SD}{ds ws:List D}{d:D}(a:A ς=.ok ds)(k:f ds=.ok (d,some ws))(l:iN ms ws ς=ς'):yH ms f A ς=zt ς':=by
 unfold yH
 rw[a,dQ,k,dQ]
 show Out.ok (Fl.nx (iN ms ws ς))=_
 rw[l]
theorem zZ{ς:SD}{i:Nat}{s:SM}{d:D}(hm:wr s=true)(e:ς[i]?=some (some (s,d))):iy i ς=.ok d:=by
 unfold iy
 rw[e]
 show(if wr s=true then _ else _)=_
 rw[aA hm]
noncomputable def gJ(t:List (List Int))(s:Int)(j:Nat):Int:=(t.getD s.toNat []).getD j 0
theorem sj{l w:Nat->Int}{x B:Int}:∀ m:Nat,(∀ j,j<m->0<=w j/\w j<=B)->0<=fS m l w x/\fS m l w x<=m * B
 | 0,_=>by show 0<=(0:Int)/\(0:Int)<=((0:Nat):Int) * B;simp
 | m+1,h=>by
  obtain⟨h0,h1⟩:=sj (l:=l) (x:=x) m λj hj=>h j (by omega)
  obtain⟨w0,w1⟩:=h m (by omega)
  show 0<=fS m l w x+(if l m=x then w m else 0)/\fS m l w x+(if l m=x then w m else 0)<=((m+1:Nat):Int) * B
  have e:((m+1:Nat):Int) * B=m * B+B:=by
   rw[show((m+1:Nat):Int)=(m:Int)+1 by omega,Int.add_mul,Int.one_mul]
  rw[e]
  split<;>omega
noncomputable def qi(t:Nat->List (List Int))(S:Nat->Int)(k i:Nat):Int:=if i=k then(S k+1) % ((t k).length:Int) else S i
noncomputable def Co(K:Nat->Int)(k i:Nat):Int:=if i=k then K k - 1 else K i
theorem Lx{n k:Nat}(hk:k<n)(f:Nat->Int)(v:Int):((List.range n).map λi=>D.int (f i)).set k (.int v)=(List.range n).map λi=>D.int (if i=k then v else f i):=by
 rw[uD hk]
 apply b8
 intro i _
 split<;>rfl
theorem Za{c:SD->Out Bool}{b:SD->Out Fl}{ς:SD}(h:c ς=.ok false):kK c b ς=zt ς:=by
 rw[uf,h];rfl
theorem za{c:SD->Out Bool}{b:SD->Out Fl}{ς ς':SD}{r:Out Fl}(h:c ς=.ok true)(hb:b ς=zt ς')(k:kK c b ς'=r):kK c b ς=r:=by
 rw[uf,h,dQ,aA rfl,hb]
 exact k
theorem zc{t:List (List Int)}{m:Nat}(h:Tb t m)(s:Int)(j:Nat):0<=gJ t s j/\gJ t s j<=9:=by
 unfold gJ
 rw[aM,aM]
 cases hr:t[s.toNat]? with
 | none=>simp
 | some r=>
  show 0<=(r[j]?).getD 0/\(r[j]?).getD 0<=9
  cases hx:r[j]? with
  | none=>simp
  | some x=>exact h.ent r (bW hr) x (bW hx)
def wf(n:Nat)(t:Nat->List (List Int))(m:Nat->Nat)(ld:Nat->Nat->Int)(st:Nat->Int)(k c:Nat)(x:Int):Int:=if k<n then fS (m k) (ld k) (gJ (t k) ((st k+(c:Int)) % ((t k).length:Int))) x else 0
noncomputable def kx(t:Nat->List (List Int))(st:Nat->Int)(c:Nat->Nat)(k:Nat):Int:=(st k+(c k:Int)) % ((t k).length:Int)
section
variable{n nd:Nat}{nm dn cl:Nat->Str}{t:Nat->List (List Int)}{m:Nat->Nat}{ld:Nat->Nat->Int}{st:Nat->Int}(hs:fj n nd nm dn cl t m ld st){K:Nat->Int}
include hs
theorem IC:∀ k c x,0<=wf n t m ld st k c x:=λk c x=>by
 unfold wf
 split
 ·rename_i hk
  exact(sj (B:=9) (m k) λj _=>zc (hs.tb k hk) _ j).1
 ·exact bI _
theorem Zb{k:Nat}(hk:k<n)(c:Nat->Nat):0<=kx t st c k/\kx t st c k<((t k).length:Int):=by
 have:=(hs.tb k hk).n1
 exact⟨Int.emod_nonneg _ (by omega),Int.emod_lt_of_pos _ (by omega)⟩
theorem Zc{k:Nat}(hk:k<n)(c:Nat->Nat):rl n (λi=>D.int (qi t (kx t st c) k i))=rl n (λi=>.int (kx t st (Abl.inc c k) i)):=mw λi _=>by
 refine bO D.int ?_
 unfold qi kx Abl.inc
 by_cases e:i=k
 ·subst e
  rw[aA rfl,aA rfl,Int.emod_add_emod]
  congr 1
  omega
 ·rw[aB e,aB e]
theorem Zd{k:Nat}(hk:k<n)(c:Nat->Nat):rl n (λi=>D.int (Co (Abl.desk n K (wf n t m ld st) c) k i+fS (m k) (ld k) (gJ (t k) (kx t st c k)) (i:Int)))=rl n (λi=>.int (Abl.desk n K (wf n t m ld st) (Abl.inc c k) i)):=mw λi _=>by
 refine bO D.int ?_
 rw[Abl.desk_inc hk]
 have e:wf n t m ld st k (c k) (i:Int)=fS (m k) (ld k) (gJ (t k) (kx t st c k)) (i:Int):=aA hk
 rw[e]
 rfl
theorem Ze{k:Nat}(hk:k<n)(c:Nat->Nat):rl nd (λi=>D.int (Abl.all n (wf n t m ld st) c (-1 - (i:Int))+fS (m k) (ld k) (gJ (t k) (kx t st c k)) (-1 - (i:Int))))=rl nd (λi=>.int (Abl.all n (wf n t m ld st) (Abl.inc c k) (-1 - (i:Int)))):=mw λi _=>by
 refine bO D.int ?_
 have e:wf n t m ld st k (c k) (-1 - (i:Int))=fS (m k) (ld k) (gJ (t k) (kx t st c k)) (-1 - (i:Int)):=aA hk
 rw[Abl.all_inc hk,e]
theorem zd:rl n (λi=>D.int (st i))=rl n (λi=>.int (kx t st (λ_=>0) i)):=mw λi hi=>by
 obtain⟨a,b⟩:=hs.str i hi
 refine bO D.int ?_
 unfold kx
 rw[show st i+((0:Nat):Int)=st i by omega,Int.emod_eq_of_lt a b]
def PL(cl:Nat->Str)(t:Nat->List (List Int))(m:Nat->Nat)(ld:Nat->Nat->Int)(st:Nat->Int)(k:Nat):D:=.tup [ck (cl k) (t k) (m k),eh (t k),rl (m k) (λj=>.int (ld k j)),.int (st k)]
theorem Zf{sx:Nat->Int}{S K G:Nat->Int}{k:Nat}(hk:k<n)(s0:0<=S k)(s1:S k<((t k).length:Int)):
 zE [rl n (PL cl t m ld sx),rl n (λi=>.int (S i)),rl n (λi=>.int (K i)),rl nd (λi=>.int (G i)),.int (k:Int)]=
  .ok (.non,some [rl n (λi=>.int (qi t S k i)),rl n (λi=>.int (Co K k i+fS (m k) (ld k) (gJ (t k) (S k)) (i:Int))),rl nd (λi=>.int (G i+fS (m k) (ld k) (gJ (t k) (S k)) (-1 - (i:Int))))]):=by
 have n2:=hs.n2
 have d2:=hs.d2
 have tb:=hs.tb k hk
 have n1:=tb.n1
 have m6:=tb.m6
 obtain⟨r,hr⟩:∃ r:Nat,S k=(r:Int):=⟨(S k).toNat,by omega⟩
 have ID:r<(t k).length:=by omega
 have IE:eF (eh (t k)) (.int (S k))=.ok (rl (m k) (λj=>.int (gJ (t k) (S k) j))):=by
  have hg:(t k).getD r []=(t k)[r]:=by simp[aM,aE ID]
  have hm:((t k)[r]).length=m k:=tb.row _ (bG ID)
  have hx:eF (eh (t k)) (.int (r:Int))=.ok (dl (t k)[r]):=mC r (by rw[aH,aE ID];rfl)
  have e:rl (m k) (λj=>D.int (gJ (t k) (r:Int) j))=dl (t k)[r]:=by
   unfold dl gJ
   rw[ZY hm,ax,hg]
  rw[hr,hx,e]
 have hP:eF (rl n (PL cl t m ld sx)) (.int (k:Int))=.ok (PL cl t m ld sx k):=ja hk
 have Zg:eF (PL cl t m ld sx k) (.int 1)=.ok (eh (t k)):=pT 1 rfl
 have Zh:eF (PL cl t m ld sx k) (.int 2)=.ok (rl (m k) (λj=>.int (ld k j))):=pT 2 rfl
 have Zi:eB [eh (t k)]=.ok (.int ((t k).length:Int)):=by simp[eB,eh]
 have Zj:=jJ (m k) (λj=>D.int (gJ (t k) (S k) j))
 have AB:eF (rl n (λi=>D.int (S i))) (.int (k:Int))=zi (S k):=ja (f:=λi=>D.int (S i)) hk
 have uW:eF (rl n (λi=>D.int (K i))) (.int (k:Int))=zi (K k):=ja (f:=λi=>D.int (K i)) hk
 have Zk:=oq hk (λi=>D.int (S i))
 have hn2:=oq hk (λi=>D.int (K i))
 have p1:((List.range n).map λi=>D.int (S i)).set k (.int ((S k+1) % ((t k).length:Int)))=(List.range n).map λi=>D.int (qi t S k i):=Lx hk S _
 have p2:((List.range n).map λi=>D.int (K i)).set k (.int (K k - 1))=(List.range n).map λi=>D.int (Co K k i):=Lx hk K _
 have IF:fA (.int (S k+1)) (.int ((t k).length:Int))=.ok (.int ((S k+1) % ((t k).length:Int))):=yJ (by omega)
 have LH:∀ j,j<m k->eF (rl (m k) (λj=>D.int (ld k j))) (.int (j:Int))=zi (ld k j):=λj hj=>ja (f:=λj=>D.int (ld k j)) hj
 have Zl:∀ j,j<m k->eF (rl (m k) (λj=>D.int (gJ (t k) (S k) j))) (.int (j:Int))=zi (gJ (t k) (S k) j):=λj hj=>ja (f:=λj=>D.int (gJ (t k) (S k) j)) hj
 have IG:=λj hj=>hs.ldr k j hk hj
 generalize rl n (PL cl t m ld sx)=P at *
 generalize PL cl t m ld sx k=Pk at *
 generalize eh (t k)=Tk at *
 generalize rl (m k) (λj=>D.int (ld k j))=Ls at *
 generalize rl (m k) (λj=>D.int (gJ (t k) (S k) j))=Rs at *
 generalize hl:ld k=l at *
 generalize hw:gJ (t k) (S k)=w at *
 generalize Co K k=F at *
 let Z:(a b c:D)->(a7 a8:Option (SM×D))->SD:=λa b c a7 a8=>[zk P,some (.s,a),some (.s,b),some (.s,c),zk (.int (k:Int)),zk Tk,zk Rs,a7,a8]
 obtain⟨ς',hL,a7,a8,rfl⟩:=rq (body:=λx ς=>gN 7 x ς>>=λς'=>CN ς') (n:=m k)
  (P:=λj ς=>∃ a7 a8,ς=Z (rl n (λi=>.int (qi t S k i))) (rl n (λi=>.int (F i+fS j l w (i:Int)))) (rl nd (λi=>.int (G i+fS j l w (-1 - (i:Int))))) a7 a8)
  (by
   rintro j hj ς ⟨a7,a8,rfl⟩
   obtain⟨q0,q1⟩:=IG j hj
   have ex:=LH j hj
   have ew:=Zl j hj
   generalize rl n (λi=>D.int (qi t S k i))=Ud at *
   refine⟨Z Ud (rl n (λi=>.int (F i+fS (j+1) l w (i:Int)))) (rl nd (λi=>.int (G i+fS (j+1) l w (-1 - (i:Int))))) (zk (.int (j:Int))) (zk (.int (l j))),?_,_,_,rfl⟩
   refine j0 (ς1:=Z Ud (rl n (λi=>.int (F i+fS j l w (i:Int)))) (rl nd (λi=>.int (G i+fS j l w (-1 - (i:Int))))) (zk (.int (j:Int))) a8) rfl ?_
   unfold CN
   refine dh (dz (dZ (dZ (dZ (dX rfl) (dX rfl) hP) eG Zh) (dX rfl) ex) rfl) (Qj ?_)
   by_cases h:l j<0
   ·obtain⟨p,hp⟩:∃ p:Nat, -1 - l j=(p:Int):=⟨(-1 - l j).toNat,by omega⟩
    have uG:p<nd:=by omega
    have hx:eF (rl nd (λi=>.int (G i+fS j l w (-1 - (i:Int))))) (.int (p:Int))=.ok (.int (G p+fS j l w (-1 - (p:Int)))):=ja uG
    have hn:=oq uG (λi=>D.int (G i+fS j l w (-1 - (i:Int))))
    have m5:((List.range nd).map λi:Nat=>D.int (G i+fS j l w (-1 - (i:Int)))).set p (.int (G p+fS j l w (-1 - (p:Int))+w j))=(List.range nd).map λi:Nat=>D.int (G i+fS (j+1) l w (-1 - (i:Int))):=by
     rw[Lw uG (λi=>G i+fS j l w (-1 - (i:Int))) (w j)]
     apply b8
     intro i _
     show D.int (G i+fS j l w (-1 - (i:Int))+(if (p:Int)=(i:Int) then w j else 0))=D.int (G i+(fS j l w (-1 - (i:Int))+if l j = -1 - (i:Int) then w j else 0))
     by_cases e:p=i
     ·subst e
      rw[aA rfl,aA (by omega),Int.add_assoc]
     ·rw[aB (by omega),aB (by omega),cV,cV]
    have hF:rl n (λi=>D.int (F i+fS (j+1) l w (i:Int)))=rl n (λi=>D.int (F i+fS j l w (i:Int))):=mw λi _=>by
     show D.int (F i+(fS j l w (i:Int)+if l j=(i:Int) then w j else 0))=_
     rw[aB (by omega),cV]
    rw[hF]
    refine hV (QT (dZ (dX rfl) eG (lb _ _))) (aF h) ?_
    have hi:e2 gC (e1 jD (eC (.int 1))) (dU 8) (Z Ud (rl n (λi=>.int (F i+fS j l w (i:Int)))) (rl nd (λi=>.int (G i+fS j l w (-1 - (i:Int))))) (zk (.int (j:Int))) (zk (.int (l j))))=.ok (.int (p:Int)):=by
     rw[← hp]
     exact dZ (gw eG (qS _)) (dX rfl) (Q3 _ _)
    exact Cn (s:=.s) (k:=(p:Int)) (j:=p) rfl (dZ (dZ (qT rfl) hi hx) (dZ (dX rfl) (dX rfl) ew) (rm _ _)) rfl hi hn (by rw[m5];rfl)
   ·obtain⟨p,hp⟩:∃ p:Nat,l j=(p:Int):=⟨(l j).toNat,by omega⟩
    have uG:p<n:=by omega
    have hx:eF (rl n (λi=>.int (F i+fS j l w (i:Int)))) (.int (p:Int))=.ok (.int (F p+fS j l w (p:Int))):=ja uG
    have hn:=oq uG (λi=>D.int (F i+fS j l w (i:Int)))
    have m5:((List.range n).map λi:Nat=>D.int (F i+fS j l w (i:Int))).set p (.int (F p+fS j l w (p:Int)+w j))=(List.range n).map λi:Nat=>D.int (F i+fS (j+1) l w (i:Int)):=by
     rw[Lw uG (λi=>F i+fS j l w (i:Int)) (w j)]
     apply b8
     intro i _
     show D.int (F i+fS j l w (i:Int)+(if (p:Int)=(i:Int) then w j else 0))=D.int (F i+(fS j l w (i:Int)+if l j=(i:Int) then w j else 0))
     rw[hp,Int.add_assoc]
    have hG:rl nd (λi=>D.int (G i+fS (j+1) l w (-1 - (i:Int))))=rl nd (λi=>D.int (G i+fS j l w (-1 - (i:Int)))):=mw λi _=>by
     show D.int (G i+(fS j l w (-1 - (i:Int))+if l j = -1 - (i:Int) then w j else 0))=_
     rw[aB (by omega),cV]
    rw[hG]
    refine g7 (QT (dZ (dX rfl) eG (lb _ _))) (aQ h) ?_
    have hi:dU 8 (Z Ud (rl n (λi=>.int (F i+fS j l w (i:Int)))) (rl nd (λi=>.int (G i+fS j l w (-1 - (i:Int))))) (zk (.int (j:Int))) (zk (.int (l j))))=.ok (.int (p:Int)):=by
     rw[← hp]
     exact dX rfl
    exact Cn (s:=.s) (k:=(p:Int)) (j:=p) rfl (dZ (dZ (qT rfl) hi hx) (dZ (dX rfl) (dX rfl) ew) (rm _ _)) rfl hi hn (by rw[m5];rfl))
  (Z (rl n (λi=>.int (qi t S k i))) (rl n (λi=>.int (F i))) (rl nd (λi=>.int (G i))) none none) ⟨none,none,by
   have h1:rl n (λi=>D.int (F i))=rl n (λi=>D.int (F i+fS 0 l w (i:Int))):=mw λi _=>by show D.int (F i)=D.int (F i+0);rw[cV]
   have h2:rl nd (λi=>D.int (G i))=rl nd (λi=>D.int (G i+fS 0 l w (-1 - (i:Int)))):=mw λi _=>by show D.int (G i)=D.int (G i+0);rw[cV]
   rw[h1,h2]⟩
 have oj:=mf (g:=gN 7) (T:=CN) (show eR (eA eB (dW (dU 6) dY)) (Z (rl n (λi=>.int (qi t S k i))) (rl n (λi=>.int (F i))) (rl nd (λi=>.int (G i))) none none)=.ok (k9 0 (m k)) from Q6 (m k) (fe (Qe (dX rfl) df) Zj) (by omega)) hL
 have hb:zD [zk P,some (.s,rl n (λi=>.int (S i))),some (.s,rl n (λi=>.int (K i))),some (.s,rl nd (λi=>.int (G i))),zk (.int (k:Int)),none,none,none,none]=zt (Z (rl n (λi=>.int (qi t S k i))) (rl n (λi=>.int (F i+fS (m k) l w (i:Int)))) (rl nd (λi=>.int (G i+fS (m k) l w (-1 - (i:Int))))) a7 a8):=by
  unfold zD
  refine dh (dz (dZ (dZ (dX rfl) (dX rfl) hP) eG Zg) rfl) (Qj ?_)
  refine dh (dz (dZ (dX rfl) (dZ (qT rfl) (dX rfl) AB) IE) rfl) (Qj ?_)
  refine dh (Cn (s:=.s) (k:=(k:Int)) (j:=k) (d:=.int (K k - 1)) rfl (dZ (dZ (qT rfl) (dX rfl) uW) eG (Q3 _ _)) rfl (dX rfl) hn2 (by rw[p2])) (Qj ?_)
  refine dh (Cn (s:=.s) (k:=(k:Int)) (j:=k) (d:=.int ((S k+1) % ((t k).length:Int))) rfl (dZ (dZ (dZ (qT rfl) (dX rfl) AB) eG (rm _ _)) (fe (Qe (dX rfl) df) Zi) IF) rfl (dX rfl) Zk (by rw[p1])) (Qj ?_)
  exact oj
 rw[Xt,hb]
 rfl
end
theorem mH{T:SD->Out Fl}{U:SD->Out (D×SD)}{ς ς':SD}{r:Out (D×SD)}(a:T ς=zt ς')(b:U ς'=r):jo T U ς=r:=by unfold jo;rw[a];exact b
theorem IH:∀(n:Nat)(f:Nat->Int),((List.range n).map f).sum=Abl.sm n f
 | 0,_=>rfl
 | n+1,f=>by
  rw[b7,ao,List.sum_append,IH n f]
  show _+(f n+0)=_+f n
  omega
theorem Ly{f:Nat->Int}:∀ n:Nat,(∀ i,i<n->0<=f i)->Abl.sm n f<=0->∀ i,i<n->f i<=0
 | 0,_,_=>λi hi=>absurd hi (cJ _)
 | n+1,h,hz=>λi hi=>by
  have h1:0<=Abl.sm n f:=by rw[← Abl.sm_zero n];exact Abl.sm_mono λk hk=>h k (by omega)
  have h2:=h n (by omega)
  have hz:Abl.sm n f+f n<=0:=hz
  by_cases e:i=n
  ·subst e;omega
  ·exact Ly n (λk hk=>h k (by omega)) (by omega) i (by omega)
section
variable{n nd:Nat}{nm dn cl:Nat->Str}{t:Nat->List (List Int)}{m:Nat->Nat}{ld:Nat->Nat->Int}{S:Nat->Int}(hs:fj n nd nm dn cl t m ld S){sx:Nat->Int}
abbrev rZ(n nd:Nat)(t:Nat->List (List Int))(m:Nat->Nat)(ld:Nat->Nat->Int)(S K:Nat->Int)(P k0 mny bk ord:D)(c:Nat->Nat)(a9 j7:Option (SM×D)):SD:=
 [zk P,some (.s,rl n (λi=>.int (kx t S c i))),zk k0,zk mny,zk (.int (nd:Int)),zk bk,zo (rl n (λi=>.int (Abl.desk n K (wf n t m ld S) c i))),zo (rl nd (λi=>.int (Abl.all n (wf n t m ld S) c (-1 - (i:Int))))),zk ord,a9,j7]
include hs
theorem ze{K:Nat->Int}{P k0 mny bk ord:D}(hP:P=rl n (PL cl t m ld sx))(a9:Option (SM×D)):∀(l:List Nat),(∀ x∈l,x<n)->∀(c:Nat->Nat)(j7:Option (SM×D)),Abl.Leg n K (wf n t m ld S) c->
 ∃ c' qj,Abl.Leg n K (wf n t m ld S) c'/\Abl.tot n c<=Abl.tot n c'/\((∃ x∈l,0<Abl.desk n K (wf n t m ld S) c x)->Abl.tot n c<Abl.tot n c')/\
  fM (λx ς=>gN 10 x ς>>=λς'=>uB ς') (l.map λx:Nat=>D.int (x:Int)) (rZ n nd t m ld S K P k0 mny bk ord c a9 j7)=zt (rZ n nd t m ld S K P k0 mny bk ord c' a9 qj):=by
 intro l
 induction l with
 | nil=>intro _ c j7 L;exact⟨c,j7,L,aJ _,(λz=>by obtain⟨x,hx,_⟩:=z;cases hx),rfl⟩
 | cons x l ih=>
  intro hl c j7 L
  have hx:=hl x aR
  have EA:eF (rl n (λi=>D.int (Abl.desk n K (wf n t m ld S) c i))) (.int (x:Int))=zi (Abl.desk n K (wf n t m ld S) c x):=ja (f:=λi=>D.int (Abl.desk n K (wf n t m ld S) c i)) hx
  have mF:eD (e2 oA (e2 eF (fg 6) (dU 10)) (eC (.int 0))) (rZ n nd t m ld S K P k0 mny bk ord c a9 (zk (.int (x:Int))))=.ok (decide (Abl.desk n K (wf n t m ld S) c x > 0)):=QT (dZ (dZ (qT rfl) (dX rfl) EA) eG (rn _ _))
  by_cases h:0<Abl.desk n K (wf n t m ld S) c x
  ·have gH:=Zb hs hx c
   have so:=Zf (sx:=sx) (K:=Abl.desk n K (wf n t m ld S) c) (G:=λi=>Abl.all n (wf n t m ld S) c (-1 - (i:Int))) hs hx gH.1 gH.2
   rw[Zc hs hx c,Zd hs hx c,Ze hs hx c, ← hP]at so
   obtain⟨c',qj,L',t1,t2,e⟩:=ih (λy hy=>hl y (aG _ hy)) (Abl.inc c x) (zk (.int (x:Int))) (.step L hx h)
   rw[Abl.tot_inc hx]at t1
   refine⟨c',qj,L',by omega,λ_=>by omega,?_⟩
   have hb:(gN 10 (D.int (x:Int)) (rZ n nd t m ld S K P k0 mny bk ord c a9 j7)>>=λς'=>uB ς')=zt (rZ n nd t m ld S K P k0 mny bk ord (Abl.inc c x) a9 (zk (.int (x:Int)))):=by
    refine j0 (ς1:=rZ n nd t m ld S K P k0 mny bk ord c a9 (zk (.int (x:Int)))) rfl ?_
    unfold uB
    refine hV mF (aF h) (ZZ (Qe (dX rfl) (Qe (zZ (s:=.s) rfl rfl) (Qe (zZ (s:=.o) rfl rfl) (Qe (zZ (s:=.o) rfl rfl) (Qe (dX rfl) df))))) so rfl)
   rw[aj,fM,hb]
   exact e
  ·obtain⟨c',qj,L',t1,t2,e⟩:=ih (λy hy=>hl y (aG _ hy)) c (zk (.int (x:Int))) L
   refine⟨c',qj,L',t1,λ⟨y,hy,q⟩=>?_,?_⟩
   ·rcases aL.mp hy with rfl | hy
    ·exact absurd q h
    ·exact t2 ⟨y,hy,q⟩
   ·have hb:(gN 10 (D.int (x:Int)) (rZ n nd t m ld S K P k0 mny bk ord c a9 j7)>>=λς'=>uB ς')=zt (rZ n nd t m ld S K P k0 mny bk ord c a9 (zk (.int (x:Int)))):=by
     refine j0 (ς1:=rZ n nd t m ld S K P k0 mny bk ord c a9 (zk (.int (x:Int)))) rfl ?_
     unfold uB
     exact g7 mF (aQ h) kq
    rw[aj,fM,hb]
    exact e
theorem Zm{K:Nat->Int}{P k0 mny bk:D}{l:List Nat}(hP:P=rl n (PL cl t m ld sx))(hK:∀ x,x<n->0<=K x)(hl:∀ x∈l,x<n)(A5:∀ x,x<n->x∈l)(hB:∀ c,Abl.Leg n K (wf n t m ld S) c->Abl.tot n c<4000):
 ∀(q:Nat)(done:Nat)(c:Nat->Nat)(j7:Option (SM×D)),done+q=4000->done<=Abl.tot n c->Abl.Leg n K (wf n t m ld S) c->
 ∃ c' a9 qj,Abl.Leg n K (wf n t m ld S) c'/\Abl.Rest n K (wf n t m ld S) c'/\kK CP HY (rZ n nd t m ld S K P k0 mny bk (.lst (l.map λx:Nat=>D.int (x:Int))) c (zk (.int (done:Int))) j7)=zt (rZ n nd t m ld S K P k0 mny bk (.lst (l.map λx:Nat=>D.int (x:Int))) c' a9 qj):=by
 intro q
 induction q with
 | zero=>intro done c j7 i1 i2 L;have:=hB c L;omega
 | succ q ih=>
  intro done c j7 i1 i2 L
  have k6:=Abl.leg_pos (IC hs) hK L
  have mG:f1 iM [rl n (λi=>D.int (Abl.desk n K (wf n t m ld S) c i))]=zi (Abl.sm n (Abl.desk n K (wf n t m ld S) c)):=by
   have e:rl n (λi=>D.int (Abl.desk n K (wf n t m ld S) c i))=.lst (((List.range n).map (Abl.desk n K (wf n t m ld S) c)).map D.int):=by rw[aY];rfl
   rw[e,zQ,IH]
  have t1:eD (e2 oA (eA (f1 iM) (dW (fg 6) dY)) (eC (.int 0))) (rZ n nd t m ld S K P k0 mny bk (.lst (l.map λx:Nat=>D.int (x:Int))) c (zk (.int (done:Int))) j7)=.ok (decide (Abl.sm n (Abl.desk n K (wf n t m ld S) c) > 0)):=QT (dZ (fe (Qe (qT rfl) df) mG) eG (rn _ _))
  have t2:eD (e2 mT (dU 9) (eC (.int 4000))) (rZ n nd t m ld S K P k0 mny bk (.lst (l.map λx:Nat=>D.int (x:Int))) c (zk (.int (done:Int))) j7)=.ok true:=QT (dZ (dX rfl) eG (by rw[lb,aF (by omega)]))
  by_cases h:Abl.sm n (Abl.desk n K (wf n t m ld S) c) > 0
  ·have hex:∃ x∈l,0<Abl.desk n K (wf n t m ld S) c x:=by
    refine Classical.byContradiction λz=>?_
    have:Abl.sm n (Abl.desk n K (wf n t m ld S) c)<=Abl.sm n (λ_=>0):=Abl.sm_mono λx hx=>by
     exact Int.not_lt.mp λy=>z ⟨x,A5 x hx,y⟩
    rw[Abl.sm_zero]at this
    omega
   obtain⟨c',qj,L',_,t4,e⟩:=ze (sx:=sx) (k0:=k0) (mny:=mny) (bk:=bk) (ord:=.lst (l.map λx:Nat=>D.int (x:Int))) hs hP (zk (.int (done:Int))) l hl c j7 L
   have t4:=t4 hex
   obtain⟨c2,a9,d10,L2,R2,lH⟩:=ih (done+1) c' qj (by omega) (by omega) L'
   refine⟨c2,a9,d10,L2,R2,za ?_ ?_ lH⟩
   ·unfold CP
    exact qU t1 (pV (aF h) t2)
   ·unfold HY
    exact dh (mf (g:=gN 10) (T:=uB) (gP (dX rfl)) e) (Qj (dz (dZ (dX rfl) eG (gV done 1)) rfl))
  ·refine⟨c,_,_,L,λx hx=>Ly n k6 (by omega) x hx,Za ?_⟩
   unfold CP
   exact qU t1 (sC (aQ h) rfl)
theorem Lz{k0 mny:Nat}{bk:Bool}(hk:k0<n)(hB:∀ c,Abl.Leg n (λi=>if i=k0 then(mny:Int) else 0) (wf n t m ld S) c->Abl.tot n c<4000):
 ∃ c,Abl.Leg n (λi=>if i=k0 then(mny:Int) else 0) (wf n t m ld S) c/\Abl.Rest n (λi=>if i=k0 then(mny:Int) else 0) (wf n t m ld S) c/\
  pZ [rl n (PL cl t m ld sx),rl n (λi=>.int (S i)),.int (k0:Int),.int (mny:Int),.int (nd:Int),.bl bk]=.ok (rl nd (λi=>.int (Abl.all n (wf n t m ld S) c (-1 - (i:Int)))),some [rl n (λi=>.int (kx t S c i))]):=by
 have n2:=hs.n2
 have d2:=hs.d2
 obtain⟨P,hP⟩:∃ P,P=rl n (PL cl t m ld sx):=⟨_,rfl⟩
 have hlen:eB [P]=.ok (.int (n:Int)):=by rw[hP];exact jJ n _
 obtain⟨l,vK⟩:∃ l,l=if bk=true then(List.range n).reverse else List.range n:=⟨_,rfl⟩
 have hm:∀ x,x∈l↔x<n:=λx=>by
  rw[vK]
  cases bk
  ·rw[aB ak];exact aU
  ·rw[aA rfl,List.mem_reverse];exact aU
 obtain⟨c,a9,j7,L,R,hw⟩:=Zm (sx:=sx) (K:=λi=>if i=k0 then(mny:Int) else 0) (k0:=.int (k0:Int)) (mny:=.int (mny:Int)) (bk:=.bl bk) (l:=l) hs hP (λx _=>by show(0:Int)<=if x=k0 then _ else _;split<;>omega) (λx hx=>(hm x).mp hx) (λx hx=>(hm x).mpr hx) hB 4000 0 (λ_=>0) none (by omega) (bV _) .zero
 refine⟨c,L,R,?_⟩
 have e1:rl n (λi=>D.int (Abl.desk n (λi=>if i=k0 then(mny:Int) else 0) (wf n t m ld S) (λ_=>0) i))=.lst (((List.range n).map λ_=>D.int 0).set k0 (.int (mny:Int))):=by
  rw[uD hk]
  show D.lst _=D.lst _
  congr 1
  refine b8 λi _=>?_
  unfold Abl.desk
  rw[Abl.all_zero]
  show D.int ((if i=k0 then(mny:Int) else 0)+0 - ((0:Nat):Int))=if i=k0 then D.int (mny:Int) else D.int 0
  by_cases z:i=k0
  ·rw[aA z,aA z];congr 1
  ·rw[aB z,aB z];rfl
 have e2:rl nd (λi=>D.int (Abl.all n (wf n t m ld S) (λ_=>0) (-1 - (i:Int))))=rl nd (λ_=>D.int 0):=mw λi _=>by rw[Abl.all_zero]
 have e0:=zd hs
 have eo:D.lst (k9 0 n)=.lst ((List.range n).map λx:Nat=>D.int (x:Int)):=by
  show D.lst ((List.range n).map λi:Nat=>D.int ((0:Int)+i))=_
  congr 1
  exact b8 λi _=>by rw[Int.zero_add]
 have Zn:=Lc (x:=D.int 0) (N:=n) (by omega)
 have Zo:=Lc (x:=D.int 0) (N:=nd) (by omega)
 have Zp:∀ ς:SD,ς[0]?=some (zk P)->yD (dW (eA eB (dW (dU 0) dY)) dY) ς=.ok (.lst (k9 0 n)):=λς h=>by
  unfold yD
  rw[Qe (fe (Qe (dX h) df) hlen) df,dQ]
  show(if _ then _ else _)=_
  rw[aA (by rw[aO];exact⟨aF (by omega),aF (by omega)⟩),ax]
 have hT:zF [zk P,some (.s,rl n (λi=>.int (S i))),zk (.int (k0:Int)),zk (.int (mny:Int)),zk (.int (nd:Int)),zk (.bl bk),none,none,none,none,none]=.ok (rl nd (λi=>.int (Abl.all n (wf n t m ld S) c (-1 - (i:Int)))),rZ n nd t m ld S (λi=>if i=k0 then(mny:Int) else 0) P (.int (k0:Int)) (.int (mny:Int)) (.bl bk) (.lst (l.map λx:Nat=>D.int (x:Int))) c a9 j7):=by
  unfold zF
  refine mH (nJ (dZ (fX (Qe eG df) (show 1<=1000 by decide)) (fe (Qe (dX rfl) df) hlen) Zn) rfl) ?_
  refine mH (sD (k:=(k0:Int)) (j:=k0) (xs:=(List.range n).map λ_=>D.int 0) (dX rfl) rfl (dX rfl) (oq hk _) rfl) ?_
  refine mH (nJ (dZ (fX (Qe eG df) (show 1<=1000 by decide)) (dX rfl) Zo) rfl) ?_
  refine mH (dz (Zp _ rfl) rfl) ?_
  refine mH (ς':=[zk P,some (.s,rl n (λi=>.int (S i))),zk (.int (k0:Int)),zk (.int (mny:Int)),zk (.int (nd:Int)),zk (.bl bk),zo (.lst (((List.range n).map λ_=>D.int 0).set k0 (.int (mny:Int)))),zo (rl nd (λ_=>.int 0)),zk (.lst (l.map λx:Nat=>D.int (x:Int))),none,none]) ?_ ?_
  ·rw[vK]
   cases bk
   ·rw[aB ak, ← eo]
    exact g7 (QT (dX rfl)) rfl kq
   ·rw[aA rfl,List.map_reverse]
    refine hV (QT (dX rfl)) rfl (dz (d:=.lst ((List.range n).map λx:Nat=>D.int (x:Int)).reverse) ?_ rfl)
    rw[eo];rfl
  ·refine mH (dz eG rfl) (mH (ς':=rZ n nd t m ld S (λi=>if i=k0 then(mny:Int) else 0) P (.int (k0:Int)) (.int (mny:Int)) (.bl bk) (.lst (l.map λx:Nat=>D.int (x:Int))) c a9 j7) ?_ rfl)
   rw[← hw]
   show kK _ _ _=kK _ _ [_,some (.s,rl n (λi=>.int (kx t S (λ_=>0) i))),_,_,_,_,zo (rl n _),zo (rl nd _),_,_,_]
   rw[← e0,e1,e2];rfl
 rw[Xv, ← hP,hT]
 rfl
end
theorem II{l l' w:Nat->Int}{x x':Int}:∀{m:Nat},(∀ j,j<m->(l j=x↔l' j=x'))->fS m l w x=fS m l' w x'
 | 0,_=>rfl
 | m+1,h=>by
  show fS m l w x+(if l m=x then w m else 0)=fS m l' w x'+if l' m=x' then w m else 0
  rw[II λj hj=>h j (by omega)]
  by_cases z:l m=x
  ·rw[aA z,aA ((h m (by omega)).mp z)]
  ·rw[aB z,aB λy=>z ((h m (by omega)).mpr y)]
theorem M0{l w:Nat->Int}{x:Int}:∀{m:Nat},(∀ j,j<m->l j≠x)->fS m l w x=0
 | 0,_=>rfl
 | m+1,h=>by
  show fS m l w x+(if l m=x then w m else 0)=0
  rw[M0 λj hj=>h j (by omega),aB (h m (by omega))];rfl
theorem sk{l w w':Nat->Int}{x:Int}:∀{m:Nat},(∀ j,j<m->w j=w' j)->fS m l w x=fS m l w' x
 | 0,_=>rfl
 | m+1,h=>by
  show fS m l w x+(if l m=x then w m else 0)=fS m l w' x+if l m=x then w' m else 0
  rw[sk λj hj=>h j (by omega),h m (by omega)]
theorem M3(x:Int)(v:Int):∀ n:Nat,x<(n:Int)->Abl.sm n (λi=>if x=(i:Int) then v else 0)=if 0<=x then v else 0
 | 0,h=>by show(0:Int)=_;rw[aB (by omega)]
 | n+1,h=>by
  show Abl.sm n _+(if x=(n:Int) then v else 0)=_
  by_cases z:x=(n:Int)
  ·rw[aA z,aA (by omega),Abl.sm_congr (g:=λ_=>0) λi hi=>aB (by omega),Abl.sm_zero];omega
  ·rw[aB z,M3 x v n (by omega)];omega
theorem M4{l w:Nat->Int}{n:Nat}:∀{m:Nat},(∀ j,j<m->l j<(n:Int))->Abl.sm n (λx=>fS m l w (x:Int))=Abl.sm m λj=>if 0<=l j then w j else 0
 | 0,_=>Abl.sm_zero n
 | m+1,h=>by
  show Abl.sm n (λx=>fS m l w (x:Int)+if l m=(x:Int) then w m else 0)=Abl.sm m _+if 0<=l m then w m else 0
  rw[Nar.sm_add,M4 λj hj=>h j (by omega),M3 (l m) (w m) n (h m (by omega))]
theorem Zq(t:List (List Int))(j:Nat):Abl.sm t.length (λi=>gJ t (i:Int) j)=h8 t j:=by
 unfold h8
 rw[← IH]
 congr 1
 apply bN
 intro i
 rw[aH,aH]
 by_cases hi:i<t.length
 ·rw[ae hi,aE hi]
  show some (gJ t (i:Int) j)=some _
  unfold gJ
  rw[ax,show t.getD i []=t[i] by rw[aM,aE hi];rfl]
 ·rw[au (by rw[aC];omega),au (by omega)];rfl
def rr(X:Nat->Cl)(k s:Nat)(x:Int):Int:=fS (X k).m (X k).ld (gJ (X k).t (s:Int)) x
theorem Zr{n nd:Nat}{X:Nat->Cl}(g:∀ k,iY n nd (X k))(k:Nat):Abl.sm (pp X k) (λi=>Abl.sm n λx=>rr X k i (x:Int))<=(pp X k:Int) - 1:=by
 refine Int.le_trans (Int.le_of_eq ?_) (g k).tame
 unfold rr
 rw[Abl.sm_congr λi _=>M4 (w:=gJ (X k).t (i:Int)) λj hj=>((g k).ldr j hj).2]
 rw[Nar.sm_swap (f:=λj i=>if 0<=(X k).ld j then gJ (X k).t (i:Int) j else 0)]
 refine Abl.sm_congr λj _=>?_
 split
 ·exact Zq _ _
 ·exact Abl.sm_zero _
def SW(X:Nat->Cl)(u:Nat->Nat)(k:Nat):Int:=((Nar.hit (pp X k) (2 ^ ee (pp X k)) (u k) % pp X k:Nat):Int)
def SK(X:Nat->Cl)(u:Nat->Nat)(k i:Nat):Int:=if i+1<2 ^ ee (pp X k) then((Nar.N (2 ^ (i+1).log2) (i+1 - 2 ^ (i+1).log2) (u k) % 2:Nat):Int) else 0
def kS(X:Nat->Cl)(u:Nat->Nat)(P:Nat):Int:=SK X u (lc X P).1 (lc X P).2
theorem M5{s j:Nat}(hs:s<2)(hj:j<2):gJ (fN 2) (s:Int) j=if s=j then 1 else 0:=by
 match s,hs,j,hj with
 | 0,_,0,_=>rfl
 | 0,_,1,_=>rfl
 | 1,_,0,_=>rfl
 | 1,_,1,_=>rfl
section
variable{X:Nat->Cl}{n nd:Nat}(hp:∀ k,1<=pp X k/\pp X k<=12)(g:∀ k,iY n nd (X k)){nm dn:Nat->Str}(hs:fj n nd nm dn (cC X) (cT X) (cM X) (cL X) (cS X))(h6:di (pp X) n<=60)
include hp
theorem M6{j k:Nat}(h:di (pp X) j=di (pp X) k):j=k:=by
 have h1:=i4 hp (nO hp (k:=j))
 have h2:=i4 hp (nO hp (k:=k))
 rw[cD]at h1 h2
 rw[h,h2]at h1
 exact(bO Prod.fst h1).symm
include g hs h6
theorem Zs(u:Nat->Nat):fj n nd nm dn (cC X) (cT X) (cM X) (cL X) (SW X u):=by
 have h:∀ k,k<n->0<=SW X u k/\SW X u k<((cT X k).length:Int):=λk _=>by
  have:=(hp k).1
  have:=bB (Nar.hit (pp X k) (2 ^ ee (pp X k)) (u k)) (show 0<pp X k by omega)
  unfold SW
  show _/\_<((pp X k:Nat):Int)
  omega
 exact { hs with str:=h }
theorem M7(u:Nat->Nat):fj (di (pp X) n) nd (nN X nm (ie (i5 n nd nm dn))) dn (cN X) (tN X) (mN X) (lN X) (kS X u):=by
 have h:∀ P,P<di (pp X) n->0<=kS X u P/\kS X u P<((tN X P).length:Int):=λP hP=>by
  obtain⟨k,i,hk,hi,rfl⟩:=oz hP
  have hl:=i4 hp hi
  unfold kS SK tN tK
  rw[hl]
  by_cases q:i+1<2 ^ ee (pp X k)
  ·show _<=(if i+1<2 ^ ee (pp X k) then _ else _)/\(if i+1<2 ^ ee (pp X k) then _ else _)<(((if i+1<2 ^ ee (pp X k) then _ else _):List (List Int)).length:Int)
   rw[aA q,aA q]
   show _/\_<((2:Nat):Int)
   omega
  ·show _<=(if i+1<2 ^ ee (pp X k) then _ else _)/\(if i+1<2 ^ ee (pp X k) then _ else _)<(((if i+1<2 ^ ee (pp X k) then _ else _):List (List Int)).length:Int)
   rw[aB q,aB q]
   exact⟨bI _,show(0:Int)<1 by decide⟩
 exact { Hz hp hs g h6 with str:=h }
theorem Zt(u:Nat->Nat):Nar.Net n (di (pp X) n) (pp X) (λk=>ee (pp X k)) u (di (pp X)) (rr X) (wf (di (pp X) n) (tN X) (mN X) (lN X) (kS X u)):=by
 have cp:∀ k s c x,k<n->s<pp X k->wf (di (pp X) n) (tN X) (mN X) (lN X) (kS X u) (di (pp X) k+(2 ^ ee (pp X k)+s - 1)) c x=fS (X k).m (λj=>if 0<=(X k).ld j then((di (pp X) ((X k).ld j).toNat:Nat):Int) else(X k).ld j) (gJ (X k).t (s:Int)) x:=by
  intro k s c x hk lZ
  have p0:=Nar.pw (ee (pp X k))
  have hi:2 ^ ee (pp X k)+s - 1<sz (pp X) k:=by unfold sz;omega
  have hl:=i4 hp hi
  have q:¬ 2 ^ ee (pp X k)+s - 1+1<2 ^ ee (pp X k):=by omega
  unfold wf
  rw[aA (qh hk hi)]
  have e1:mN X (di (pp X) k+(2 ^ ee (pp X k)+s - 1))=(X k).m:=by unfold mN;rw[hl];exact aB q
  have e2:tN X (di (pp X) k+(2 ^ ee (pp X k)+s - 1))=[(X k).t.getD s []]:=by
   unfold tN;rw[hl]
   show tK X k _=_
   unfold tK
   rw[aB q,show 2 ^ ee (pp X k)+s - 1+1 - 2 ^ ee (pp X k)=s by omega]
  have e3:lN X (di (pp X) k+(2 ^ ee (pp X k)+s - 1))=λj=>if 0<=(X k).ld j then((di (pp X) ((X k).ld j).toNat:Nat):Int) else(X k).ld j:=by
   funext j;unfold lN;rw[hl];exact aB q
  rw[e1,e2,e3]
  refine sk λj _=>?_
  show gJ [_] (_ % ((1:Nat):Int)) j=_
  rw[show((1:Nat):Int)=1 from rfl,Int.emod_one]
  unfold gJ
  rw[ax];rfl
 refine⟨λk _=>⟨(hp k).1,(qg (pp X k) (by have:=(hp k).2;omega) (hp k).1).1⟩,λk hk=>Ck (p:=pp X) (show k+1<=n by omega),λj k i i' _ _ hi pO e=>?_,λx hx=>?_,IC (M7 hp g hs h6 u),λk a f c x hk ha hf=>?_,λk s c j hk lZ hj=>?_,λk s c x hk lZ hx=>?_,λk s c j i hk lZ hj h1 h2=>?_⟩
 ·have h1:=i4 hp (k:=j) (i:=i) hi
  have h2:=i4 hp (k:=k) (i:=i') pO
  rw[e,h2]at h1
  cases h1
  exact⟨rfl,rfl⟩
 ·obtain⟨k,i,hk,hi,rfl⟩:=oz hx
  exact⟨k,i,hk,hi,rfl⟩
 ·have p0:=Nar.pw a
  have pl:=Nar.pw_lt ha
  have hq:=(hp k).1
  have hi:2 ^ a+f - 1<sz (pp X) k:=by unfold sz;omega
  have hl:=i4 hp hi
  have q:2 ^ a+f - 1+1<2 ^ ee (pp X k):=by omega
  have eq1:2 ^ a+f - 1+1=2 ^ a+f:=by omega
  have e1:mN X (di (pp X) k+(2 ^ a+f - 1))=2:=by unfold mN;rw[hl];exact aA q
  have e2:tN X (di (pp X) k+(2 ^ a+f - 1))=fN 2:=by unfold tN;rw[hl];exact aA q
  have e3:∀ j,lN X (di (pp X) k+(2 ^ a+f - 1)) j=((Nar.at' (pp X) (λk=>ee (pp X k)) (di (pp X)) k (a+1) (f+2 ^ a * j):Nat):Int):=by
   intro j;unfold lN;rw[hl]
   show lK X k _ j=_
   unfold lK
   rw[aA q,eq1,Hx hf,show 2 ^ a+f - 2 ^ a=f by omega]
  have e4:kS X u (di (pp X) k+(2 ^ a+f - 1))=((Nar.N (2 ^ a) f (u k) % 2:Nat):Int):=by
   unfold kS;rw[hl]
   show SK X u k _=_
   unfold SK
   rw[aA q,eq1,Hx hf,show 2 ^ a+f - 2 ^ a=f by omega]
  unfold wf
  rw[aA (qh hk hi),e1,e2,e4]
  obtain⟨b,hb,hb2⟩:∃ b,b=(Nar.N (2 ^ a) f (u k)+c) % 2/\b<2:=⟨_,rfl,bB _ (by decide)⟩
  have hlen:(((Nar.N (2 ^ a) f (u k) % 2:Nat):Int)+(c:Int)) % ((fN 2).length:Int)=(b:Int):=by
   show _ % ((2:Nat):Int)=_
   rw[hb];omega
  rw[hlen, ← hb]
  show 0+(if lN X (di (pp X) k+(2 ^ a+f - 1)) 0=x then gJ (fN 2) (b:Int) 0 else 0)+(if lN X (di (pp X) k+(2 ^ a+f - 1)) 1=x then gJ (fN 2) (b:Int) 1 else 0)=_
  rw[M5 hb2 (by decide),M5 hb2 (by decide),e3 0,e3 1]
  match b,hb2 with
  | 0,_=>
   show 0+(if ((Nar.at' (pp X) (λk=>ee (pp X k)) (di (pp X)) k (a+1) (f+2 ^ a * 0):Nat):Int)=x then(1:Int) else 0)+(if _ then(0:Int) else 0)=_
   by_cases z:x=((Nar.at' (pp X) (λk=>ee (pp X k)) (di (pp X)) k (a+1) (f+2 ^ a * 0):Nat):Int)
   ·rw[aA z,aA z.symm];split<;>rfl
   ·rw[aB z,aB λy=>z y.symm];split<;>rfl
  | 1,_=>
   show 0+(if _ then(0:Int) else 0)+(if ((Nar.at' (pp X) (λk=>ee (pp X k)) (di (pp X)) k (a+1) (f+2 ^ a * 1):Nat):Int)=x then(1:Int) else 0)=_
   by_cases z:x=((Nar.at' (pp X) (λk=>ee (pp X k)) (di (pp X)) k (a+1) (f+2 ^ a * 1):Nat):Int)
   ·rw[aA z,ite_self,aA z.symm];rfl
   ·rw[aB z,ite_self,aB λy=>z y.symm];rfl
 ·rw[cp k s c _ hk lZ]
  refine II λi hi=>?_
  have:=(g k).ldr i hi
  by_cases z:0<=(X k).ld i
  ·rw[aA z]
   constructor
   ·intro y
    have:=M6 hp (show di (pp X) ((X k).ld i).toNat=di (pp X) j by omega)
    omega
   ·intro y
    rw[y,ax]
  ·rw[aB z];constructor<;>intro y<;>omega
 ·rw[cp k s c _ hk lZ]
  refine II λi hi=>?_
  by_cases z:0<=(X k).ld i
  ·rw[aA z];constructor<;>intro y<;>omega
  ·rw[aB z]
 ·rw[cp k s c _ hk lZ]
  refine M0 λi' pO=>?_
  by_cases z:0<=(X k).ld i'
  ·rw[aA z]
   intro y
   have e1:=i4 hp (nO hp (k:=((X k).ld i').toNat))
   have e2:=i4 hp (k:=j) (i:=i) h2
   rw[show di (pp X) ((X k).ld i').toNat+0=di (pp X) j+i by omega,e2]at e1
   have:=bO Prod.snd e1
   have:i=0:=this
   omega
  ·rw[aB z];omega
end
theorem Zu{n k0:Nat}(v:Int)(h:k0<n):Abl.sm n (λi=>if i=k0 then v else 0)=v:=by
 rw[Abl.sm_up (f:=λ_=>0) (g:=λi=>if i=k0 then v else 0) (j:=k0) (d:=v) (by show(if k0=k0 then v else 0)=0+v;rw[aA rfl];omega) (λk hk=>aB hk) h,Abl.sm_zero];omega
section
variable{X:Nat->Cl}{n nd:Nat}(hp:∀ k,1<=pp X k/\pp X k<=12)(g:∀ k,iY n nd (X k)){nm dn:Nat->Str}(hs:fj n nd nm dn (cC X) (cT X) (cM X) (cL X) (cS X))(h6:di (pp X) n<=60)
include hp
theorem M8:∀ m:Nat,2 * Abl.sm m (λk=>(pp X k:Int) - 1)+m<=((di (pp X) m:Nat):Int)
 | 0=>bI _
 | m+1=>by
  have ih:=M8 m
  have h1:=(qg (pp X m) (by have:=(hp m).2;omega) (hp m).1).1
  show 2 * (Abl.sm m (λk=>(pp X k:Int) - 1)+((pp X m:Int) - 1))+((m+1:Nat):Int)<=((di (pp X) m+sz (pp X) m:Nat):Int)
  unfold sz
  have:=(hp m).1
  omega
include g hs h6
theorem Zv{cx cy:Nat->Int}(u:Nat->Nat){k0 mny:Nat}(b1 b2:Bool)(hn4:n<=4)(hk:k0<n)(h3:mny<=3):∃(v:Nat->Nat)(o:Nat->Int),
 pZ [rl n (PL (cC X) (cT X) (cM X) (cL X) cx),rl n (λi=>.int (SW X u i)),.int (k0:Int),.int (mny:Int),.int (nd:Int),.bl b1]=.ok (rl nd (λi=>.int (o i)),some [rl n (λi=>.int (SW X v i))])/\
 pZ [rl (di (pp X) n) (PL (cN X) (tN X) (mN X) (lN X) cy),rl (di (pp X) n) (λi=>.int (kS X u i)),.int ((di (pp X) k0:Nat):Int),.int (mny:Int),.int (nd:Int),.bl b2]=.ok (rl nd (λi=>.int (o i)),some [rl (di (pp X) n) (λi=>.int (kS X v i))]):=by
 have N:=Zt hp g hs h6 u
 have sw:=Zs hp g hs h6 u
 have sn:=M7 hp g hs h6 u
 have hw:∀ k c x,k<n->wf n (cT X) (cM X) (cL X) (SW X u) k c x=rr X k ((Nar.hit (pp X k) (2 ^ ee (pp X k)) (u k)+c) % pp X k) x:=by
  intro k c x hk
  unfold wf rr
  rw[aA hk]
  have e:(SW X u k+(c:Int)) % ((cT X k).length:Int)=(((Nar.hit (pp X k) (2 ^ ee (pp X k)) (u k)+c) % pp X k:Nat):Int):=by
   rw[← Nat.mod_add_mod];rfl
  rw[e]
 have M9:∀ c,Abl.Leg n (λi=>if i=k0 then(mny:Int) else 0) (wf n (cT X) (cM X) (cL X) (SW X u)) c->Abl.tot n c<=384:=by
  intro c L
  have h:=Nar.tame (s:=λk=>Nar.hit (pp X k) (2 ^ ee (pp X k)) (u k)) (p:=pp X) hw (IC sw) (λk _=>hp k) (λk _=>Zr g k) (λx _=>by show(0:Int)<=if x=k0 then _ else _;split<;>omega) L
  rw[Zu _ hk]at h
  have:=M8 hp n
  have:=hs.n1
  omega
 obtain⟨C,LC,RC,e1⟩:=Lz (sx:=cx) (k0:=k0) (mny:=mny) (bk:=b1) sw hk λc L=>Nat.lt_of_le_of_lt (M9 c L) (by decide)
 have Zw:∀ x,x<di (pp X) n->(0:Int)<=(λi=>if i=di (pp X) k0 then(mny:Int) else 0) x:=λx _=>by show(0:Int)<=if x=_ then _ else _;split<;>omega
 obtain⟨v,Y,I⟩:=Nar.sim (K:=λi=>if i=k0 then(mny:Int) else 0) (K':=λi=>if i=di (pp X) k0 then(mny:Int) else 0) N Zw hw (λj hj=>by
  show(if di (pp X) j=di (pp X) k0 then _ else _)=if j=k0 then _ else _
  by_cases z:j=k0
  ·rw[z,aA rfl,aA rfl]
  ·rw[aB z,aB λy=>z (M6 hp y)])
  (λj i hj h1 h2=>by
   show(if di (pp X) j+i=di (pp X) k0 then _ else _)=_
   rw[aB]
   intro y
   have e1:=i4 hp (nO hp (k:=k0))
   have e2:=i4 hp (k:=j) (i:=i) h2
   rw[show di (pp X) k0+0=di (pp X) j+i by omega,e2]at e1
   have:i=0:=bO Prod.snd e1
   omega) LC
 obtain⟨RY,all⟩:=Nar.same N I RC
 have l6:=Nar.few N I λj _=>by
  have h:=qg (pp X j) (by have:=(hp j).2;omega) (hp j).1
  exact⟨h.2.2.1,h.2.2.2.1,h.2.1⟩
 have hC:=M9 C LC
 obtain⟨Z,LZ,RZ,e2⟩:=Lz (sx:=cy) (k0:=di (pp X) k0) (mny:=mny) (bk:=b2) sn (by have:=qh (p:=pp X) hk (i:=0) (nO hp);exact this) λc L=>by
  have:=Abl.tot_le (all c L).1
  omega
 have eZ:=(all Z LZ).2 RZ
 refine⟨v,λd=>Abl.all n (wf n (cT X) (cM X) (cL X) (SW X u)) C (-1 - (d:Int)),?_,?_⟩
 ·rw[e1]
  have:rl n (λi=>D.int (kx (cT X) (SW X u) C i))=rl n (λi=>D.int (SW X v i)):=mw λk hk=>by
   refine bO D.int ?_
   unfold kx SW
   rw[← (I.hv k hk).1, ← Nat.mod_add_mod];rfl
  rw[this]
 ·rw[e2]
  have h1:rl (di (pp X) n) (λi=>D.int (kx (tN X) (kS X u) Z i))=rl (di (pp X) n) (λi=>D.int (kS X v i)):=mw λP hP=>by
   refine bO D.int ?_
   have eP:=eZ P hP
   obtain⟨k,i,hk,hi,rfl⟩:=oz hP
   have hl:=i4 hp hi
   unfold kx
   rw[eP]
   have p0:=Nar.pw (ee (pp X k))
   by_cases q:i+1<2 ^ ee (pp X k)
   ·have t1:tN X (di (pp X) k+i)=fN 2:=by unfold tN;rw[hl];exact aA q
    have s1:∀ w,kS X w (di (pp X) k+i)=((Nar.N (2 ^ (i+1).log2) (i+1 - 2 ^ (i+1).log2) (w k) % 2:Nat):Int):=λw=>by unfold kS;rw[hl];exact aA q
    have a1:2 ^ (i+1).log2<=i+1:=Nat.log2_self_le (by omega)
    have a2:i+1<2 ^ ((i+1).log2+1):=Nat.lt_log2_self
    rw[t1,s1,s1]
    generalize (i+1).log2=a at *
    have a4:2 ^ (a+1)=2 * 2 ^ a:=by rw[bp];omega
    have a3:a<ee (pp X k):=by
     rcases Nat.lt_or_ge a (ee (pp X k)) with l | l
     ·exact l
     ·have:=bz (n:=2) (by decide) l;omega
    have m:=I.M k a (i+1 - 2 ^ a) hk (c8 a3) (by omega) (λz=>by omega)
    rw[aB (by omega),show 2 ^ a+(i+1 - 2 ^ a) - 1=i by omega]at m
    show _ % ((2:Nat):Int)=_
    omega
   ·have t1:(tN X (di (pp X) k+i)).length=1:=by unfold tN;rw[hl];show(tK X k i).length=1;unfold tK;rw[aB q];rfl
    have s1:kS X v (di (pp X) k+i)=0:=by unfold kS;rw[hl];exact aB q
    rw[t1,s1]
    show _ % (1:Int)=0
    exact Int.emod_one _
  have h2:rl nd (λi=>D.int (Abl.all (di (pp X) n) (wf (di (pp X) n) (tN X) (mN X) (lN X) (kS X u)) Z (-1 - (i:Int))))=rl nd (λi=>D.int (Abl.all n (wf n (cT X) (cM X) (cL X) (SW X u)) C (-1 - (i:Int)))):=mw λd _=>by
   rw[Abl.all_congr eZ,I.out _ (by omega)]
  rw[h1,h2]
end
section
variable{X:Nat->Cl}{nm dn:Nat->Str}{n nd:Nat}(hp:∀ k,1<=pp X k/\pp X k<=12)(hs:fj n nd nm dn (cC X) (cT X) (cM X) (cL X) (cS X))
include hp hs
theorem Zx{ne:Nat}{en:Nat->Str}{ek:Nat->Nat}(h6:60<di (pp X) n):Q7 [fP n nd ne nm dn (cC X) en ek (cT X) (cM X) (cL X) (cS X)]=.exc (.err "TooMany"):=by
 have hn2:=hs.n2
 have zY:dc [none,some 0] (eR (e7 Ql "many" (λ_=>Q0) (dU 0) dY)) (gN 0) da z9 [zk (fP n nd ne nm dn (cC X) en ek (cT X) (cM X) (cL X) (cS X)),none,none,none,none,none]=.ok (.lst (((List.range n).map λk=>((sz (pp X) k:Nat):Int)).map D.int)):=by
  rw[aY]
  refine mD (λk=>D.int ((sz (pp X) k:Nat):Int)) (Q6 n (Ca rfl) (by omega)) (λk hk=>?_) (by omega)
  refine QE rfl rfl ?_
  unfold z9
  refine QV (Qe ?_ df) (Hw (hp k).1 (hp k).2)
  rw[show Qd=CK from rfl,vJ (c:=cC X k) (t:=cT X k) (m:=cM X k) (hs.ck k hk) (xs:=[]) (Cb hk rfl rfl) rfl (dk) (dk)]
  exact CV (hs.ck k hk) _ _
 have mG:∀ m,((List.range m).map λk=>((sz (pp X) k:Nat):Int)).sum=((di (pp X) m:Nat):Int):=by
  intro m
  induction m with
  | zero=>rfl
  | succ m ih=>
   rw[b7,ao,List.sum_append,ih]
   show _+(((sz (pp X) m:Nat):Int)+0)=((di (pp X) m+sz (pp X) m:Nat):Int)
   omega
 have zR:f1 iM [.lst (((List.range n).map λk=>((sz (pp X) k:Nat):Int)).map D.int)]=.ok (.int ((di (pp X) n:Nat):Int)):=by rw[zQ,mG]
 rw[L9]
 unfold zA
 refine TY (dh (iX (dz (fe (Qe zY df) zR) rfl)) (Qj (TU (oV (b:=true) (iX (QT (dZ (dX rfl) eG (by rw[rn,aF (by omega)])))) (pV rfl (TV (Qe eG df) (show 1<=1000 by decide)))))))
end
theorem Zy{n nd ne:Nat}{nm dn c en:Nat->Str}{ek:Nat->Nat}{t:Nat->List (List Int)}{m:Nat->Nat}{ld:Nat->Nat->Int}{st:Nat->Int}(hs:fj n nd nm dn c t m ld st):zC [fP n nd ne nm dn c en ek t m ld st]=.ok (rl n (PL c t m ld st)):=by
 have n2:=hs.n2
 let Z:D->(a2 a3 a4:Option (SM×D))->SD:=λl a2 a3 a4=>[zk (fP n nd ne nm dn c en ek t m ld st),zo l,a2,a3,a4]
 obtain⟨ς',hL,a2,a3,a4,rfl⟩:=rq (body:=λx ς=>gN 2 x ς>>=λς'=>CJ ς') (n:=n) (P:=λk ς=>∃ a2 a3 a4,ς=Z (rl k (PL c t m ld st)) a2 a3 a4)
  (by
   rintro k hk ς ⟨a2,a3,a4,rfl⟩
   have MA:=hs.ck k hk
   have tb:=hs.tb k hk
   have Z0:=tb.n2
   have e:eh (t k)=rl (t k).length (λs=>dl ((t k).getD s [])):=by
    unfold eh
    show D.lst _=D.lst _
    congr 1
    apply bN
    intro i
    rw[aH,aH]
    by_cases hi:i<(t k).length
    ·rw[ae hi,aE hi]
     show _=some (dl ((t k).getD i []))
     rw[aM,aE hi];rfl
    ·rw[au (by omega),au (by rw[aC];omega)];rfl
   have hc:dc [none,some 3] (eR (e7 Qd "period" (λ_=>QG) (dU 3) dY)) (gN 0) da HX (Z (rl k (PL c t m ld st)) (zk (.int (k:Int))) (zk (ck (c k) (t k) (m k))) a4)=.ok (eh (t k)):=by
    rw[e]
    refine mD (λs=>dl ((t k).getD s [])) (Q6 (t k).length (lU MA rfl) (by omega)) (λs lZ=>?_) (by omega)
    refine QE rfl rfl ?_
    unfold HX
    exact sh MA rfl rfl lZ
   have hb:eF (rl n (λk=>.int (st k))) (.int (k:Int))=zi (st k):=ja (f:=λk=>D.int (st k)) hk
   refine⟨Z (rl (k+1) (PL c t m ld st)) (zk (.int (k:Int))) (zk (ck (c k) (t k) (m k))) (zk (eh (t k))),?_,_,_,_,rfl⟩
   refine j0 (ς1:=Z (rl k (PL c t m ld st)) (zk (.int (k:Int))) a3 a4) rfl ?_
   unfold CJ
   refine dh (dz (Cb hk rfl rfl) rfl) (Qj (dh (dz hc rfl) (Qj (jT (xs:=(List.range k).map (PL c t m ld st)) (d:=PL c t m ld st k) rfl ?_ (by rw[aD,aC];omega) ?_))))
   ·exact hU (Qe (dX rfl) (Qe (dX rfl) (Qe (La hk rfl rfl) (Qe (dZ (LX rfl) (dX rfl) hb) df)))) (show 4<=1000 by decide)
   ·show [_,some (SM.o,D.lst _),_,_,_]=[_,some (SM.o,D.lst _),_,_,_]
    rw[b7,ao];rfl)
  (Z (.lst []) none none none) ⟨_,_,_,rfl⟩
 rw[Xr]
 unfold CL
 exact QS (fl:=.rt true _) (dh (nJ (d:=.lst []) (fX df (by decide)) rfl) (Qj (dh (mf (g:=gN 2) (T:=CJ) (show eR (e7 Ql "many" (λ_=>Q0) (dU 0) dY) (Z (.lst []) none none none)=.ok (k9 0 n) from Q6 n (Ca rfl) (by omega)) hL) (Qj (yN rfl))))) fW
theorem Zz{O F:D}(h:Q7 [O]=.ok F):sT [O]=.ok F:=by
 have hx:jm 1 (i8 (λxs=>Q7 (xs++[])) (dW (dU 0) dY)) [zk O,zk .non]=.ok (.fl (.nx [zk O,zk F])):=TZ (Qe (dX rfl) df) (by show Q7 ([O]++[])=_;exact h) rfl
 have ht:jq ["TooMany"] (jm 1 (i8 (λxs=>Q7 (xs++[])) (dW (dU 0) dY))) (e8 1 (eC .non)) [zk O,zk .non]=zt [zk O,zk F]:=by unfold jq;rw[hx];rfl
 rw[LA]
 unfold zB
 exact QS (fl:=.rt false _) (dh (dz eG rfl) (Qj (dh ht (Qj (fu (dX rfl)))))) iA
theorem QwP{O:D}(h:Q7 [O]=.exc (.err "TooMany")):sT [O]=.ok .non:=by
 have hx:jm 1 (i8 (λxs=>Q7 (xs++[])) (dW (dU 0) dY)) [zk O,zk .non]=.ok (.ex "TooMany" [] [zk O,zk .non]):=Ta (Qe (dX rfl) df) (by show Q7 ([O]++[])=_;exact h)
 have ht:jq ["TooMany"] (jm 1 (i8 (λxs=>Q7 (xs++[])) (dW (dU 0) dY))) (e8 1 (eC .non)) [zk O,zk .non]=zt [zk O,zk .non]:=by
  unfold jq;rw[hx]
  show(if (["TooMany"]:List Str).contains "TooMany"=true then gv (e8 1 (eC .non) [zk O,zk .non]) else .stuck)=_
  rw[aA (dk)];rfl
 rw[LA]
 unfold zB
 exact QS (fl:=.rt false _) (dh (dz eG rfl) (Qj (dh ht (Qj (fu (dX rfl)))))) iA
theorem QzZ{i:Nat}{ms:List (Option Nat)}{f:List D->Out (D×Option (List D))}{A:SD->Out (List D)}{ς ς':SD}{ds ws:List D}{d:D}(a:A ς=.ok ds)(k:f ds=.ok (d,some ws))(l:(iN ms ws ς).set i (some (.k,d))=ς'):lO i ms f A ς=zt ς':=by
 unfold lO
 rw[a,dQ,k,dQ]
 show Out.ok (Fl.nx ((iN ms ws ς).set i _))=_
 rw[l]
theorem IJ{ms:List (Option Nat)}{f:List D->Out (D×Option (List D))}{A:SD->Out (List D)}{ς ς':SD}{ds ws:List D}{d:D}(a:A ς=.ok ds)(k:f ds=.ok (d,some ws))(l:iN ms ws ς=ς'):eW ms f A ς=.ok (d,ς'):=by
 unfold eW
 rw[a,dQ,k,dQ]
 show Out.ok (d,iN ms ws ς)=_
 rw[l]
theorem Qza{E:SD->Out (D×SD)}{B:SD->Out D}{T U:SD->Out Fl}{ς ς1:SD}{d y:D}{r:Out Fl}(a:E ς=.ok (d,ς1))(b:B ς1=.ok y)(h:lD d y=zn false)(k:U ς1=r):oP E B T U ς=r:=by
 unfold oP
 rw[a,dQ]
 show(B ς1>>=_)=_
 rw[b,dQ]
 show(lD d y>>=_)=_
 rw[h];exact k
theorem MB:∀ l:List Int,PyData.eqvAll (D.pys (l.map D.int)) (D.pys (l.map D.int))=true
 | []=>rfl
 | x::l=>by
  show(PyData.eqv (D.int x).py (D.int x).py&&PyData.eqvAll (D.pys (l.map D.int)) (D.pys (l.map D.int)))=true
  rw[MB l,Bool.and_true]
  simp[D.py,PyData.eqv]
theorem Qyg(n:Nat)(g:Nat->Int):lD (rl n (λi=>.int (g i))) (rl n (λi=>.int (g i)))=zn false:=by
 have e:rl n (λi=>D.int (g i))=.lst (((List.range n).map g).map D.int):=by show D.lst _=_;rw[aY];rfl
 rw[e,Ke (Cd _) (Cd _)]
 show Out.ok (D.bl (!PyData.eqvAll (D.pys (((List.range n).map g).map D.int)) (D.pys (((List.range n).map g).map D.int))))=_
 rw[MB];rfl
theorem the_law(ns:List Int)(hl:ns.length<=63)(hb:∀ z∈ns,gK z<=1048576):sU [.lst (ns.map .int)]=zn true:=by
 obtain⟨ys,hy,hmix⟩:=Ys ns hl hb
 obtain⟨u0,hu0⟩:∃ u0,u0=ys.getD 0 0:=⟨_,rfl⟩
 have l0:∀ k:Nat,oX [nl ys,.int (k:Int)]=.ok (.int ((ys.getD k 0:Nat):Int)):=Hs ys
 obtain⟨nd,hnd,d1,d3⟩:∃ nd,nd=1+u0 % 3/\1<=nd/\nd<=3:=⟨_,rfl,by omega,by omega⟩
 obtain⟨n,X,n1,n4,g,hdrawn⟩:=Z1 ys d1 d3
 obtain⟨ne,fT,e1,e3⟩:∃ ne,ne=1+u0 / 3 % 3/\1<=ne/\ne<=3:=⟨_,rfl,by omega,by omega⟩
 obtain⟨ek,hek⟩:∃ ek:Nat->Nat,∀ j,ek j=ys.getD (6+j) 0 % n:=⟨_,λ_=>rfl⟩
 have uH:∀ j,ek j<n:=λj=>by rw[hek];exact bB _ (by omega)
 obtain⟨w,hw⟩:∃ w,w=u0 / 9:=⟨_,rfl⟩
 have hp:∀ k,1<=pp X k/\pp X k<=12:=λk=>⟨(g k).tb.n1,(g k).tb.n2⟩
 have hs:=Li w n1 n4 d1 d3 g
 have zW:=Lj (ek:=ek) (n:=n) w e1 e3 λj _=>uH j
 have hbt:=Z8 (X:=X) (ek:=ek) w n1 n4 d1 d3 e1 e3 g λj _=>uH j
 have zf:=jJ n (λk=>kl (X k))
 let Z:(a6 a7 a8 a9 j7 kD mz n0 n5:Option (SM×D))->SD:=λa6 a7 a8 a9 j7 kD mz n0 n5=>[zk (nl ys),zk (.int (u0:Int)),zk (.int (nd:Int)),zk (rl n (λk=>kl (X k))),zk (rl ne (λj=>.int ((ek j:Nat):Int))),zk (fP n nd ne (gm w) (iF w) (cC X) (lh w) ek (cT X) (cM X) (cL X) (cS X)),a6,a7,a8,a9,j7,kD,mz,n0,n5]
 have zY:dc [none,some 0,some 3] (eR (e2 fB (eC (.int 1)) (e2 fA (e2 fh (dU 1) (eC (.int 3))) (eC (.int 3))))) (gN 0) da CQ [zk (nl ys),zk (.int (u0:Int)),zk (.int (nd:Int)),zk (rl n (λk=>kl (X k))),none,none,none,none,none,none,none,none,none,none,none]=.ok (rl ne (λj=>.int ((ek j:Nat):Int))):=by
  refine mD (λj=>D.int ((ek j:Nat):Int)) (Q6 ne (by rw[fT];exact dZ eG (dZ (dZ (dX rfl) eG (j6 u0 (m:=3) (by decide) (by decide))) eG (gG _ (m:=3) (by decide))) (gV 1 _)) (by omega)) (λj hj=>?_) (by omega)
  refine QE rfl rfl ?_
  unfold CQ
  rw[hek]
  exact dZ (QV (Qe (dX rfl) (Qe (dZ eG (dX rfl) (gV 6 j)) df)) (l0 _)) (fe (Qe (dX rfl) df) zf) (gG _ (by omega))
 have front:∀(F:D)(T:SD->Out Fl)(rf:Out Fl),sT [fP n nd ne (gm w) (iF w) (cC X) (lh w) ek (cT X) (cM X) (cL X) (cS X)]=.ok F->T (Z (zk F) none none none none none none none none)=rf->
  dj (e8 0 (eA (λxs=>uv (xs++[])) (dW (dU 0) (dW (eC (.int 44)) dY)))) (dj (e8 1 (eA (λxs=>oX (xs++[])) (dW (dU 0) (dW (eC (.int 0)) dY)))) (dj (e8 2 (e2 fB (eC (.int 1)) (e2 fA (dU 1) (eC (.int 3))))) (dj (e8 3 (eA (λxs=>vB (xs++[])) (dW (dU 0) (dW (eC (.int 1)) (dW (eC (.int 4)) (dW (dU 2) (dW (eC (.bl true)) dY))))))) (dj (e8 4 (dc [none,some 0,some 3] (eR (e2 fB (eC (.int 1)) (e2 fA (e2 fh (dU 1) (eC (.int 3))) (eC (.int 3))))) (gN 0) da CQ)) (dj (e8 5 (eA (λxs=>vE (xs++[])) (dW (dU 3) (dW (dU 4) (dW (dU 2) (dW (e2 fh (dU 1) (eC (.int 9))) dY)))))) (dj (e8 6 (eA (λxs=>sT (xs++[])) (dW (dU 5) dY))) T)))))) [zk (.lst (ns.map .int)),none,none,none,none,none,none,none,none,none,none,none,none,none,none]=rf:=λF T rf hF h=>
  dh (dz (QV (Qe (dX rfl) (Qe eG df)) hmix) rfl) (Qj (dh (dz (d:=.int (u0:Int)) (QV (Qe (dX rfl) (Qe eG df)) (by rw[hu0];exact l0 0)) rfl) (Qj (dh (dz (d:=.int (nd:Int)) (dZ eG (dZ (dX rfl) eG (gG u0 (m:=3) (by decide))) (by rw[hnd];exact gV 1 _)) rfl) (Qj (dh (dz (QV (Qe (dX rfl) (Qe eG (Qe eG (Qe (dX rfl) (Qe eG df))))) hdrawn) rfl) (Qj (dh (dz zY rfl) (Qj (dh (dz (QV (Qe (dX rfl) (Qe (dX rfl) (Qe (dX rfl) (Qe (dZ (dX rfl) eG (by rw[hw];exact j6 u0 (m:=9) (by decide) (by decide))) df)))) hbt) rfl) (Qj (dh (dz (QV (Qe (dX rfl) df) hF) rfl) (Qj h)))))))))))))
 rw[Y5]
 unfold CS
 by_cases h6:di (pp X) n<=60
 ·have qk:=Zz (ZW hp hs g h6 zW)
  have MC:=Zy (ne:=ne) (en:=lh w) (ek:=λj=>di (pp X) (ek j)) (Hz hp hs g h6)
  obtain⟨F,hF⟩:∃ F,F=fP (di (pp X) n) nd ne (nN X (gm w) (ie (i5 n nd (gm w) (iF w)))) (iF w) (cN X) (lh w) (λj=>di (pp X) (ek j)) (tN X) (mN X) (lN X) (sN X):=⟨_,rfl⟩
  have his:xU F .non=zn false:=by rw[hF];rfl
  have IK:∀ ς:SD,ς[6]?=some (zk F)->e7 Ql "entries" (λ_=>QX) (dU 6) dY ς=.ok (rl ne (λj=>.tup [.str (lh w j),.int ((di (pp X) (ek j):Nat):Int)])):=λς h=>LW (by rw[h,hF])
  rw[← hF]at qk MC
  have xh:dc [none,none] (fJ (e7 Ql "entries" (λ_=>QX) (dU 6) dY)) (gT [0,1]) da Ha (Z (zk F) (zk (rl (di (pp X) n) (PL (cN X) (tN X) (mN X) (lN X) (sN X)))) none none none none none none none)=.ok (rl ne (λj=>.int ((di (pp X) (ek j):Nat):Int))):=by
   refine QO (l:=List.range ne) (λj=>D.tup [.str (lh w j),.int ((di (pp X) (ek j):Nat):Int)]) (λj=>D.int ((di (pp X) (ek j):Nat):Int)) (gP (IK _ rfl)) (λj hj=>?_) (by rw[aC];omega)
   exact Km rfl rfl (by unfold Ha;exact dX rfl)
  have hc3:∀ a7 a8:Option (SM×D),dc [none] (fJ (dU 3)) (gN 0) da Hb (Z (zk F) a7 a8 none none none none none none)=.ok (rl n (λk=>.int (SW X (λk=>(X k).st) k))):=λa7 a8=>by
   refine QO (l:=List.range n) (λk=>kl (X k)) (λk=>D.int (SW X (λk=>(X k).st) k)) (gP (dX rfl)) (λk hk=>?_) (by rw[aC];omega)
   refine QE rfl rfl ?_
   unfold Hb
   have gH:=(g k).st
   have e:SW X (λk=>(X k).st) k=((X k).st:Int):=by
    unfold SW
    rw[Nar.hit_le gH (qg (pp X k) (by have:=(hp k).2;omega) (hp k).1).1,cX gH]
   rw[e]
   exact dZ (dX rfl) eG (pT 3 rfl)
  have hc4:∀ a8 a9:Option (SM×D),dc [none] (fJ (dU 7)) (gN 0) da Hc (Z (zk F) (zk (rl (di (pp X) n) (PL (cN X) (tN X) (mN X) (lN X) (sN X)))) a8 a9 none none none none none)=.ok (rl (di (pp X) n) (λk=>.int (kS X (λk=>(X k).st) k))):=λa8 a9=>by
   refine QO (l:=List.range (di (pp X) n)) (PL (cN X) (tN X) (mN X) (lN X) (sN X)) (λk=>D.int (kS X (λk=>(X k).st) k)) (gP (dX rfl)) (λk hk=>?_) (by rw[aC];omega)
   refine QE rfl rfl ?_
   unfold Hc
   exact dZ (dX rfl) eG (pT 3 rfl)
  let Y:(Nat->Nat)->(kD mz n0 n5:Option (SM×D))->SD:=λu kD mz n0 n5=>Z (zk F) (zk (rl (di (pp X) n) (PL (cN X) (tN X) (mN X) (lN X) (sN X)))) (zk (rl ne (λj=>.int ((di (pp X) (ek j):Nat):Int)))) (zo (rl n (λi=>.int (SW X u i)))) (zo (rl (di (pp X) n) (λi=>.int (kS X u i)))) kD mz n0 n5
  have zg:∀(zs:List Nat)(u:Nat->Nat)(kD mz n0 n5:Option (SM×D)),∃ u' Cp Cq Cr Ct,fM (λx ς=>gN 11 x ς>>=λς'=>zG ς') (zs.map λz:Nat=>D.int (z:Int)) (Y u kD mz n0 n5)=zt (Y u' Cp Cq Cr Ct):=by
   intro zs
   induction zs with
   | nil=>intro u kD mz n0 n5;exact⟨u,_,_,_,_,rfl⟩
   | cons z zs ih=>
    intro u kD mz n0 n5
    have hz:z % ne<ne:=bB _ (by omega)
    have hlen:=jJ ne (λj=>D.int ((ek j:Nat):Int))
    have x1:eF (rl ne (λj=>D.int ((ek j:Nat):Int))) (.int ((z % ne:Nat):Int))=.ok (.int ((ek (z % ne):Nat):Int)):=ja (f:=λj=>D.int ((ek j:Nat):Int)) hz
    have x2:eF (rl ne (λj=>D.int ((di (pp X) (ek j):Nat):Int))) (.int ((z % ne:Nat):Int))=.ok (.int ((di (pp X) (ek (z % ne)):Nat):Int)):=ja (f:=λj=>D.int ((di (pp X) (ek j):Nat):Int)) hz
    obtain⟨v,o,c1,c2⟩:=Zv (cx:=cS X) (cy:=sN X) hp g hs h6 u (k0:=ek (z % ne)) (mny:=1+z / 3 % 3) (decide (((z / 9 % 2:Nat):Int)=0)) (decide (((z / 18 % 2:Nat):Int)=0)) n4 (uH _) (by omega)
    obtain⟨u',Cp,Cq,Cr,Ct,e⟩:=ih v (zk (.int (z:Int))) (zk (.int ((z % ne:Nat):Int))) (zk (.int ((1+z / 3 % 3:Nat):Int))) (zk (rl nd (λi=>.int (o i))))
    refine⟨u',Cp,Cq,Cr,Ct,?_⟩
    have hb:(gN 11 (D.int (z:Int)) (Y u kD mz n0 n5)>>=λς'=>zG ς')=zt (Y v (zk (.int (z:Int))) (zk (.int ((z % ne:Nat):Int))) (zk (.int ((1+z / 3 % 3:Nat):Int))) (zk (rl nd (λi=>.int (o i))))):=by
     refine j0 (ς1:=Y u (zk (.int (z:Int))) mz n0 n5) rfl ?_
     unfold zG
     refine dh (dz (dZ (dX rfl) (fe (Qe (dX rfl) df) hlen) (gG z (by omega))) rfl) (Qj (dh (dz (dZ eG (dZ (dZ (dX rfl) eG (j6 z (m:=3) (by decide) (by decide))) eG (gG _ (m:=3) (by decide))) (gV 1 _)) rfl) (Qj (dh (QzZ (Qe (dX rfl) (Qe (zZ (s:=.o) rfl rfl) (Qe (dZ (dX rfl) (dX rfl) x1) (Qe (dX rfl) (Qe (dX rfl) (Qe (dZ (dZ (dZ (dX rfl) eG (j6 z (m:=9) (by decide) (by decide))) eG (gG _ (m:=2) (by decide))) eG (nI _ _)) df)))))) c1 rfl) (Qj ?_)))))
     exact Qza (IJ (Qe (dX rfl) (Qe (zZ (s:=.o) rfl rfl) (Qe (dZ (dX rfl) (dX rfl) x2) (Qe (dX rfl) (Qe (dX rfl) (Qe (dZ (dZ (dZ (dX rfl) eG (j6 z (m:=18) (by decide) (by decide))) eG (gG _ (m:=2) (by decide))) eG (nI _ _)) df)))))) c2 rfl) (dX rfl) (Qyg nd o) kq
    rw[aj,fM,hb]
    exact e
  have tE:∀ kD mz n0 n5:Option (SM×D),mU (dU 0) (fV (eC (.int 12))) (fV (eC (.int 44))) (Y (λk=>(X k).st) kD mz n0 n5)=.ok (.lst (((ys.drop 12).take 32).map λz:Nat=>D.int (z:Int))):=λkD mz n0 n5=>
   nL (p:=some 12) (q:=some 44) (dX rfl) (sE eG) (sE eG) (by rw[show(12:Int)=((12:Nat):Int) from rfl,show(44:Int)=((44:Nat):Int) from rfl,Kh, ← List.map_drop, ← List.map_take])
  obtain⟨u',Cp,Cq,Cr,Ct,hlp⟩:=zg ((ys.drop 12).take 32) (λk=>(X k).st) none none none none
  have Lh:lD (.int (ne:Int)) (.int (ne:Int))=zn false:=by rw[ur,aF rfl];rfl
  refine QS (fl:=.rt false (.bl true)) (front F _ _ qk ?_) iA
  refine dh (g7 (QT (dZ (dX rfl) eG his)) rfl kq) (Qj ?_)
  refine dh (dz (QV (Qe (dX rfl) df) MC) rfl) (Qj (dh (dz xh rfl) (Qj ?_)))
  refine dh (g7 (QT (dZ (fe (Qe (dX rfl) df) (jJ ne _)) (fe (Qe (dX rfl) df) (jJ ne _)) Lh)) rfl kq) (Qj ?_)
  refine dh (nJ (hc3 _ _) rfl) (Qj (dh (nJ (hc4 _ _) rfl) (Qj ?_)))
  exact dh (mf (g:=gN 11) (T:=zG) (gP (tE none none none none)) hlp) (Qj (fu eG))
 ·have qk:=QwP (Zx (ne:=ne) (en:=lh w) (ek:=ek) hp hs (by omega))
  have IB:dc [none] (fJ (dU 3)) (gN 0) da HZ (Z (zk .non) none none none none none none none none)=.ok (.lst (((List.range n).map λk=>(pp X k:Int)).map D.int)):=by
   rw[aY]
   refine QO (l:=List.range n) (λk=>kl (X k)) (λk=>D.int (pp X k:Int)) (gP (dX rfl)) (λk hk=>?_) (by rw[aC];omega)
   refine QE rfl rfl ?_
   unfold HZ
   exact fe (Qe (dZ (dX rfl) eG (pT 1 rfl)) df) (by simp[eB,eh])
  have mG:∀ m,((di (pp X) m:Nat):Int)+2 * m<=3 * ((List.range m).map λk=>(pp X k:Int)).sum:=by
   intro m
   induction m with
   | zero=>exact bI _
   | succ m ih=>
    rw[b7,ao,List.sum_append]
    have h:=qg (pp X m) (by have:=(hp m).2;omega) (hp m).1
    show((di (pp X) m+(2 ^ ee (pp X m)+pp X m - 1):Nat):Int)+2 * ((m+1:Nat):Int)<=3 * (_+((pp X m:Int)+0))
    have:=h.2.1
    omega
  have h3:=mG n
  have hgt:oA (.int ((List.range n).map λk=>(pp X k:Int)).sum) (.int 20)=zn true:=by rw[rn,aF (by omega)]
  refine QS (fl:=.rt false (.bl true)) (front .non _ _ qk ?_) iA
  exact dh (hV (QT (dZ (dX rfl) eG (show xU .non .non=zn true from rfl))) rfl (fu (dZ (fe (Qe IB df) (zQ _)) eG hgt))) sA
end My
namespace My
open PySem PySem.Spec L2 DL
set_option hygiene false
local macro_rules
 | `("N"^$x $s) => `(W.nsIn K mainGlobals $s=some (some (.ref $x)))
 | `("Z"^$s) => `(W.nsIn K mainGlobals $s=some none)
 | `("K"^$x) => `(W.keepIn K (.ref $x)=true)
 | `("G"^$x $s $y) => `(W.findIn K (.ref $x) $s=some (some (.ref $y)))
 | `("T"^$x $y $b) => `(W.kitOne K (.ref $x) (.ref $y)=some $b)
 | `("A"^$x) => `(W.mg_of X G $x)
set_option hygiene true
theorem all_mk{l:W.OpenLaw}{w:World}{K:W.Frag}{h:Heap}{mg:Str->Option Value}{fa:Addr}(X:K.In h)(G:h.Ns mainGlobals mg)(hfa:mg "law"=some (.ref fa))
 {QM Qz QN QK QJ MD IL IM IP IQ ME MF IR MG MH MI MJ MK ML MM MN MO MP IS eS:Addr} {Qzu MQ:Option Addr} {Qzv:Array (Option Value)} {QyR MR MS MT IT MU:Value} {vh vi vj vd vn vc v8 ve:Tok}
 (MV:"N"^QM "Deal")
 (IU:Cls K QM)
 (MW:"N"^Qz "Bundle")
 (IV:Cls K Qz)
 (MX:"N"^QN "Copy")
 (IW:Cls K QN)
 (MY:"N"^QK "Rows")
 (IX:Cls K QK)
 (MZ:"N"^QJ "Office")
 (IY:Cls K QJ)
 (p6:Vf K "table" none [QM,Qz,QN,QK,QJ])
 (p7:Vf K "heads" none [QM,Qz,QN,QK,QJ])
 (jw:Vf K "clerk_names" none [QM,Qz,QN,QK,QJ])
 (kE:Vf K "door_names" none [QM,Qz,QN,QK,QJ])
 (jb:Vf K "entry_places" none [QM,Qz,QN,QK,QJ])
 (p8:Vf K "staff" none [QM,Qz,QN,QK,QJ])
 (jc:Vf K "first_states" none [QM,Qz,QN,QK,QJ])
 (ql:Vf K "ways" none [QM,Qz,QN,QK,QJ])
 (uI:Vf K "outs" (some (.ref ME)) [QM,Qz,QN,QK])
 (p9:Vf K "period" (some (.ref MF)) [QM,Qz,QN,QK])
 (zh:Vf K "row" (some (.ref MK)) [QM,Qz,QN,QK])
 (qm:Vf K "names" (some (.ref MG)) [QJ])
 (qo:Vf K "doors" (some (.ref MI)) [QJ])
 (qq:Vf K "leads" (some (.ref ML)) [QJ])
 (qr:Vf K "clerk" (some (.ref MJ)) [QJ])
 (qt:Vf K "begin" (some (.ref MM)) [QJ])
 (uJ:Vf K "many" (some (.ref MH)) [QJ])
 (nP:Vf K "entries" (some (.ref MN)) [QJ])
 (lW:Vf K "keep_rows" (some (.ref MD)) [QM,Qz,QN,QK])
 (Qpj:"G"^QM "__init__" IM)
 (Qne:"G"^Qz "__init__" IP)
 (Qqo:"G"^QN "__init__" IQ)
 (Qqx:"G"^QK "__init__" IL)
 (Qnl:"G"^QJ "__init__" IR)
 (Qwg:W.makesIn K QM=true)
 (Qu7:"K"^QM)
 (Qsw:W.makesIn K Qz=true)
 (QsH:"K"^Qz)
 (Qwe:W.makesIn K QN=true)
 (QvE:"K"^QN)
 (Qvr:W.makesIn K QK=true)
 (Qv5:"K"^QK)
 (QsF:W.makesIn K QJ=true)
 (QsS:"K"^QJ)
 (y1:W.specialIn K (.builtin "object.__class__") "__get__"=some (some (.builtin "getset_descriptor.__get__")))
 (y2:W.takesIn K (.builtin "object.__class__")=some true)
 (Qx7:W.findIn K (.ref QM) "__class__"=some (some (.builtin "object.__class__")))
 (Qw0:W.mroIn K QM (.type "object")=some true)
 (QtC:W.findIn K (.ref Qz) "__class__"=some (some (.builtin "object.__class__")))
 (Qty:W.mroIn K Qz (.type "object")=some true)
 (QwX:W.findIn K (.ref QN) "__class__"=some (some (.builtin "object.__class__")))
 (QwJ:W.mroIn K QN (.type "object")=some true)
 (QwZ:W.findIn K (.ref QK) "__class__"=some (some (.builtin "object.__class__")))
 (QxP:W.mroIn K QK (.type "object")=some true)
 (QtU:W.findIn K (.ref QJ) "__class__"=some (some (.builtin "object.__class__")))
 (Qs6:W.mroIn K QJ (.type "object")=some true)
 (Qpi:Dn K "_law_mixed" yU)
 (Qr8:Dn K "_law_cell" Fz)
 (QpK:Dn K "_law_digit" G5)
 (QuX:Dn K "sums_of" Az)
 (QlM:Dn K "running_sums" B2)
 (Qjj:Mn K "keep_rows" "Clerk.keep_rows" B4 MD)
 (QsB:Dn K "is_whole" G8)
 (QpY:Dn K "is_within" G9)
 (Qvy:Dn K "is_row" B8)
 (Qsj:Dn K "is_table" yZ)
 (QqE:Mn K "__init__" "Rows.__init__" GE IL)
 (QoT:Dn K "single_row" BC)
 (QpV:Mn K "__init__" "Deal.__init__" BE IM)
 (Qnq:Mn K "__init__" "Bundle.__init__" BG IP)
 (Qps:Mn K "__init__" "Copy.__init__" GJ IQ)
 (Qse:Dn K "_law_kind" qa)
 (Qph:Dn K "_law_where" BL)
 (QqK:Dn K "_law_drawn" GR)
 (QpL:Dn K "places_of" GS)
 (QuB:Dn K "is_list" GT)
 (Qn1:Dn K "all_unlike" GU)
 (QuV:Dn K "is_name" BW)
 (QpT:Dn K "are_names" BY)
 (Qqz:Dn K "are_texts" Ba)
 (Qsl:Dn K "is_clerk" GY)
 (QoV:Mn K "outs" "Clerk.outs" Gd ME)
 (QlH:Mn K "period" "Clerk.period" Ge MF)
 (Qs2:Dn K "is_seat" Gf)
 (Qqm:Dn K "are_seats" yl)
 (QrX:Dn K "is_entry" Gi)
 (QmS:Dn K "are_entries" yo)
 (Qss:Dn K "leads_to" Bj)
 (Qm6:Mn K "__init__" "Office.__init__" qc IR)
 (QnX:Dn K "_law_called" Gs)
 (Qqj:Dn K "_law_built" sP)
 (Qlw:Mn K "names" "Office.names" Gz MG)
 (Qna:Dn K "spare_names" yt)
 (Qnn:Mn K "many" "Office.many" HD MH)
 (QlQ:Mn K "doors" "Office.doors" HE MI)
 (Qpc:Dn K "width_for" HF)
 (QrC:Dn K "size_for" HG)
 (QlG:Mn K "clerk" "Office.clerk" HH MJ)
 (Qov:Dn K "tree_names" C2)
 (Qkq:Dn K "handled_ahead" HK)
 (Qus:Dn K "dealers" HL)
 (Qpt:Mn K "row" "Clerk.row" HM MK)
 (Qtm:Dn K "copiers" C8)
 (Qlq:Mn K "leads" "Office.leads" HP ML)
 (QnA:Dn K "lead_names" CB)
 (QkV:Mn K "begin" "Office.begin" HR MM)
 (QyU:Dn K "tree" HS)
 (QjY:Mn K "entries" "Office.entries" HU MN)
 (QrE:"N"^MO "narrowed")
 (Qr2:∃ fd,FunV K "narrowed" "narrowed" vI MO fd .none)
 (Qle:Dn K "_law_narrowed" HW)
 (Qpv:Dn K "_law_apart" CI)
 (QsL:Dn K "_law_step" CM)
 (Qsx:"N"^MP "_law_rest")
 (QsG:∃ fd,FunV K "_law_rest" "_law_rest" CO MP fd .none)
 (QAb:"N"^IS "law")
 (QAc:K.lookup IS=some ⟨QyR,Qzu,.func (W.fnOf "law" "law" (qy mq) (mL mq) (Qc mq) .none MR MS MT MQ IT MU),Qzv⟩)
 (QAf:W.codeIn K IT "law"=true)
 (QAd:"K"^IS)
 (mj:"Z"^"max")
 (e9:"Z"^"len")
 (oY:"Z"^"zip")
 (eO:"Z"^"list")
 (dq:"Z"^"isinstance")
 (kP:"Z"^"int")
 (mE:"Z"^"bool")
 (gA:"Z"^"all")
 (du:"Z"^"range")
 (j1:"Z"^"sum")
 (gQ:"Z"^"enumerate")
 (oa:"Z"^"set")
 (lR:"Z"^"str")
 (j3:"Z"^"tuple")
 (og:"Z"^"any")
 (fw:W.nsIn K mainGlobals "MOST_OUTS"=some (some (.int 6 vh)))
 (iC:W.nsIn K mainGlobals "MOST_SENT"=some (some (.int 9 vi)))
 (g5:W.nsIn K mainGlobals "MOST_ROWS"=some (some (.int 12 vj)))
 (gx:W.nsIn K mainGlobals "MOST_SIGNS"=some (some (.int 6 vd)))
 (gI:W.nsIn K mainGlobals "LETTERS"=some (some (.str "abcdefghijklmnopqrstuvwxyz" vn)))
 (fR:W.nsIn K mainGlobals "MOST_CLERKS"=some (some (.int 60 vc)))
 (gL:W.nsIn K mainGlobals "MOST_ENTRIES"=some (some (.int 6 v8)))
 (gy:W.nsIn K mainGlobals "MOST_DOORS"=some (some (.int 6 ve)))
 (kT:"N"^eS "TooMany")
 (gk:W.excIn K eS tD "ValueError.__new__"=true)
 (j8:W.subIn K (.ref eS) (.ref eS)=some true)
 (Qno:"T"^QJ QM false)
 (QpF:"T"^QK QM false)
 (QpR:"T"^QN QM false)
 (QmD:"T"^Qz QM false)
 (Qp1:"T"^QM QM true)
 (Qkb:"T"^QJ Qz false)
 (Qnb:"T"^QK Qz false)
 (QmG:"T"^QN Qz false)
 (Qj3:"T"^Qz Qz true)
 (QmJ:"T"^QM Qz false)
 (Qnj:"T"^QJ QN false)
 (Qqn:"T"^QK QN false)
 (Qqv:"T"^QN QN true)
 (Qnm:"T"^Qz QN false)
 (QqL:"T"^QM QN false)
 (QmB:"T"^QJ QK false)
 (Qqg:"T"^QK QK true)
 (Qqa:"T"^QN QK false)
 (Qm2:"T"^Qz QK false)
 (Qp7:"T"^QM QK false):
 ∃ fd:FuncData,(∀(s:Shared)(v:Value),BindsTo s fd ⟨[v],[]⟩ [("_law_script",v)])/\∀ base:Heap,K.In base->base.Ns mainGlobals mg->FnOk l.prog w K mg base g8 10 fa fd ["_law_script"] (gY K (eg K) false sU):=by
 have ee:=hfa.symm.trans ("A"^QAb)
 cases ee
 have Ma:="A"^MV
 have uK:=kM MV
 have Mb:="A"^MW
 have uL:=kM MW
 have Mc:="A"^MX
 have uM:=kM MX
 have Md:="A"^MY
 have uN:=kM MY
 have Qu5:="A"^MZ
 have uO:=kM MZ
 have iG:Ks K Qp [QM,Qz,QN,QK,QJ]:=(pS uK IU (pS uL IV (pS uM IW (pS uN IX (pS uO IY Fh)))))
 have fF:f6 K (eg K) Qp "table":=jS iG p6
 have jr:f6 K (eg K) Qp "heads":=jS iG p7
 have eQ:f6 K (eg K) Qp "clerk_names":=jS iG jw
 have fG:f6 K (eg K) Qp "door_names":=jS iG kE
 have et:f6 K (eg K) Qp "entry_places":=jS iG jb
 have gf:f6 K (eg K) Qp "staff":=jS iG p8
 have ez:f6 K (eg K) Qp "first_states":=jS iG jc
 have iI:f6 K (eg K) Qp "ways":=jS iG ql
 have Cu:ka K QM:=⟨IU,Qx7,y1,y2,Qw0⟩
 have Cv:ka K Qz:=⟨IV,QtC,y1,y2,Qty⟩
 have Cw:ka K QN:=⟨IW,QwX,y1,y2,QwJ⟩
 have Cy:ka K QK:=⟨IX,QwZ,y1,y2,QxP⟩
 have Cz:ka K QJ:=⟨IY,QtU,y1,y2,Qs6⟩
 obtain⟨Qjk,QiQ,Qct⟩:=Qjj
 have Qjl:=Qct.kp
 have Qjn:Binds K QiQ ["self","rows"] []:=Qct.b2 λ_ _ _ _ _ _ _ _=>rfl
 obtain⟨QpO,Qo0,QgR⟩:=QqE
 have Qz7:=QgR.kp
 have Qp6:Binds K Qo0 ["self","rows"] []:=QgR.b2 λ_ _ _ _ _ _ _ _=>rfl
 obtain⟨Qqd,QoI,QgV⟩:=QpV
 have QAa:=QgV.kp
 have Qpb:Binds K QoI ["self","many"] []:=QgV.b2 λ_ _ _ _ _ _ _ _=>rfl
 obtain⟨QmP,Ql0,Qfl⟩:=Qnq
 have Qyo:=Qfl.kp
 have QmM:Binds K Ql0 ["self","size"] []:=Qfl.b2 λ_ _ _ _ _ _ _ _=>rfl
 obtain⟨Qpg,QnO,Qg3⟩:=Qps
 have Qz9:=Qg3.kp
 have Qpy:Binds K QnO ["self","counts"] []:=Qg3.b2 λ_ _ _ _ _ _ _ _=>rfl
 obtain⟨QnR,Qyn,QfY⟩:=QoV
 obtain⟨QkP,Qwt,Qey⟩:=QlH
 obtain⟨Qm8,Qk5,Qfa⟩:=Qm6
 have Qym:=Qfa.kp
 have QmX:Binds K Qk5 ["self","clerks","entries","doors"] []:=Qfa.b4 λ_ _ _ _ _ _ _ _ _ _=>rfl
 obtain⟨Qlr,Qwu,Qep⟩:=Qlw
 obtain⟨Qm0,Qxw,Qfe⟩:=Qnn
 obtain⟨QlK,Qwv,Qee⟩:=QlQ
 obtain⟨Qlm,Qww,Qec⟩:=QlG
 obtain⟨QqO,QzU,Qg0⟩:=Qpt
 obtain⟨QkZ,Qws,Qes⟩:=Qlq
 obtain⟨QlR,Qwx,Qd9⟩:=QkV
 obtain⟨QjI,Qu6,Qc4⟩:=QjY
 obtain⟨Qz8,QhE⟩:=Qr2
 obtain⟨Qz5,QhL⟩:=QsG
 have QsC:=QhL.kp
 have QsP:=QhL.binds (ps:=["_law_plan","_law_states","_law_k","_law_many","_law_doors","_law_back"]) λ_ _ _ _ _ _ us hl=>match us,hl with | [_,_,_,_,_,_],_=>rfl
 have Qwy:=funV_mk (st:=mq) QAc QAf QAd
 have QAk:=Qwy.binds (ps:=["_law_script"]) λ_ _ _ _ _ _ us hl=>match us,hl with | [_],_=>rfl
 have vr:mg "max"=none:=W.mg_none_of X G mj
 have v2:mg "len"=none:=W.mg_none_of X G e9
 have vs:mg "zip"=none:=W.mg_none_of X G oY
 have v3:mg "list"=none:=W.mg_none_of X G eO
 have v0:mg "isinstance"=none:=W.mg_none_of X G dq
 have vo:mg "int"=none:=W.mg_none_of X G kP
 have vq:mg "bool"=none:=W.mg_none_of X G mE
 have v4:mg "all"=none:=W.mg_none_of X G gA
 have v1:mg "range"=none:=W.mg_none_of X G du
 have v9:mg "sum"=none:=W.mg_none_of X G j1
 have vk:mg "enumerate"=none:=W.mg_none_of X G gQ
 have vt:mg "set"=none:=W.mg_none_of X G oa
 have vp:mg "str"=none:=W.mg_none_of X G lR
 have vl:mg "tuple"=none:=W.mg_none_of X G j3
 have vu:mg "any"=none:=W.mg_none_of X G og
 have v6:="A"^fw
 have vm:="A"^iC
 have v7:="A"^g5
 have vf:="A"^gx
 have va:="A"^gI
 have v5:="A"^fR
 have vb:="A"^gL
 have vg:="A"^gy
 have jx:="A"^kT
 have ib:=kM kT
 have jy:pG K eS:=gk
 have ia:∀ c∈(["TooMany"]:List Str),∃ Cc,eg K c=some Cc/\W.subIn K (.ref Cc) (.ref eS)=some true:=by
  intro c hc
  simp only[aL,b9,cB]at hc
  rcases hc with rfl
  ·exact⟨_,ib,j8⟩
 have GZ:jY K (eg K) (.ref QM) [("Deal",true),("Bundle",false),("Copy",false),("Rows",false),("Office",false)]:=(QY uK Cu Qp1 (QY uL Cv QmD (QY uM Cw QpR (QY uN Cy QpF (QY uO Cz Qno Ah)))))
 have Ga:jY K (eg K) (.ref Qz) [("Deal",false),("Bundle",true),("Copy",false),("Rows",false),("Office",false)]:=(QY uK Cu QmJ (QY uL Cv Qj3 (QY uM Cw QmG (QY uN Cy Qnb (QY uO Cz Qkb Ah)))))
 have Gb:jY K (eg K) (.ref QN) [("Deal",false),("Bundle",false),("Copy",true),("Rows",false),("Office",false)]:=(QY uK Cu QqL (QY uL Cv Qnm (QY uM Cw Qqv (QY uN Cy Qqn (QY uO Cz Qnj Ah)))))
 have Gc:jY K (eg K) (.ref QK) [("Deal",false),("Bundle",false),("Copy",false),("Rows",true),("Office",false)]:=(QY uK Cu Qp7 (QY uL Cv Qm2 (QY uM Cw Qqa (QY uN Cy Qqg (QY uO Cz QmB Ah)))))
 have D0:Ks K Qd [QM,Qz,QN,QK]:=(pS uK IU (pS uL IV (pS uM IW (pS uN IX Fh))))
 have uP:Ks K Ql [QJ]:=(pS uO IY Fh)
 refine⟨W.fnOf "law" "law" (qy mq) (mL mq) (Qc mq) .none MR MS MT MQ IT MU,λs v=>.of_eq rfl,λbase _ _=>?_⟩
 have de := @Ff l.prog w K h mg base (eg K) X G
 have mt := @Fi l.prog w K mg base
 have dw := @Fg l.prog w K h mg base (eg K) X G
 have Qo9:=de Qpi (λF=>UB F vr) λF=>F.b2 λ_ _ _ _ _ _ _ _=>rfl
 have Me:=de Qr8 (λF=>UD F v2) λF=>F.b2 λ_ _ _ _ _ _ _ _=>rfl
 have IZ:=de QpK (λF=>UG F) λF=>F.b2 λ_ _ _ _ _ _ _ _=>rfl
 have QuJ:=de QuX (λF=>UK F vs) λF=>F.b2 λ_ _ _ _ _ _ _ _=>rfl
 have Qk7:=de QlM (λF=>UN F QuJ) λF=>F.b1 λ_ _ _ _ _ _ _=>rfl
 have Qjm:FnOk l.prog w K mg base (i7 l.prog w) 3 _ _ ["self","rows"] (kB K (eg K) QI):=US Qct Qk7 v3 fF jr
 have eJ:fK l.prog w K mg base (eg K) (i7 l.prog w) "keep_rows" 3 Qd (λ_=>kB K (eg K) QI):=rk D0 lW Qjk Qjl Qjm Qjn
 have QsK:=de QsB (λF=>UW F v0 vo vq) λF=>F.b1 λ_ _ _ _ _ _ _=>rfl
 have D2:=de QpY (λF=>UZ F QsK) λF=>F.b3 λ_ _ _ _ _ _ _ _ _=>rfl
 have Mf:=de Qvy (λF=>Ug F D2 v0 v3 v2 v4 v6 ⟨_,rfl⟩ vm ⟨_,rfl⟩) λF=>F.b1 λ_ _ _ _ _ _ _=>rfl
 have Qsg:=de Qsj (λF=>Ul F Mf v0 v3 v2 v4 v7 ⟨_,rfl⟩) λF=>F.b1 λ_ _ _ _ _ _ _=>rfl
 have QqD:FnOk l.prog w K mg base (i7 l.prog w) 5 _ _ ["self","rows"] (kB K (eg K) u7):=Up QgR Qsg eJ
 have GQ:iw l.prog w K mg base (eg K) "Rows" 5 u7:=⟨QK,IL,_,_,uN,Md,⟨Qvr,Qqx,QpO,Qv5⟩,QqD,Qp6⟩
 have Qog:=de QoT (λF=>Uu F v1) λF=>F.b2 λ_ _ _ _ _ _ _ _=>rfl
 have Qp5:FnOk l.prog w K mg base (i7 l.prog w) 4 _ _ ["self","many"] (kB K (eg K) qY):=Uy QgV D2 Qog v1 v6 ⟨_,rfl⟩ eJ
 have uy:iw l.prog w K mg base (eg K) "Deal" 4 qY:=⟨QM,IM,_,_,uK,Ma,⟨Qwg,Qpj,Qqd,Qu7⟩,Qp5,Qpb⟩
 have Qm7:FnOk l.prog w K mg base (i7 l.prog w) 4 _ _ ["self","size"] (kB K (eg K) u9):=V8 Qfl D2 v1 v7 ⟨_,rfl⟩ eJ
 have GP:iw l.prog w K mg base (eg K) "Bundle" 4 u9:=⟨Qz,IP,_,_,uL,Mb,⟨Qsw,Qne,QmP,QsH⟩,Qm7,QmM⟩
 have Qpe:FnOk l.prog w K mg base (i7 l.prog w) 4 _ _ ["self","counts"] (kB K (eg K) qZ):=VB Qg3 Mf eJ
 have uz:iw l.prog w K mg base (eg K) "Copy" 4 qZ:=⟨QN,IQ,_,_,uM,Mc,⟨Qwe,Qqo,Qpg,QvE⟩,Qpe,Qpy⟩
 have QrH:=de Qse (λF=>VI F IZ v1 vo v3 uy GP uz GQ) λF=>F.b1 λ_ _ _ _ _ _ _=>rfl
 have QqC:=de Qph (λF=>VM F IZ v2 v1 v9) λF=>F.b5 λ_ _ _ _ _ _ _ _ _ _ _=>rfl
 have QqP:=de QqK (λF=>VO F Me QrH QqC IZ v1 v2) λF=>F.b5 λ_ _ _ _ _ _ _ _ _ _ _=>rfl
 have QpI:=de QpL (λF=>VS F vk) λF=>F.b2 λ_ _ _ _ _ _ _ _=>rfl
 have Ia:=de QuB (λF=>VV F v0 v3 v2) λF=>F.b2 λ_ _ _ _ _ _ _ _=>rfl
 have Ib:=de Qn1 (λF=>VY F v2 vt) λF=>F.b1 λ_ _ _ _ _ _ _=>rfl
 have Ic:=de QuV (λF=>Vc F v0 vp v2 v4 vf ⟨_,rfl⟩ va ⟨_,rfl⟩) λF=>F.b1 λ_ _ _ _ _ _ _=>rfl
 have Qqc:=de QpT (λF=>Vh F Ia Ic Ib v4) λF=>F.b2 λ_ _ _ _ _ _ _ _=>rfl
 have QpD:=de Qqz (λF=>Vl F v0 v3 v2 v4 vp) λF=>F.b2 λ_ _ _ _ _ _ _ _=>rfl
 have QsW:=de Qsl (λF=>Vo F v0 Ma Mb Mc Md GZ Ga Gb Gc) λF=>F.b1 λ_ _ _ _ _ _ _=>rfl
 have ki:=mt D0 uI QnR QfY (Vv QfY v2 fF) (QfY.b1 λ_ _ _ _ _ _ _=>rfl)
 have eL:=mt D0 p9 QkP Qey (Vy Qey v2 fF) (Qey.b1 λ_ _ _ _ _ _ _=>rfl)
 have Qts:=de Qs2 (λF=>W1 F Ic QsW QpD D2 v0 vl v2 ki eL) λF=>F.b1 λ_ _ _ _ _ _ _=>rfl
 have Qp3:=de Qqm (λF=>W8 F Ia Qts Ib v4 v5 ⟨_,rfl⟩) λF=>F.b2 λ_ _ _ _ _ _ _ _=>rfl
 have Qsp:=de QrX (λF=>WC F Ic v0 vl v2) λF=>F.b2 λ_ _ _ _ _ _ _ _=>rfl
 have QmR:=de QmS (λF=>WI F Ia Qsp Ib v4 vb ⟨_,rfl⟩) λF=>F.b2 λ_ _ _ _ _ _ _ _=>rfl
 have QrY:=de Qss (λF=>WN F) λF=>F.b2 λ_ _ _ _ _ _ _ _=>rfl
 have Qm4:FnOk l.prog w K mg base (i7 l.prog w) 5 _ _ ["self","clerks","entries","doors"] (kB K (eg K) qd):=WW Qfa Qqc Qp3 QmR QpI QrY vu v3 vg ⟨_,rfl⟩ eQ fG et gf ez iI
 have vF:iw l.prog w K mg base (eg K) "Office" 5 qd:=⟨QJ,IR,_,_,uO,Qu5,⟨QsF,Qnl,Qm8,QsS⟩,Qm4,QmX⟩
 have QoB:=de QnX (λF=>Wd F) λF=>F.b3 λ_ _ _ _ _ _ _ _ _=>rfl
 have QpE:=de Qqj (λF=>Wl F QoB v1 v2 vF) λF=>F.b4 λ_ _ _ _ _ _ _ _ _ _=>rfl
 have fY:=mt uP qm Qlr Qep (Wo Qep v3 eQ) (Qep.b1 λ_ _ _ _ _ _ _=>rfl)
 have QmV:=de Qna (λF=>Ws F va ⟨_,rfl⟩) λF=>F.b1 λ_ _ _ _ _ _ _=>rfl
 have gz:=mt uP uJ Qm0 Qfe (Wv Qfe v2 eQ) (Qfe.b1 λ_ _ _ _ _ _ _=>rfl)
 have gM:=mt uP qo QlK Qee (Wy Qee v3 fG) (Qee.b1 λ_ _ _ _ _ _ _=>rfl)
 have D3:=de Qpc (λF=>X0 F) λF=>F.b1 λ_ _ _ _ _ _ _=>rfl
 have Mg:=de QrC (λF=>X3 F D3) λF=>F.b1 λ_ _ _ _ _ _ _=>rfl
 have fZ:=mt uP qr Qlm Qec (X6 Qec gf) (Qec.b2 λ_ _ _ _ _ _ _ _=>rfl)
 have Qoq:=de Qov (λF=>X9 F D3 Mg v1) λF=>F.b3 λ_ _ _ _ _ _ _ _ _=>rfl
 have QkI:=de Qkq (λF=>XC F) λF=>F.b3 λ_ _ _ _ _ _ _ _ _=>rfl
 have QtI:=de Qus (λF=>XF F QkI v1 uy) λF=>F.b3 λ_ _ _ _ _ _ _ _ _=>rfl
 have jG:=mt D0 zh QqO Qg0 (XJ Qg0 v3 fF) (Qg0.b2 λ_ _ _ _ _ _ _ _=>rfl)
 have Qua:=de Qtm (λF=>XO F D3 v1 eL jG uz) λF=>F.b3 λ_ _ _ _ _ _ _ _ _=>rfl
 have gi:=mt uP qq QkZ Qes (XS Qes v3 iI) (Qes.b2 λ_ _ _ _ _ _ _ _=>rfl)
 have QnN:=de QnA (λF=>XW F fY gM gi) λF=>F.b2 λ_ _ _ _ _ _ _ _=>rfl
 have gj:=mt uP qt QlR Qd9 (XZ Qd9 v3 ez) (Qd9.b1 λ_ _ _ _ _ _ _=>rfl)
 have QzW:=de QyU (λF=>Xb F Qoq QtI D3 Qua QnN fZ fY eL gj) λF=>F.b3 λ_ _ _ _ _ _ _ _ _=>rfl
 have fo:=mt uP nP QjI Qc4 (Xi Qc4 v3 et) (Qc4.b1 λ_ _ _ _ _ _ _=>rfl)
 have QrS:tV l.prog w K mg base (eg K) "narrowed" 8 true [] Q7:=⟨_,_,_,_,Xl QhE Mg QmV QzW v9 v1 v2 v5 ⟨_,rfl⟩ jx ib jy gz eL fZ fY gM fo vF,"A"^QrE,QhE.kp,QhE.b1 λ_ _ _ _ _ _ _=>rfl,.nil⟩
 have QlZ:=de Qle (λF=>Xo F QrS jx ib jy ia) λF=>F.b1 λ_ _ _ _ _ _ _=>rfl
 have QpH:=de Qpv (λF=>Xs F v1 gz fZ eL jG gi gj) λF=>F.b1 λ_ _ _ _ _ _ _=>rfl
 have QsI:=dw QsL (λF=>Xu F v2 v1) λF=>F.b5 λ_ _ _ _ _ _ _ _ _ _ _=>rfl
 have Qsa:FnOk l.prog w K mg base g8 2 _ _ ["_law_plan","_law_states","_law_k","_law_many","_law_doors","_law_back"] (qP K (eg K) true [false,true,false,false,false,false] pZ):=Xw QhL QsI v2 v3 v1 v9
 have Qsd:mB l.prog w K mg base (eg K) "_law_rest" 2 true [false,true,false,false,false,false] pZ:=⟨_,_,_,Qsa,"A"^Qsx,QsC,QsP⟩
 have QAe:FnOk l.prog w K mg base g8 10 _ _ ["_law_script"] (gY K (eg K) false sU):=Y6 Qwy Qo9 Me QqP QpE QlZ QpH Qsd v1 v2 v9 fo
 exact QAe
theorem walk{l:W.OpenLaw}{q:Program}{loose:List Str}{XP:(Str->Option Value)->Heap->Prop}{YP:World->Heap->Prop}{d:DefRec}{K:Params->W.Frag}(hn:l.most=some 63)(Er:d.params.defaults=[])
 (hY:∀(w:World)(h:Heap),YP w h->(K w.params).In h) (Ie:∀ ns:List Int,ns.length<=63->(∀ z∈ns,gK z<=1048576)->sU [.lst (ns.map .int)]=zn true)
 (F:∀(w:World)(mg:Str->Option Value)(fa:Addr)(h:Heap),(K w.params).In h->h.Ns mainGlobals mg->mg d.name=some (.ref fa)->
  ∃ fd:FuncData,(∀(s:Shared)(u:Value),BindsTo s fd ⟨[u],[]⟩ [("_law_script",u)])/\∀ base:Heap,(K w.params).In base->base.Ns mainGlobals mg->FnOk l.prog w (K w.params) mg base g8 10 fa fd ["_law_script"] (gY (K w.params) (eg (K w.params)) false sU)):
 W.WalkO q loose XP YP l.row.toRowW d [] (λf vs=>PySem.call f vs):=
 DL.walk_of (n:=63) (k:=10) (x:="_law_script") (CX:=λ_=>g8) (sp:=λw=>gY (K w.params) (eg (K w.params)) false sU) hn (by decide) Er ⟨rfl,by decide,by decide⟩ hY F
  (λw H a ns hl zj _ hS=>⟨[.lst (ns.map .int)],H,dC H,⟨.ref a,[],rfl,⟨a,_,rfl,hS,RepL.map_int ns⟩,rfl⟩,by rw[Ie ns hl zj];exact λv H' G' _ _ _ _ r=>r⟩) λ_ _ _ _ _ z=>z
end My
end
open PySem PySem.W PyProof.Rows
set_option maxRecDepth 100000 in
set_option maxHeartbeats 0 in
theorem PySem.Challenge.cw_dockethall_k82_whole_narrow_answers_holds : PySem.Challenge.rw_dockethall_k82_whole_narrow_answers.Holds := by
 w_on;o_law;k_head;(case hw=>w_witness2)
 k_fill
 refine My.walk (l:=PySem.Challenge.rw_dockethall_k82_whole_narrow_answers) rfl rfl (λw h Y=>PySem.W.kIn_of Y) My.the_law ?F
 case F=>
  intro w mg fa h KX G hmg
  refine' My.all_mk KX G hmg ..
  all_goals try first | k_is | kit_is | k_exc | rfl | (refine' ⟨_,DL.funV_mk ?_ ?_ ?_⟩<;>try k_is) | (refine' ⟨_,_,?_,DL.funV_mk ?_ ?_ ?_⟩<;>try k_is) | (refine' ⟨?_,_,DL.funV_mk ?_ ?_ ?_⟩<;>try k_is) | (refine' DL.vf_cons ?_ ?_<;>(repeat' first | exact DL.vf_nil | refine' DL.vf_cons ?_ ?_)<;>try k_is) | (refine' ⟨?_,?_,?_,?_⟩<;>try k_is) | kernel_rfl
