import PyProof.Rows.All
import Wide.All
import OpenK.AllK
import Wide.FinOn
import Lean
import PyProof.EqAt
import PyProof.EqKinds
import PyProof.TupleCall
import PyProof.ExcInit
import PyProof.ListRange
import PyProof.PureStr
import PyProof.MeetsStr3
import PyProof.Draws
import PyProof.StrCalls2
import PyProof.StrBlockH
import KE.KIntText
import PyProof.StrOps2
import PyProof.CompFree
import PySem.Challenge.RW_dockethall_k22_an_office_tells
set_option compiler.extract_closed false
namespace PySem.W.Fast
def tw11138127169290624007:=Nat
def tw15718101743809014107:=Nat
def tw353962386080142360:=Nat
def tw6044461938077411059:=Nat
def tw3700600708549974902:=Nat
def tw14669060421837770523:=Nat
def tw3419080936475613585:=Nat
def tw6628478685310680992:=Nat
def tw7696642476588758074:=Nat
def tw2800389068815000549:=Nat
def tw16454356127153724296:=Nat
def tw11457328481407865265:=Nat
def tw9947401381996221051:=Nat
def tw8973154724420465248:=Nat
def tw16933751365016427483:=Nat
def tw11417655788131814995:=Nat
def tw2635805566302004557:=Nat
def tw2104416224348920912:=Nat
def tw11262018732636153833:=Nat
def tw15462266434602183653:=Nat
def tw18383324914968398983:=Nat
def tw593140570667275727:=Nat
def tw828055353740205706:=Nat
def tw11538884399640447858:=Nat
def tw11102501572297994697:=Nat
def tw13369097639862485434:=Nat
def tw17949936058776847547:=Nat
def tw7633812770919316826:=Nat
def tw13235296733133488381:=Nat
def tw8341072372250351356:=Nat
def tw8807963316176674498:=Nat
def tw410948872168775697:=Nat
def tw214090407391607927:=Nat
def tw12194991928284847553:=Nat
def tw15971441312960647143:=Nat
def tw15137631184049188661:=Nat
def tw7599491743077433358:=Nat
def tw7341453434858575429:=Nat
def tw15331098776354956631:=Nat
def tw2393336746601896965:=Nat
def tw16520384809785815051:=Nat
def tw5040644437885893082:=Nat
def tw15204716322827044850:=Nat
def tw5643552420265842642:=Nat
def tw17795612968736328065:=Nat
def tw15347624289878390942:=Nat
def tw5590275245046996830:=Nat
def tw3461200358850071746:=Nat
def tw5362218568642849575:=Nat
def tw12799838064098309319:=Nat
def tw9177305288311232041:=Nat
def tw14521693648148855099:=Nat
def tw6384985993256133851:=Nat
def tw2744597942368999746:=Nat
def tw15222287210497139724:=Nat
def tw16569190821792003067:=Nat
def tw796403845987695538:=Nat
def tw1917071622328150639:=Nat
def tw338960613143873117:=Nat
def tw1645185810380073382:=Nat
def tw2626746720412565907:=Nat
def tw9479995960821459590:=Nat
def tw12409242571388506130:=Nat
def tw13840199048501840944:=Nat
def tw16907492575854447990:=Nat
def tw17367476916461295520:=Nat
def tw14702193735663421166:=Nat
def tw9592020534221580538:=Nat
def tw12511733914675830169:=Nat
def tw4559107687960413113:=Nat
def tw1651215804842541762:=Nat
def tw9169319794146787340:=Nat
def tw5977729315422232629:=Nat
def tw15097076986743354313:=Nat
def tw8544002538995796324:=Nat
def tw4766331511794943863:=Nat
def tw13393614962636951993:=Nat
def tw11910082486011676398:=Nat
def tw17626651953672983448:=Nat
def tw7081186681433702829:=Nat
def tw18227462176488060864:=Nat
def tw10144265406564506516:=Nat
def tw5090790313557228227:=Nat
def tw8501511102215995078:=Nat
def tw12020232266799728015:=Nat
def tw1553059706560080769:=Nat
def tw4440572962438840536:=Nat
def tw2373033162028579604:=Nat
def tw9987293605964565079:=Nat
def tw14699879961616301182:=Nat
def tw10546140528566012428:=Nat
def tw6987222944718796247:=Nat
def tw7424935432347948492:=Nat
def tw8790020196612540405:=Nat
def tw1950293783358503917:=Nat
def tw16733078746688063076:=Nat
def tw280444126242851182:=Nat
def tw11198948742982678375:=Nat
def tw14489899287196648413:=Nat
def tw17373408680083226320:=Nat
def tw13865926693559458683:=Nat
def tw17099919710613778781:=Nat
def tw12635597387669723480:=Nat
def tw3985512979268945002:=Nat
def tw16138255818418852896:=Nat
def tw11925765635122406182:=Nat
def tw7855340730103812093:=Nat
def tw11932779926093331383:=Nat
def tw17522772114682353080:=Nat
def tw16867023790977701741:=Nat
def tw12672759499152988022:=Nat
def tw7772006383050966617:=Nat
def tw11985840351076839961:=Nat
def tw12569957511626813178:=Nat
def tw8699702951369737640:=Nat
def tw18242373727990721573:=Nat
def tw10160463296956042628:=Nat
def tw18347700508682714098:=Nat
def tw1346035656611037824:=Nat
def tw15417328794994161720:=Nat
def tw15943979799111500314:=Nat
def tw8647500260838531983:=Nat
def tw10572657724327147390:=Nat
def tw13576502450475426497:=Nat
def tw10762112847015115304:=Nat
def tw5997040859350923378:=Nat
def tw9113627936237320605:=Nat
def tw15441019783274758713:=Nat
def tw10633792326703281616:=Nat
def tw5313436110547452742:=Nat
def tw5961932668472560417:=Nat
def tw11654064571254809771:=Nat
def tw3005351897270395488:=Nat
def tw8559829425539483003:=Nat
def tw8172419237829418198:=Nat
def tw12517587074026557820:=Nat
def tw10064149391987000933:=Nat
def tw10907403586006138608:=Nat
def tw3041528356827372831:=Nat
def tw2627525302290091836:=Nat
def tw3871450779479059028:=Nat
def tw2191554839117312505:=Nat
def tw13296213191743049235:=Nat
def tw14819257595145883579:=Nat
def tw3347308880871919167:=Nat
def tw9396982558850225183:=Nat
def tw1959667660954805056:=Nat
def tw16529945031838734175:=Nat
def tw12635279164504842435:=Nat
def tw9573515302262520690:=Nat
def tw10397928231855091826:=Nat
def tw10864905267782344246:=Nat
def tw3297307038630952999:=Nat
def tw591887919593815201:=Nat
def tw14276823879532646552:=Nat
def tw14591056179027290390:=Nat
def tw7157505277177847781:=Nat
def tw17786544688278059612:=Nat
def tw14878920192832127112:=Nat
def tw3760462353530841615:=Nat
def tw10727309312808359297:=Nat
def tw489834494844729282:=Nat
def tw5712085890261112754:=Nat
def tw6094397845157102905:=Nat
def tw11899422640422356382:=Nat
def tw12745024112677994686:=Nat
def tw559749645078670256:=Nat
def tw13449459919042406972:=Nat
def tw4479710491450784996:=Nat
def tw5135720568218882190:=Nat
def tw5045270976975970406:=Nat
def tw11147550188381423164:=Nat
def tw8322871170706166503:=Nat
def tw11167750952763377517:=Nat
def tw14102587652247788712:=Nat
def tw356471548391412707:=Nat
def tw6993895741157227410:=Nat
def tw7657724289078607305:=Nat
def tw8254880371063912283:=Nat
def tw5641717135003219462:=Nat
def tw11225797260554053400:=Nat
def tw10202909136490993485:=Nat
def tw7195352547665072585:=Nat
def tw12794784455480269607:=Nat
def tw11950660775617286548:=Nat
def tw18076858400610065968:=Nat
def tw13455357082565347438:=Nat
def tw225026882334035204:=Nat
def tw8560648936221372943:=Nat
def tw10713244622644683822:=Nat
def tw12954997398913033663:=Nat
def tw16946156427331513973:=Nat
def tw4384559245049899159:=Nat
def tw11647795136541557660:=Nat
def tw12984631045090461739:=Nat
def tw8483969353024349734:=Nat
def tw18112901087195322802:=Nat
def tw16998897890943261557:=Nat
def tw15752693169844854750:=Nat
def tw16999178672941254063:=Nat
def tw11612834486137090194:=Nat
def tw13837291194221063397:=Nat
def tw4829336516905722783:=Nat
def tw7116169959051112083:=Nat
def tw150129493904917108:=Nat
def tw1692907506769620493:=Nat
def tw6773692821824576131:=Nat
def tw13835389874570507636:=Nat
def tw5607471781900005507:=Nat
def tw7134525237011133796:=Nat
def tw5353408635944432317:=Nat
def tw2466685412215016620:=Nat
def tw10252716029117489120:=Nat
def tw7418223457221866216:=Nat
def tw12080830355195014000:=Nat
def tw6403822792161405159:=Nat
def tw2710740914019826098:=Nat
def tw2621663004484659404:=Nat
def tw18211096491496640011:=Nat
def tw13430634711240375773:=Nat
def tw15912973144640497850:=Nat
def tw335303454116200996:=Nat
def tw2665169325939819783:=Nat
def tw7692137769646050069:=Nat
def tw11414992461560236643:=Nat
def tw17339923936863300038:=Nat
def tw11683272599535994510:=Nat
def tw14277407374419216946:=Nat
def tw11780726217438072337:=Nat
def tw16446197198179798230:=Nat
def tw11115779728843844523:=Nat
def tw1435737763456915999:=Nat
def tw8267088837009054112:=Nat
def tw2992960919169700660:=Nat
def tw4266787067445832158:=Nat
def tw4924360630573219520:=Nat
def tw6805820510003812712:=Nat
def tw15544725114750018514:=Nat
def tw4485972375206048923:=Nat
def tw495799769870479692:=Nat
def tw5181576401045205640:=Nat
def tw14860266792295745774:=Nat
def tw11250400686846458788:=Nat
def tw7988535925988088136:=Nat
def tw11731283143451754478:=Nat
def tw9430815881952903216:=Nat
def tw10818498296221983391:=Nat
def tw12162898380140837091:=Nat
def tw4130477836527746524:=Nat
def tw5131325209783371495:=Nat
def tw17898873902330810660:=Nat
def tw9556025269008727033:=Nat
def tw8005583131370664664:=Nat
def tw9236688677968991390:=Nat
def tw6588989903778233636:=Nat
def tw11773805977808394561:=Nat
def tw12974145325251371736:=Nat
def tw9073169532878443078:=Nat
def tw9994133906946889823:=Nat
def tw1408562462464337671:=Nat
def tw11399893669409925868:=Nat
def tw8328320687038573014:=Nat
def tw12134801080461759438:=Nat
def tw18354197867243074985:=Nat
def tw9627676026109996413:=Nat
def tw759197871960313239:=Nat
def tw8186845352695224603:=Nat
def tw16365552726364057619:=Nat
def tw16300681149954824721:=Nat
def tw11620642961547209271:=Nat
def tw4441621084915914487:=Nat
def tw16995074397017513270:=Nat
def tw13143564114734465623:=Nat
end PySem.W.Fast
local macro_rules
 | `(tactic|fail "V1")=>`(tactic|first | exact Or.inl rfl | exact Or.inr (Or.inl rfl) | exact Or.inr (Or.inr rfl))
 | `(tactic|fail "V2")=>`(tactic|first | exact .inl rfl | exact .inr rfl | assumption)
 | `(tactic|fail "V3")=>`(tactic|(intro _;rfl))
 | `(tactic|fail "V4")=>`(tactic|(intro _ _;rfl))
 | `(tactic|fail "V5")=>`(tactic|exact fun _ h=>h)
abbrev aA:=@if_pos
abbrev aB:=@List.length_range
abbrev aC:=@List.length_map
abbrev aD:=@if_neg
abbrev aE:=@List.mem_cons_of_mem
abbrev aF:=@List.mem_cons
abbrev aG:=@decide_eq_true
abbrev aH:=@Bool.and_eq_true
abbrev aI:=@of_decide_eq_true
abbrev aJ:=@List.lookup_cons
abbrev aK:=@PySem.Heap.get?_push_of_some
abbrev aL:=@List.mem_cons_self
abbrev aM:=@List.getElem?_map
abbrev aN:=@PySem.wpAny_bind
abbrev aO:=@PySem.Heap.lt_size
abbrev aP:=@Nat.le_refl
abbrev aQ:=@decide_eq_false
abbrev aR:=@List.length_cons
abbrev aS:=@List.getElem?_eq_getElem
abbrev aT:=@List.not_mem_nil
abbrev aU:=@List.getElem?_eq_some_iff
abbrev aV:=@List.mem_range
abbrev aW:=@List.size_toArray
abbrev aX:=@List.mem_map
abbrev aY:=@PySem.wpAny_pure
abbrev aZ:=@List.mem_append_right
abbrev aa:=@Nat.lt_of_lt_of_le
abbrev ae:=@List.length_append
abbrev af:=@Nat.ne_of_lt
abbrev ag:=@PySem.Heap.get?_push_size
abbrev ah:=@List.length_set
abbrev ai:=@Option.some.inj
abbrev aj:=@List.append_nil
abbrev ak:=@Nat.mod_lt
abbrev ao:=@List.getElem?_range
abbrev aq:=@Nat.le_trans
abbrev au:=@List.map_cons
abbrev av:=@Nat.zero_le
abbrev ax:=@List.map_map
abbrev ay:=@PySem.PassesOwn.never
abbrev az:=@List.getElem?_cons_zero
abbrev b6:=@or_false
abbrev b8:=@Bool.false_ne_true
abbrev b9:=@List.find?_cons
abbrev bA:=@List.map_append
abbrev bB:=@PySem.wpAny_mono
abbrev bC:=@List.getElem?_cons_succ
abbrev bD:=@beq_self_eq_true
abbrev bE:=@List.getElem?_set
abbrev bF:=@List.length_take
abbrev bG:=@Nat.lt_irrefl
abbrev bH:=@Option.isSome_iff_exists
abbrev bI:=@PySem.F.called_set
abbrev bJ:=@List.all_cons
abbrev bK:=@PyProof.Rows.callWith_type1
abbrev bL:=@List.replicate_succ
abbrev bM:=@List.all_eq_true
abbrev bN:=@List.mem_append_left
abbrev bO:=@List.range_succ
abbrev bP:=@PySem.wpAny_truthy_bool
abbrev bQ:=@PySem.F.plainAttrs_list
abbrev bR:=@PySem.mem_of_lookup
abbrev bS:=@List.mem_filterMap
abbrev bT:=@PySem.wpAny_Call_Name_kw
abbrev bU:=@PyProof.Rows.F.plain_set_update_loop
abbrev bV:=@Ne.symm
abbrev bW:=@List.mem_append
abbrev bX:=@List.nodup_cons
abbrev bY:=@List.lookup_cons_self
abbrev bZ:=@Nat.le_of_ble_eq_true
abbrev ba:=@List.getD_eq_getElem?_getD
abbrev bb:=@List.flatten_cons
abbrev bc:=@beq_iff_eq
abbrev bf:=@PySem.Heap.size_push
abbrev bg:=@congrArg
abbrev bj:=@Option.getD_some
abbrev bo:=@List.getElem_mem
abbrev bp:=@beq_eq_false_iff_ne
abbrev bq:=@List.getElem?_replicate
abbrev br:=@PySem.wpAny_getItem_str_slice
abbrev bt:=@List.any_cons
abbrev bw:=@List.length_nil
abbrev bx:=@List.mem_singleton
abbrev bz:=@PySem.SeqAt.canLay_of_shaped
abbrev c7:=@List.take_of_length_le
abbrev c8:=@Nat.lt_succ_of_lt
abbrev c9:=@decide_eq_true_eq
abbrev cA:=@List.length_singleton
abbrev cB:=@Nat.zero_add
abbrev cC:=@List.getElem?_set_ne
abbrev cD:=@List.mem_of_getElem?
abbrev cE:=@List.length_drop
abbrev cF:=@PySem.wpAny_holding
abbrev cG:=@Sum.inr.inj
abbrev cH:=@List.filterMap_cons
abbrev cI:=@PySem.wpAny_passesOwn
abbrev cJ:=@List.of_mem_zip
abbrev cK:=@List.getElem?_append_left
abbrev cL:=@Nat.ne_of_gt
abbrev cM:=@PySem.codeAny_mono
abbrev cN:=@PySem.F.slot_list_append
abbrev cO:=@PySem.F.type_list_append
abbrev cP:=@Int.zero_add
abbrev cQ:=@if_true
abbrev cR:=@decide_eq_false_iff_not
abbrev cS:=@PySem.wpAny_pyIter_list
abbrev cT:=@Nat.le_of_succ_le
abbrev cU:=@Bool.not_eq_true'
abbrev cV:=@Bool.and_true
abbrev cW:=@Nat.lt_succ_self
abbrev cX:=@List.drop_length
abbrev cY:=@List.any_eq_true
abbrev cZ:=@List.cons_append
set_option Elab.async false
set_option linter.all false
set_option maxRecDepth 100000
theorem oi{a b:Prop}(h:a):a∨b:=Or.inl h
theorem dk{p:Prop}(h:p:=by decide +kernel):p:=h
noncomputable section
namespace L2
open PySem PySem.Spec PyProof.Rows
abbrev Key:=Sum Int Str
noncomputable def keyIs:Key->Value->Bool
 | .inl k,v=>Value.isInt k v
 | .inr x,v=>Value.isStrOf x v
noncomputable def keyH(w:World):Key->Int
 | .inl k=>hashInt k
 | .inr x=>hashStr w x
theorem QaC:∀{k:Key}{v:Value},keyIs k v=true->(∃ i t,k=Sum.inl i/\v=Value.int i t)∨(∃ x t,k=Sum.inr x/\v=Value.str x t)
 | .inl i,v,h=>by
  obtain⟨t,e⟩:=Value.isInt_shape h
  exact .inl ⟨i,t,rfl,e⟩
 | .inr x,v,h=>by
  obtain⟨t,e⟩:=Value.isStrOf_shape h
  exact .inr ⟨x,t,rfl,e⟩
theorem QsJ(i:Int)(t:Tok):keyIs (.inl i) (.int i t)=true:=by simp[keyIs,Value.isInt]
theorem QsX(x:Str)(t:Tok):keyIs (.inr x) (.str x t)=true:=by simp[keyIs,Value.isStrOf]
theorem Qxo(a b:Int):decide ((Sum.inl a:Key)=Sum.inl b)=(a == b):=by
 by_cases e:a=b
 ·subst e;simp
 ·have h:¬ (Sum.inl a:Key)=Sum.inl b:=fun q=>e (Sum.inl.inj q)
  rw[aQ h]
  exact(bp.mpr e).symm
theorem Qxb(a b:Str):decide ((Sum.inr a:Key)=Sum.inr b)=decide (a=b):=by
 by_cases e:a=b
 ·subst e;simp
 ·have h:¬ (Sum.inr a:Key)=Sum.inr b:=fun q=>e (cG q)
  rw[aQ h,aQ e]
theorem Qxk(a:Int)(b:Str):decide ((Sum.inl a:Key)=Sum.inr b)=false:=aQ (fun q=>nomatch q)
theorem Qxd(a:Str)(b:Int):decide ((Sum.inr a:Key)=Sum.inl b)=false:=aQ (fun q=>nomatch q)
def Qaz(prog:Program)(w:World):PySem.KeyKind prog w Key where
 is:=keyIs
 hash:=keyH w
 inj:=fun v a b ha hb=>by
  rcases QaC ha with⟨i,t,rfl,rfl⟩ | ⟨x,t,rfl,rfl⟩
  ·rcases QaC hb with⟨j,u,rfl,e⟩ | ⟨y,u,rfl,e⟩
   ·injection e with e1 _;rw[e1]
   ·exact nomatch e
  ·rcases QaC hb with⟨j,u,rfl,e⟩ | ⟨y,u,rfl,e⟩
   ·exact nomatch e
   ·injection e with e1 _;rw[e1]
 byValue:=fun k v h=>by
  rcases QaC h with⟨i,t,rfl,rfl⟩ | ⟨x,t,rfl,rfl⟩<;>rfl
 pyHash:=fun hv h=>by
  rcases QaC hv with⟨i,t,rfl,rfl⟩ | ⟨x,t,rfl,rfl⟩
  ·exact wpAny_pyHash_int h
  ·exact wpAny_pyHash_str h
 eqBool:=fun hu hv h=>by
  rcases QaC hu with⟨i,t,rfl,rfl⟩ | ⟨x,t,rfl,rfl⟩
  ·rcases QaC hv with⟨j,u,rfl,rfl⟩ | ⟨y,u,rfl,rfl⟩
   ·rw[Qxo]at h;exact wpAny_eqBool_int h
   ·rw[Qxk]at h;exact SeqAt.EqAt.int_str i t y u _ _ _ _ h
  ·rcases QaC hv with⟨j,u,rfl,rfl⟩ | ⟨y,u,rfl,rfl⟩
   ·rw[Qxd]at h;exact SeqAt.EqAt.str_int x t j u _ _ _ _ h
   ·rw[Qxb]at h;exact wpAny_eqBool_str h
 «strs»:=fun k x t v h=>by
  rcases QaC h with⟨i,u,rfl,e⟩ | ⟨y,u,rfl,e⟩
  ·exact nomatch e
  ·injection e with e1 _
   subst e1
   cases v<;>rfl
theorem Qqf(prog:Program)(w:World)(i:Int)(t:Tok):(Qaz prog w).is (.inl i) (.int i t)=true:=QsJ i t
theorem Qpz(prog:Program)(w:World)(x:Str)(t:Tok):(Qaz prog w).is (.inr x) (.str x t)=true:=QsX x t
end L2
namespace L2
open PySem PySem.Spec PyProof.Rows
inductive V where
 | non | bl (b:Bool) | int (i:Int) | str (x:Str) | byt (b:Array UInt8) | flt (b:UInt64) | ref (a:Addr) | ty (n:String)
 deriving DecidableEq
def RelV:V->Value->Prop
 | .non,u=>u=Value.none
 | .bl b,u=>u=Value.bool b
 | .int i,u=>∃ t,u=Value.int i t
 | .str x,u=>∃ t,u=Value.str x t
 | .byt b,u=>∃ t,u=Value.bytes b t
 | .flt b,u=>∃ t,u=Value.float b t
 | .ref a,u=>u=Value.ref a
 | .ty n,u=>u=Value.type n
abbrev Vals:List V->List Value->Prop:=Paired RelV
theorem Vals.length{xs:List V}{us:List Value}(r:Vals xs us):xs.length=us.length:=Paired.length r
theorem Vals.get:∀{xs:List V}{us:List Value}{i:Nat}{x:V},Vals xs us->xs[i]?=some x->∃ u,us[i]?=some u/\RelV x u
 | _,_,_,_,.nil,e=>by simp at e
 | _,_,0,_,.cons r _,e=>by simp at e;subst e;exact⟨_,rfl,r⟩
 | _,_,i+1,x,.cons _ t,e=>by
  obtain⟨u,h1,h2⟩:=Vals.get (i:=i) (x:=x) t (by simpa using e)
  exact⟨u,by simpa using h1,h2⟩
theorem Vals.set(r:RelV x u):∀{xs:List V}{us:List Value}(i:Nat),Vals xs us->Vals (xs.set i x) (us.set i u)
 | _,_,_,.nil=>.nil
 | _,_,0,.cons _ t=>.cons r t
 | _,_,i+1,.cons q t=>.cons q (Vals.set r i t)
theorem Vals.append:∀{xs ys:List V}{us ws:List Value},Vals xs us->Vals ys ws->Vals (xs++ys) (us++ws)
 | _,_,_,_,.nil,s=>s
 | _,_,_,_,.cons r t,s=>.cons r (Vals.append t s)
theorem Vals.take:∀{xs:List V}{us:List Value}(n:Nat),Vals xs us->Vals (xs.take n) (us.take n)
 | _,_,0,_=>.nil
 | _,_,_+1,.nil=>.nil
 | _,_,n+1,.cons r t=>.cons r (Vals.take n t)
theorem Vals.drop:∀{xs:List V}{us:List Value}(n:Nat),Vals xs us->Vals (xs.drop n) (us.drop n)
 | _,_,0,r=>r
 | _,_,_+1,.nil=>.nil
 | _,_,n+1,.cons _ t=>Vals.drop n t
def RelO:Option V->Option Value->Prop
 | some v,some u=>RelV v u
 | none,none=>True
 | _,_=>False
def KV{κ:Type}:List (κ×V)->List (κ×Value)->Prop:=Paired fun(p:κ×V) (q:κ×Value)=>p.1=q.1/\RelV p.2 q.2
noncomputable def kV:Key->V
 | .inl i=>.int i
 | .inr x=>.str x
inductive HO where
 | lst (xs:List V)
 | tup (xs:List V)
 | dK (kvs:List (Key×V)) | dT (kvs:List (List Key×V))
 | set (S:Int->Bool) (n:Nat)
 | ins (C dx:Addr) (fs:List (Str×V))
 | own (x:Addr)
 | xd (fs:List (Str×V))
 | met (f x:Addr)
 | rng (lo hi:Int)
 | frz (o:Obj) (u:HO)
 | tbl (ps:Array Value)
 | ext (φ : Heap->Prop)
abbrev Hp:=Addr->Option HO
noncomputable def upd(H:Hp)(a:Addr)(o:HO):Hp:=fun b=>if b=a then some o else H b
theorem Qq:upd H a o a=some o:=by unfold upd;rw[aA rfl]
theorem Qi{H:Hp}{a b:Addr}{o:HO}(h:b≠a):upd H a o b=H b:=by unfold upd;rw[aD h]
theorem Qv6:upd (upd H a o) a u=upd H a u:=by
 funext b;unfold upd;split<;>rfl
theorem ne_of{H:Hp}(h:H a=some o)(h':H b=some u)(d:o≠u):a≠b:=by
 intro e;subst e;rw[h]at h';exact d (ai h')
theorem QH{H:Hp}{a b:Addr}{o:HO}(h:H a=some o)(h':H b=none):a≠b:=by
 intro e;subst e;rw[h]at h';cases h'
section
variable(P:Program)(w:World)
def ObjOk(H:Hp)(h:Heap)(a:Addr):HO->Prop
 | .lst xs=>xs.length<=sizeLine/\∃(its:List Value)(n:Nat),Vals xs its/\h.get? a=some { cls:=.type "list",data:=.seq its.toArray n }
 | .tup xs=>xs.length<=sizeLine/\∃ its:List Value,Vals xs its/\IsTup h a its.toArray
 | .dK kvs=>kvs.length<=sizeLine/\(a == sysModules)=false/\∃ vs,KV kvs vs/\h.DictOf (Qaz P w) a vs
 | .dT kvs=>kvs.length<=sizeLine/\(a == sysModules)=false/\∃ xs:List (List Key×Addr×Value),
  Paired (fun(p:List Key×V) (q:List Key×Addr×Value)=>p.1=q.1/\H q.2.1=some (.tup (p.1.map kV))/\RelV p.2 q.2.2) kvs xs/\
  ∃ o es ep,h.get? a=some o/\o.ExactDict/\o.data=.dict es ep/\es.toList=xs.map (entryOfKey (tupleKind (Qaz P w)))/\(xs.map (·.1)).Nodup
 | .set S n=>h.SetOf (intKind P w) a S n
 | .ins C dx fs=>H dx=some (.own a)/\fs.length<=1000/\dx≠a/\h.get? a=some (PySem.W.instObj C dx)/\
  ∃ mA,h.Ns1 dx mA/\(∀ f,RelO (fs.lookup f) (mA f))/\PySem.Within mA (fs.map (·.1))
 | .own _=>∃ o,h.get? a=some o
 | .xd fs=>∃ mA,h.Ns1 a mA/\∀ f,RelO (fs.lookup f) (mA f)
 | .rng lo hi=>∃ t u v,h.get? a=some { cls:=.type "range",data:=.fields #[.int lo t,.int hi u,.int 1 v] }
 | .frz o u=>h.get? a=some o/\ObjOk H h a u
 | .tbl ps=>h.get? a=some { cls:=.none,data:=.fields ps }
 | .met f x=>h.get? a=some (PySem.W.methodObj (.ref f) (.ref x))
 | .ext φ => φ h/\(∃ o,h.get? a=some o)/\∀ h1 h2:Heap, φ h1->(∀ o,h1.get? a=some o->h2.get? a=some o) -> φ h2
def HOk(H:Hp)(h:Heap):Prop:=∀ a o,H a=some o->ObjOk P w H h a o
end
section
theorem ObjOk.lt(x:ObjOk P w H h a o):a<h.objs.size:=by
 cases o with
 | lst xs=>obtain⟨_,_,_,_,e⟩:=x;exact aO e
 | tup xs=>obtain⟨_,_,_,p⟩:=x;exact p.lt
 | dK kvs=>obtain⟨_,_,_,_,o,_,_,e,_⟩:=x;exact aO e
 | dT kvs=>obtain⟨_,_,_,_,o,_,_,e,_⟩:=x;exact aO e
 | set S n=>obtain⟨o,_,_,_,e,_⟩:=x;exact aO e
 | ins C dx fs=>obtain⟨_,_,_,e,_⟩:=x;exact aO e
 | own y=>obtain⟨_,e⟩:=x;exact aO e
 | xd fs=>obtain⟨_,⟨_,_,_,e,_⟩,_⟩:=x;exact aO e
 | rng lo hi=>obtain⟨_,_,_,e⟩:=x;exact aO e
 | frz ob u=>obtain⟨e,_⟩:=x;exact aO e
 | tbl ps=>exact aO (show h.get? a=some _ from x)
 | met f y=>exact aO (show h.get? a=some _ from x)
 | ext φ => obtain⟨_,⟨_,e⟩,_⟩:=x;exact aO e
theorem Paired.mapP:∀{l₁:List α}{l₂ : List β},Paired F l₁ l₂ -> (∀ a b,F a b->G a b)->Paired G l₁ l₂
 | _,_,.nil,_=>.nil
 | _,_,.cons r t,f=>.cons (f _ _ r) (Paired.mapP t f)
theorem ObjOk.stay(x:ObjOk P w H h a o)(k:∀ b u,(b=a∨H b=some (.own a))->h.get? b=some u->h'.get? b=some u)
 (ho:∀ b,H b=some (.own a)->H' b=some (.own a)) (ht:∀ b xs,H b=some (.tup xs)->H' b=some (.tup xs)):ObjOk P w H' h' a o:=by
 induction o with
 | lst xs=>obtain⟨z,its,n,r,e⟩:=x;exact⟨z,its,n,r,k _ _ (.inl rfl) e⟩
 | tup xs=>obtain⟨z,its,r,ob,e,c⟩:=x;exact⟨z,its,r,ob,k _ _ (.inl rfl) e,c⟩
 | dK kvs=>obtain⟨z,y,vs,r,ob,es,ep,e,c⟩:=x;exact⟨z,y,vs,r,ob,es,ep,k _ _ (.inl rfl) e,c⟩
 | dT kvs=>
  obtain⟨z,y,xs,r,ob,es,ep,e,c⟩:=x
  exact⟨z,y,xs,Paired.mapP r fun p q z=>⟨z.1,ht _ _ z.2.1,z.2.2⟩,ob,es,ep,k _ _ (.inl rfl) e,c⟩
 | set S n=>obtain⟨ob,es,ep,t,e,c⟩:=x;exact⟨ob,es,ep,t,k _ _ (.inl rfl) e,c⟩
 | ins C dx fs=>
  obtain⟨d,z,ne,e,mA,⟨od,es,ep,e2,c⟩,r⟩:=x
  exact⟨ho _ d,z,ne,k _ _ (.inl rfl) e,mA,⟨od,es,ep,k _ _ (.inr d) e2,c⟩,r⟩
 | own y=>obtain⟨ob,e⟩:=x;exact⟨ob,k _ _ (.inl rfl) e⟩
 | xd fs=>obtain⟨mA,⟨od,es,ep,e,c⟩,r⟩:=x;exact⟨mA,⟨od,es,ep,k _ _ (.inl rfl) e,c⟩,r⟩
 | rng lo hi=>obtain⟨t,u,v,e⟩:=x;exact⟨t,u,v,k _ _ (.inl rfl) e⟩
 | frz ob u ih=>obtain⟨e,q⟩:=x;exact⟨k _ _ (.inl rfl) e,ih q⟩
 | tbl ps=>
  have e:=x
  exact k a _ (.inl rfl) e
 | met f y=>
  have e:=x
  exact k a _ (.inl rfl) e
 | ext φ => obtain⟨p,⟨o,e⟩,st⟩:=x;exact⟨st _ _ p fun o q=>k _ _ (.inl rfl) q,⟨o,k _ _ (.inl rfl) e⟩,st⟩
theorem HOk.lt(x:HOk P w H h)(e:H a=some o):a<h.objs.size:=(x a o e).lt
theorem HOk.fresh(x:HOk P w H h)(e:h.objs.size<=a):H a=none:=by
 cases q:H a with
 | none=>rfl
 | some u=>exact absurd (aa (x.lt q) e) (bG _)
theorem HOk.kept(x:HOk P w H h)(k:∀ b u,h.get? b=some u->h'.get? b=some u):HOk P w H h':=fun a o e=>
 (x a o e).stay (fun b u _ q=>k b u q) (fun _ q=>q) fun _ _ q=>q
theorem HOk.laid(x:HOk P w H h)(k:∀ b u,h.get? b=some u->h'.get? b=some u)(hp:h.objs.size<=a)(new:ObjOk P w (upd H a o) h' a o):HOk P w (upd H a o) h':=fun b u e=>by
 have hn:=x.fresh hp
 by_cases hb:b=a
 ·subst hb;rw[Qq]at e;cases e;exact new
 ·rw[Qi hb]at e
  exact(x b u e).stay (fun c v _ q=>k c v q) (fun c q=>by rw[Qi (QH q hn)];exact q) fun c xs q=>by rw[Qi (QH q hn)];exact q
end
def Rd(H:Hp)(a:Addr)(u:HO):Prop:=H a=some u∨∃ o,H a=some (.frz o u)
theorem Rd.of{H:Hp}{a:Addr}{u:HO}(h:H a=some u):Rd H a u:=.inl h
theorem Rd.ok{P:Program}{w:World}{H:Hp}{h:Heap}{a:Addr}{u:HO}(r:Rd H a u)(x:HOk P w H h):ObjOk P w H h a u:=by
 rcases r with r | ⟨o,r⟩
 ·exact x a u r
 ·obtain⟨_,q⟩:=x a _ r
  exact q
def Mut:Option HO->Prop
 | some (.lst _)=>True
 | some (.dK _)=>True
 | some (.dT _)=>True
 | some (.set _ _)=>True
 | some (.ins _ _ _)=>True
 | some (.ext _)=>True
 | _=>False
section
theorem HOk.write(ok:HOk P w H h)(mu:Mut (H x))(he:e=x∨H e=some (.own x))(k:∀ b u,b≠e->h.get? b=some u->h'.get? b=some u)(heo:∃ u,h'.get? e=some u)
 (new:ObjOk P w (upd H x o') h' x o'):HOk P w (upd H x o') h':=fun b u q=>by
 have nown:∀ c y,H c=some (.own y)->c≠x:=fun c y r z=>by subst z;rw[r]at mu;exact mu
 have ntup:∀ c xs,H c=some (.tup xs)->c≠x:=fun c xs r z=>by subst z;rw[r]at mu;exact mu
 by_cases hb:b=x
 ·subst hb;rw[Qq]at q;cases q;exact new
 ·rw[Qi hb]at q
  by_cases hbe:b=e
  ·have q':H b=some (.own x):=by
    rcases he with z | z
    ·exact absurd (hbe.trans z) hb
    ·rw[hbe];exact z
   rw[q]at q';cases q'
   obtain⟨v,hv⟩:=heo
   exact⟨v,by rw[hbe];exact hv⟩
  ·refine(ok b u q).stay (fun c v hc r=>k c v ?_ r) (fun c r=>by rw[Qi (nown c b r)];exact r) fun c xs r=>by rw[Qi (ntup c xs r)];exact r
   rcases hc with rfl | hc
   ·exact hbe
   ·rintro rfl
    rcases he with z | z
    ·exact nown c b hc z
    ·rw[hc]at z;cases z;exact hb rfl
end
structure Un(fs ex:List Addr)(H H':Hp)(h h':Heap):Prop where
 keep:∀ b o,h.get? b=some o->H b=none->b∉fs->b∉ex->h'.get? b=some o
 slot:∀ b o,h.get? b=some o->H b=none->b∈fs->b∉ex->∃ sl,h'.get? b=some { o with slots:=sl }
 free:∀ b o,h.get? b=some o->H b=none->b∉ex->H' b=none
 there:∀ b o,h.get? b=some o->b∉ex->∃ o',h'.get? b=some o'
 tups:∀ b xs,H b=some (.tup xs)->H' b=some (.tup xs)
 frzs:∀ b o u,H b=some (.frz o u)->H' b=some (.frz o u)
 tbls:∀ b ps,H b=some (.tbl ps)->∃ more,H' b=some (.tbl (ps++more))
section
theorem Un.any(u:Un fs ex H H1 h h1){b:Addr}{ob:Obj}(q:h.get? b=some ob)(n:H b=none)(hx:b∉ex):∃ sl,h1.get? b=some { ob with slots:=sl }:=by
 by_cases hb:b∈fs
 ·exact u.slot b ob q n hb hx
 ·exact⟨ob.slots,u.keep b ob q n hb hx⟩
theorem Un.trans(a:Un fs ex H H1 h h1)(b:Un fs ex H1 H2 h1 h2):Un fs ex H H2 h h2 where
 keep:=fun c ob q n hc hx=>b.keep c ob (a.keep c ob q n hc hx) (a.free c ob q n hx) hc hx
 slot:=fun c ob q n hc hx=>by
  obtain⟨sl,e1⟩:=a.slot c ob q n hc hx
  obtain⟨sl',e2⟩:=b.slot c _ e1 (a.free c ob q n hx) hc hx
  exact⟨sl',e2⟩
 free:=fun c ob q n hx=>by
  obtain⟨o',e1⟩:=a.there c ob q hx
  exact b.free c o' e1 (a.free c ob q n hx) hx
 there:=fun c ob q hx=>by
  obtain⟨o',e1⟩:=a.there c ob q hx
  exact b.there c o' e1 hx
 tups:=fun c xs q=>b.tups c xs (a.tups c xs q)
 frzs:=fun c ob xs q=>b.frzs c ob xs (a.frzs c ob xs q)
 tbls:=fun c ps q=>by
  obtain⟨m1,e1⟩:=a.tbls c ps q
  obtain⟨m2,e2⟩:=b.tbls c _ e1
  exact⟨m1++m2,by rw[e2,Array.append_assoc]⟩
theorem Un.kept(k:∀ b u,h.get? b=some u->h'.get? b=some u):Un fs ex H H h h':=
 ⟨fun b ob q _ _ _=>k b ob q,fun b ob q _ _ _=>⟨ob.slots,k b ob q⟩,fun _ _ _ n _=>n,fun b ob q _=>⟨ob,k b ob q⟩,fun _ _ q=>q,fun _ _ _ q=>q,fun _ ps q=>⟨#[],by rw[q];simp⟩⟩
theorem Un.refl:Un fs ex H H h h:=Un.kept fun _ _ q=>q
theorem Un.laid(k:∀ b u,h.get? b=some u->h'.get? b=some u)(hp:h.objs.size<=a)(hn:H a=none):Un fs ex H (upd H a o) h h' where
 keep:=fun b u q _ _ _=>k b u q
 slot:=fun b u q _ _ _=>⟨u.slots,k b u q⟩
 free:=fun b u q n _=>by rw[Qi (af (aa (aO q) hp))];exact n
 there:=fun b u q _=>⟨u,k b u q⟩
 tups:=fun b xs q=>by rw[Qi (QH q hn)];exact q
 frzs:=fun b u xs q=>by rw[Qi (QH q hn)];exact q
 tbls:=fun b ps q=>⟨#[],by rw[Qi (QH q hn),q];simp⟩
theorem Un.write(mu:Mut (H x))(he:e=x∨H e=some (.own x))(k:∀ b u,b≠e->h.get? b=some u->h'.get? b=some u)(heo:∃ u,h'.get? e=some u):Un fs ex H (upd H x o) h h':=by
 have hx:∀ b,H b=none->b≠x:=fun b n z=>by subst z;rw[n]at mu;exact mu
 have hb:∀ b,H b=none->b≠e:=fun b n z=>by
  subst z
  rcases he with r | r
  ·exact hx b n r
  ·rw[n]at r;cases r
 have hm:∀ b u,H b=some u->¬ Mut (some u)->b≠x:=fun b u q nm z=>by subst z;rw[q]at mu;exact nm mu
 refine⟨fun b u q n _ _=>k b u (hb b n) q,fun b u q n _ _=>⟨u.slots,k b u (hb b n) q⟩,fun b u q n _=>by rw[Qi (hx b n)];exact n,fun b u q _=>?_,
  fun b xs q=>by rw[Qi (hm b _ q fun z=>z)];exact q,fun b u xs q=>by rw[Qi (hm b _ q fun z=>z)];exact q,fun b ps q=>⟨#[],by rw[Qi (hm b _ q fun z=>z),q];simp⟩⟩
 by_cases hbe:b=e
 ·subst hbe;exact heo
 ·exact⟨u,k b u hbe q⟩
theorem Un.mono(u:Un fs ex H H1 h h1)(hs:∀ b∈fs,b∈fs')(hx:∀ b∈ex,b∈ex'):Un fs' ex' H H1 h h1:=
 ⟨fun b ob q n hb he=>u.keep b ob q n (fun z=>hb (hs b z)) fun z=>he (hx b z),fun _ _ q n _ he=>u.any q n fun z=>he (hx _ z),fun b ob q n he=>u.free b ob q n fun z=>he (hx b z),fun b ob q he=>u.there b ob q fun z=>he (hx b z),u.tups,u.frzs,u.tbls⟩
end
noncomputable def trk(h:Heap)(H:Hp):List Addr:=(List.range h.objs.size).filter fun a=>(H a).isSome
def hidT(h:Heap)(H:Hp):Heap:=PySem.W.hideAll h (trk h H)
theorem Qt6(h:Heap)(H:Hp):(hidT h H).objs.size=h.objs.size:=PySem.W.hideAll_size _ _
theorem Qu3{h:Heap}{H:Hp}{b:Addr}{o:Obj}(e:h.get? b=some o)(n:H b=none):(hidT h H).get? b=some o:=
 PySem.W.hideAll_get _ e fun hm=>by
  have q:(H b).isSome=true:=(List.mem_filter.mp hm).2
  rw[n]at q;simp at q
theorem QvP{h:Heap}{H:Hp}{b:Addr}{o:Obj}(e:(hidT h H).get? b=some o):h.get? b=some o/\H b=none:=by
 have e':h.get? b=some o:=PySem.W.of_hideAll (trk h H) e
 refine⟨e',?_⟩
 cases q:H b with
 | none=>rfl
 | some x=>
  have hm:b∈trk h H:=List.mem_filter.mpr ⟨aV.mpr (aO e'),by simp[q]⟩
  have z:(hidT h H).get? b=none:=PySem.W.hideAll_none (trk h H) hm
  rw[z]at e;cases e
noncomputable def Qv5(g h:Heap)(L:Addr):List (Addr×Obj):=(List.range h.objs.size).filterMap fun a=>if a=L∨(g.get? a).isSome=true then none else(h.get? a).map fun o=>(a,o)
def rest(g h:Heap)(L d:Addr):List (Addr×Obj):=(Qv5 g h L).filter fun p=>decide (p.1≠d)
end L2
namespace L2
open PySem PySem.Spec PyProof.Rows
structure Mod(K:PySem.W.Frag)(mg:Str->Option Value)(base:Heap):Prop where
 kin:K.In base
 glob:base.Ns mainGlobals mg
 blt:∃ mb,base.Ns builtinsNs mb/\∀ x:Str,x≠"__name__"->mb x=bootBuiltins x
 nolimit:base.NoLimit
structure Cx where
 prog:Program
 w:World
 K:PySem.W.Frag
 mg:Str->Option Value
 base:Heap
 A:Around
 N:List Str
 s₀:Shared
 H₀:Hp
 env:Env
 outer:List Env
 stack:List Env
 ex:List Addr
 fn:Str->Bool
 calm:Bool
 pn:List (Addr×Obj)
 xe:Value->Shared->Prop
noncomputable def frs(l:List Env):List Addr:=l.filterMap (·.frame)
abbrev Cx.fs(X:Cx):List Addr:=frs X.outer
def Vis(sc:Scope)(x:Str):Prop:=sc.names.lookup x=some .local∨sc.names.lookup x=some .cell∨sc.names.lookup x=some .free
def Loc(sc:Scope)(x:Str):Prop:=sc.names.lookup x=some .local∨sc.names.lookup x=some .cell
def Look(env:Env)(h:Heap)(m:Str->Option Value)(x:Str)(u:Value):Prop:=
 (env.kindOf x=some .local/\m x=some u)∨((env.kindOf x=some .cell∨env.kindOf x=some .free)/\∃ c,env.cells.lookup x=some c/\h.IsCell c (some u))
structure Cx.Ok(X:Cx):Prop where
 mod:Mod X.K X.mg X.base
 kind:X.env.scope.kind=.function
 glob:X.env.globals=mainGlobals
 blt:X.env.builtins=builtinsNs
 above:X.s₀.heap.objs.size<=X.env.locals
 inj:∀ x y c,X.env.cells.lookup x=some c->X.env.cells.lookup y=some c->x=y
 has:∀ x,(X.env.kindOf x=some .cell∨X.env.kindOf x=some .free)->∃ c,X.env.cells.lookup x=some c
 cab:∀ x c,X.fn x=true->X.env.cells.lookup x=some c->X.s₀.heap.objs.size<=c
 hd:X.calm=true->X.A.handled=none
 frames:X.A.frames=some X.stack
 stk:X.stack=X.outer∨(X.stack=X.env::X.outer/\X.env.frame=some X.env.locals)
 exf:∀ b∈X.ex,b≠X.env.locals/\∀ x c,X.env.cells.lookup x=some c->c≠b
 bs:∀ b o,X.base.get? b=some o->X.s₀.heap.get? b=some o/\X.H₀ b=none
 bsz:X.base.objs.size<=X.s₀.heap.objs.size
 noex:∀ b o,X.base.get? b=some o->b∉X.ex
 exfs:∀ b∈X.ex,b∉X.fs
 funs:X.s₀.heap.FunFrames X.base X.outer
 frf:∀ b∈X.fs,X.H₀ b=none
structure Inv(X:Cx)(pins:List (Addr×Obj))(σ:List (Option V))(H:Hp)(s:Shared):Prop where
 ok:X.Ok
 os:s.os=X.s₀.os
 bare:AllBare s.gens
 base:Un X.fs X.ex X.H₀ H X.s₀.heap s.heap
 loc:∃ m,s.heap.Ns X.env.locals m/\∀(i:Nat)(x:Str)(v:V),X.N[i]?=some x->σ[i]?=some (some v)->Vis X.env.scope x->∃ u,RelV v u/\Look X.env s.heap m x u
 cell:∀ x c,X.env.cells.lookup x=some c->∃ v,s.heap.IsCell c v
 free:H X.env.locals=none
 freeC:∀ x c,X.env.cells.lookup x=some c->H c=none
 pin:∀ p∈X.pn++pins,s.heap.get? p.1=some p.2/\H p.1=none/\p.1≠X.env.locals/\p.1∉X.fs/\∀ v,p.2.data≠.cell v
 hok:HOk X.prog X.w H s.heap
 len:σ.length=X.N.length
section
variable{X:Cx}
theorem Cx.Ok.nofr(ok:X.Ok)(e:X.base.get? b=some o):b∉X.fs:=fun hb=>by
 have:=(ok.funs.mem hb).1
 rw[e]at this;cases this
theorem Inv.bs(I:Inv X pins σ H s):∀ b o,X.base.get? b=some o->s.heap.get? b=some o/\H b=none:=fun b o e=>
 ⟨I.base.keep b o (I.ok.bs b o e).1 (I.ok.bs b o e).2 (I.ok.nofr e) (I.ok.noex b o e),I.base.free b o (I.ok.bs b o e).1 (I.ok.bs b o e).2 (I.ok.noex b o e)⟩
theorem Inv.bk(I:Inv X pins σ H s):∀ b o,X.base.get? b=some o->s.heap.get? b=some o:=fun b o e=>(I.bs b o e).1
theorem Inv.mod(I:Inv X pins σ H s):Mod X.K X.mg X.base:=I.ok.mod
theorem Inv.kIn(I:Inv X pins σ H s):X.K.In s.heap:=I.ok.mod.kin.keeps I.bk
theorem Inv.fr(I:Inv X pins σ H s):∃ m,Fr X.base X.env.locals s.heap m:=
 let ⟨m,hn,_⟩:=I.loc
 ⟨m,hn,I.bk,aq I.ok.bsz I.ok.above⟩
theorem Inv.lt(I:Inv X pins σ H s):X.env.locals<s.heap.objs.size:=let ⟨_,hn,_⟩:=I.loc;hn.lt
theorem Inv.sz(I:Inv X pins σ H s):X.s₀.heap.objs.size<=s.heap.objs.size:=aq I.ok.above (Nat.le_of_lt I.lt)
theorem Inv.nofs(I:Inv X pins σ H s)(h:s.heap.objs.size<=a):a∉X.fs:=fun hb=>by
 obtain⟨_,o,ho,_⟩:=I.ok.funs.mem hb
 exact absurd (aa (aO ho) (aq I.sz h)) (bG _)
theorem Inv.cne(I:Inv X pins σ H s):∀ x c,X.env.cells.lookup x=some c->c≠X.env.locals:=fun x c e z=>by
 obtain⟨v,o,ho,hd⟩:=I.cell x c e
 obtain⟨m,⟨o',es,ep,ho',hd',_⟩,_⟩:=I.loc
 rw[z,ho']at ho;cases ho;rw[hd']at hd;cases hd
theorem Inv.funs(I:Inv X pins σ H s):s.heap.FunFrames X.base X.outer:=by
 have all:∀ l,(∀ b∈frs l,b∈X.fs)->X.s₀.heap.FunFrames X.base l->s.heap.FunFrames X.base l:=by
  intro l
  induction l with
  | nil=>intro _ _;trivial
  | cons env r ih=>
   intro hs hl
   obtain⟨hk,⟨L,o,hf,hn,ho,hd⟩,hr⟩:=hl
   have hL:=hs L (by unfold frs;rw[cH,hf];exact aL)
   obtain⟨sl,e⟩:=I.base.slot L o ho (I.ok.frf L hL) hL fun z=>I.ok.exfs L z hL
   exact⟨hk,⟨L,_,hf,hn,e,hd⟩,ih (fun b hb=>hs b (by unfold frs;rw[cH,hf];exact aE _ hb)) hr⟩
 exact all X.outer (fun _ hb=>hb) I.ok.funs
theorem Inv.stack(I:Inv X pins σ H s):s.heap.FunFrames X.base X.stack:=by
 rcases I.ok.stk with e | ⟨e,hf⟩
 ·rw[e];exact I.funs
 ·rw[e]
  obtain⟨m,hn,_⟩:=I.loc
  refine .cons (by rw[I.ok.kind];decide) hf hn ?_ I.funs
  exact Heap.get?_none_of_le (aq I.ok.bsz I.ok.above)
theorem Inv.stkSub(I:Inv X pins σ H s):∀ b∈frs X.stack,b∈X.env.locals::X.fs:=fun b hb=>by
 rcases I.ok.stk with e | ⟨e,hf⟩
 ·rw[e]at hb;exact aE _ hb
 ·rw[e]at hb
  unfold frs at hb
  rw[cH,hf]at hb
  exact hb
theorem Inv.stkFree(I:Inv X pins σ H s):∀ b∈frs X.stack,H b=none:=fun b hb=>by
 rcases aF.mp (I.stkSub b hb) with e | hb
 ·rw[e];exact I.free
 ·obtain⟨_,o,ho,_⟩:=I.ok.funs.mem hb
  exact I.base.free b o ho (I.ok.frf b hb) fun z=>I.ok.exfs b z hb
theorem Inv.step{ch:List Addr}(I:Inv X pins σ H s)
 (hch:∀ b∈ch,(b∈X.ex∨X.s₀.heap.objs.size<=b)/\b≠X.env.locals/\(∀ x c,X.env.cells.lookup x=some c->c≠b)/\∀ p∈X.pn++pins,p.1≠b)
 (keep:∀ b o,b≠X.env.locals->b∉X.fs->b∉ch->s.heap.get? b=some o->H b=none->h'.get? b=some o)
 (slot:∀ b o,b≠X.env.locals->b∈X.fs->b∉ch->s.heap.get? b=some o->H b=none->∃ sl,h'.get? b=some { o with slots:=sl }) (free:∀ b o,b∉ch->s.heap.get? b=some o->H b=none->H' b=none)
 (there:∀ b o,b∉ch->s.heap.get? b=some o->∃ o',h'.get? b=some o')
 (tups:∀ b xs,H b=some (.tup xs)->H' b=some (.tup xs)) (frzs:∀ b o u,H b=some (.frz o u)->H' b=some (.frz o u)) (tbls:∀ b ps,H b=some (.tbl ps)->∃ more,H' b=some (.tbl (ps++more)))
 (ns:∀ m,s.heap.Ns X.env.locals m->h'.Ns X.env.locals m) (hok:HOk X.prog X.w H' h') (hg:AllBare g'):
 Inv X pins σ H' { s with heap:=h',gens:=g',drawn:=d',toks:=t' }:=by
 have neL:∀ b o,X.s₀.heap.get? b=some o->b≠X.env.locals:=fun b o e=>af (aa (aO e) I.ok.above)
 have neC:∀ b o,X.s₀.heap.get? b=some o->b∉X.ex->b∉ch:=fun b o e hx hb=>by
  rcases(hch b hb).1 with z | z
  ·exact hx z
  ·exact absurd (aa (aO e) z) (bG _)
 have cellK:∀ x c,X.env.cells.lookup x=some c->∀ v,s.heap.IsCell c v->h'.IsCell c v:=fun x c e v ⟨o,ho,hd⟩=>by
  have nch:=fun z=>(hch c z).2.2.1 x c e rfl
  by_cases hc:c∈X.fs
  ·obtain⟨sl,q⟩:=slot c o (I.cne x c e) hc nch ho (I.freeC x c e)
   exact⟨_,q,hd⟩
  ·exact⟨o,keep c o (I.cne x c e) hc nch ho (I.freeC x c e),hd⟩
 refine⟨I.ok,I.os,hg,⟨fun b o e n hb hx=>?_,fun b o e n hb hx=>?_,fun b o e n hx=>?_,fun b o e hx=>?_,fun b xs e=>tups b xs (I.base.tups b xs e),fun b o xs e=>frzs b o xs (I.base.frzs b o xs e),fun b ps e=>?_⟩,?_,fun x c e=>?_,?_,fun x c e=>?_,fun p hp=>?_,hok,I.len⟩
 ·exact keep b o (neL b o e) hb (neC b o e hx) (I.base.keep b o e n hb hx) (I.base.free b o e n hx)
 ·obtain⟨sl,e1⟩:=I.base.slot b o e n hb hx
  obtain⟨sl',e2⟩:=slot b _ (neL b o e) hb (neC b o e hx) e1 (I.base.free b o e n hx)
  exact⟨sl',e2⟩
 ·obtain⟨o',e1⟩:=I.base.there b o e hx
  exact free b o' (neC b o e hx) e1 (I.base.free b o e n hx)
 ·obtain⟨o',e1⟩:=I.base.there b o e hx
  exact there b o' (neC b o e hx) e1
 ·obtain⟨m1,e1⟩:=I.base.tbls b ps e
  obtain⟨m2,e2⟩:=tbls b _ e1
  exact⟨m1++m2,by rw[e2,Array.append_assoc]⟩
 ·obtain⟨m,hn,hl⟩:=I.loc
  refine⟨m,ns m hn,fun i x v e1 e2 e3=>?_⟩
  obtain⟨u,r,l⟩:=hl i x v e1 e2 e3
  refine⟨u,r,?_⟩
  rcases l with l | ⟨k,c,e,z⟩
  ·exact .inl l
  ·exact .inr ⟨k,c,e,cellK x c e _ z⟩
 ·obtain⟨v,z⟩:=I.cell x c e
  exact⟨v,cellK x c e v z⟩
 ·obtain⟨m,⟨o,_,_,ho,_⟩,_⟩:=I.loc
  exact free _ o (fun z=>(hch _ z).2.1 rfl) ho I.free
 ·obtain⟨v,o,ho,hd⟩:=I.cell x c e
  exact free c o (fun z=>(hch c z).2.2.1 x c e rfl) ho (I.freeC x c e)
 ·obtain⟨e,n,ne,nf,d⟩:=I.pin p hp
  have nch:=fun z=>(hch p.1 z).2.2.2 p hp rfl
  exact⟨keep p.1 p.2 ne nf nch e n,free p.1 p.2 nch e n,ne,nf,d⟩
theorem Inv.un{t':Nat}(I:Inv X pins σ H s)(u:Un X.fs [] H H' s.heap h')(hok:HOk X.prog X.w H' h'):Inv X pins σ H' { s with heap:=h',toks:=t' }:=by
 obtain⟨m,⟨o,es,ep,ho,r⟩,_⟩:=id I.loc
 obtain⟨sl,hL⟩:=u.any ho I.free (by simp)
 exact I.step (g':=s.gens) (d':=s.drawn) (ch:=[]) (fun _ z=>nomatch z) (fun b o _ hb _ e n=>u.keep b o e n hb (by simp)) (fun b o _ hb _ e n=>u.slot b o e n hb (by simp)) (fun b o _ e n=>u.free b o e n (by simp)) (fun b o _ e=>u.there b o e (by simp)) u.tups u.frzs u.tbls (fun m' hm=>by
  obtain⟨o',es',ep',ho',r'⟩:=hm
  rw[ho]at ho';cases ho'
  exact⟨_,es',ep',hL,r'⟩) hok I.bare
theorem Inv.call{g':Array GenState}{t':Nat}{d':Drawn}{ch:List Addr}(I:Inv X pins σ H s)(u:Un (frs X.stack) ch H H' s.heap h')(hok:HOk X.prog X.w H' h')(hg:AllBare g')
 (hch:∀ b∈ch,(b∈X.ex∨X.s₀.heap.objs.size<=b)/\b≠X.env.locals/\(∀ x c,X.env.cells.lookup x=some c->c≠b)/\∀ p∈X.pn++pins,p.1≠b):
 Inv X pins σ H' { s with heap:=h',gens:=g',drawn:=d',toks:=t' }:=by
 obtain⟨m,⟨o,es,ep,ho,r⟩,_⟩:=id I.loc
 obtain⟨sl,hL⟩:=u.any ho I.free fun z=>(hch _ z).2.1 rfl
 exact I.step (ch:=ch) hch (fun b o hL hb hc e n=>u.keep b o e n (fun z=>(aF.mp (I.stkSub b z)).elim hL hb) hc) (fun b o _ _ hc e n=>u.any e n hc) (fun b o hc e n=>u.free b o e n hc) (fun b o hc e=>u.there b o e hc) u.tups u.frzs u.tbls (fun m' hm=>by
  obtain⟨o',es',ep',ho',r'⟩:=hm
  rw[ho]at ho';cases ho'
  exact⟨_,es',ep',hL,r'⟩) hok hg
theorem Inv.turned{it:Addr}(I:Inv X pins σ H s)(k:∀ b o,b≠it->s.heap.get? b=some o->h'.get? b=some o)(hn:H it=none)(hL:it≠X.env.locals)
 (h1:it∈X.ex∨X.s₀.heap.objs.size<=it) (h2:∀ x c,X.env.cells.lookup x=some c->c≠it) (h3:∀ p∈X.pn++pins,p.1≠it):Inv X pins σ H { s with heap:=h',toks:=t' }:=by
 have nit:∀ b u,H b=some u->b≠it:=fun b u e z=>by rw[z,hn]at e;cases e
 refine I.step (ch:=[it]) (fun b hb=>?_) (fun b o _ _ hc e _=>k b o (fun z=>hc (by simp[z])) e) (fun b o _ _ hc e _=>⟨o.slots,k b o (fun z=>hc (by simp[z])) e⟩) (fun _ _ _ _ n=>n)
  (fun b o hc e=>⟨o,k b o (fun z=>hc (by simp[z])) e⟩) (fun _ _ e=>e) (fun _ _ _ e=>e) (fun b ps e=>⟨#[],by rw[e];simp⟩) (fun m hm=>?_) (fun b u e=>?_) I.bare
 ·have e:b=it:=by simpa using hb
  subst e
  exact⟨h1,hL,h2,h3⟩
 ·obtain⟨o,es,ep,ho,r⟩:=hm
  exact⟨o,es,ep,k _ o (bV hL) ho,r⟩
 ·refine(I.hok b u e).stay (fun c v hc q=>k c v ?_ q) (fun _ q=>q) fun _ _ q=>q
  rcases hc with z | z
  ·rw[z];exact nit b u e
  ·exact nit c _ z
theorem Inv.tok(I:Inv X pins σ H s)(t:Nat):Inv X pins σ H { s with toks:=t }:=I.un (h':=s.heap) (t':=t) Un.refl I.hok
theorem Inv.kept{t':Nat}(I:Inv X pins σ H s)(k:∀ b u,s.heap.get? b=some u->h'.get? b=some u):Inv X pins σ H { s with heap:=h',toks:=t' }:=I.un (Un.kept k) (I.hok.kept k)
theorem Inv.laid{a:Addr}{o:HO}{t':Nat}(I:Inv X pins σ H s)(k:∀ b u,s.heap.get? b=some u->h'.get? b=some u)(hp:s.heap.objs.size<=a)(new:ObjOk X.prog X.w (upd H a o) h' a o):
 Inv X pins σ (upd H a o) { s with heap:=h',toks:=t' }:=I.un (Un.laid k hp (I.hok.fresh hp)) (I.hok.laid k hp new)
theorem Inv.write{x e:Addr}{o:HO}{t':Nat}(I:Inv X pins σ H s)(mu:Mut (H x))(he:e=x∨H e=some (.own x))(k:∀ b u,b≠e->s.heap.get? b=some u->h'.get? b=some u)(heo:∃ u,h'.get? e=some u)
 (new:ObjOk X.prog X.w (upd H x o) h' x o):Inv X pins σ (upd H x o) { s with heap:=h',toks:=t' }:=I.un (Un.write mu he k heo) (I.hok.write mu he k heo new)
theorem Inv.pins_of(I:Inv X pins σ H s)(h:∀ p∈pins',s.heap.get? p.1=some p.2/\H p.1=none/\p.1≠X.env.locals/\p.1∉X.fs/\∀ v,p.2.data≠.cell v):Inv X pins' σ H s:=
 ⟨I.ok,I.os,I.bare,I.base,I.loc,I.cell,I.free,I.freeC,fun p hp=>(bW.mp hp).elim (fun z=>I.pin p (bN _ z)) (h p),I.hok,I.len⟩
theorem Qoz{N:List Str}(hN:N.Nodup){i j:Nat}(a:N[i]?=some x)(b:N[j]?=some x):i=j:=by
 obtain⟨h1,e1⟩:=aU.mp a
 obtain⟨h2,e2⟩:=aU.mp b
 exact(List.getElem_inj hN).mp (e1.trans e2.symm)
theorem Qmb{M:Model}(I:Inv X pins σ H s)(hN:X.N.Nodup)(hi:X.N[i]?=some x)(hx:Loc X.env.scope x)(r:RelV v u)
 (h:∀ s',Inv X pins (σ.set i (some v)) H s'->(∃ a,Heap.SameBut a s.heap s'.heap/\(a=X.env.locals∨X.env.cells.lookup x=some a))->Q () s') (hf:X.fn x=true∨X.env.scope.names.lookup x=some .local:=by fail"V2"):wpAny M A (storeName X.env x u) Q E s:=by
 obtain⟨m,hn,hl⟩:=id I.loc
 have hcls:(X.env.scope.kind == .class||(X.env.scope.kind == .module&&X.env.locals != X.env.globals))=false:=by rw[I.ok.kind];rfl
 have hiσ:i<σ.length:=by rw[I.len];exact(aU.mp hi).1
 have cne:=I.cne
 have tracked:∀{a:Addr}{h':Heap},(∃ o,s.heap.get? a=some o/\H a=none)->Heap.SameBut a s.heap h'->HOk X.prog X.w H h':=fun {a h'} ha hs b ob e=>by
  obtain⟨_,_,hfree⟩:=ha
  refine(I.hok b ob e).stay (fun c w' hc q=>(hs.2 c ?_).trans q) (fun _ q=>q) fun _ _ q=>q
  rintro rfl
  rcases hc with rfl | hc
  ·rw[hfree]at e;cases e
  ·rw[hfree]at hc;cases hc
 rcases hx with hk | hk
 ·refine wpAny_storeName_local hk hn (fun h' hn' hs=>?_) hcls
  obtain⟨oL,_,_,hoL,_⟩:=id hn
  refine h _ ⟨I.ok,I.os,I.bare,⟨fun b o e n hb hx=>?_,fun b o e n hb hx=>?_,I.base.free,fun b o e hx=>?_,I.base.tups,I.base.frzs,I.base.tbls⟩,⟨_,hn',fun j y v' e1 e2 e3=>?_⟩,fun y c e=>?_,I.free,I.freeC,fun p hp=>?_,tracked ⟨oL,hoL,I.free⟩ hs,by simpa using I.len⟩ ⟨_,hs,.inl rfl⟩
  ·exact(hs.2 b (af (aa (aO e) I.ok.above))).trans (I.base.keep b o e n hb hx)
  ·obtain⟨sl,e1⟩:=I.base.slot b o e n hb hx
   exact⟨sl,(hs.2 b (af (aa (aO e) I.ok.above))).trans e1⟩
  ·obtain⟨o',e1⟩:=I.base.there b o e hx
   exact⟨o',(hs.2 b (af (aa (aO e) I.ok.above))).trans e1⟩
  ·by_cases hj:j=i
   ·subst hj
    rw[hi]at e1;cases e1
    rw[List.getElem?_set_self hiσ]at e2
    cases e2
    exact⟨u,r,.inl ⟨hk,by simp⟩⟩
   ·rw[cC (bV hj)]at e2
    obtain⟨u',r',q⟩:=hl j y v' e1 e2 e3
    refine⟨u',r',?_⟩
    rcases q with⟨k,e⟩ | ⟨k,c,e,z⟩
    ·refine .inl ⟨k,?_⟩
     have:y≠x:=fun e=>hj (Qoz hN e1 (e ▸ hi))
     simp[this,e]
    ·exact .inr ⟨k,c,e,z.sameBut hs (cne y c e)⟩
  ·obtain⟨w',z⟩:=I.cell y c e
   exact⟨w',z.sameBut hs (cne y c e)⟩
  ·obtain⟨e,n,ne,nf,d⟩:=I.pin p hp
   exact⟨(hs.2 p.1 ne).trans e,n,ne,nf,d⟩
 ·have hfn:X.fn x=true:=by
   rcases hf with z | z
   ·exact z
   ·rw[z]at hk;cases hk
  obtain⟨c,hc⟩:=I.ok.has x (.inl hk)
  obtain⟨w',z⟩:=I.cell x c hc
  refine wpAny_storeName_cell I.ok.kind hk hc z (fun h' hc' hs=>?_)
  obtain⟨oc,hoc,hocd⟩:=id z
  refine h { s with heap:=h' } ⟨I.ok,I.os,I.bare,⟨fun b o e n hb hx=>?_,fun b o e n hb hx=>?_,I.base.free,fun b o e hx=>?_,I.base.tups,I.base.frzs,I.base.tbls⟩,⟨m,hn.sameBut hs (bV (cne x c hc)),fun j y v' e1 e2 e3=>?_⟩,fun y c' e=>?_,I.free,I.freeC,fun p hp=>?_,tracked ⟨oc,hoc,I.freeC x c hc⟩ hs,by simpa using I.len⟩ ⟨c,hs,.inr hc⟩
  ·exact(hs.2 b (af (aa (aO e) (I.ok.cab x c hfn hc)))).trans (I.base.keep b o e n hb hx)
  ·obtain⟨sl,e1⟩:=I.base.slot b o e n hb hx
   exact⟨sl,(hs.2 b (af (aa (aO e) (I.ok.cab x c hfn hc)))).trans e1⟩
  ·obtain⟨o',e1⟩:=I.base.there b o e hx
   exact⟨o',(hs.2 b (af (aa (aO e) (I.ok.cab x c hfn hc)))).trans e1⟩
  ·by_cases hj:j=i
   ·subst hj
    rw[hi]at e1;cases e1
    rw[List.getElem?_set_self hiσ]at e2
    cases e2
    exact⟨u,r,.inr ⟨.inl hk,c,hc,hc'⟩⟩
   ·rw[cC (bV hj)]at e2
    obtain⟨u',r',q⟩:=hl j y v' e1 e2 e3
    refine⟨u',r',?_⟩
    rcases q with q | ⟨k,c',e,z'⟩
    ·exact .inl q
    ·refine .inr ⟨k,c',e,z'.sameBut hs ?_⟩
     rintro rfl
     exact hj (Qoz hN e1 (I.ok.inj _ _ _ e hc ▸ hi))
  ·by_cases hcc:c'=c
   ·subst hcc;exact⟨_,hc'⟩
   ·obtain⟨w2,z2⟩:=I.cell y c' e
    exact⟨w2,z2.sameBut hs hcc⟩
  ·obtain⟨e,n,ne,nf,d⟩:=I.pin p hp
   refine⟨(hs.2 p.1 ?_).trans e,n,ne,nf,d⟩
   intro q
   rw[q,hoc]at e
   have q':=ai e
   exact d w' (by rw[← q'];exact hocd)
theorem Qnr(I:Inv X pins σ H s)(hN:X.N.Nodup)(hi:X.N[i]?=some x)(hx:Loc X.env.scope x)(r:RelV v u)
 (h:∀ s',Inv X pins (σ.set i (some v)) H s'->Q () s') (hf:X.fn x=true∨X.env.scope.names.lookup x=some .local:=by fail"V2"):wpAny M A (storeName X.env x u) Q E s:=
 Qmb I hN hi hx r (fun s' I' _=>h s' I') hf
theorem Inv.call'(I:Inv X pins σ H s)(ho:s'.os=s.os)(u:Un (frs X.stack) ch H H' s.heap s'.heap)(hok:HOk X.prog X.w H' s'.heap)(hg:AllBare s'.gens)
 (hch:∀ b∈ch,(b∈X.ex∨X.s₀.heap.objs.size<=b)/\b≠X.env.locals/\(∀ x c,X.env.cells.lookup x=some c->c≠b)/\∀ p∈X.pn++pins,p.1≠b):Inv X pins σ H' s':=by
 obtain⟨h',g',d',t',o'⟩:=s'
 have e:=ho
 subst e
 exact I.call u hok hg hch
end
abbrev XK:=Value->Option Addr->Hp->Prop
abbrev St:=List (Option V)
abbrev VK:=V->Hp->Prop
abbrev TE:=St->Hp->VK->Prop
abbrev TT:=St->Hp->(Bool->Hp->Prop)->Prop
abbrev TA:=St->Hp->(List V->Hp->Prop)->Prop
structure Ends where
 nx:St->Hp->Prop
 rt:VK
 bk:St->Hp->Prop:=fun _ _=>False
 ct:St->Hp->Prop:=fun _ _=>False
abbrev TS:=Ends->St->Hp->Prop
def EP(X:Cx)(pins:List (Addr×Obj))(σ:St)(Q:VK)(u:Value)(s':Shared):Prop:=∃ v H',Inv X pins σ H' s'/\RelV v u/\Q v H'
def TP(X:Cx)(pins:List (Addr×Obj))(σ:St)(Q:Bool->Hp->Prop)(b:Bool)(s':Shared):Prop:=∃ H',Inv X pins σ H' s'/\Q b H'
def AP(X:Cx)(pins:List (Addr×Obj))(σ:St)(Q:List V->Hp->Prop)(us:List Value)(s':Shared):Prop:=∃ vs H',Inv X pins σ H' s'/\Vals vs us/\Q vs H'
def SP(X:Cx)(pins:List (Addr×Obj))(D:Ends)(f:Flow)(s':Shared):Prop:=
 match f with
 | .next=>∃ σ' H',Inv X pins σ' H' s'/\D.nx σ' H'
 | .brk=>∃ σ' H',Inv X pins σ' H' s'/\D.bk σ' H'
 | .cont=>∃ σ' H',Inv X pins σ' H' s'/\D.ct σ' H'
 | .ret u=>∃ v σ' H',Inv X pins σ' H' s'/\RelV v u/\D.rt v H'
def PE(X:Cx)(e:Expr)(t:TE):Prop:=
 ∀(pins:List (Addr×Obj))(s:Shared)(σ:St)(H:Hp)(Q:VK),Inv X pins σ H s->t σ H Q->wpAny (model X.prog X.w) X.A (eval e X.env) (EP X pins σ Q) X.xe s
def PT(X:Cx)(e:Expr)(t:TT):Prop:=
 ∀(pins:List (Addr×Obj))(s:Shared)(σ:St)(H:Hp)(Q:Bool->Hp->Prop),Inv X pins σ H s->t σ H Q->wpAny (model X.prog X.w) X.A (isTrue e X.env (eval e X.env)) (TP X pins σ Q) X.xe s
def PW(X:Cx)(e:Expr)(t:TT):Prop:=
 ∀(whole:Sem Value)(pins:List (Addr×Obj))(s:Shared)(σ:St)(H:Hp)(Q:Bool->Hp->Prop),Inv X pins σ H s->t σ H Q->wpAny (model X.prog X.w) X.A (isTrue e X.env whole) (TP X pins σ Q) X.xe s
theorem PW.pt(h:PW X e t):PT X e t:=h _
def PA(X:Cx)(es:List Expr)(t:TA):Prop:=
 ∀(pos:Pos)(pins:List (Addr×Obj))(s:Shared)(σ:St)(H:Hp)(Q:List V->Hp->Prop),Inv X pins σ H s->t σ H Q->wpAny (model X.prog X.w) X.A (spliced (backTo pos (starEach es X.env))) (AP X pins σ Q) X.xe s
def PS(X:Cx)(st:Stmt)(t:TS):Prop:=
 ∀(pins:List (Addr×Obj))(s:Shared)(σ:St)(H:Hp)(D:Ends),Inv X pins σ H s->t D σ H->wpAny (model X.prog X.w) X.A (exec st X.env) (SP X pins D) X.xe s
def PSs(X:Cx)(st:List Stmt)(t:TS):Prop:=
 ∀(pins:List (Addr×Obj))(s:Shared)(σ:St)(H:Hp)(D:Ends),Inv X pins σ H s->t D σ H->wpAny (model X.prog X.w) X.A (execs st X.env) (SP X pins D) X.xe s
theorem thn(h:wpAny M A t Q E s)(hQ:∀ a s,Q a s->Q' a s):wpAny M A t Q' E s:=bB h hQ fun _ _ x=>x
end L2
namespace L2
open PySem PySem.Spec PyProof.Rows
section
variable{X:Cx}
def tVar(i:Nat):TE:=fun σ H Q=>∃ v,σ[i]?=some (some v)/\Q v H
def tC(v:V):TE:=fun _ H Q=>Q v H
theorem Qar(hN:X.N[i]?=some x)(hv:Vis X.env.scope x)(hd:(x == ("__debug__":Str))=false:=by decide)(hcd:(x == ("__classdict__":Str))=false:=by decide):PE X (.Name x pos) (tVar i):=by
 intro pins s σ H Q I h
 obtain⟨v,e,h⟩:=h
 obtain⟨m,hn,hl⟩:=I.loc
 obtain⟨u,r,l⟩:=hl i x v hN e hv
 have fin:EP X pins σ Q u s:=⟨v,H,I,r,h⟩
 rcases l with⟨hk,hm⟩ | ⟨hk,c,hc,hcell⟩
 ·exact wpAny_Name (wpAny_loadName_local I.ok.kind hk hn hm fin) hd
 ·rcases hk with hk | hk
  ·exact wpAny_Name (wpAny_loadName_cell I.ok.kind hk hc hcell fin) hd
  ·exact wpAny_Name (wpAny_loadName_free I.ok.kind hk hc hcell fin hcd) hd
theorem QsA:PE X (.Constant (.int i) j pos) (tC (.int i)):=fun _ _ _ H _ I h=>wpAny_Constant_int ⟨.int i,H,I.tok _,⟨_,rfl⟩,h⟩
theorem pe_bl:PE X (.Constant (.bool b) j pos) (tC (.bl b)):=fun _ _ _ H _ I h=>Constant_bool ⟨.bl b,H,I,rfl,h⟩
theorem QtL:PE X (.Constant .none j pos) (tC .non):=fun _ _ _ H _ I h=>Constant_none ⟨.non,H,I,rfl,h⟩
theorem Qt1:PE X (.Constant (.str x) j pos) (tC (.str x)):=fun _ _ _ H _ I h=>Calls.Constant_str ⟨.str x,H,I.tok _,⟨_,rfl⟩,h⟩
def Gl(X:Cx)(x:Str):Prop:=X.env.kindOf x=some .globalImplicit
theorem QkT(I:Inv X pins σ H s)(hg:Gl X x)(hm:X.mg x=some u)(h:Q u s)
 (hd:(x == ("__debug__":Str))=false:=by decide):wpAny (model X.prog X.w) X.A (eval (.Name x pos) X.env) Q E s:=
 Calls.Name_function_global I.ok.kind hg (Calls.loadGlobal_global (by rw[I.ok.glob];exact I.mod.glob.keeps I.bk) hm h) hd
theorem Qen(I:Inv X pins σ H s)(hg:Gl X x)(hm:X.mg x=none)(hv:bootBuiltins x=some u)(h:Q u s)
 (hn:x≠"__name__":=by decide) (hd:(x == ("__debug__":Str))=false:=by decide):wpAny (model X.prog X.w) X.A (eval (.Name x pos) X.env) Q E s:=by
 obtain⟨mb,h1,h2⟩:=I.mod.blt
 exact Calls.Name_function_global I.ok.kind hg (Calls.loadGlobal_builtin (by rw[I.ok.glob];exact I.mod.glob.keeps I.bk) hm (by rw[I.ok.blt];exact h1.keeps I.bk) ((h2 x hn).trans hv) h) hd
theorem Qg0(hg:Gl X x)(hm:X.mg x=some u)(r:RelV v u)(hd:(x == ("__debug__":Str))=false:=by decide):PE X (.Name x pos) (tC v):=
 fun _ _ _ H _ I h=>QkT I hg hm ⟨v,H,I,r,h⟩ hd
theorem Qwh(hg:Gl X x)(hm:X.mg x=none)(hv:bootBuiltins x=some u)(r:RelV v u)(hn:x≠"__name__":=by decide)(hd:(x == ("__debug__":Str))=false:=by decide):PE X (.Name x pos) (tC v):=
 fun _ _ _ H _ I h=>Qen I hg hm hv ⟨v,H,I,r,h⟩ hn hd
def tB(t:TE):TT:=fun σ H Q=>t σ H fun x H1=>∃ c,x=.bl c/\Q c H1
theorem Qxc(h:PE X e t)(he:∀ whole,isTrue e X.env whole=(do let v ← whole;standAt e.pos;holding [v] (truthy v)):=by fail"V3"):PT X e (tB t):=by
 intro pins s σ H Q I hw
 refine isTrue_plain (thn (h pins s σ H _ I hw) fun v s1 z0z=>?_) (he _)
 obtain⟨x,H1,I1,r1,q1⟩:=z0z
 obtain⟨d,rfl,q⟩:=q1
 cases r1
 exact bP ⟨H1,I1,q⟩
variable  {rest:List Expr}
def tOr(t u:TT):TT:=fun σ H Q=>t σ H fun c H1=>if c=true then Q true H1 else u σ H1 Q
def tNot(t:TT):TT:=fun σ H Q=>t σ H fun c H1=>Q (!c) H1
theorem QxU(ha:PT X a tA):PW X (.BoolOp .Or [a] pos) tA:=by
 intro wh pins s σ H Q I h
 refine isTrue_or (thn (ha pins s σ H Q I h) fun c s1 e=>?_)
 cases c with
 | false=>exact isTrue_or_nil e
 | true=>exact e
theorem pw_or(ha:PT X a tA)(hb:PW X (.BoolOp .Or (b::rest) pos) tB'):PW X (.BoolOp .Or (a::b::rest) pos) (tOr tA tB'):=by
 intro wh pins s σ H Q I h
 refine isTrue_or (thn (ha pins s σ H _ I h) fun c s1 ⟨H1,I1,q1⟩=>?_)
 cases c with
 | true=>exact⟨H1,I1,q1⟩
 | false=>exact hb wh pins s1 σ H1 Q I1 q1
theorem Qxf(ha:PT X a tA):PT X (.UnaryOp .Not a pos) (tNot tA):=by
 intro pins s σ H Q I h
 exact isTrue_not (ha pins s σ H (fun c H1=>Q (!c) H1) I h)
def tAndV(ta tb:TE):TE:=fun σ H Q=>ta σ H fun x H1=>∃ c,x=.bl c/\if c=true then tb σ H1 Q else Q (.bl false) H1
def tNotV(ta:TE):TE:=fun σ H Q=>ta σ H fun x H1=>∃ c,x=.bl c/\Q (.bl (!c)) H1
theorem QxF(h:PE X a t):PE X (.BoolOp op [a] pos) t:=fun pins s σ H Q I hw=>BoolOp_one (h pins s σ H Q I hw)
theorem QxX(ha:PE X a ta)(hb:PE X (.BoolOp .And (b::rest) pos) tb):PE X (.BoolOp .And (a::b::rest) pos) (tAndV ta tb):=by
 intro pins s σ H Q I h
 refine BoolOp_and (thn (ha pins s σ H _ I h) fun v s1 z0z=>?_)
 obtain⟨x,H1,I1,r1,q1⟩:=z0z
 obtain⟨c,rfl,q1⟩:=q1
 cases r1
 refine bP ?_
 cases c with
 | true=>exact hb pins s1 σ H1 Q I1 q1
 | false=>exact⟨.bl false,H1,I1,rfl,q1⟩
theorem QxA(ha:PE X a ta):PE X (.UnaryOp .Not a pos) (tNotV ta):=by
 intro pins s σ H Q I h
 refine UnaryOp_ (thn (ha pins s σ H _ I h) fun v s1 z0z=>?_)
 obtain⟨x,H1,I1,r1,q1⟩:=z0z
 obtain⟨c,rfl,q1⟩:=q1
 cases r1
 exact not_of (bP ⟨.bl (!c),H1,I1,rfl,q1⟩)
def tIf(t:TT)(ta tb:TE):TE:=fun σ H Q=>t σ H fun c H1=>if c=true then ta σ H1 Q else tb σ H1 Q
theorem Qu8(hc:PT X c tA)(ha:PE X a ta)(hb:PE X b tb):PE X (.IfExp c a b pos) (tIf tA ta tb):=by
 intro pins s σ H Q I h
 refine wpAny_IfExp (thn (hc pins s σ H _ I h) fun d s1 ⟨H1,I1,q1⟩=>?_)
 cases d with
 | true=>exact ha pins s1 σ H1 Q I1 q1
 | false=>exact hb pins s1 σ H1 Q I1 q1
end
end L2
namespace L2
open PySem PySem.Spec PyProof.Rows
def SqL(K:PySem.W.Frag)(H:Hp)(a:Addr)(xs:List V):Prop:=
 Rd H a (.lst xs)∨
  ∃(o:Obj)(its:Array Value)(n:Nat),K.lookup a=some o/\o.cls=.type "list"/\o.dict=none/\o.data=.seq its n/\its.size<=sizeLine/\Vals xs its.toList
def SqT(K:PySem.W.Frag)(H:Hp)(a:Addr)(xs:List V):Prop:=
 Rd H a (.tup xs)∨
  ∃(o:Obj)(its:Array Value)(n:Nat),K.lookup a=some o/\o.cls=.type "tuple"/\o.data=.seq its n/\its.size<=sizeLine/\Vals xs its.toList
noncomputable def absV:Value->Option V
 | .none=>some .non
 | .bool b=>some (.bl b)
 | .int i _=>some (.int i)
 | .str x _=>some (.str x)
 | .bytes b _=>some (.byt b)
 | .float b _=>some (.flt b)
 | .ref a=>some (.ref a)
 | .type n=>some (.ty n)
 | _=>none
theorem RelV.abs(r:RelV x u):absV u=some x:=by
 cases x with
 | non=>cases r;rfl
 | bl _=>cases r;rfl
 | int _=>obtain⟨t,rfl⟩:=r;rfl
 | str _=>obtain⟨t,rfl⟩:=r;rfl
 | byt _=>obtain⟨t,rfl⟩:=r;rfl
 | flt _=>obtain⟨t,rfl⟩:=r;rfl
 | ref _=>cases r;rfl
 | ty _=>cases r;rfl
theorem RelV.inj(r:RelV x u)(q:RelV y u):x=y:=ai (r.abs.symm.trans q.abs)
theorem Vals.inj:∀{xs ys:List V}{us:List Value},Vals xs us->Vals ys us->xs=ys
 | _,_,_,.nil,.nil=>rfl
 | _,_,_,.cons r t,.cons r' t'=>by rw[r.inj r',Vals.inj t t']
section
theorem SqL.of{K:PySem.W.Frag}(h:H a=some (.lst xs)):SqL K H a xs:=.inl (.inl h)
abbrev cb:=@SqL.of
theorem SqT.of{K:PySem.W.Frag}(h:H a=some (.tup xs)):SqT K H a xs:=.inl (.inl h)
theorem Inv.list(I:Inv X pins σ H s)(h:SqL X.K H a xs):∃ its:List Value,Vals xs its/\PlainL s.heap a its.toArray/\xs.length<=sizeLine:=by
 rcases h with h | ⟨o,its,n,hk,hc,hd,hs,hz,r⟩
 ·obtain⟨z,its,n,r,e⟩:=h.ok I.hok
  exact⟨its,r,⟨_,n,e,rfl,rfl,rfl⟩,z⟩
 ·refine⟨its.toList,r,⟨o,n,I.kIn a o hk,hc,hd,by simpa using hs⟩,?_⟩
  have e:=r.length
  simp only[Array.length_toList]at e
  omega
theorem Inv.tuple(I:Inv X pins σ H s)(h:SqT X.K H a xs):∃ its:List Value,Vals xs its/\IsTup s.heap a its.toArray/\xs.length<=sizeLine:=by
 rcases h with h | ⟨o,its,n,hk,hc,hs,hz,r⟩
 ·obtain⟨z,its,r,p⟩:=h.ok I.hok
  exact⟨its,r,p,z⟩
 ·refine⟨its.toList,r,⟨o,I.kIn a o hk,hc,n,by simpa using hs⟩,?_⟩
  have e:=r.length
  simp only[Array.length_toList]at e
  omega
theorem Inv.list_inj(I:Inv X pins σ H s)(h:SqL X.K H a xs)(h':SqL X.K H a ys):xs=ys:=by
 obtain⟨its,r,⟨o,n,e,_,_,d⟩,_⟩:=I.list h
 obtain⟨its',r',⟨o',n',e',_,_,d'⟩,_⟩:=I.list h'
 rw[e]at e';cases e'
 rw[d]at d'
 injection d' with d1 _
 have:its=its':=by simpa using bg Array.toList d1
 subst this
 exact r.inj r'
end
abbrev Cx.wish(X:Cx)(E:Value->Shared->Prop):Cx:={ X with xe:=E }
abbrev Cx.nox(X:Cx):Cx:=X.wish fun _ _=>False
theorem Cx.Ok.wish{X:Cx}(ok:X.Ok)(E:Value->Shared->Prop):(X.wish E).Ok:=
 ⟨ok.mod,ok.kind,ok.glob,ok.blt,ok.above,ok.inj,ok.has,ok.cab,ok.hd,ok.frames,ok.stk,ok.exf,ok.bs,ok.bsz,ok.noex,ok.exfs,ok.funs,ok.frf⟩
theorem Cx.Ok.unwish{X:Cx}(ok:(X.wish E).Ok):X.Ok:=
 ⟨ok.mod,ok.kind,ok.glob,ok.blt,ok.above,ok.inj,ok.has,ok.cab,ok.hd,ok.frames,ok.stk,ok.exf,ok.bs,ok.bsz,ok.noex,ok.exfs,ok.funs,ok.frf⟩
section
theorem Inv.wish(I:Inv X pins σ H s)(E:Value->Shared->Prop):Inv (X.wish E) pins σ H s:=⟨I.ok.wish E,I.os,I.bare,I.base,I.loc,I.cell,I.free,I.freeC,I.pin,I.hok,I.len⟩
theorem Inv.unwish(I:Inv (X.wish E) pins σ H s):Inv X pins σ H s:=⟨I.ok.unwish,I.os,I.bare,I.base,I.loc,I.cell,I.free,I.freeC,I.pin,I.hok,I.len⟩
theorem SP.unwish(h:SP (X.wish E) pins D f s'):SP X pins D f s':=by
 cases f with
 | next=>obtain⟨σ',H',I,q⟩:=h;exact⟨σ',H',I.unwish,q⟩
 | brk=>obtain⟨σ',H',I,q⟩:=h;exact⟨σ',H',I.unwish,q⟩
 | cont=>obtain⟨σ',H',I,q⟩:=h;exact⟨σ',H',I.unwish,q⟩
 | ret u=>obtain⟨v,σ',H',I,r,q⟩:=h;exact⟨v,σ',H',I.unwish,r,q⟩
theorem PE.nox{e:Expr}{t:TE}(h:PE X.nox e t):PE X e t:=fun pins s σ H Q I hw=>
 bB (h pins s σ H Q (I.wish _) hw) (fun _ _ z0z=>by obtain⟨v,H',I',r,q⟩:=z0z;exact⟨v,H',I'.unwish,r,q⟩) fun _ _ z=>False.elim z
theorem PT.nox{e:Expr}{t:TT}(h:PT X.nox e t):PT X e t:=fun pins s σ H Q I hw=>
 bB (h pins s σ H Q (I.wish _) hw) (fun _ _ ⟨H',I',q⟩=>⟨H',I'.unwish,q⟩) fun _ _ z=>False.elim z
theorem PSs.nox{st:List Stmt}{t:TS}(h:PSs X.nox st t):PSs X st t:=fun pins s σ H D I hw=>
 bB (h pins s σ H D (I.wish _) hw) (fun _ _ q=>q.unwish) fun _ _ z=>False.elim z
end
section
variable  {st:Stmt} {rest:List Stmt}
def tNext:TS:=fun D σ H=>D.nx σ H
def tSeq(t u:TS):TS:=fun D σ H=>t { D with nx:=u D } σ H
theorem QiE:PSs X [] tNext:=fun _ _ σ H _ I h=>wpAny_execs_nil ⟨σ,H,I,h⟩
theorem QaI(h1:PS X st t)(h2:PSs X rest u):PSs X (st::rest) (tSeq t u):=by
 intro pins s σ H D I h
 refine wpAny_execs_cons (thn (h1 pins s σ H { D with nx:=u D } I h) fun f s1 q=>?_)
 cases f with
 | next=>
  obtain⟨σ',H',I',q⟩:=q
  exact h2 pins s1 σ' H' D I' q
 | ret v=>exact q
 | brk=>exact q
 | cont=>exact q
theorem Qle(h1:PS X st t):PSs X [st] t:=by
 intro pins s σ H D I h
 refine wpAny_execs_cons (thn (h1 pins s σ H D I h) fun f s1 q=>?_)
 cases f with
 | next=>exact wpAny_execs_nil q
 | ret v=>exact q
 | brk=>exact q
 | cont=>exact q
theorem Inv.quiet(I:Inv X pins σ H s):interactive X.env=false:=by simp[interactive,I.ok.kind]
def tDrop(te:TE):TS:=fun D σ H=>te σ H fun _ H1=>D.nx σ H1
theorem Qdv(he:PE X e te)(hs:swapsWith e none pos.line X.env=pure false:=by rfl):PS X (.Expr e pos) (tDrop te):=by
 intro pins s σ H D I h
 exact wpAny_Expr_any (thn (he pins s σ H _ I h) fun v s1 z0z=>by obtain⟨x,H1,I1,r1,q1⟩:=z0z;exact⟨σ,H1,I1,q1⟩) I.quiet hs
def tRet(te:TE):TS:=fun D σ H=>te σ H D.rt
theorem Qkm(he:PE X e te):PS X (.Return (some e) pos) (tRet te):=by
 intro pins s σ H D I h
 exact wpAny_Return_some (thn (he pins s σ H _ I h) fun v s1 z0z=>by obtain⟨x,H1,I1,r1,q1⟩:=z0z;exact⟨x,σ,H1,I1,r1,q1⟩)
def tIfS(c:TT)(t u:TS):TS:=fun D σ H=>c σ H fun b H1=>if b=true then t D σ H1 else u D σ H1
theorem ps_if(hc:PT X c tc)(ha:PSs X a t)(hb:PSs X b u):PS X (.If c a b pos) (tIfS tc t u):=by
 intro pins s σ H D I h
 refine wpAny_If (thn (hc pins s σ H _ I h) fun d s1 ⟨H1,I1,q1⟩=>?_)
 cases d with
 | true=>exact ha pins s1 σ H1 D I1 q1
 | false=>exact hb pins s1 σ H1 D I1 q1
def QxH:TS:=fun _ _ _=>False
theorem Quk:PS X st QxH:=fun _ _ _ _ _ _ h=>h.elim
end
abbrev TG:=V->St->Hp->(St->Hp->Prop)->Prop
abbrev TGs:=List V->St->Hp->(St->Hp->Prop)->Prop
def PG(X:Cx)(target:Expr)(t:TG):Prop:=
 ∀(pins:List (Addr×Obj))(s:Shared)(σ:St)(H:Hp)(v:V)(u:Value)(Q:St->Hp->Prop),Inv X pins σ H s->RelV v u->t v σ H Q->
  wpAny (model X.prog X.w) X.A (assign target X.env u) (fun _ s'=>∃ σ' H',Inv X pins σ' H' s'/\Q σ' H') X.xe s
def PGs(X:Cx)(ts:List Expr)(t:TGs):Prop:=
 ∀(pins:List (Addr×Obj))(s:Shared)(σ:St)(H:Hp)(vs:List V)(us:List Value)(Q:St->Hp->Prop),Inv X pins σ H s->Vals vs us->t vs σ H Q->
  wpAny (model X.prog X.w) X.A (assignInOrder ((assignEach ts X.env).map (·.2)) us) (fun _ s'=>∃ σ' H',Inv X pins σ' H' s'/\Q σ' H') X.xe s
section
def gName(i:Nat):TG:=fun v σ H Q=>Q (σ.set i (some v)) H
theorem QcJ(hN:X.N.Nodup)(hi:X.N[i]?=some x)(hx:Loc X.env.scope x)(hf:X.fn x=true∨X.env.scope.names.lookup x=some .local:=by fail"V2"):PG X (.Name x pos) (gName i):=by
 intro pins s σ H v u Q I r h
 exact wpAny_assign_Name (Qnr I hN hi hx r (fun s' I'=>⟨_,H,I',h⟩) hf)
def gNil:TGs:=fun vs σ H Q=>vs=[]/\Q σ H
def gCons(t:TG)(u:TGs):TGs:=fun vs σ H Q=>∃ v r,vs=v::r/\t v σ H fun σ' H'=>u r σ' H' Q
theorem Qrj:PGs X [] gNil:=by
 intro pins s σ H vs us Q I r h
 obtain⟨e,h⟩:=h
 subst e
 cases r
 exact assignInOrder_nil ⟨σ,H,I,h⟩
theorem Qfa(h1:PG X e t)(h2:PGs X es u)
 (hs:(assignEach (e::es) X.env).map (·.2)=assign e X.env::(assignEach es X.env).map (·.2):=by rfl):PGs X (e::es) (gCons t u):=by
 intro pins s σ H vs us Q I r h
 obtain⟨v,vr,e1,h⟩:=h
 subst e1
 cases r with
 | cons r rr=>
  rw[hs]
  refine assignInOrder_cons (thn (h1 pins s σ H _ _ _ I r h) fun _ s1 z0z=>?_)
  obtain⟨σ1,H1,I1,q1⟩:=z0z
  exact h2 pins s1 σ1 H1 _ _ Q I1 rr q1
def gTup(K:PySem.W.Frag)(n:Nat)(t:TGs):TG:=fun v σ H Q=>∃ a xs,v=.ref a/\SqT K H a xs/\xs.length=n/\t xs σ H Q
theorem QsT(hc:X.calm=true)(h:PGs X es t)
 (hn:(assignEach es X.env).length=n:=by rfl) (hst:(assignEach es X.env).findIdx? (·.1)=none:=by rfl):PG X (.Tuple es k pos) (gTup X.K n t):=by
 intro pins s σ H v u Q I r hw
 obtain⟨a,xs,e1,hq,hl,hw⟩:=hw
 subst e1
 cases r
 obtain⟨its,rv,ht,hz⟩:=I.tuple hq
 refine assign_Tuple_tuple (I.ok.hd hc) ht (by simp[hn, ← hl,rv.length]) hst fun h' hx=>?_
 have I1:=I.kept (t':=s.toks) fun b o e=>hx b o (af (aO e)) e
 exact h pins _ σ H xs _ Q I1 (by simpa using rv) hw
def tAsg(te:TE)(g:TG):TS:=fun D σ H=>te σ H fun x H1=>g x σ H1 D.nx
theorem QxY(he:PE X e te)(hg:PG X tg g)(hs:swapsWithSole [tg] e pos.line X.env=pure false:=by rfl)(hw:swappedStores [tg] e X.env=pure none:=by rfl)
 (h1:(assignEach [tg] X.env).map (·.2)=[assign tg X.env]:=by rfl):PS X (.Assign [tg] e pos) (tAsg te g):=by
 intro pins s σ H D I h
 refine wpAny_Assign_stores (thn (he pins s σ H _ I h) fun v s1 z0z=>?_) hs hw
 obtain⟨x,H1,I1,r1,q1⟩:=z0z
 rw[h1]
 exact thn (hg pins s1 σ H1 x v _ I1 r1 q1) fun _ s2 q=>q
theorem Qn9(hN:X.N.Nodup)(hi:X.N[i]?=some x)(hx:Loc X.env.scope x)(he:PE X e te)(hs:swapsWith e (some (.Name x pos')) pos.line X.env=pure false:=by rfl)(hf:X.fn x=true∨X.env.scope.names.lookup x=some .local:=by fail"V2"):
 PS X (.Assign [.Name x pos'] e pos) (tAsg te (gName i)):=by
 intro pins s σ H D I h
 refine wpAny_Assign_Name (thn (he pins s σ H _ I h) fun v s1 z0z=>?_) hs
 obtain⟨y,H1,I1,r1,q1⟩:=z0z
 exact Qnr I1 hN hi hx r1 (fun s2 I2=>⟨_,H1,I2,q1⟩) hf
end
section
end
structure It where
 go:Nat->Hp->Prop
 yld:Nat->Hp->V->Hp->Prop
 stop:Nat->Hp->Prop
def FpOk(X:Cx)(pins:List (Addr×Obj))(H:Hp)(b:Addr):Prop:=
 H b=none/\b≠X.env.locals/\b∉X.fs/\(b∈X.ex∨X.s₀.heap.objs.size<=b)/\(∀ x c,X.env.cells.lookup x=some c->c≠b)/\∀ p∈X.pn++pins,p.1≠b
theorem Inv.fpOk(I:Inv X pins σ H s)(hb:s.heap.objs.size<=b)(hn:H' b=none):FpOk X pins H' b:=by
 refine⟨hn,cL (aa I.lt hb),I.nofs hb,.inr (aq I.sz hb),fun x c e z=>?_,fun p hp z=>?_⟩
 ·obtain⟨v,q⟩:=I.cell x c e
  exact absurd (aa q.lt (by rw[z];exact hb)) (bG _)
 ·exact absurd (aa (aO (I.pin p hp).1) (by rw[z];exact hb)) (bG _)
structure Turn(P:Program)(w:World)(K:PySem.W.Frag)(tg:Expr)(J:It)(fp:List Addr)(it:Addr)(tn:Nat->Heap->Prop):Prop where
 mem:it∈fp
 obj:∀ i h,tn i h->∀ b∈fp,∃ o,h.get? b=some o/\∀ v,o.data≠.cell v
 keep:∀ i h h',tn i h->(∀ b∈fp,∀ o,h.get? b=some o->h'.get? b=some o)->tn i h'
 item:∀(X:Cx),X.prog=P->X.w=w->X.K=K->X.calm=true->∀(i:Nat)(pins:List (Addr×Obj))(s:Shared)(σ:St)(H:Hp)(E:Value->Shared->Prop),Inv X pins σ H s->(∀ b∈fp,FpOk X pins H b)->tn i s.heap->J.go i H->
  wpAny (model P w) X.A (pyNext (.ref it)) (fun r s1=>∃ u,r=some u/\
   wpAny (model P w) X.A (letOwnedTupleGo tg (.ref it) u) (fun _ s2=>∃ x H',Inv X pins σ H' s2/\RelV x u/\J.yld i H x H'/\tn (i+1) s2.heap/\∀ b∈fp,H' b=none) E s1) E s
 done:∀(X:Cx),X.prog=P->X.w=w->X.K=K->X.calm=true->∀(i:Nat)(pins:List (Addr×Obj))(s:Shared)(σ:St)(H:Hp)(E:Value->Shared->Prop),Inv X pins σ H s->(∀ b∈fp,FpOk X pins H b)->tn i s.heap->J.stop i H->
  wpAny (model P w) X.A (pyNext (.ref it)) (fun r s1=>r=none/\Inv X pins σ H s1) E s
 self:∀(A:Around)(i:Nat)(s:Shared)(Q:Value->Shared->Prop)(E:Value->Shared->Prop),tn i s.heap->Q (.ref it) s->wpAny (model P w) A (pyIter (.ref it)) Q E s
abbrev TI:=St->Hp->(It->Hp->Prop)->Prop
def PIE(X:Cx)(pins:List (Addr×Obj))(σ:St)(tg:Expr)(R:It->Hp->Prop)(itv:Value)(s2:Shared):Prop:=
 ∃(it:Addr)(fp:List Addr)(tn:Nat->Heap->Prop)(J:It)(H':Hp),itv=.ref it/\Inv X pins σ H' s2/\Turn X.prog X.w X.K tg J fp it tn/\tn 0 s2.heap/\(∀ b∈fp,FpOk X pins H' b)/\R J H'
def PI(X:Cx)(tg iter:Expr)(wi:TI):Prop:=
 ∀(pins:List (Addr×Obj))(s:Shared)(σ:St)(H:Hp)(R:It->Hp->Prop),Inv X pins σ H s->wi σ H R->
  wpAny (model X.prog X.w) X.A (eval iter X.env) (fun v s1=>wpAny (model X.prog X.w) X.A (pyIter v) (PIE X pins σ tg R) X.xe s1) X.xe s
theorem go_of(ho:s.heap.get? it=some o)(hc:o.cls=.type n)(hd:o.data=.fields vs)
 (hn:["enumerate","zip","dict_itemiterator","dict_reverseitemiterator","odict_iterator","itertools.zip_longest","itertools.pairwise"].contains n=false) (hQ:Q () s):wpAny M A (letOwnedTupleGo tg (.ref it) u) Q E s:=by
 unfold letOwnedTupleGo
 cases tg<;>first
  | exact aY hQ
  | (cases u<;>first
   | exact aY hQ
   | (refine aN (wpAny_load ho ?_)
      rw[hc,hd]
      show wpAny M A (if (["enumerate","zip","dict_itemiterator","dict_reverseitemiterator","odict_iterator","itertools.zip_longest","itertools.pairwise"].contains n&&vs[0]? == some (rawInt _))=true then _ else _) Q E s
      rw[aD (by intro h;rw[hn,Bool.false_and]at h;cases h)]
      exact aY hQ))
noncomputable def Itl(K:PySem.W.Frag)(a:Addr):It:=
 ⟨fun i H=>∃ xs x,SqL K H a xs/\xs[i]?=some x,fun i H x H'=>H'=H/\∀ xs,SqL K H a xs->xs[i]?=some x,fun i H=>∃ xs,SqL K H a xs/\xs.length<=i⟩
noncomputable def Itr(lo:Int)(n:Nat):It:=⟨fun i _=>i<n,fun i H x H'=>H'=H/\x=.int (lo+i),fun i _=>n<=i⟩
theorem Qtd{K:PySem.W.Frag}(a it:Addr):Turn P w K tg (Itl K a) [it] it (fun i h=>h.IsListIter it a i) where
 mem:=by simp
 obj:=fun i h st b hb=>by
  have e:b=it:=by simpa using hb
  subst e
  obtain⟨o,e,c,d⟩:=st
  exact⟨o,e,fun v z=>by rw[d]at z;cases z⟩
 keep:=fun i h h' st k=>st.at fun o e=>k it (by simp) o e
 item:=by
  intro X hP hw hK hc i pins s σ H E I hf st hg
  subst hP hw hK
  obtain⟨xs,x,hq,hx⟩:=hg
  obtain⟨its,rv,p,hz⟩:=I.list hq
  obtain⟨u,hu,ru⟩:=rv.get hx
  obtain⟨f0,f1,f2,f3,f4,f5⟩:=hf it (by simp)
  refine wpAny_pyNext_list_item st p.isList (by simpa using hu) fun h' st' sb=>?_
  have I1:=I.turned (t':=s.toks) (fun b o hb e=>(sb.2 b hb).trans e) f0 f1 f3 f4 f5
  obtain⟨o,e,c,d⟩:=id st'
  exact⟨u,rfl,go_of e c d (by decide) ⟨x,H,I1,ru,⟨rfl,fun ys hy=>by rw[I.list_inj hy hq];exact hx⟩,st',fun b hb=>(hf b hb).1⟩⟩
 done:=by
  intro X hP hw hK hc i pins s σ H E I hf st hg
  subst hP hw hK
  obtain⟨xs,hq,hx⟩:=hg
  obtain⟨its,rv,p,hz⟩:=I.list hq
  obtain⟨f0,f1,f2,f3,f4,f5⟩:=hf it (by simp)
  have hl:=rv.length
  exact wpAny_pyNext_list_end (I.ok.hd hc) st p.isList (by simp;lia) fun h' eb=>⟨rfl,I.turned (fun b o hb e=>eb b o hb e) f0 f1 f3 f4 f5⟩
 self:=fun _ _ _ _ _ st h=>wpAny_pyIter_listiter st h
theorem Qru{K:PySem.W.Frag}(it:Addr)(lo:Int)(n:Nat):Turn P w K tg (Itr lo n) [it] it (fun i h=>IsRangeIter h it (lo+(i:Nat) * 1) ((n:Int) - (i:Nat)) 1) where
 mem:=by simp
 obj:=fun i h st b hb=>by
  have e:b=it:=by simpa using hb
  subst e
  exact⟨_,st,fun v z=>by
   have z':=z
   cases z'⟩
 keep:=fun i h h' st k=>k it (by simp) _ st
 item:=by
  intro X hP hw hK hc i pins s σ H E I hf st hg
  subst hP hw hK
  obtain⟨f0,f1,f2,f3,f4,f5⟩:=hf it (by simp)
  have W:=Walks.range (prog:=X.prog) (w:=X.w) (I.ok.hd hc) it lo 1 n
  refine W.item i s _ _ hg st fun v h' tk hv st' kk=>?_
  obtain⟨t,rfl⟩:=hv
  have I1:Inv X pins σ H { s with heap:=h',toks:=tk }:=I.turned (fun b o hb e=>kk b o (by simpa using hb) e) f0 f1 f3 f4 f5
  refine⟨_,rfl,go_of st' rfl rfl (by decide) ⟨.int (lo+i),H,I1,⟨t,?_⟩,⟨rfl,rfl⟩,st',fun b hb=>(hf b hb).1⟩⟩
  rw[Int.mul_one]
 done:=by
  intro X hP hw hK hc i pins s σ H E I hf st hg
  subst hP hw hK
  obtain⟨f0,f1,f2,f3,f4,f5⟩:=hf it (by simp)
  exact wpAny_pyNext_range_end (I.ok.hd hc) st (by have:n<=i:=hg;lia) fun h' eb=>⟨rfl,I.turned (fun b o hb e=>eb b o hb e) f0 f1 f3 f4 f5⟩
 self:=fun _ _ _ _ _ st h=>wpAny_pyIter_rangeiter st h
end L2
namespace L2
open PySem PySem.Spec PyProof.Rows
section
def iList(K:PySem.W.Frag)(tl:TE):TI:=fun σ H R=>tl σ H fun x H1=>∃ a,x=.ref a/\(∃ xs,SqL K H1 a xs)/\R (Itl K a) H1
theorem Qiw{tl:TE}(hl:PE X l tl):PI X tg l (iList X.K tl):=by
 intro pins s σ H R I h
 refine thn (hl pins s σ H _ I h) fun v s1 z0z=>?_
 obtain⟨x,H1,I1,r1,q1⟩:=z0z
 obtain⟨a,e,⟨xs,hq⟩,q⟩:=q1
 subst e
 cases r1
 obtain⟨its,rv,p,hz⟩:=I1.list hq
 refine cS p.isList ?_
 refine⟨s1.heap.objs.size,[s1.heap.objs.size],_,_,H1,rfl,I1.kept fun b o e=>aK _ e,Qtd a _,⟨_,ag _ rfl,rfl,rfl⟩,fun b hb=>?_,q⟩
 have e:b=s1.heap.objs.size:=by simpa using hb
 subst e
 exact I1.fpOk (aP _) (I1.hok.fresh (aP _))
theorem Qu5{lo hi:Int}(I:Inv X pins σ H s)(h1 : -(2 ^ 62)<=lo)(h2:lo<2 ^ 62)(h3 : -(2 ^ 62)<=hi)(h4:hi<2 ^ 62)
 (q:R (Itr lo (hi - lo).toNat) H):wpAny (model X.prog X.w) X.A (pyIter (.ref s.heap.objs.size)) (PIE X pins σ tg R) E { s with heap:=s.heap.push { cls:=.type "range",data:=.fields #[.int lo t,.int hi u,.int 1 v] },toks:=tk }:=by
 refine wpAny_pyIter_range (IsRange.new ..) (small_one h1 h2 h3 h4) ?_
 have I1:Inv X pins σ H { s with heap:=s.heap.push { cls:=.type "range",data:=.fields #[.int lo t,.int hi u,.int 1 v] },toks:=tk }:=I.kept fun b o e=>aK _ e
 refine⟨(s.heap.push { cls:=.type "range",data:=.fields #[.int lo t,.int hi u,.int 1 v] }).objs.size,[(s.heap.push { cls:=.type "range",data:=.fields #[.int lo t,.int hi u,.int 1 v] }).objs.size],_,_,H,rfl,
  I1.kept fun b o e=>aK _ e,Qru _ lo (hi - lo).toNat,?_,fun b hb=>?_,q⟩
 ·have e1:lo+(0:Nat) * 1=lo:=by simp
  have e2:((hi - lo).toNat:Nat) - (0:Nat)=Builtin.Range.rangeSize lo hi 1:=by rw[rangeSize_one];split<;>lia
  rw[e1,e2]
  exact ag _ rfl
 ·have e:b=(s.heap.push { cls:=.type "range",data:=.fields #[.int lo t,.int hi u,.int 1 v] }).objs.size:=by simpa using hb
  subst e
  exact I1.fpOk (aP _) (I1.hok.fresh (aP _))
def iRng1(ta:TA):TI:=fun σ H R=>ta σ H fun vs H1=>∃ j:Int,vs=[.int j] /\ -(2 ^ 62)<=j/\j<2 ^ 62/\R (Itr 0 j.toNat) H1
theorem QtG{p pos:Pos}(hg:Gl X "range")(hm:X.mg "range"=none)(ha:PA X [a] ta)(hs:starEach [a] X.env=[(false,eval a X.env)]:=by rfl):PI X tg (.Call (.Name "range" p) [a] [] pos) (iRng1 ta):=by
 intro pins s σ H R I h
 refine Call_ (Qen I hg hm boot_range (bK (thn (ha pos pins s σ H _ I h) fun us s1 z0z=>?_) hs rfl))
 obtain⟨vs,H1,I1,r1,q1⟩:=z0z
 obtain⟨j,e,q1,q2,q⟩:=q1
 subst e
 cases r1 with
 | cons r rr=>
  cases rr
  obtain⟨t,rfl⟩:=r
  exact call_range_1 (Qu5 I1 (by lia) (by lia) q1 q2 (by simpa using q))
def tFor(wi:TI)(g:TG)(tb:TS):TS:=fun D σ H=>wi σ H fun J H1=>∃ W:Nat->Nat->St->Hp->Prop,(∃ m,W 0 m σ H1)/\∀ i m σ H,W i m σ H->
 (J.stop i H/\D.nx σ H)∨(J.go i H/\∃ N:St->Hp->Prop,(∀ σ' H',N σ' H'->∃ m',m'<m/\W (i+1) m' σ' H')/\∀ x H',J.yld i H x H'->g x σ H' fun σ2 H2=>tb { D with nx:=N,ct:=N,bk:=D.nx } σ2 H2)
noncomputable def QhX(fp:List Addr)(h:Heap):List (Addr×Obj):=fp.filterMap fun b=>(h.get? b).map fun o=>(b,o)
theorem QeU(hb:b∈fp)(e:h.get? b=some o):(b,o)∈QhX fp h:=bS.mpr ⟨b,hb,by rw[e];rfl⟩
theorem Qtm(hp:p∈QhX fp h):p.1∈fp/\h.get? p.1=some p.2:=by
 obtain⟨b,hb,e⟩:=bS.mp hp
 cases q:h.get? b with
 | none=>rw[q]at e;cases e
 | some o=>
  rw[q]at e
  have e':=ai e
  subst e'
  exact⟨hb,q⟩
theorem Inv.pinned(I:Inv X pins σ H s)(hf:∀ b∈fp,FpOk X pins H b)(ho:∀ b∈fp,∃ o,s.heap.get? b=some o/\∀ v,o.data≠.cell v):Inv X (pins++QhX fp s.heap) σ H s:=
 I.pins_of fun p hp=>(bW.mp hp).elim (fun z=>I.pin p (aZ _ z)) fun z=>by
  obtain⟨hb,e⟩:=Qtm z
  obtain⟨f0,f1,f2,_⟩:=hf p.1 hb
  obtain⟨o,e',d⟩:=ho p.1 hb
  rw[e]at e';cases e'
  exact⟨e,f0,f1,f2,d⟩
theorem Inv.unpinned(I:Inv X (pins++pl) σ H s):Inv X pins σ H s:=I.pins_of fun p hp=>I.pin p (aZ _ (bN _ hp))
theorem QjW(hp:PassesOwn (model X.prog X.w) X.A X.env X.xe)(hc:X.calm=true)(hi:PI X tg iter wi)(hg:PG X tg g)(hb:PSs X body tb)
 (hs:∀ x,foldedSetIterable iter X.env x=pure x:=by fail"V3"):PS X (.For tg iter body [] pos) (tFor wi g tb):=by
 intro pins s σ H D I h
 refine wpAny_For (thn (hi pins s σ H _ I h) fun v s1 h1=>thn h1 fun itv s2 h2=>?_) hs
 obtain⟨it,fp,tn,J,H2,e,I2,T,st2,f2,W,⟨m0,w0⟩,turn⟩:=h2
 subst e
 have stat:∀{H':Hp},(∀ b∈fp,H' b=none)->∀ b∈fp,FpOk X pins H' b:=fun hn b hb=>⟨hn b hb,(f2 b hb).2⟩
 refine codeAny_forLoop_any (fun n s'=>∃ i σ' H',Inv X pins σ' H' s'/\tn i s'.heap/\(∀ b∈fp,H' b=none)/\W i n σ' H') ?_ m0 ⟨0,σ,H2,I2,st2,fun b hb=>(f2 b hb).1,w0⟩
 rintro n s3 ⟨i,σ3,H3,I3,st3,fr3,w3⟩
 rcases turn i n σ3 H3 w3 with⟨stop,qn⟩ | ⟨go,N,hN,step⟩
 ·refine cI hp (thn (T.done X rfl rfl rfl hc i pins s3 σ3 H3 X.xe I3 (stat fr3) st3 stop) fun r s4 ⟨hr,I4⟩=>?_)
  subst hr
  exact wpAny_execs_nil ⟨σ3,H3,I4,qn⟩
 ·refine cI hp (thn (T.item X rfl rfl rfl hc i pins s3 σ3 H3 X.xe I3 (stat fr3) st3 go) fun r s4 ⟨u,hr,h4⟩=>?_)
  subst hr
  refine cI hp (thn h4 fun _ s5 z0z=>?_)
  obtain⟨x,H5,I5,r5,y5,st5,fr5⟩:=z0z
  have I5':=I5.pinned (stat fr5) (T.obj _ _ st5)
  refine cI hp (thn (hg _ s5 σ3 H5 x u _ I5' r5 (step x H5 y5)) fun _ s6 z0z=>?_)
  obtain⟨σ6,H6,I6,q6⟩:=z0z
  refine cI hp (thn (hb _ s6 σ6 H6 _ I6 q6) fun f s7 q7=>?_)
  have again:∀{σ7:St}{H7:Hp},Inv X (pins++QhX fp s5.heap) σ7 H7 s7->N σ7 H7->∃ m,m<n/\∃ i σ' H',Inv X pins σ' H' s7/\tn i s7.heap/\(∀ b∈fp,H' b=none)/\W i m σ' H':=fun {σ7 H7} I7 n7=>by
   obtain⟨m',hm,w7⟩:=hN σ7 H7 n7
   refine⟨m',hm,i+1,σ7,H7,I7.unpinned,T.keep _ _ _ st5 fun b hb o e=>(I7.pin (b,o) (aZ _ (aZ _ (QeU hb e)))).1,fun b hb=>?_,w7⟩
   obtain⟨o,e,d⟩:=T.obj _ _ st5 b hb
   exact(I7.pin (b,o) (aZ _ (aZ _ (QeU hb e)))).2.1
  cases f with
  | next=>obtain⟨σ7,H7,I7,n7⟩:=q7;exact again I7 n7
  | cont=>obtain⟨σ7,H7,I7,n7⟩:=q7;exact again I7 n7
  | brk=>obtain⟨σ7,H7,I7,q7⟩:=q7;exact⟨σ7,H7,I7.unpinned,q7⟩
  | ret v=>obtain⟨x7,σ7,H7,I7,r7,q7⟩:=q7;exact⟨x7,σ7,H7,I7.unpinned,r7,q7⟩
end
theorem QuE{K:PySem.W.Frag}{g:TG}{tb:TS}{D:Ends}(Pv:Nat->St->Hp->Prop)(h0:Pv 0 σ H)(hl:∀ i σ H,i<=xs.length->Pv i σ H->SqL K H a xs)
 (hs:∀ i x σ H,xs[i]?=some x->Pv i σ H->g x σ H fun σ2 H2=>tb { D with nx:=Pv (i+1),ct:=Pv (i+1),bk:=D.nx } σ2 H2) (hd:∀ σ H,Pv xs.length σ H->D.nx σ H):
 ∃ W:Nat->Nat->St->Hp->Prop,(∃ m,W 0 m σ H)/\∀ i m σ H,W i m σ H->
  ((Itl K a).stop i H/\D.nx σ H)∨((Itl K a).go i H/\∃ N:St->Hp->Prop,(∀ σ' H',N σ' H'->∃ m',m'<m/\W (i+1) m' σ' H')/\∀ x H',(Itl K a).yld i H x H'->g x σ H' fun σ2 H2=>tb { D with nx:=N,ct:=N,bk:=D.nx } σ2 H2):=by
 refine⟨fun i m σ H=>m=xs.length - i/\i<=xs.length/\Pv i σ H,⟨xs.length,by simp,av _,h0⟩,?_⟩
 rintro i m σ H ⟨rfl,hi,p⟩
 have q:=hl i σ H hi p
 by_cases hlt:i<xs.length
 ·refine .inr ⟨⟨xs,xs[i],q,by simp[hlt]⟩,Pv (i+1),fun σ' H' p'=>⟨xs.length - (i+1),by lia,rfl,hlt,p'⟩,fun x H' y=>?_⟩
  obtain⟨e,y⟩:=y
  subst e
  exact hs i x σ _ (y xs q) p
 ·have e:i=xs.length:=by lia
  subst e
  exact .inl ⟨⟨xs,q,aP _⟩,hd σ H p⟩
end L2
namespace L2
open PySem PySem.Spec PyProof.Rows
abbrev R2:=V->V->Hp->VK->Prop
def OpR(X:Cx)(f:Value->Value->Sem Value)(r:R2):Prop:=
 ∀(pins:List (Addr×Obj))(s:Shared)(σ:St)(H:Hp)(x y:V)(v u:Value)(Q:VK),Inv X pins σ H s->RelV x v->RelV y u->r x y H Q->
  wpAny (model X.prog X.w) X.A (f v u) (EP X pins σ Q) X.xe s
def UnR(X:Cx)(f:Value->Sem Value)(r:V->Hp->VK->Prop):Prop:=
 ∀(pins:List (Addr×Obj))(s:Shared)(σ:St)(H:Hp)(x:V)(v:Value)(Q:VK),Inv X pins σ H s->RelV x v->r x H Q->
  wpAny (model X.prog X.w) X.A (f v) (EP X pins σ Q) X.xe s
def CallR(X:Cx)(f:Value)(r:List V->Hp->VK->Prop):Prop:=
 ∀(pins:List (Addr×Obj))(s:Shared)(σ:St)(H:Hp)(xs:List V)(us:List Value)(Q:VK),Inv X pins σ H s->Vals xs us->r xs H Q->
  wpAny (model X.prog X.w) X.A (call f us) (EP X pins σ Q) X.xe s
def tOp(r:R2)(ta tb:TE):TE:=fun σ H Q=>ta σ H fun x H1=>tb σ H1 fun y H2=>r x y H2 Q
def tUn(r:V->Hp->VK->Prop)(ta:TE):TE:=fun σ H Q=>ta σ H fun x H1=>r x H1 Q
def rI(C:Int->Int->Prop)(g:Int->Int->V):R2:=fun x y H Q=>∃ i j,x=.int i/\y=.int j/\C i j/\Q (g i j) H
def rI0(g:Int->Int->V):R2:=fun x y H Q=>∃ i j,x=.int i/\y=.int j/\Q (g i j) H
def rU(g:Int->V):V->Hp->VK->Prop:=fun x H Q=>∃ i,x=.int i/\Q (g i) H
section
theorem binT(ha:PE X a ta)(hb:PE X b tb){R:V->V->Hp->Prop}(I:Inv X pins σ H s)
 (h:ta σ H fun x H1=>tb σ H1 fun y H2=>R x y H2) {f:Value->Value->Sem Value}
 (hf:∀ v u s2 x y H2,Inv X pins σ H2 s2->RelV x v->RelV y u->R x y H2->wpAny (model X.prog X.w) X.A (f v u) Q X.xe s2):
 wpAny (model X.prog X.w) X.A (eval a X.env) (fun v s₁=>wpAny (model X.prog X.w) X.A (eval b X.env) (fun u s₂ => wpAny (model X.prog X.w) X.A (f v u) Q X.xe s₂) X.xe s₁) X.xe s:=by
 refine thn (ha pins s σ H _ I h) fun v s1 z0z=>?_
 obtain⟨x,H1,I1,r1,q1⟩:=z0z
 refine thn (hb pins s1 σ H1 _ I1 q1) fun u s2 z0z=>?_
 obtain⟨y,H2,I2,r2,q2⟩:=z0z
 exact hf v u s2 x y H2 I2 r1 r2 q2
theorem pe_op{r:R2}(ho:OpR X (binaryOp op) r)(ha:PE X a ta)(hb:PE X b tb):PE X (.BinOp a op b pos) (tOp r ta tb):=by
 intro pins s σ H Q I h
 exact wpAny_BinOp (binT ha hb I h fun v u s2 x y H2 I2 rx ry q=>ho pins s2 σ H2 x y v u Q I2 rx ry q)
theorem pe_un(ho:UnR X (unaryOp op) r)(ha:PE X a ta):PE X (.UnaryOp op a pos) (tUn r ta):=by
 intro pins s σ H Q I h
 exact UnaryOp_ (thn (ha pins s σ H _ I h) fun v s1 z0z=>by obtain⟨x,H1,I1,r1,q1⟩:=z0z;exact ho pins s1 σ H1 x v Q I1 r1 q1)
theorem opI{g:Int->Int->Int}
 (rule:∀(i j:Int)(t u:Tok)(s:Shared)(Q:Value->Shared->Prop)(E:Value->Shared->Prop),C i j->Q (.int (g i j) s.toks) { s with toks:=s.toks+1 }->wpAny (model X.prog X.w) X.A (f (.int i t) (.int j u)) Q E s):
 OpR X f (rI C fun i j=>.int (g i j)):=by
 intro pins s σ H x y v u Q I rx ry h
 obtain⟨i,j,rfl,rfl,hc,q⟩:=h
 obtain⟨t,rfl⟩:=rx
 obtain⟨t',rfl⟩:=ry
 exact rule i j t t' s _ _ hc ⟨.int (g i j),H,I.tok _,⟨_,rfl⟩,q⟩
theorem opI0{g:Int->Int->Int}
 (rule:∀(i j:Int)(t u:Tok)(s:Shared)(Q:Value->Shared->Prop)(E:Value->Shared->Prop),Q (.int (g i j) s.toks) { s with toks:=s.toks+1 }->wpAny (model X.prog X.w) X.A (f (.int i t) (.int j u)) Q E s):
 OpR X f (rI0 fun i j=>.int (g i j)):=by
 intro pins s σ H x y v u Q I rx ry h
 obtain⟨i,j,rfl,rfl,q⟩:=h
 obtain⟨t,rfl⟩:=rx
 obtain⟨t',rfl⟩:=ry
 exact rule i j t t' s _ _ ⟨.int (g i j),H,I.tok _,⟨_,rfl⟩,q⟩
theorem opB0{g:Int->Int->Bool}
 (rule:∀(i j:Int)(t u:Tok)(s:Shared)(Q:Value->Shared->Prop)(E:Value->Shared->Prop),Q (.bool (g i j)) s->wpAny (model X.prog X.w) X.A (f (.int i t) (.int j u)) Q E s):
 OpR X f (rI0 fun i j=>.bl (g i j)):=by
 intro pins s σ H x y v u Q I rx ry h
 obtain⟨i,j,rfl,rfl,q⟩:=h
 obtain⟨t,rfl⟩:=rx
 obtain⟨t',rfl⟩:=ry
 exact rule i j t t' s _ _ ⟨.bl (g i j),H,I,rfl,q⟩
def CMul(i j:Int):Prop:=(-(2 ^ 64)<i/\i<2 ^ 64)∨(-(2 ^ 64)<j/\j<2 ^ 64)
theorem CMul.ok{i j:Int}(h:CMul i j):IntMulOk i j:=by
 rcases h with⟨h1,h2⟩ | ⟨h1,h2⟩
 ·exact .of_left (intBits_le_64 h1 h2)
 ·exact .of_right (intBits_le_64 h1 h2)
theorem Qxs:OpR X (binaryOp .Add) (rI0 fun i j=>.int (i+j)):=opI0 fun _ _ _ _ _ _ _ q=>add_int q
theorem Qw3:OpR X (binaryOp .Sub) (rI0 fun i j=>.int (i - j)):=opI0 fun _ _ _ _ _ _ _ q=>sub_int q
theorem Qv3:OpR X (binaryOp .Mod) (rI (fun _ j=>j≠0) fun i j=>.int (i.fmod j)):=opI fun _ _ _ _ _ _ _ hc q=>mod_int' hc q
theorem unI{f:Value->Sem Value}{g:Int->Int}
 (rule:∀(i:Int)(t:Tok)(s:Shared)(Q:Value->Shared->Prop)(E:Value->Shared->Prop),Q (.int (g i) s.toks) { s with toks:=s.toks+1 }->wpAny (model X.prog X.w) X.A (f (.int i t)) Q E s):
 UnR X f (rU fun i=>.int (g i)):=by
 intro pins s σ H x v Q I rx h
 obtain⟨i,rfl,q⟩:=h
 obtain⟨t,rfl⟩:=rx
 exact rule i t s _ _ ⟨.int (g i),H,I.tok _,⟨_,rfl⟩,q⟩
theorem QwS:UnR X (unaryOp .USub) (rU fun i=>.int (-i)):=unI fun _ _ _ _ _ q=>neg_int q
end
noncomputable def scal:V->V->Bool
 | .non,.non=>true | .non,.int _=>true | .int _,.non=>true | .non,.bl _=>true | .bl _,.non=>true | .non,.str _=>true | .str _,.non=>true
 | .int _,.int _=>true | .bl _,.bl _=>true | .str _,.str _=>true | .byt _,.byt _=>true
 | .int _,.str _=>true | .str _,.int _=>true | .bl _,.str _=>true | .str _,.bl _=>true
 | _,_=>false
section
theorem Qw9(I:Inv X pins σ H s)(q:Q (.bl k) H)(e:k=k'):EP X pins σ Q (.bool k') s:=by
 subst e
 exact⟨.bl k,H,I,rfl,q⟩
theorem op_lt:OpR X (compareOp .Lt) (rI0 fun i j=>.bl (decide (i<j))):=opB0 fun _ _ _ _ _ _ _ q=>lt_int q
theorem op_le:OpR X (compareOp .LtE) (rI0 fun i j=>.bl (decide (i<=j))):=opB0 fun _ _ _ _ _ _ _ q=>le_int q
theorem op_gt:OpR X (compareOp .Gt) (rI0 fun i j=>.bl (decide (j<i))):=opB0 fun _ _ _ _ _ _ _ q=>gt_int q
theorem Qtw:OpR X (compareOp .In) (fun x y H Q=>∃ i j,x=.str i/\y=.str j/\Q (.bl (!(Builtin.Str.occurrences j i 0 j.length 1).isEmpty)) H):=by
 intro pins s σ H x y v u Q I rx ry h
 obtain⟨i,j,rfl,rfl,q⟩:=h
 obtain⟨t,rfl⟩:=rx
 obtain⟨t',rfl⟩:=ry
 exact in_str (Qw9 I q rfl)
theorem OpR.or{f:Value->Value->Sem Value}{r r':R2}(h:OpR X f r)(h':OpR X f r'):OpR X f (fun x y H Q=>r x y H Q∨r' x y H Q):=by
 intro pins s σ H x y v u Q I rx ry q
 rcases q with q | q
 ·exact h pins s σ H x y v u Q I rx ry q
 ·exact h' pins s σ H x y v u Q I rx ry q
theorem QgP(b:Expr)(h:op≠.In:=by decide)(h2:op≠.NotIn:=by decide):behindInMarks op b=false:=by
 have e1:(op == CmpOp.In)=false:=by cases op<;>first | rfl | exact absurd rfl h
 have e2:(op == CmpOp.NotIn)=false:=by cases op<;>first | rfl | exact absurd rfl h2
 cases b<;>simp[behindInMarks,e1,e2]
theorem Qwt(ho:OpR X (compareOp op) r)(ha:PE X a ta)(hb:PE X b tb)(hm:behindInMarks op b=false):PE X (.Compare a [op] [b] pos) (tOp r ta tb):=by
 intro pins s σ H Q I h
 exact wpAny_Compare1 (binT ha hb I h fun v u s2 x y H2 I2 rx ry q=>ho pins s2 σ H2 x y v u Q I2 rx ry q) hm
def tTest(t:TE):TT:=fun σ H Q=>t σ H fun x H'=>∃ k,x=.bl k/\Q k H'
theorem Qwr(ho:OpR X (compareOp op) r)(ha:PE X a ta)(hb:PE X b tb)(hm:behindInMarks op b=false):PT X (.Compare a [op] [b] pos) (tTest (tOp r ta tb)):=by
 intro pins s σ H Q I h
 refine wpAny_isTrue_Compare1 (thn (ha pins s σ H _ I h) fun v s1 ⟨x,H1,I1,r1,q1⟩=>thn (hb pins s1 σ H1 _ I1 q1) fun u s2 ⟨y,H2,I2,r2,q2⟩=>
  thn (ho pins s2 σ H2 x y v u _ I2 r1 r2 q2) fun c s3 ⟨z,H3,I3,r3,k,e,q3⟩=>?_) hm
 subst e
 cases r3
 exact bP ⟨H3,I3,q3⟩
def QnB(r r':R2)(ta tb tc:TE):TE:=fun σ H Q=>ta σ H fun x H1=>tb σ H1 fun y H2=>r x y H2 fun z H3=>∃ k,z=.bl k/\
 (if k=true then tc σ H3 fun w' H4=>r' y w' H4 Q else Q (.bl false) H3)
theorem QuH(ho:OpR X (compareOp op) r)(ho':OpR X (compareOp op') r')(ha:PE X a ta)(hb:PE X b tb)(hc:PE X c tc)
 (hm:lastMarks [op,op'] [b,c]=false:=by with_unfolding_all rfl):PE X (.Compare a [op,op'] [b,c] pos) (QnB r r' ta tb tc):=by
 intro pins s σ H Q I h
 refine Compare_chain (thn (ha pins s σ H _ I h) fun v s1 ⟨x,H1,I1,r1,q1⟩=>chain_link (thn (hb pins s1 σ H1 _ I1 q1) fun u s2 ⟨y,H2,I2,r2,q2⟩=>
  thn (ho pins s2 σ H2 x y v u _ I2 r1 r2 q2) fun d s3 ⟨z,H3,I3,r3,k,e,q3⟩=>?_)) hm
 subst e
 cases r3
 refine bP ?_
 cases k with
 | false=>exact ite_ff ⟨.bl false,H3,I3,rfl,q3⟩
 | true=>exact ite_tt (chain_last (thn (hc pins s3 σ H3 _ I3 q3) fun w' s4 z0z=>by obtain⟨z',H4,I4,r4,q4⟩:=z0z;exact ho' pins s4 σ H4 y z' u w' Q I4 r2 r4 q4))
theorem QuC(ho:OpR X (compareOp op) r)(ho':OpR X (compareOp op') r')(ha:PE X a ta)(hb:PE X b tb)(hc:PE X c tc)
 (hm:lastMarks [op,op'] [b,c]=false:=by with_unfolding_all rfl):PT X (.Compare a [op,op'] [b,c] pos) (tTest (QnB r r' ta tb tc)):=by
 intro pins s σ H Q I h
 refine isTrue_chain (thn (ha pins s σ H _ I h) fun v s1 ⟨x,H1,I1,r1,q1⟩=>test_link (thn (hb pins s1 σ H1 _ I1 q1) fun u s2 ⟨y,H2,I2,r2,q2⟩=>
  thn (ho pins s2 σ H2 x y v u _ I2 r1 r2 q2) fun d s3 ⟨z,H3,I3,r3,k,e,q3⟩=>?_)) hm
 subst e
 cases r3
 refine bP ?_
 cases k with
 | false=>
  obtain⟨k',e',q'⟩:=q3
  cases e'
  exact ite_ff ⟨H3,I3,q'⟩
 | true=>
  refine ite_tt (test_last (thn (hc pins s3 σ H3 _ I3 q3) fun w' s4 ⟨z',H4,I4,r4,q4⟩=>thn (ho' pins s4 σ H4 y z' u w' _ I4 r2 r4 q4) fun d' s5 z0z=>?_))
  obtain⟨z2,H5,I5,r5,k2,e2,q5⟩:=z0z
  subst e2
  cases r5
  exact bP ⟨H5,I5,q5⟩
theorem Qih:(sizeLine:Nat)<2 ^ 63:=by rw[sizeLine_eq];decide
theorem QrM:OpR X (binaryOp .Add) (fun x y H Q=>∃ i j,x=.str i/\y=.str j/\i.length+j.length<=sizeLine/\Q (.str (i++j)) H):=by
 intro pins s σ H x y v u Q I rx ry h
 obtain⟨i,j,rfl,rfl,hz,q⟩:=h
 obtain⟨t,rfl⟩:=rx
 obtain⟨t',rfl⟩:=ry
 exact add_str (fun t' tk=>⟨.str (i++j),H,I.tok _,⟨_,rfl⟩,q⟩) hz
theorem vals1(r:Vals [x] us):∃ u,us=[u]/\RelV x u:=by
 cases r with
 | cons r1 r2=>cases r2;exact⟨_,rfl,r1⟩
theorem vals2(r:Vals [x,y] us):∃ u w',us=[u,w']/\RelV x u/\RelV y w':=by
 cases r with
 | cons r1 r2=>
  cases r2 with
  | cons r3 r4=>cases r4;exact⟨_,_,rfl,r1,r3⟩
theorem Qto(hc:X.calm=true):CallR X (.builtin "min") (fun xs H Q=>∃ i j,xs=[.int i,.int j]/\Q (.int (if j<i then j else i)) H):=by
 intro pins s σ H xs us Q I r h
 obtain⟨i,j,rfl,q⟩:=h
 obtain⟨u,w',rfl,⟨t,rfl⟩,⟨t',rfl⟩⟩:=vals2 r
 refine min_two_ints (I.ok.hd hc) fun h' tk k=>⟨_,H,I.kept k,?_,q⟩
 by_cases hj:j<i
 ·rw[aA hj,aA hj];exact⟨_,rfl⟩
 ·rw[aD hj,aD hj];exact⟨_,rfl⟩
theorem Qsx:CallR X (.type "int") (fun xs H Q=>(∃ i,xs=[.int i]/\Q (.int i) H)∨∃ k,xs=[.bl k]/\Q (.int (if k then 1 else 0)) H):=by
 intro pins s σ H xs us Q I r h
 rcases h with⟨i,rfl,q⟩ | ⟨k,rfl,q⟩
 ·obtain⟨u,rfl,t,rfl⟩:=vals1 r
  exact call_int_int ⟨.int i,H,I,⟨_,rfl⟩,q⟩
 ·obtain⟨u,rfl,r1⟩:=vals1 r
  cases r1
  exact call_int_bool ⟨.int (if k then 1 else 0),H,I.tok _,⟨_,rfl⟩,q⟩
theorem Qoq:CallR X (.type "str") (fun xs H Q=>∃ i,xs=[.int i]/\i.natAbs.log2<1920/\Q (.str (toString i)) H):=by
 intro pins s σ H xs us Q I r h
 obtain⟨i,rfl,hz,q⟩:=h
 obtain⟨u,rfl,t,rfl⟩:=vals1 r
 exact PySem.P.str_of_int hz ⟨.str _,H,I.tok _,⟨_,rfl⟩,q⟩
end
end L2
namespace L2
open PySem PySem.Spec PyProof.Rows
structure ObjM(h:Heap)(x dx C:Addr)(mA:Str->Option Value):Prop where
 obj:h.get? x=some (PySem.W.instObj C dx)
 ns:h.Ns1 dx mA
 ne:dx≠x
theorem Qtf{h:Heap}{dx:Addr}{mA:Str->Option Value}(n:h.Ns1 dx mA):∃ od,h.get? dx=some od/\∀ name,PySem.W.lookIn name od=some (mA name):=by
 obtain⟨o,es,ep,ho,hd,hk,_,hm⟩:=n
 refine⟨o,ho,fun name=>?_⟩
 have e:=hm name
 unfold nsFind findBy at e
 rw[← Array.find?_toList]at e
 unfold PySem.W.lookIn
 rw[hd]
 dsimp only
 split
 ·rename_i y q
  rw[q]at e
  exact bg some e
 ·rename_i q
  rw[q]at e
  have a:es.toList.any (·.refKey)=false:=by
   rw[List.any_eq_false]
   intro y hy
   obtain⟨z,t,hkey⟩:=hk y (Array.mem_toList_iff.mp hy)
   simp[DictEntry.refKey,hkey]
  have a':¬ es.toList.any (·.refKey)=true:=by rw[a];exact b8
  rw[aD a']
  exact bg some e
theorem ObjM.look(I:ObjM h x dx C mA):∃ od,PySem.W.InstAt h x (PySem.W.instObj C dx) C (some od)/\∀ name,PySem.W.lookIn name od=some (mA name):=
 let ⟨od,ho,hl⟩:=Qtf I.ns
 ⟨od,⟨I.obj,rfl,rfl,ho⟩,hl⟩
section
variable      {K:PySem.W.Frag}
theorem QwF(X:K.In s.heap)(I:ObjM s.heap x dx C mA)(hg:PySem.W.plainGet K C name=true)(hh:PySem.W.hasDictIn K C=true)
 (ha:PySem.W.findIn K (.ref C) name=some none) (hv:mA name=some v) (hv':PySem.W.handedIn v=true) (h:Q v { s with toks:=s.toks+1 }):
 wpAny (model prog w) A (getAttr (.ref x) name expr) Q E s:=by
 obtain⟨od,J,hl⟩:=I.look
 exact PySem.W.get_value X J (PySem.W.plainGet_of hg).1 (PySem.W.findObj_own hh ha rfl (by rw[hl,hv])) hv' h
theorem QuI(X:K.In s.heap)(I:ObjM s.heap x dx C mA)(hg:PySem.W.plainGet K C name=true)
 (hf:PySem.W.findIn K (.ref C) name=some (some (.ref f))) (ht:PySem.W.isFn K (.ref f)=true) (hv:mA name=none) (h:Q (.ref f,[.ref x]) s):
 wpAny (model prog w) A (getMethod (.ref x) name pl) Q E s:=by
 obtain⟨od,J,hl⟩:=I.look
 exact PySem.W.method_fn X J (PySem.W.plainGet_of hg).1 (PySem.W.plainGet_of hg).2 hf (bc.mp ht) (by show(PySem.W.lookIn name od).map (·.isSome)=some false;rw[hl,hv];rfl) h
theorem Qwj(X:K.In s.heap)(I:ObjM s.heap x dx C mA)
 (hs:PySem.W.findIn K (.ref C) "__setattr__"=some (some (.builtin "object.__setattr__"))) (hp:PySem.W.plainOver K C=true) (ht:PySem.W.takerIn K C name=some none) (hh:PySem.W.hasDictIn K C=true)
 (hw:PySem.Within mA ns) (hsz:ns.length<=sizeLine)
 (h:∀ h',ObjM h' x dx C (fun y=>if y=name then some v else mA y)->Heap.SameBut dx s.heap h'->Q () { s with heap:=h',toks:=s.toks+2 }):
 wpAny (model prog w) A (setAttr (.ref x) name v) Q E s:=by
 obtain⟨od,J,hl⟩:=I.look
 refine PySem.W.set_plain X J hs (PySem.W.osa_open X J hp ht fun b=>?_)
 obtain⟨cd,hc,hd'⟩:=PySem.W.any_some hh
 have hx:=I.obj
 refine aN (aY (aN (aN (wpAny_loadPart hx (aN (PySem.W.Looks.here (PySem.W.looks_clsIn X hc) ?_))))))
 rw[hd']
 refine aY (aN (aY (aN ?_)))
 refine wpAny_nsSet1 I.ns fun h' hn2 hs2=>?_
 obtain⟨oD,esD,epD,hoD,hdD,hcD⟩:=hn2.count (PySem.Within.cons name v hw)
 refine aN (wpAny_lookBehind hoD (by rw[hdD];exact pastItsLine_dict (aq hcD (by rw[aR];lia))) ?_)
 exact aY (h _ ⟨(hs2.2 _ (bV I.ne)).trans I.obj,hn2,I.ne⟩ hs2)
theorem QuO(X:K.In s.heap)(hm:PySem.W.makesIn K C=true)
 (hi:PySem.W.findIn K (.ref C) "__init__"=some (some (.ref f))) (hf:PySem.W.typeIn K (.ref f)=some (.type "function"))
 (h:codeAny (model prog w) (A.under (.builtin "type.__call__" ⟨.ref C::vs,kw⟩)) (.call (.ref f) ⟨.ref (s.heap.objs.size+1)::vs,kw⟩) (PySem.W.InitBack (s.heap.objs.size+1) R)
  { s with heap:=(s.heap.push PySem.W.emptyDict).push (PySem.W.instObj C s.heap.objs.size) }):
 codeAny (model prog w) A (.call (.ref C) ⟨vs,kw⟩) R s:=by
 obtain⟨hh,g,d,t,os⟩:=s
 exact PySem.W.make_core (PySem.W.makes_of X hm) (PySem.W.looks_findIn X hi) (fun self=>PySem.W.bind_fn X self hf) (.inl rfl) h
end
noncomputable def putF(f:Str)(v:V):List (Str×V)->List (Str×V)
 | []=>[(f,v)]
 | (g,x)::r=>if g=f then(g,v)::r else(g,x)::putF f v r
theorem Qi2(f g:Str)(v:V):∀ fs:List (Str×V),(putF f v fs).lookup g=if g=f then some v else fs.lookup g
 | []=>by
  show List.lookup g [(f,v)]=_
  by_cases h:g=f
  ·have hb:=bc.mpr h
   simp only[List.lookup,hb,aA h]
  ·have hb:=bp.mpr h
   simp only[List.lookup,hb,aD h]
 | (k,x)::r=>by
  have ih:=Qi2 f g v r
  rw[show putF f v ((k,x)::r)=(if k=f then(k,v)::r else(k,x)::putF f v r) from rfl]
  by_cases hk:k=f
  ·rw[aA hk]
   by_cases h:g=k
   ·have hb:=bc.mpr h
    simp only[List.lookup,hb,aA (h.trans hk)]
   ·have hb:=bp.mpr h
    simp only[List.lookup,hb,aD (fun e:g=f=>h (e.trans hk.symm))]
  ·rw[aD hk]
   by_cases h:g=k
   ·have hb:=bc.mpr h
    simp only[List.lookup,hb,aD (fun e:g=f=>hk (h.symm.trans e))]
   ·have hb:=bp.mpr h
    simp only[List.lookup,hb]
    exact ih
theorem Qiq(f:Str)(v:V):∀ fs:List (Str×V),f∈(putF f v fs).map (·.1)/\∀ g,g∈fs.map (·.1)->g∈(putF f v fs).map (·.1)
 | []=>⟨by simp[putF],fun g h=>by simp at h⟩
 | (k,x)::r=>by
  obtain⟨i1,i2⟩:=Qiq f v r
  rw[show putF f v ((k,x)::r)=(if k=f then(k,v)::r else(k,x)::putF f v r) from rfl]
  by_cases hk:k=f
  ·rw[aA hk]
   subst hk
   exact⟨by simp,fun g h=>by simpa using h⟩
  ·rw[aD hk]
   refine⟨?_,fun g h=>?_⟩
   ·rw[au]
    exact aE _ i1
   ·rw[au]at h ⊢
    rcases aF.mp h with e | e
    ·exact aF.mpr (.inl e)
    ·exact aE _ (i2 g e)
theorem Qi7(f:Str)(v:V):∀ fs:List (Str×V),(putF f v fs).length<=fs.length+1
 | []=>by simp[putF]
 | (k,x)::r=>by
  have ih:=Qi7 f v r
  rw[show putF f v ((k,x)::r)=(if k=f then(k,v)::r else(k,x)::putF f v r) from rfl]
  by_cases hk:k=f
  ·rw[aA hk,aR,aR];lia
  ·rw[aD hk,aR,aR];lia
theorem RelO.some_of(r:RelO (some v) o):∃ u,o=some u/\RelV v u:=by
 cases o with
 | none=>exact(r).elim
 | some u=>exact⟨u,rfl,r⟩
theorem RelO.none_of(r:RelO none o):o=none:=by
 cases o with
 | none=>rfl
 | some u=>exact(r).elim
theorem Qt7(r:RelV v u):PySem.W.handedIn u=true:=by
 cases v with
 | non=>cases (r);rfl
 | bl b=>cases (r);rfl
 | int i=>obtain⟨t,e⟩:=(r);cases e;rfl
 | str x=>obtain⟨t,e⟩:=(r);cases e;rfl
 | byt b=>obtain⟨t,e⟩:=(r);cases e;rfl
 | flt b=>obtain⟨t,e⟩:=(r);cases e;rfl
 | ref a=>cases (r);rfl
 | ty n=>cases (r);rfl
section
theorem QgL(hok:HOk P w H h)(e:H a=some (.ins C dx fs)):∃ mA,ObjM h a dx C mA/\(∀ f,RelO (fs.lookup f) (mA f))/\PySem.Within mA (fs.map (·.1))/\fs.length<=1000/\H dx=some (.own a):=by
 obtain⟨d,z,ne,ob,mA,n,r,q⟩:=(hok a _ e)
 exact⟨mA,⟨ob,n,ne⟩,r,q,z,d⟩
end
structure Cls(K:PySem.W.Frag)(C:Addr):Prop where
 pg:PySem.W.plainGet K C Str.empty=true
 hd:PySem.W.hasDictIn K C=true
 po:PySem.W.plainOver K C=true
 sa:PySem.W.findIn K (.ref C) "__setattr__"=some (some (.builtin "object.__setattr__"))
theorem Cls.get{K:PySem.W.Frag}{C:Addr}(c:Cls K C)(f:Str):PySem.W.plainGet K C f=true:=c.pg
def Qfu(K:PySem.W.Frag)(C:Addr)(f:Str):Prop:=PySem.W.findIn K (.ref C) f=some none
theorem Qfu.taker{K:PySem.W.Frag}{C:Addr}{f:Str}(n:Qfu K C f):PySem.W.takerIn K C f=some none:=by
 unfold PySem.W.takerIn
 rw[n]
 rfl
structure Meth(K:PySem.W.Frag)(C:Addr)(m:Str)(f:Addr):Prop where
 at_:PySem.W.findIn K (.ref C) m=some (some (.ref f))
 fn:PySem.W.isFn K (.ref f)=true
 kp:PySem.W.keepIn K (.ref f)=true
section
theorem QrA(I:Inv X pins σ H s)(e:H a=some (.ins C dx fs))(c:Cls X.K C)(n:Qfu X.K C f)(l:fs.lookup f=some v)
 (h:∀ u s',Inv X pins σ H s'->RelV v u->Q u s'):wpAny (model X.prog X.w) A (getAttr (.ref a) f b) Q E s:=by
 obtain⟨mA,O,r,_,_,_⟩:=QgL I.hok e
 obtain⟨u,hu,ru⟩:=RelO.some_of (by rw[← l];exact r f)
 exact QwF I.kIn O (c.get f) c.hd n hu (Qt7 ru) (h u _ (I.tok _) ru)
theorem Qky(I:Inv X pins σ H s)(e:H a=some (.ins C dx fs))(c:Cls X.K C)(k:Meth X.K C m g)(l:fs.lookup m=none)
 (h:Q (.ref g,[.ref a]) s):wpAny (model X.prog X.w) A (getMethod (.ref a) m pl) Q E s:=by
 obtain⟨mA,O,r,_,_,_⟩:=QgL I.hok e
 have hn:=RelO.none_of (by rw[← l];exact r m)
 exact QuI I.kIn O (c.get m) k.at_ k.fn hn h
theorem Qro(I:Inv X pins σ H s)(e:H a=some (.ins C dx fs))(c:Cls X.K C)(n:Qfu X.K C f)(hl:fs.length<1000)(ry:RelV y u)
 (h:∀ s',Inv X pins σ (upd H a (.ins C dx (putF f y fs))) s'->Q () s'):wpAny (model X.prog X.w) A (setAttr (.ref a) f u) Q E s:=by
 obtain⟨mA,O,r,wi,_,ho⟩:=QgL I.hok e
 have hz:(fs.map (·.1)).length<=sizeLine:=by rw[aC,sizeLine_eq];lia
 refine Qwj I.kIn O c.sa c.po n.taker c.hd wi hz fun h' O' sb=>h _ ?_
 have hd:∃ o,h'.get? dx=some o:=let ⟨o,_,_,e',_⟩:=O'.ns;⟨o,e'⟩
 refine I.write (by rw[e];exact True.intro) (.inr ho) (fun b q hb z=>(sb.2 b hb).trans z) hd ?_
 refine⟨by rw[Qi O.ne];exact ho,?_,O.ne,O'.obj,_,O'.ns,fun g=>?_,fun g hg=>?_⟩
 ·have:=Qi7 f y fs;lia
 ·rw[Qi2]
  by_cases q:g=f
  ·rw[aA q,aA q];exact ry
  ·rw[aD q,aD q];exact r g
 ·by_cases q:g=f
  ·rw[q];exact(Qiq f y fs).1
  ·refine(Qiq f y fs).2 g (wi g fun z=>hg ?_)
   show(if g=f then some u else mA g)=none
   rw[aD q];exact z
theorem Inv.made(I:Inv X pins σ H s):Inv X pins σ (upd (upd H s.heap.objs.size (.own (s.heap.objs.size+1))) (s.heap.objs.size+1) (.ins C s.heap.objs.size []))
 { s with heap:=(s.heap.push PySem.W.emptyDict).push (PySem.W.instObj C s.heap.objs.size) }:=by
 have e1:(s.heap.push PySem.W.emptyDict).get? s.heap.objs.size=some PySem.W.emptyDict:=ag s.heap rfl
 have e2:((s.heap.push PySem.W.emptyDict).push (PySem.W.instObj C s.heap.objs.size)).get? (s.heap.objs.size+1)=some (PySem.W.instObj C s.heap.objs.size):=by
  have:=ag (s.heap.push PySem.W.emptyDict) (o:=PySem.W.instObj C s.heap.objs.size) rfl
  rwa [bf]at this
 have e3:(s.heap.push PySem.W.emptyDict).Ns s.heap.objs.size (fun _=>none):=⟨PySem.W.emptyDict, #[],_,e1,rfl,(fun e he=>absurd he (by simp)),fun _=>rfl⟩
 have I1:=I.laid (o:=.own (s.heap.objs.size+1)) (t':=s.toks) (fun b u q=>aK _ q) (aP _) ⟨_,e1⟩
 refine I1.laid (fun b u q=>aK _ q) (Nat.le_of_eq (bf _ _)) ?_
 have ne:s.heap.objs.size≠s.heap.objs.size+1:=af (cW _)
 refine⟨by rw[Qi ne,Qq],av _,ne,e2,fun _=>none,(Heap.Ns1.of_empty e3).at fun o q=>aK _ q,fun _=>True.intro,fun y hy=>absurd rfl hy⟩
theorem QwK(hb:attributeBase e f env (eval e env)=eval e env)
 (h:wpAny (model prog w) A (eval e env) (fun o s₁=>wpAny (model prog w) A (getAttr o f true) Q E s₁) E s):wpAny (model prog w) A (eval (.Attribute e f pos) env) Q E s:=
 Attribute_any_ h (by rw[arm_eval_Attribute,hb])
end
def tFld(K:PySem.W.Frag)(ta:TE)(f:Str):TE:=fun σ H Q=>ta σ H fun x H1=>∃ a C dx fs v,x=.ref a/\H1 a=some (.ins C dx fs)/\Cls K C/\Qfu K C f/\fs.lookup f=some v/\Q v H1
def sFld(K:PySem.W.Frag)(ta tv:TE)(f:Str):TS:=fun D σ H=>tv σ H fun y H1=>ta σ H1 fun x H2=>∃ a C dx fs,x=.ref a/\H2 a=some (.ins C dx fs)/\Cls K C/\Qfu K C f/\fs.length<1000/\
 D.nx σ (upd H2 a (.ins C dx (putF f y fs)))
section
theorem Qxm(he:PE X e ta)(hb:attributeBase e f X.env (eval e X.env)=eval e X.env):PE X (.Attribute e f pos) (tFld X.K ta f):=by
 intro pins s σ H Q I h
 refine QwK hb (thn (he pins s σ H _ I h) fun u s1 z0z=>?_)
 obtain⟨x,H1,I1,rx,a,C,dx,fs,v,ex,ea,c,n,l,q⟩:=z0z
 subst ex
 obtain rfl:=rx
 exact QrA I1 ea c n l fun u' s2 I2 ru=>⟨v,H1,I2,ru,q⟩
theorem QxG(ha:PE X o ta)(hv:PE X value tv)(hs:swapsWith value (some (.Attribute o f pos')) pos.line X.env=pure false):PS X (.Assign [.Attribute o f pos'] value pos) (sFld X.K ta tv f):=by
 intro pins s σ H D I h
 refine plainObj_wpAny_Assign_Attribute (thn (hv pins s σ H _ I h) fun u s1 ⟨y,H1,I1,ry,q⟩=>thn (ha pins s1 σ H1 _ I1 q) fun ov s2 z0z=>?_) hs
 obtain⟨x,H2,I2,rx,a,C,dx,fs,ex,ea,c,n,l,q2⟩:=z0z
 subst ex
 obtain rfl:=rx
 exact Qro I2 ea c n l ry fun s3 I3=>⟨σ,_,I3,q2⟩
end
section
end
end L2
namespace L2
open PySem PySem.Spec PyProof.Rows
structure Room(k:Nat)(A:Around):Prop where
 hd:A.handled=none
 dp:A.depth+3 * k+5<recursionLimit
 un:A.units+16 * k+200<cLine
theorem Room.mono{j k:Nat}{A:Around}(r:Room k A)(h:j<=k):Room j A:=⟨r.hd,by have:=r.dp;lia,by have:=r.un;lia⟩
theorem Room.deeper{k:Nat}{A:Around}(r:Room (k+1) A)(env:Env):Room k (A.deeper env):=
 ⟨r.hd,by have:=r.dp;show A.depth+1+3 * k+5<_;lia,by have:=r.un;show A.units+3+16 * k+200<_;lia⟩
theorem QrL{A:Around}{C:Addr}{us:List Value}{kw:List (Str×Value)}:(A.under (.builtin "type.__call__" ⟨.ref C::us,kw⟩)).depth=A.depth+1:=by
 first | rfl | simp[Around.under,Code.weight,Code.isCreation,Code.isGuard,Code.isCaller,Code.frames,Code.isFrame,guardIds]
theorem Qrp{A:Around}{C:Addr}{us:List Value}{kw:List (Str×Value)}:(A.under (.builtin "type.__call__" ⟨.ref C::us,kw⟩)).units=A.units+1:=by
 first | rfl | simp[Around.under,Code.cUnits,Code.frames,Code.isFrame]
theorem Room.make{k:Nat}{A:Around}(r:Room (k+1) A)(C:Addr)(us:List Value)(kw:List (Str×Value)):Room k (A.under (.builtin "type.__call__" ⟨.ref C::us,kw⟩)):=
 ⟨r.hd,by have:=r.dp;rw[QrL];lia,by have:=r.un;rw[Qrp];lia⟩
theorem Room.depth{k:Nat}{A:Around}(r:Room k A):A.depth<recursionLimit:=by have:=r.dp;lia
theorem Room.units(r:Room k A):A.units+64<cLine:=by have:=r.un;omega
def tNil:TA:=fun _ H Q=>Q [] H
def tCons(ta:TE)(tr:TA):TA:=fun σ H Q=>ta σ H fun x H1=>tr σ H1 fun xs H2=>Q (x::xs) H2
section
theorem QaL:PA X [] tNil:=fun _ _ _ _ H Q I h=>Calls.spliced_nil ⟨[],H,I,.nil,h⟩
theorem Q0(ha:PE X e te)(hr:PA X es t)(hs:starEach (e::es) X.env=(false,eval e X.env)::starEach es X.env:=by rfl):PA X (e::es) (tCons te t):=by
 intro pos pins s σ H Q I h
 rw[hs]
 refine Calls.spliced_cons (thn (ha pins s σ H _ I h) fun u s1 z0z=>?_)
 obtain⟨x,H1,I1,r1,q1⟩:=z0z
 exact thn (hr pos pins s1 σ H1 _ I1 q1) fun us s2 z0z=>by obtain⟨xs,H2,I2,r2,q2⟩:=z0z;exact⟨x::xs,H2,I2,.cons r1 r2,q2⟩
def tTup(t:TA):TE:=fun σ H Q=>t σ H fun xs H1=>xs.length<=sizeLine/\∀ p,H1 p=none->Q (.ref p) (upd H1 p (.tup xs))
def tLst(t:TA):TE:=fun σ H Q=>t σ H fun xs H1=>xs.length<=sizeLine/\∀ p,H1 p=none->Q (.ref p) (upd H1 p (.lst xs))
theorem QnW(h:PA X es t):PE X (.Tuple es x1 pos) (tTup t):=by
 intro pins s σ H Q I hq
 refine wpAny_Tuple_spliced (thn (h pos pins s σ H _ I hq) fun us s1 ⟨xs,H1,I1,r,z,q⟩=>⟨by rw[← r.length];exact z,?_⟩)
 have hf:=I1.hok.fresh (aP _)
 refine⟨.ref s1.heap.objs.size,upd H1 s1.heap.objs.size (.tup xs),I1.laid (fun b u e=>aK _ e) (aP _) ?_,rfl,q _ hf⟩
 exact⟨z,us,r,⟨_,ag _ rfl,rfl,_,rfl⟩⟩
theorem QoR(h:PA X es t):PE X (.List es pos) (tLst t):=by
 intro pins s σ H Q I hq
 refine wpAny_List_spliced (thn (h pos pins s σ H _ I hq) fun us s1 ⟨xs,H1,I1,r,z,q⟩=>⟨by rw[← r.length];exact z,?_⟩)
 have hf:=I1.hok.fresh (aP _)
 refine⟨.ref s1.heap.objs.size,upd H1 s1.heap.objs.size (.lst xs),I1.laid (fun b u e=>aK _ e) (aP _) ?_,rfl,q _ hf⟩
 exact⟨z,us,0,r,ag _ rfl⟩
end
abbrev Sp:=List V->Hp->VK->XK->Prop
abbrev CXT:=List Env->Hp->Shared->XK->Value->Shared->Prop
structure Env0(P:Program)(w:World)(K:PySem.W.Frag)(mg:Str->Option Value)(base:Heap)(A:Around)(outer:List Env)(s:Shared)(H:Hp):Prop where
 frames:A.frames=some outer
 mod:Mod K mg base
 bs:∀ b o,base.get? b=some o->s.heap.get? b=some o/\H b=none
 bsz:base.objs.size<=s.heap.objs.size
 funs:s.heap.FunFrames base outer
 frf:∀ b∈frs outer,H b=none
 hok:HOk P w H s.heap
 bare:AllBare s.gens
def CE(outer:List Env)(P:Program)(w:World)(H:Hp)(s:Shared)(Q:VK)(u:Value)(s':Shared):Prop:=
 ∃ v H',s'.os=s.os/\AllBare s'.gens/\Un (frs outer) [] H H' s.heap s'.heap/\HOk P w H' s'.heap/\RelV v u/\Q v H'
def CR(CX:CXT)(outer:List Env)(P:Program)(w:World)(H:Hp)(s:Shared)(Q:VK)(E:XK)(r:Result)(s':Shared):Prop:=
 match r with
 | .ok (.ret u)=>CE outer P w H s Q u s'
 | .ok _=>False
 | .error e=>CX outer H s E e s'
structure FnOk(P:Program)(w:World)(K:PySem.W.Frag)(mg:Str->Option Value)(base:Heap)(CX:CXT)(k:Nat)(f:Addr)(fd:FuncData)(ps:List Str)(sp:Sp):Prop where
 len:∀ vs H Q E,sp vs H Q E->vs.length=ps.length
 run:∀(A:Around)(outer:List Env)(s:Shared)(H:Hp)(args:Args)(us:List Value)(vs:List V)(Q:VK)(E:XK),Room k A->Env0 P w K mg base A outer s H->BindsTo s fd args (ps.zip us)->Vals vs us->sp vs H Q E->
  codeAny (model P w) A (.call (.ref f) args) (CR CX outer P w H s Q E) s
theorem FnOk.mono{P:Program}{w:World}{K:PySem.W.Frag}{mg:Str->Option Value}{base:Heap}{CX:CXT}{j k:Nat}{f:Addr}{fd:FuncData}{ps:List Str}{sp:Sp}(F:FnOk P w K mg base CX j f fd ps sp)(h:j<=k):
 FnOk P w K mg base CX k f fd ps sp:=⟨F.len,fun A outer s H args us vs Q E hr=>F.run A outer s H args us vs Q E (hr.mono h)⟩
theorem FnOk.imp{P:Program}{w:World}{K:PySem.W.Frag}{mg:Str->Option Value}{base:Heap}{CX:CXT}{k:Nat}{f:Addr}{fd:FuncData}{ps:List Str}{sp sp':Sp}(F:FnOk P w K mg base CX k f fd ps sp)
 (h:∀ vs H Q E,sp' vs H Q E->sp vs H Q E):FnOk P w K mg base CX k f fd ps sp':=
 ⟨fun vs H Q E q=>F.len vs H Q E (h _ _ _ _ q),fun A outer s H args us vs Q E hr he hb hv hs=>F.run A outer s H args us vs Q E hr he hb hv (h _ _ _ _ hs)⟩
theorem Env0.make{P:Program}{w:World}{K:PySem.W.Frag}{mg:Str->Option Value}{base:Heap}{A:Around}{outer:List Env}{s:Shared}{H:Hp}(e:Env0 P w K mg base A outer s H)(C:Addr)(us:List Value)(kw:List (Str×Value)):
 Env0 P w K mg base (A.under (.builtin "type.__call__" ⟨.ref C::us,kw⟩)) outer s H:=⟨by first | exact e.frames | (simpa [Around.under,Code.envs,Code.isFrame,pushEnvs] using e.frames),e.mod,e.bs,e.bsz,e.funs,e.frf,e.hok,e.bare⟩
section
theorem Inv.env0(I:Inv X pins σ H s):Env0 X.prog X.w X.K X.mg X.base X.A X.stack s H:=
 ⟨I.ok.frames,I.ok.mod,I.bs,aq I.ok.bsz I.sz,I.stack,I.stkFree,I.hok,I.bare⟩
theorem Inv.after(I:Inv X pins σ H s)(h:CE X.stack X.prog X.w H s Q u s'):EP X pins σ Q u s':=by
 obtain⟨v,H',os,bare,un,hok,r,q⟩:=h
 obtain⟨hh,g,d,t,os'⟩:=s'
 obtain rfl:=os
 exact⟨v,H',I.call un hok bare (fun b z=>absurd z (by simp)),r,q⟩
end
def tCall(sp:Sp)(dvs:List V)(E:XK)(t:TA):TE:=fun σ H Q=>t σ H fun vs H1=>sp (vs++dvs) H1 Q E
def tMake(C:Addr)(sp:Sp)(dvs:List V)(E:XK)(t:TA):TE:=fun σ H Q=>t σ H fun vs H1=>∀ x dx,H1 x=none->H1 dx=none->dx≠x->
 sp (.ref x::(vs++dvs)) (upd (upd H1 dx (.own x)) x (.ins C dx [])) (fun v H2=>v=.non/\Q (.ref x) H2) E
def Binds(K:PySem.W.Frag)(fd:FuncData)(ps:List Str)(ds:List Value):Prop:=
 ∀(s:Shared)(us:List Value),K.In s.heap->(us++ds).length=ps.length->BindsTo s fd ⟨us,[]⟩ (ps.zip (us++ds))
theorem Binds.all{K:PySem.W.Frag}{fd:FuncData}{ps:List Str}(h:∀ us:List Value,us.length=ps.length->bindArgs fd ⟨us,[]⟩=pure (ps.zip us)):Binds K fd ps []:=fun s us _ hl=>by
 rw[aj]at hl ⊢
 exact .of_eq (h us hl)
def Qc0(CX:CXT)(X:Cx)(E:XK):Prop:=∀(pins:List (Addr×Obj))(σ:St)(H:Hp)(s:Shared)(e:Value)(s':Shared),Inv X pins σ H s->CX X.stack H s E e s'->X.xe e s'
section
theorem QoC(F:FnOk X.prog X.w X.K X.mg X.base CX k f fd ps sp)(hr:Room k X.A)(hb:Binds X.K fd ps ds)(hd:Vals dvs ds)(hx:Qc0 CX X E)
 (I:Inv X pins σ H s) (r:Vals vs us) (h:sp (vs++dvs) H Q E):wpAny (model X.prog X.w) X.A (call (.ref f) us) (EP X pins σ Q) X.xe s:=by
 have r2:=r.append hd
 have hl:(us++ds).length=ps.length:=by rw[← r2.length];exact F.len _ _ _ _ h
 refine wpAny_call (cM (F.run X.A X.stack s H ⟨us,[]⟩ (us++ds) (vs++dvs) Q E hr I.env0 (hb s us I.kIn hl) r2 h) fun r s' hq=>?_)
 cases r with
 | error e=>exact hx pins σ H s e s' I hq
 | ok fl=>
  cases fl with
  | ret u=>exact I.after hq
  | next=>exact False.elim hq
  | brk=>exact False.elim hq
  | cont=>exact False.elim hq
theorem QgG(F:FnOk X.prog X.w X.K X.mg X.base CX k f fd ps sp)(hr:Room k X.A)(hg:Gl X x)(hm:X.mg x=some (.ref f))(hk:PySem.W.keepIn X.K (.ref f)=true)(hb:Binds X.K fd ps ds)(hd:Vals dvs ds)(hx:Qc0 CX X E)
 (ha:PA X (e::es) t) (hdb:(x == ("__debug__":Str))=false:=by decide) (he:starEach (e::es) X.env=(false,eval e X.env)::starEach es X.env:=by rfl) (hpl:(backTo pos (starEach es X.env)).any (·.1)=false:=by rfl):
 PE X (.Call (.Name x p) (e::es) [] pos) (tCall sp dvs E t):=by
 intro pins s σ H Q I h
 refine bT (QkT I hg hm ?_ hdb)
 refine PySem.W.callWith_K I.ok.mod.kin hk (thn (ha pos pins s σ H _ I h) fun us s1 ⟨vs,H1,I1,r,q⟩=>⟨I1.kIn,?_⟩) he hpl
 exact QoC F hr hb hd hx I1 r q
structure Mk(K:PySem.W.Frag)(C f:Addr):Prop where
 makes:PySem.W.makesIn K C=true
 init:PySem.W.findIn K (.ref C) "__init__"=some (some (.ref f))
 fn:PySem.W.isFn K (.ref f)=true
 kp:PySem.W.keepIn K (.ref C)=true
theorem Quo(M:Mk X.K C f)(F:FnOk X.prog X.w X.K X.mg X.base CX k f fd ps sp)(hr:Room (k+1) X.A)(hb:Binds X.K fd ps ds)(hd:Vals dvs ds)
 (hx:Qc0 CX X E) (I:Inv X pins σ H s) (r:Vals vs us)
 (h:∀ x dx,H x=none->H dx=none->dx≠x->sp (.ref x::(vs++dvs)) (upd (upd H dx (.own x)) x (.ins C dx [])) (fun v H2=>v=.non/\Q (.ref x) H2) E):
 wpAny (model X.prog X.w) X.A (call (.ref C) us) (EP X pins σ Q) X.xe s:=by
 have hq:=h (s.heap.objs.size+1) s.heap.objs.size (I.hok.fresh (Nat.le_succ _)) (I.hok.fresh (aP _)) (af (cW _))
 have I2:=Inv.made (C:=C) I
 have r2:Vals (V.ref (s.heap.objs.size+1)::(vs++dvs)) (Value.ref (s.heap.objs.size+1)::(us++ds)):=.cons rfl (r.append hd)
 have hl:(Value.ref (s.heap.objs.size+1)::us++ds).length=ps.length:=by
  have e:=r2.length
  rw[F.len _ _ _ _ hq]at e
  exact e.symm
 refine wpAny_call (QuO I.kIn M.makes M.init (bc.mp M.fn) (cM (F.run _ X.stack _ _ ⟨Value.ref (s.heap.objs.size+1)::us,[]⟩ (Value.ref (s.heap.objs.size+1)::(us++ds)) _ _ E (hr.make C us [])
  (I2.env0.make C us []) (hb _ (Value.ref (s.heap.objs.size+1)::us) I2.kIn hl) r2 hq) fun r s' hq'=>?_))
 cases r with
 | error e=>exact hx pins σ _ _ e s' I2 hq'
 | ok fl=>
  cases fl with
  | ret u=>
   obtain⟨v,H',I3,rv,ev,q3⟩:=I2.after hq'
   subst ev
   exact⟨rv,⟨V.ref (s.heap.objs.size+1),H',I3,rfl,q3⟩⟩
  | next=>exact False.elim hq'
  | brk=>exact False.elim hq'
  | cont=>exact False.elim hq'
theorem Qvv(M:Mk X.K C f)(F:FnOk X.prog X.w X.K X.mg X.base CX k f fd ps sp)(hr:Room (k+1) X.A)(hg:Gl X x)(hm:X.mg x=some (.ref C))(hb:Binds X.K fd ps ds)(hd:Vals dvs ds)(hx:Qc0 CX X E)
 (ha:PA X (e::es) t) (hdb:(x == ("__debug__":Str))=false:=by decide) (he:starEach (e::es) X.env=(false,eval e X.env)::starEach es X.env:=by rfl) (hpl:(backTo pos (starEach es X.env)).any (·.1)=false:=by rfl):
 PE X (.Call (.Name x p) (e::es) [] pos) (tMake C sp dvs E t):=by
 intro pins s σ H Q I h
 refine bT (QkT I hg hm ?_ hdb)
 refine PySem.W.callWith_K I.ok.mod.kin M.kp (thn (ha pos pins s σ H _ I h) fun us s1 ⟨vs,H1,I1,r,q⟩=>⟨I1.kIn,?_⟩) he hpl
 exact Quo M F hr hb hd hx I1 r q
end
section
end
structure Qn(N P:List Str)(sc:Scope):Prop where
 kind:sc.kind=.function
 co:sc.isCoroutine=false
 gen:sc.isGenerator=false
 nd:N.Nodup
 pre:N.take P.length=P
 par:∀ x∈P,sc.names.lookup x=some .local∨sc.names.lookup x=some .cell
 nofree:∀ y∈sc.names,y.2≠.free
theorem Qmm{kindOf:Str->Option NameKind}{x:Str}:∀{binds:List (Str×Value)}{m:Str->Option Value},(∀ v,(x,v)∉binds)->bindL kindOf binds m x=m x
 | [],_,_=>rfl
 | (n,v)::r,m,h=>by
  unfold bindL
  rw[Qmm fun w hw=>h w (aE _ hw)]
  split
  ·have:x≠n:=by rintro rfl;exact h v aL
   simp[this]
  ·rfl
theorem Qmd{kindOf:Str->Option NameKind}{x:Str}:∀{binds:List (Str×Value)}{m:Str->Option Value},(∀ v,(x,v)∉binds)->bindC kindOf binds m x=m x
 | [],_,_=>rfl
 | (n,v)::r,m,h=>by
  unfold bindC
  rw[Qmd fun w hw=>h w (aE _ hw)]
  split
  ·rfl
  ·have:x≠n:=by rintro rfl;exact h v aL
   simp[this]
theorem Qmw{kindOf:Str->Option NameKind}{x:Str}{v:Value}:∀{P:List Str}{vs:List Value}{i:Nat}{m:Str->Option Value},P.Nodup->P[i]?=some x->vs[i]?=some v->kindOf x=some .local->
 bindL kindOf (P.zip vs) m x=some v
 | [],_,_,_,_,h,_,_=>by simp at h
 | _::_,[],_,_,_,_,h,_=>by simp at h
 | p::P,w::vs,0,m,nd,h1,h2,hk=>by
  simp at h1 h2;subst h1;subst h2
  show bindL kindOf ((p,w)::P.zip vs) m p=_
  unfold bindL
  rw[Qmm fun v hv=>(bX.mp nd).1 (cJ hv).1,aA hk]
  simp
 | p::P,w::vs,i+1,m,nd,h1,h2,hk=>by
  unfold bindL
  exact Qmw (bX.mp nd).2 (by simpa using h1) (by simpa using h2) hk
theorem Qmc{kindOf:Str->Option NameKind}{x:Str}{v:Value}:∀{P:List Str}{vs:List Value}{i:Nat}{m:Str->Option Value},P.Nodup->P[i]?=some x->vs[i]?=some v->kindOf x≠some .local->
 bindC kindOf (P.zip vs) m x=some v
 | [],_,_,_,_,h,_,_=>by simp at h
 | _::_,[],_,_,_,_,h,_=>by simp at h
 | p::P,w::vs,0,m,nd,h1,h2,hk=>by
  simp at h1 h2;subst h1;subst h2
  show bindC kindOf ((p,w)::P.zip vs) m p=_
  unfold bindC
  rw[Qmd fun v hv=>(bX.mp nd).1 (cJ hv).1,aD hk]
  simp
 | p::P,w::vs,i+1,m,nd,h1,h2,hk=>by
  unfold bindC
  exact Qmc (bX.mp nd).2 (by simpa using h1) (by simpa using h2) hk
noncomputable def start(N:List Str)(vs:List V):St:=vs.map some++List.replicate (N.length - vs.length) none
noncomputable def cxOf(CX:CXT)(P:Program)(w:World)(K:PySem.W.Frag)(mg:Str->Option Value)(base:Heap)(N:List Str)(qual:Str)(scope:Scope)(f:Addr)(cd:Value)(A:Around)(outer:List Env)(s:Shared)(H:Hp)(E:XK):Cx where
 prog:=P
 w:=w
 K:=K
 mg:=mg
 base:=base
 A:=A.deeper (envOfC qual scope s.heap.objs.size f cd)
 N:=N
 s₀:=s
 H₀:=H
 env:=envOfC qual scope s.heap.objs.size f cd
 outer:=outer
 stack:=envOfC qual scope s.heap.objs.size f cd::outer
 ex:=[]
 calm:=true
 fn:=fun _=>true
 pn:=[]
 xe:=fun e s'=>wpAny (model P w) (A.deeper (envOfC qual scope s.heap.objs.size f cd)) (leaving (envOfC qual scope s.heap.objs.size f cd) e) (fun _ s''=>CX outer H s E e s'') (fun e' s''=>CX outer H s E e' s'') s'
theorem QnK{sc:Scope}{n:Nat}{x:Str}(h:sc.names.lookup x=some .cell):∃ c,(cellsFrom n sc.names []).lookup x=some c:=by
 have q:=PySem.W.cellsFrom_some sc.names n [] (.inl h)
 exact bH.mp q
theorem Qt9{CX:CXT}{P:Program}{w:World}{K:PySem.W.Frag}{mg:Str->Option Value}{base:Heap}{N ps:List Str}{qual:Str}{scope:Scope}{f:Addr}{cd:Value}{A:Around}{outer:List Env}{s s1:Shared}{H:Hp}{E:XK}{us:List Value}{vs:List V}
 (S:Qn N ps scope) (hd:A.handled=none) (e0:Env0 P w K mg base A outer s H) (hl:vs.length=ps.length) (r:Vals vs us)
 (x:InCallC s s.heap.objs.size (bindL (envOfC qual scope s.heap.objs.size f cd).kindOf (ps.zip us) fun _=>none) (cellsFrom (s.heap.objs.size+1) scope.names []) (bindC (envOfC qual scope s.heap.objs.size f cd).kindOf (ps.zip us) fun _=>none) s1):
 Inv (cxOf CX P w K mg base N qual scope f cd A outer s H E) [] (start N vs) H s1:=by
 have hpl:ps.length<=N.length:=by have:=bg List.length S.pre;rw[bF]at this;omega
 obtain⟨h1,tk,rfl,hk⟩:=x.done
 have noA:∀ b:Addr,b∉(cxOf CX P w K mg base N qual scope f cd A outer s H E).ex:=fun b z=>absurd (show b∈([]:List Addr) from z) (by simp)
 refine⟨⟨e0.mod,S.kind,rfl,rfl,aP _,fun y z c h1 h2=>?_,fun y hy=>?_,fun y c _ h=>?_,fun _=>hd,Around.frames_deeper e0.frames,.inr ⟨rfl,rfl⟩,fun b z=>absurd z (noA b),e0.bs,e0.bsz,fun b _ _=>noA b,fun b z=>absurd z (noA b),e0.funs,e0.frf⟩,
  rfl,e0.bare,Un.kept hk,⟨_,x.toInCall.ns,fun i y v h1 h2 h3=>?_⟩,fun y c h=>⟨_,x.cell y c h⟩,e0.hok.fresh (aP _),fun y c h=>?_,fun p hp=>absurd (show p∈([]:List (Addr×Obj)) from hp) (by simp),e0.hok.kept hk,?_⟩
 ·exact name_of_addr x.apart (bR h1) (bR h2)
 ·have hy:=hy
  rcases hy with hy | hy
  ·exact QnK hy
  ·exact absurd rfl (S.nofree _ (bR hy))
 ·exact Nat.le_of_lt (x.above y c (bR h))
 ·have hi:i<vs.length:=by
   unfold start at h2
   by_cases hi:i<vs.length
   ·exact hi
   ·rw[List.getElem?_append_right (by simpa using hi)]at h2
    rw[bq]at h2
    split at h2<;>cases h2
  have ha:vs[i]?=some v:=by
   unfold start at h2
   rw[cK (by simpa using hi),aM]at h2
   cases e:vs[i]? with
   | none=>rw[e]at h2;cases h2
   | some a=>rw[e]at h2;cases h2;rfl
  obtain⟨u,hu,rv⟩:=r.get ha
  have hp:ps[i]?=some y:=by
   rw[← S.pre,List.getElem?_take_of_lt (by lia)];exact h1
  have ndP:ps.Nodup:=by rw[← S.pre];exact S.nd.sublist (List.take_sublist _ _)
  refine⟨u,rv,?_⟩
  rcases S.par y (cD hp) with k | k
  ·exact .inl ⟨k,Qmw ndP hp hu k⟩
  ·obtain⟨c,e⟩:=QnK k
   refine .inr ⟨.inl k,c,e,?_⟩
   have q:=x.cell y c e
   rw[Qmc ndP hp hu (by show scope.names.lookup y≠_;rw[k];decide)]at q
   exact q
 ·exact e0.hok.fresh (Nat.le_of_lt (x.above y c (bR h)))
 ·unfold start
  show _=N.length
  rw[ae,aC,List.length_replicate]
  lia
theorem fn_of{CX:CXT}{P:Program}{w:World}{K:PySem.W.Frag}{mg:Str->Option Value}{base:Heap}{k:Nat}{f:Addr}{name qual:Str}{params:Arguments}{body:List Stmt}{scope:Scope}{dV kV doc pm cdv ct oc:Value}{an od:Option Addr}
 {osl:Array (Option Value)} {N ps:List Str} {sp:Sp} (lk:K.lookup f=some ⟨oc,od,.func (PySem.W.fnOf name qual params body scope dV kV doc pm an cdv ct),osl⟩) (hcd:PySem.W.codeIn K cdv qual=true) (S:Qn N ps scope)
 (len:∀ vs H Q E,sp vs H Q E->vs.length=ps.length)
 (hbody:∀(A:Around)(outer:List Env)(s:Shared)(H:Hp)(vs:List V)(Q:VK)(E:XK),Room k (A.deeper (envOfC qual scope s.heap.objs.size f cdv))->sp vs H Q E->
  ∃ t,PSs (cxOf CX P w K mg base N qual scope f cdv A outer s H E) body t/\t { nx:=fun _ H'=>Q .non H',rt:=Q } (start N vs) H):
 FnOk P w K mg base CX (k+1) f (PySem.W.fnOf name qual params body scope dV kV doc pm an cdv ct) ps sp:=by
 refine⟨len,fun A outer s H args us vs Q E hr e0 hb r hsp=>?_⟩
 have hl:=len _ _ _ _ hsp
 have KX:=e0.mod.kin.keeps fun b o e=>(e0.bs b o e).1
 have lim:=e0.mod.nolimit.keeps fun b o e=>(e0.bs b o e).1
 have hkind:∀ y∈ps.zip us,scope.names.lookup y.1=some .local∨(scope.names.lookup y.1=some .cell/\((cellsFrom (s.heap.objs.size+1) scope.names []).lookup y.1).isSome=true):=fun⟨n,v⟩ hy=>by
  rcases S.par n (cJ hy).1 with q | q
  ·exact .inl q
  ·exact .inr ⟨q,PySem.W.cellsFrom_some _ _ _ (.inl q)⟩
 refine codeAny_call_function hr.depth (KX _ _ lk) rfl S.co S.gen rfl (PySem.W.codeRec_of KX hcd) (hb _ _ _ _ ?_)
 refine wpAny_newFunctionEnv_cells S.kind hkind fun env he s1 x=>?_
 subst he
 refine⟨lim.keeps x.toInCall.keep,codeAny_func ?_⟩
 obtain⟨t,ht,hq⟩:=hbody A outer s H vs Q E (hr.deeper _) hsp
 have I:Inv (cxOf CX P w K mg base N qual scope f cdv A outer s H E) [] (start N vs) H s1:=Qt9 S hr.hd e0 hl r x
 refine bB (ht [] s1 (start N vs) H _ I hq) (fun fl s' hs=>?_) fun e s' hs=>hs
 have fin:∀{σ':St}{H':Hp}{v:V}{u:Value},Inv (cxOf CX P w K mg base N qual scope f cdv A outer s H E) [] σ' H' s'->RelV v u->Q v H'->CE outer P w H s Q u s':=
  fun {σ' H' v u} J rv q=>⟨v,H',J.os,J.bare,J.base,J.hok,rv,q⟩
 cases fl with
 | ret u=>
  obtain⟨v,σ',H',J,rv,q⟩:=hs
  exact fin J rv q
 | next=>
  obtain⟨σ',H',J,q⟩:=hs
  exact fin (v:=V.non) J rfl q
 | brk=>
  obtain⟨_,_,_,q⟩:=hs
  exact False.elim q
 | cont=>
  obtain⟨_,_,_,q⟩:=hs
  exact False.elim q
end L2
namespace L2
open PySem PySem.Spec PyProof.Rows
section
variable       {id T:String}
def tCB(r:List V->Hp->VK->Prop)(t:TA):TE:=fun σ H Q=>t σ H fun vs H1=>r vs H1 Q
theorem QjN(hc:CallR X (.builtin id) r)(hg:Gl X x)(hm:X.mg x=none)(hv:bootBuiltins x=some (.builtin id))(ha:PA X (e::es) t)(hn:x≠"__name__":=by decide)(hdb:(x == ("__debug__":Str))=false:=by decide)
 (he:starEach (e::es) X.env=(false,eval e X.env)::starEach es X.env:=by rfl) (hpl:(backTo pos (starEach es X.env)).any (·.1)=false:=by rfl):PE X (.Call (.Name x p) (e::es) [] pos) (tCB r t):=by
 intro pins s σ H Q I h
 refine bT (Qen I hg hm hv ?_ hn hdb)
 exact PyProof.Rows.callWith_builtin1 (thn (ha pos pins s σ H _ I h) fun us s1 z0z=>by obtain⟨vs,H1,I1,r1,q1⟩:=z0z;exact hc pins s1 σ H1 vs us Q I1 r1 q1) he hpl
theorem Qmi(hc:CallR X (.type T) r)(hg:Gl X x)(hm:X.mg x=none)(hv:bootBuiltins x=some (.type T))(ha:PA X (e::es) t)(hn:x≠"__name__":=by decide)(hdb:(x == ("__debug__":Str))=false:=by decide)
 (he:starEach (e::es) X.env=(false,eval e X.env)::starEach es X.env:=by rfl) (hpl:(backTo pos (starEach es X.env)).any (·.1)=false:=by rfl):PE X (.Call (.Name x p) (e::es) [] pos) (tCB r t):=by
 intro pins s σ H Q I h
 refine bT (Qen I hg hm hv ?_ hn hdb)
 exact bK (thn (ha pos pins s σ H _ I h) fun us s1 z0z=>by obtain⟨vs,H1,I1,r1,q1⟩:=z0z;exact hc pins s1 σ H1 vs us Q I1 r1 q1) he hpl
end
end L2
namespace HT
open PySem PyProof.Rows
section
open PySem.SeqAt
open PySem.AutoSeq1 (wpAny_loadPart')
open PySem.MeetsSeq PySem.MeetsSeq2 PySem.MeetsSeq3
end
section
noncomputable def sIx(n d:Nat):Option Int->Nat
 | none=>d
 | some v=>if v<0 then(v+(n:Int)).toNat else min v.toNat n
theorem sIx_none(n d:Nat):sIx n d none=d:=rfl
theorem sIx_nat(n d k:Nat):sIx n d (some (k:Int))=min k n:=by
 show(if (k:Int)<0 then((k:Int)+(n:Int)).toNat else min (k:Int).toNat n)=min k n
 rw[aD (by omega),Int.toNat_natCast]
end
end HT
namespace L2
open PySem PySem.Spec PyProof.Rows
abbrev TO:=St->Hp->(Option Int->Hp->Prop)->Prop
def PO(X:Cx)(e:Option Expr)(t:TO):Prop:=
 ∀(pins:List (Addr×Obj))(s:Shared)(σ:St)(H:Hp)(Q:Option Int->Hp->Prop),Inv X pins σ H s->t σ H Q->
  wpAny (model X.prog X.w) X.A (evalPart e X.env) (fun u s'=>∃ o H',Inv X pins σ H' s'/\IsPart u o/\Q o H') X.xe s
def QvT:TO:=fun _ H Q=>Q none H
def tPart(t:TE):TO:=fun σ H Q=>t σ H fun x H1=>∃ i,x=.int i/\Q (some i) H1
section
variable    {lo hi:Option Expr}
theorem QvL:PO X none QvT:=by
 intro pins s σ H Q I h
 rw[evalPart_none]
 exact aY ⟨none,H,I,.none,h⟩
theorem Qwz(h:PE X e te):PO X (some e) (tPart te):=by
 intro pins s σ H Q I hw
 rw[evalPart_some]
 refine thn (h pins s σ H _ I hw) fun u s1 z0z=>?_
 obtain⟨x,H1,I1,r1,q1⟩:=z0z
 obtain⟨i,rfl,q⟩:=q1
 obtain⟨t,rfl⟩:=r1
 exact⟨some i,H1,I1,.int i t,q⟩
def SlR(X:Cx)(r:V->Option Int->Option Int->Hp->VK->Prop):Prop:=
 ∀(pins:List (Addr×Obj))(s:Shared)(σ:St)(H:Hp)(x:V)(v vl vu:Value)(lo hi:Option Int)(sl:Addr)(Q:VK),Inv X pins σ H s->RelV x v->s.heap.IsSliceOf sl vl vu .none->IsPart vl lo->IsPart vu hi->r x lo hi H Q->
  ∃ T id,typeLookup (.type T) "__getitem__"=pure (some (.builtin id))/\s.TypeIs v T/\wpAny (model X.prog X.w) X.A (getItem v (.ref sl)) (EP X pins σ Q) X.xe s
def tSl(r:V->Option Int->Option Int->Hp->VK->Prop)(te:TE)(tl th:TO):TE:=fun σ H Q=>te σ H fun x H1=>tl σ H1 fun l H2=>th σ H2 fun u H3=>r x l u H3 Q
theorem Qot(hr:SlR X r)(he:PE X e te)(hl:PO X lo tl)(hu:PO X hi th):PE X (.Subscript e (.Slice lo hi none p2) pos) (tSl r te tl th):=by
 intro pins s σ H Q I h
 refine Subscript_ (thn (he pins s σ H _ I h) fun v s1 z0z=>?_)
 obtain⟨x,H1,I1,r1,q1⟩:=z0z
 refine wpAny_Slice (thn (hl pins s1 σ H1 _ I1 q1) fun vl s2 ⟨l,H2,I2,pl,q2⟩=>thn (hu pins s2 σ H2 _ I2 q2) fun vu s3 z0z=>?_)
 obtain⟨u,H3,I3,pu,q3⟩:=z0z
 rw[evalPart_none]
 refine aY ?_
 have I4:Inv X pins σ H3 { s3 with heap:=s3.heap.push { cls:=.type "slice",data:=.fields #[vl,vu,.none] } }:=I3.kept (t':=s3.toks) fun b ob q=>aK _ q
 obtain⟨T,id,hT,ht,hg⟩:=hr pins { s3 with heap:=s3.heap.push { cls:=.type "slice",data:=.fields #[vl,vu,.none] } } σ H3 x v vl vu l u s3.heap.objs.size Q I4 r1 (Heap.IsSliceOf.new ..) pl pu q3
 show wpAny (model X.prog X.w) X.A (subscriptTail e (.Slice lo hi none p2) v (.ref s3.heap.objs.size)) (EP X pins σ Q) X.xe { s3 with heap:=s3.heap.push { cls:=.type "slice",data:=.fields #[vl,vu,.none] } }
 exact tail_any (ops:=[.ref s3.heap.objs.size,v]) ht hT hg (by with_unfolding_all rfl)
def cutV(xs:List V)(lo hi:Option Int):List V:=(xs.drop (HT.sIx xs.length 0 lo)).take (HT.sIx xs.length xs.length hi - HT.sIx xs.length 0 lo)
theorem QqG(xs:List V)(lo hi:Option Int):(cutV xs lo hi).length<=xs.length:=by
 unfold cutV
 rw[bF,cE]
 lia
end
end L2
namespace L2
open PySem PySem.Spec PyProof.Rows
noncomputable def ixN(n:Nat)(i:Int):Option Nat:=if 0<=i then(if i<n then some i.toNat else none) else if -(n:Int)<=i then some (i+n).toNat else none
def atI{α:Type}(xs:List α)(i:Int):Option α:=(ixN xs.length i).bind fun j=>xs[j]?
theorem QvU(h:ixN n i=some j):seqIndex? i n=some j/\j<n /\ -(n:Int)<=i/\i<n:=by
 unfold ixN at h
 by_cases h0:0<=i
 ·rw[aA h0]at h
  by_cases h1:i<n
  ·rw[aA h1]at h
   have e:i.toNat=j:=ai h
   exact⟨by rw[seqIndex_of h0 h1,e],by omega,by omega,h1⟩
  ·rw[aD h1]at h;cases h
 ·rw[aD h0]at h
  by_cases h1 : -(n:Int)<=i
  ·rw[aA h1]at h
   have e:(i+n).toNat=j:=ai h
   exact⟨by rw[seqIndex_neg (by omega) h1,e],by omega,h1,by omega⟩
  ·rw[aD h1]at h;cases h
theorem Qlv(h:atI xs i=some v):∃ j,seqIndex? i xs.length=some j/\xs[j]?=some v/\j<xs.length /\ -(xs.length:Int)<=i/\i<xs.length:=by
 unfold atI at h
 cases e:ixN xs.length i with
 | none=>rw[e]at h;cases h
 | some j=>
  rw[e]at h
  obtain⟨h1,h2,h3,h4⟩:=QvU e
  exact⟨j,h1,h,h2,h3,h4⟩
theorem QgB{α:Type}{xs:List α}{j:Nat}{v:α}(h:xs[j]?=some v):atI xs (j:Int)=some v:=by
 have hj:j<xs.length:=(aU.mp h).1
 have e:ixN xs.length (j:Int)=some j:=by
  unfold ixN
  rw[aA (by omega),aA (by omega)];simp
 unfold atI;rw[e];exact h
def Qiz(b:Expr):Prop:=∀ o i,subscripted b false o i=operate [o,i] (getItem o i)
def IxR(X:Cx)(r:R2):Prop:=
 ∀(value slice:Expr)(pins:List (Addr×Obj))(s:Shared)(σ:St)(H:Hp)(x y:V)(v u:Value)(Q:VK),Inv X pins σ H s->RelV x v->RelV y u->r x y H Q->
  subscripted slice false v u=operate [v,u] (getItem v u)->wpAny (model X.prog X.w) X.A (subscriptTail value slice v u) (EP X pins σ Q) X.xe s
def MtR(X:Cx)(id:String)(r:V->List V->Hp->VK->Prop):Prop:=
 ∀(pins:List (Addr×Obj))(s:Shared)(σ:St)(H:Hp)(x:V)(xs:List V)(v:Value)(us:List Value)(Q:VK),Inv X pins σ H s->RelV x v->Vals xs us->r x xs H Q->
  wpAny (model X.prog X.w) X.A (call (.builtin id) (v::us)) (EP X pins σ Q) X.xe s
section
variable    {pos:Pos}
theorem IxR.or{r r':R2}(h:IxR X r)(h':IxR X r'):IxR X (fun x y H Q=>r x y H Q∨r' x y H Q):=by
 intro value slice pins s σ H x y v u Q I rx ry q hs
 rcases q with q | q
 ·exact h value slice pins s σ H x y v u Q I rx ry q hs
 ·exact h' value slice pins s σ H x y v u Q I rx ry q hs
theorem pe_ix(hr:IxR X r)(ha:PE X a ta)(hb:PE X b tb)(hs:Qiz b):PE X (.Subscript a b pos) (tOp r ta tb):=by
 intro pins s σ H Q I h
 exact Subscript_ (binT ha hb I h fun v u s2 x y H2 I2 rx ry q=>hr a b pins s2 σ H2 x y v u Q I2 rx ry q (hs _ _))
def rIxL(K:PySem.W.Frag):R2:=fun x y H Q=>∃ p xs i v,x=.ref p/\y=.int i/\SqL K H p xs/\atI xs i=some v/\Q v H
def rIxT(K:PySem.W.Frag):R2:=fun x y H Q=>∃ p xs i v,x=.ref p/\y=.int i/\SqT K H p xs/\atI xs i=some v/\Q v H
def rIxS:R2:=fun x y H Q=>∃ z i c,x=.str z/\y=.int i/\z.length<=sizeLine/\atI z.cps.toList i=some c/\Q (.str ⟨#[c]⟩) H
theorem Qws:IxR X (rIxL X.K):=by
 intro value slice pins s σ H x y v u Q I rx ry h hs
 obtain⟨p,xs,i,z,rfl,rfl,hq,he,q⟩:=h
 cases rx
 obtain⟨t,rfl⟩:=ry
 obtain⟨its,r,pl,hz⟩:=I.list hq
 obtain⟨j,h1,h2,h3,h4,h5⟩:=Qlv he
 obtain⟨w,ew,rw'⟩:=r.get h2
 have hl:=r.length
 have hn:=Qih
 have fin:EP X pins σ Q w s:=⟨z,H,I,rw',q⟩
 by_cases h0:0<=i
 ·have hj:i.toNat=j:=by
   rw[seqIndex_of h0 h5]at h1
   exact ai h1
  exact item_listR pl.isList h0 (by omega) (by rw[hj];simpa using ew) fin hs
 ·have hj:(i+(its.toArray.size:Int)).toNat=j:=by
   rw[seqIndex_neg (by omega) h4]at h1
   rw[aW, ← hl]
   exact ai h1
  exact subscriptTail_builtinR (x:=w) pl.isList.typeIs slot_list_getitem.lookup
   (wpAny_getItem_list_neg (Q:=fun r s'=>r=w/\EP X pins σ Q r s') pl.isList (by omega) (by rw[aW]<;>omega) (by omega) (by rw[hj];simpa using ew) ⟨rfl,fin⟩) hs
theorem QxP:IxR X (rIxT X.K):=by
 intro value slice pins s σ H x y v u Q I rx ry h hs
 obtain⟨p,xs,i,z,rfl,rfl,hq,he,q⟩:=h
 cases rx
 obtain⟨t,rfl⟩:=ry
 obtain⟨its,r,pl,hz⟩:=I.tuple hq
 obtain⟨j,h1,h2,h3,h4,h5⟩:=Qlv he
 obtain⟨w,ew,rw'⟩:=r.get h2
 have hl:=r.length
 have hn:=Qih
 have fin:EP X pins σ Q w s:=⟨z,H,I,rw',q⟩
 exact subscriptTail_builtinR (x:=w) pl.typeIs slot_tuple_getitem.lookup
  (getItem_tuple (j:=j) (Q:=fun r s'=>r=w/\EP X pins σ Q r s') pl (by omega) (by omega) (by rw[aW, ← hl];exact h1) (by simpa using ew) ⟨rfl,fin⟩) hs
theorem QxJ:IxR X rIxS:=by
 intro value slice pins s σ H x y v u Q I rx ry h hs
 obtain⟨z,i,c,rfl,rfl,hz,he,q⟩:=h
 obtain⟨t,rfl⟩:=rx
 obtain⟨t',rfl⟩:=ry
 obtain⟨j,h1,h2,h3,h4,h5⟩:=Qlv he
 have hl:z.cps.toList.length=z.length:=by simp[Str.length]
 rw[hl]at h1 h4 h5
 have hn:=Qih
 exact tail_any (typeIs_str s z t) slot_str_getitem.lookup (getItem_str (c:=c) (by
  have e1:decide (i < -(2 ^ 63:Int))=false:=aQ (by omega)
  have e2:decide (i ≥ 2 ^ 63)=false:=aQ (by omega)
  rw[e1,e2,Bool.or_false]) (by rw[h1];simpa using h2) ⟨.str ⟨#[c]⟩,H,I.tok _,⟨_,rfl⟩,q⟩) hs
def rIx(K:PySem.W.Frag):R2:=fun x y H Q=>rIxL K x y H Q∨rIxT K x y H Q∨rIxS x y H Q
theorem QoT:IxR X (rIx X.K):=Qws.or (QxP.or QxJ)
theorem Inv.lst{pins:List (Addr×Obj)}{σ:St}{H:Hp}{s:Shared}{p:Addr}{xs:List V}(I:Inv X pins σ H s)(h:H p=some (.lst xs)):
 ∃(its:List Value)(n:Nat),Vals xs its/\s.heap.get? p=some { cls:=.type "list",data:=.seq its.toArray n }/\xs.length<=sizeLine:=by
 obtain⟨z,its,n,r,e⟩:=I.hok p _ h
 exact⟨its,n,r,e,z⟩
theorem Qoc(lo hi:Option Int)(n:Nat):(sliceBounds lo hi none n).1=((HT.sIx n 0 lo:Nat):Int)/\(sliceBounds lo hi none n).2.1=((HT.sIx n n hi:Nat):Int)/\(sliceBounds lo hi none n).2.2=1:=by
 refine⟨?_,?_,rfl⟩
 ·cases lo with
  | none=>simp[sliceBounds,HT.sIx]
  | some i=>
   simp only[sliceBounds,HT.sIx,Option.getD_none,show(1:Int) > 0 by decide,cQ]
   by_cases h:i<0
   ·simp only[h,cQ]<;>omega
   ·simp only[h,if_false]<;>omega
 ·cases hi with
  | none=>simp[sliceBounds,HT.sIx]
  | some i=>
   simp only[sliceBounds,HT.sIx,Option.getD_none,show(1:Int) > 0 by decide,cQ]
   by_cases h:i<0
   ·simp only[h,cQ]<;>omega
   ·simp only[h,if_false]<;>omega
theorem Qnl(its:List Value)(lo hi:Option Int):slicePick its.toArray lo hi none=((its.drop (HT.sIx its.length 0 lo)).take (HT.sIx its.length its.length hi - HT.sIx its.length 0 lo)).toArray:=by
 obtain⟨h1,h2,h3⟩:=Qoc lo hi its.toArray.size
 unfold slicePick
 rw[h1,h2,h3]
 simp only[sliceRange_one,pick_run,aW]<;>rfl
def rSlL(K:PySem.W.Frag):V->Option Int->Option Int->Hp->VK->Prop:=fun x lo hi H Q=>∃ a xs,x=.ref a/\SqL K H a xs/\∀ p,H p=none->Q (.ref p) (upd H p (.lst (cutV xs lo hi)))
theorem Qvx:SlR X (rSlL X.K):=by
 intro pins s σ H x v vl vu lo hi sl Q I rx hs pl pu h
 obtain⟨a,xs,rfl,hx,q⟩:=h
 cases rx
 obtain⟨its,r,ht,hz⟩:=I.list hx
 have hlen:=r.length
 refine⟨"list",_,slot_list_getitem.lookup,ht.isList.typeIs,?_⟩
 refine wpAny_getItem_list_slice ht.isList hs pl pu .none (by simp) ?_ (by rw[aW]<;>lia)
 rw[Qnl, ← hlen]
 refine⟨.ref s.heap.objs.size,_,I.laid (fun b ob q=>aK _ q) (aP _) ?_,rfl,q _ (I.hok.fresh (aP _))⟩
 exact⟨aq (QqG xs lo hi) hz,_,0,(r.drop (HT.sIx xs.length 0 lo)).take (HT.sIx xs.length xs.length hi - HT.sIx xs.length 0 lo),ag _ rfl⟩
noncomputable def flatV:V->Bool
 | .non=>true
 | .bl _=>true
 | .int _=>true
 | .str _=>true
 | _=>false
noncomputable def eqV:V->V->Bool
 | .non,.non=>true
 | .bl a,.bl b=>a == b
 | .bl a,.int b=>(if a then 1 else 0) == b
 | .int a,.bl b=>a == (if b then 1 else 0)
 | .int a,.int b=>a == b
 | .str a,.str b=>a == b
 | _,_=>false
theorem Qx8(ry:RelV y u)(rx:RelV x v)(fy:flatV y=true)(fx:flatV x=true):SeqAt.EqAt A s u v (eqV y x):=by
 cases y with
 | non=>
  cases ry
  cases x with
  | non=>cases rx;exact SeqAt.EqAt.same _
  | bl b=>cases rx;exact SeqAt.EqAt.none_bool b
  | int b=>obtain⟨t,rfl⟩:=rx;exact SeqAt.EqAt.none_int b t
  | str b=>obtain⟨t,rfl⟩:=rx;exact SeqAt.EqAt.none_str b t
  | _=>exact absurd (fx) b8
 | bl a=>
  cases ry
  cases x with
  | non=>cases rx;exact SeqAt.EqAt.bool_none a
  | bl b=>cases rx;exact SeqAt.EqAt.bool_bool a b
  | int b=>obtain⟨t,rfl⟩:=rx;exact SeqAt.EqAt.bool_int a b t
  | str b=>obtain⟨t,rfl⟩:=rx;exact SeqAt.EqAt.bool_str a b t
  | _=>exact absurd (fx) b8
 | int a=>
  obtain⟨t',rfl⟩:=ry
  cases x with
  | non=>cases rx;exact SeqAt.EqAt.int_none a t'
  | bl b=>cases rx;exact SeqAt.EqAt.int_bool a t' b
  | int b=>obtain⟨t,rfl⟩:=rx;exact SeqAt.EqAt.int_int a t' b t
  | str b=>obtain⟨t,rfl⟩:=rx;exact SeqAt.EqAt.int_str a t' b t
  | _=>exact absurd (fx) b8
 | str a=>
  obtain⟨t',rfl⟩:=ry
  cases x with
  | non=>cases rx;exact SeqAt.EqAt.str_none a t'
  | bl b=>cases rx;exact SeqAt.EqAt.str_bool a t' b
  | int b=>obtain⟨t,rfl⟩:=rx;exact SeqAt.EqAt.str_int a t' b t
  | str b=>obtain⟨t,rfl⟩:=rx;exact SeqAt.EqAt.str_str a t' b t
  | _=>exact absurd (fx) b8
 | _=>exact absurd (fy) b8
def eqU(x:V)(u:Value):Bool:=match u with
 | .none=>eqV .non x
 | .bool b=>eqV (.bl b) x
 | .int i _=>eqV (.int i) x
 | .str z _=>eqV (.str z) x
 | _=>false
theorem QtV(r:RelV y u)(f:flatV y=true):eqU x u=eqV y x:=by
 cases y with
 | non=>cases r;rfl
 | bl b=>cases r;rfl
 | int i=>obtain⟨t,rfl⟩:=r;rfl
 | str z=>obtain⟨t,rfl⟩:=r;rfl
 | _=>exact absurd (f) b8
theorem QlB:∀{xs:List V}{us:List Value},Vals xs us->xs.all flatV=true->us.any (eqU x)=xs.any fun y=>eqV y x
 | _,_,.nil,_=>rfl
 | y::xs,u::us,.cons r t,f=>by
  rw[bJ,aH]at f
  rw[bt,bt,QtV r f.1,QlB t f.2]
theorem QjB(rx:RelV x v)(fx:flatV x=true):∀{xs:List V}{us:List Value},Vals xs us->xs.all flatV=true->∀ u∈us,SeqAt.EqAt A s u v (eqU x u)
 | _,_,.nil,_=>fun u hu=>by cases hu
 | y::xs,u::us,.cons r t,f=>fun u' hu=>by
  rw[bJ,aH]at f
  rcases aF.mp hu with rfl | hu
  ·rw[QtV r f.1];exact Qx8 r rx f.1 fx
  ·exact QjB rx fx t f.2 u' hu
def inV(x:V)(xs:List V):Bool:=xs.any fun y=>eqV y x
def rIn(K:PySem.W.Frag)(neg:Bool):R2:=fun x y H Q=>∃ p xs,y=.ref p/\(SqL K H p xs∨SqT K H p xs)/\flatV x=true/\xs.all flatV=true/\Q (.bl (if neg then !inV x xs else inV x xs)) H
theorem QsM:OpR X (compareOp .In) (rIn X.K false):=by
 intro pins s σ H x y v u Q I rx ry h
 obtain⟨p,xs,rfl,hq,fx,fs,q⟩:=h
 cases ry
 rcases hq with hq | hq
 ·obtain⟨its,r,pl,hz⟩:=I.list hq
  refine SeqAt.in_listAt (eqU x) pl.isList (fun w hw=>QjB rx fx r fs w (by simpa using hw)) ⟨.bl _,H,I,rfl,?_⟩
  rw[show its.toArray.any (eqU x)=its.any (eqU x) by simp,QlB r fs]
  exact q
 ·obtain⟨its,r,pl,hz⟩:=I.tuple hq
  refine SeqAt.in_tupleAt (eqU x) pl (fun w hw=>QjB rx fx r fs w (by simpa using hw)) ⟨.bl _,H,I,rfl,?_⟩
  rw[show its.toArray.any (eqU x)=its.any (eqU x) by simp,QlB r fs]
  exact q
theorem Qom:CallR X (.builtin "len") (fun xs H Q=>∃ p ys,xs=[.ref p]/\(SqL X.K H p ys∨SqT X.K H p ys)/\Q (.int ys.length) H):=by
 intro pins s σ H xs us Q I r h
 obtain⟨p,ys,rfl,hq,q⟩:=h
 obtain⟨u,rfl,rx⟩:=vals1 r
 cases rx
 have hn:=Qih
 rcases hq with hq | hq
 ·obtain⟨its,r',pl,hz⟩:=I.list hq
  have hlen:=r'.length
  exact Calls.call_len_list pl.isList (by simp only[aW]<;>omega) ⟨.int ys.length,H,I.tok _,⟨s.toks+1,by rw[aW,hlen]⟩,q⟩
 ·obtain⟨its,r',pl,hz⟩:=I.tuple hq
  have hlen:=r'.length
  exact len_tuple pl (by simp only[aW]<;>omega) ⟨.int ys.length,H,I.tok _,⟨s.toks+1,by rw[aW,hlen]⟩,q⟩
theorem Qop:CallR X (.builtin "len") (fun xs H Q=>∃ z,xs=[.str z]/\z.length<=sizeLine/\Q (.int z.length) H):=by
 intro pins s σ H xs us Q I r h
 obtain⟨z,rfl,hz,q⟩:=h
 obtain⟨u,rfl,t,rfl⟩:=vals1 r
 have hn:=Qih
 exact len_str (by omega) ⟨.int z.length,H,I.tok _,⟨_,rfl⟩,q⟩
theorem CallR.or(h:CallR X f r)(h':CallR X f r'):CallR X f (fun xs H Q=>r xs H Q∨r' xs H Q):=by
 intro pins s σ H xs us Q I rs q
 rcases q with q | q
 ·exact h pins s σ H xs us Q I rs q
 ·exact h' pins s σ H xs us Q I rs q
theorem QoG:CallR X (.type "list") (fun xs H Q=>∃ p ys,xs=[.ref p]/\(SqL X.K H p ys∨SqT X.K H p ys)/\∀ l,H l=none->Q (.ref l) (upd H l (.lst ys))):=by
 intro pins s σ H xs us Q I r h
 obtain⟨p,ys,rfl,hq,q⟩:=h
 obtain⟨u,rfl,rx⟩:=vals1 r
 cases rx
 have fin:∀(its:List Value),Vals ys its->ys.length<=sizeLine->∀(h':Heap)(c':Nat),(∀ b o',s.heap.get? b=some o'->h'.get? b=some o')->
  h'.get? s.heap.objs.size=some { cls:=.type "list",dict:=none,data:=.seq its.toArray c',slots := #[] }->EP X pins σ Q (.ref s.heap.objs.size) { s with heap:=h' }:=fun its r' hz h' c' kp e=>
  ⟨.ref s.heap.objs.size,_,I.laid (t':=s.toks) kp (aP _) (show ObjOk X.prog X.w _ h' _ (.lst ys) from⟨hz,its,c',r',e⟩),rfl,q _ (I.hok.fresh (aP _))⟩
 rcases hq with hq | hq
 ·obtain⟨its,r',pl,hz⟩:=I.list hq
  have hlen:=r'.length
  obtain⟨o,ho,hc,n,hd⟩:=pl.isList
  exact call_list_seq p (.inl rfl) ho hc hd (fun h' c' kp e=>fin its r' hz h' c' kp e) (by simp only[aW]<;>omega)
 ·obtain⟨its,r',pl,hz⟩:=I.tuple hq
  have hlen:=r'.length
  obtain⟨o,ho,hc,n,hd⟩:=pl
  exact call_list_seq p (.inr rfl) ho hc hd (fun h' c' kp e=>fin its r' hz h' c' kp e) (by simp only[aW]<;>omega)
def tyV(K:PySem.W.Frag)(T:String)(x:V)(H:Hp):Prop:=match x with
 | .str _=>T="str"
 | .int _=>T="int"
 | .ref p=>(T="list"/\∃ xs,SqL K H p xs)∨(T="tuple"/\∃ o,K.lookup p=some o/\o.cls=.type "tuple"/\o.dict=none)∨
  (T="dict"/\((∃ kvs,H p=some (.dK kvs))∨∃ kvs,H p=some (.dT kvs)))∨(T="set"/\∃ S n,H p=some (.set S n))
 | _=>False
theorem QsQ(I:Inv X pins σ H s)(r:RelV x v)(ty:tyV X.K T x H):
 s.TypeIs v T/\∀ a,v=.ref a->∃ ob,s.heap.get? a=some ob/\ob.dict=none:=by
 cases x with
 | str z=>
  obtain⟨t,rfl⟩:=r
  cases (show T="str" from ty)
  exact⟨typeIs_str s z t,fun _ e=>nomatch e⟩
 | int i=>
  obtain⟨t,rfl⟩:=r
  cases (show T="int" from ty)
  exact⟨typeIs_int s i t,fun _ e=>nomatch e⟩
 | ref p=>
  cases r
  rcases ty with⟨rfl,xs,hq⟩ | ⟨rfl,o,hk,hc,hd⟩ | ⟨rfl,hk⟩ | ⟨rfl,S,n,hk⟩
  ·obtain⟨its,_,pl,_⟩:=I.list hq
   refine⟨pl.isList.typeIs,fun a e=>?_⟩
   cases e
   obtain⟨o,n,e,c,hd,_⟩:=pl
   exact⟨o,e,hd⟩
  ·refine⟨⟨o,I.kIn p o hk,hc⟩,fun a e=>?_⟩
   cases e
   exact⟨o,I.kIn _ o hk,hd⟩
  ·have z:∃ o,s.heap.get? p=some o/\o.ExactDict:=by
    rcases hk with⟨kvs,hk⟩ | ⟨kvs,hk⟩
    ·obtain⟨_,_,_,_,o,_,_,e,ex,_⟩:=I.hok p _ hk
     exact⟨o,e,ex⟩
    ·obtain⟨_,_,_,_,o,_,_,e,ex,_⟩:=I.hok p _ hk
     exact⟨o,e,ex⟩
   obtain⟨o,e,ex⟩:=z
   refine⟨⟨o,e,ex.1⟩,fun a e2=>?_⟩
   cases e2
   exact⟨o,e,ex.2.1⟩
  ·obtain⟨o,_,_,_,e,ex,_⟩:=I.hok p _ hk
   refine⟨⟨o,e,ex.1⟩,fun a e2=>?_⟩
   cases e2
   exact⟨o,e,ex.2.1⟩
 | _=>exact False.elim ty
def tBM0(K:PySem.W.Frag)(T:String)(r:V->List V->Hp->VK->Prop)(to:TE):TE:=fun σ H Q=>to σ H fun x H1=>tyV K T x H1/\r x [] H1 Q
def tBM(K:PySem.W.Frag)(T:String)(r:V->List V->Hp->VK->Prop)(to:TE)(t:TA):TE:=fun σ H Q=>to σ H fun x H1=>tyV K T x H1/\t σ H1 fun xs H2=>r x xs H2 Q
variable       {T id:String}
theorem Qs5(pa:PlainAttrs T)(slot:Slot T name id)(hty:typeOf (.builtin id)=pure (.type "method_descriptor"))(hm:MtR X id r)(ho:PE X o to)
 (hbase:attributeBase o name X.env (eval o X.env)=eval o X.env:=by rfl) (hline:(apos.endLine == cpos.line)=true:=by rfl):PE X (.Call (.Attribute o name apos) [] [] cpos) (tBM0 X.K T r to):=by
 intro pins s σ H Q I h
 refine wpAny_Call_method0_late hbase hline (thn (ho pins s σ H _ I h) fun v s1 z0z=>?_)
 obtain⟨x,H1,I1,r1,ty,q1⟩:=z0z
 obtain⟨h1,h2⟩:=QsQ I1 r1 ty
 exact⟨T,id,pa,slot,hty,h1,h2,Calls.callWith_builtin rfl (PySem.evalArgs_none (hm pins s1 σ H1 x [] v [] Q I1 r1 .nil q1))⟩
theorem pe_bm(pa:PlainAttrs T)(slot:Slot T name id)(hty:typeOf (.builtin id)=pure (.type "method_descriptor"))(hm:MtR X id r)(ho:PE X o to)(ha:PA X (e::es) t)
 (hbase:attributeBase o name X.env (eval o X.env)=eval o X.env:=by rfl)
 (hfew:((backTo cpos (starEach (e::es) X.env)).all (fun x => !x.1)&&(backToKw cpos (keywordEach [] X.env)).all (fun x=>x.1.isSome)
  && decide ((e::es).length+([]:List Keyword).length+(if ([]:List Keyword).isEmpty then 0 else 1)<30))=true:=by rfl)
 (hline:(apos.endLine == cpos.line)=true:=by rfl) (hs:starEach (e::es) X.env=(false,eval e X.env)::starEach es X.env:=by rfl) (hplain:(backTo cpos (starEach es X.env)).any (·.1)=false:=by rfl):
 PE X (.Call (.Attribute o name apos) (e::es) [] cpos) (tBM X.K T r to t):=by
 intro pins s σ H Q I h
 refine wpAny_Call_method_late hbase hfew hline rfl (thn (ho pins s σ H _ I h) fun v s1 z0z=>?_)
 obtain⟨x,H1,I1,r1,ty,q1⟩:=z0z
 obtain⟨h1,h2⟩:=QsQ I1 r1 ty
 refine⟨T,id,pa,slot,hty,h1,h2,?_⟩
 have hA:=ha cpos pins s1 σ H1 _ I1 q1
 rw[hs]at hA ⊢
 refine Calls.callWith_builtin (by show(false||(backTo cpos (starEach es X.env)).any (·.1))=false;rw[hplain]<;>rfl) (Calls.evalArgs_plain ?_)
 exact thn hA fun us s2 z0z=>by obtain⟨vs,H2,I2,r2,q2⟩:=z0z;exact hm pins s2 σ H2 x vs v us Q I2 r1 r2 q2
end
end L2
namespace L2
open PySem PySem.Spec PyProof.Rows
def MtM(X:Cx)(id:String)(r:V->List V->Hp->VK->Prop):Prop:=
 ∀(pins:List (Addr×Obj))(s:Shared)(σ:St)(H:Hp)(x:V)(xs:List V)(v:Value)(us:List Value)(Q:VK),Inv X pins σ H s->RelV x v->Vals xs us->r x xs H Q->
  wpAny (model X.prog X.w) X.A (call (.builtin id) (v::us)) (EP X pins σ Q) X.xe s
theorem Vals.one:∀{x:V}{us:List Value},Vals [x] us->∃ u,us=[u]/\RelV x u
 | _,_,.cons r .nil=>⟨_,rfl,r⟩
theorem Vals.zero:∀{us:List Value},Vals [] us->us=[]
 | _,.nil=>rfl
theorem Vals.reverse{xs:List V}{us:List Value}(h:Vals xs us):Vals xs.reverse us.reverse:=by
 induction h with
 | nil=>exact .nil
 | cons r t ih=>rw[List.reverse_cons,List.reverse_cons];exact Vals.append ih (.cons r .nil)
theorem Vals.rep(h:Vals xs us):∀ k:Nat,Vals (List.replicate k xs).flatten (List.replicate k us).flatten
 | 0=>.nil
 | k+1=>by
  rw[bL,bL,bb,bb]
  exact Vals.append h (Vals.rep h k)
theorem Qmq(its:List Value):∀(k:Nat)(acc:List Value),
 List.foldl (fun x1 x2=>x1++x2) acc.toArray (List.replicate k its.toArray)=(acc++(List.replicate k its).flatten).toArray
 | 0,acc=>by simp
 | k+1,acc=>by
  have e:acc.toArray++its.toArray=(acc++its).toArray:=by simp
  have e2:(acc++its)++(List.replicate k its).flatten=acc++(List.replicate (k+1) its).flatten:=by
   rw[bL,bb,List.append_assoc]
  rw[← e2, ← Qmq its k (acc++its), ← e,bL,List.foldl_cons]
section
theorem Inv.lset{its its':List Value}{n:Nat}{f:Array Value->Array Value}{t':Nat}(I:Inv X pins σ H s)(hH:H l=some (.lst xs))
 (e:s.heap.get? l=some { cls:=.type "list",data:=.seq its.toArray n }) (hf:f its.toArray=its'.toArray) (hv:Vals ys its') (hz:ys.length<=sizeLine):
 Inv X pins σ (upd H l (.lst ys)) { s with heap:=s.heap.update l (Obj.mapSeq f),toks:=t' }:=by
 have q:=PySem.IsL.update e f
 rw[hf]at q
 refine I.write (x:=l) (e:=l) (by rw[hH];exact trivial) (.inl rfl) (fun b' u hb hu=>(Heap.get?_update_other s.heap (Obj.mapSeq f) (bV hb)).trans hu) ⟨_,q⟩ ?_
 exact⟨hz,its',_,hv,q⟩
theorem Inv.lnew(I:Inv X pins σ H s)(hv:Vals ys its)(hz:ys.length<=sizeLine):
 Inv X pins σ (upd H s.heap.objs.size (.lst ys)) { s with heap:=s.heap.push { cls:=.type "list",data:=.seq its.toArray },toks:=t' }:=
 I.laid (fun _ _ q=>aK _ q) (aP _) ⟨hz,its,0,hv,ag _ rfl⟩
theorem Inv.fresh(I:Inv X pins σ H s):H s.heap.objs.size=none:=I.hok.fresh (aP _)
theorem Inv.lstM(I:Inv X pins σ H s)(hH:H l=some (.lst xs)):xs.length<=sizeLine/\∃(its:List Value)(n:Nat),Vals xs its/\xs.length=its.length/\s.heap.get? l=some { cls:=.type "list",data:=.seq its.toArray n }:=by
 obtain⟨z,its,n,r,e⟩:=I.hok l _ hH
 exact⟨z,its,n,r,r.length,e⟩
theorem Qvd{n:Nat}(h:n<=sizeLine):Builtin.List.listTooLong n=false:=by
 unfold Builtin.List.listTooLong
 exact aQ (by omega)
end
section
def QgI:V->List V->Hp->VK->Prop:=fun x vs H Q=>∃ l xs y,x=.ref l/\vs=[y]/\H l=some (.lst xs)/\xs.length<sizeLine/\Q .non (upd H l (.lst (xs++[y])))
theorem Qfx:MtM X "list.append" QgI:=by
 intro pins s σ H x vs v us Q I rx rv h
 obtain⟨l,xs,y,rfl,rfl,hH,hz,q⟩:=h
 cases rx
 obtain⟨u,rfl,ru⟩:=rv.one
 obtain⟨z,its,n,r,hl,e⟩:=I.lstM hH
 refine call_meets F.slot_list_append ⟨_,e,rfl⟩ F.entry_list_append (F.args_list_append_2 _ _) (PySem.list_append l its.toArray n u (by rw[aW];lia)) ⟨e,?_⟩
 refine⟨.non,_,I.lset hH e (by simp) (r.append (.cons ru .nil)) ?_,rfl,q⟩
 rw[ae,cA]
 lia
def QjM:V->List V->Hp->VK->Prop:=fun x vs H Q=>∃ l xs,x=.ref l/\vs=[]/\H l=some (.lst xs)/\Q .non (upd H l (.lst xs.reverse))
theorem QrV:MtM X "list.reverse" QjM:=by
 intro pins s σ H x vs v us Q I rx rv h
 obtain⟨l,xs,rfl,rfl,hH,q⟩:=h
 cases rx
 have hus:=rv.zero
 subst hus
 obtain⟨z,its,n,r,hl,e⟩:=I.lstM hH
 refine call_meets F.slot_list_reverse ⟨_,e,rfl⟩ F.entry_list_reverse (F.args_list_reverse_1 _) (AutoSeq1.list_reverse_list_0 l its.toArray n (by rw[aW];lia)) ⟨e,?_⟩
 refine⟨.non,_,I.lset hH e (by simp) r.reverse ?_,rfl,q⟩
 rw[List.length_reverse]
 lia
def QoU:V->List V->Hp->VK->Prop:=fun x vs H Q=>∃ l xs,x=.ref l/\vs=[]/\H l=some (.lst xs)/\Q .non (upd H l (.lst []))
theorem Qvb:MtM X "list.clear" QoU:=by
 intro pins s σ H x vs v us Q I rx rv h
 obtain⟨l,xs,rfl,rfl,hH,q⟩:=h
 cases rx
 have hus:=rv.zero
 subst hus
 obtain⟨z,its,n,r,hl,e⟩:=I.lstM hH
 refine call_meets F.slot_list_clear ⟨_,e,rfl⟩ F.entry_list_clear (F.args_list_clear_1 _) (AutoSeq1.list_clear_list_0 l its.toArray n (by rw[aW];lia)) ⟨e,?_⟩
 exact⟨.non,_,I.lset hH e rfl .nil (av _),rfl,q⟩
def rRep:R2:=fun x y H Q=>∃ l k xs,x=.ref l/\y=.int k/\H l=some (.lst xs) /\ -(2 ^ 63)<=k/\k<2 ^ 63/\xs.length * k.toNat<=sizeLine/\
 ∀ p,H p=none->Q (.ref p) (upd H p (.lst (List.replicate k.toNat xs).flatten))
theorem QvE(xs:List α)(k:Nat):(List.replicate k xs).flatten.length=k * xs.length:=by
 induction k with
 | zero=>simp
 | succ k ih=>rw[bL,bb,ae,ih,Nat.succ_mul,Nat.add_comm]
theorem Qx1:OpR X (binaryOp .Mult) rRep:=by
 intro pins s σ H x y v u Q I rx ry h
 obtain⟨l,k,xs,rfl,rfl,hH,h1,h2,hz,q⟩:=h
 cases rx
 obtain⟨t,rfl⟩:=ry
 obtain⟨z,its,n,r,hl,e⟩:=I.lstM hH
 have hlen:its.toArray.size * k.toNat<=sizeLine:=by rw[aW, ← hl];exact hz
 have hcap:¬ its.toArray.size * k.toNat > (2 ^ 63 - 1) / 8:=by
  have:sizeLine<=(2 ^ 63 - 1) / 8:=by decide
  lia
 have hfit:¬ (!Builtin.List.listFitsIndex k)=true:=by
  rw[fitsIndex_both h1 h2]
  exact b8
 have hlong:¬ Builtin.List.listTooLong (its.toArray.size * k.toNat)=true:=by
  rw[Qvd hlen]
  exact b8
 have hnew:List.foldl (fun x1 x2=>x1++x2) #[] (List.replicate (if its.toArray.isEmpty=true then 0 else k.toNat) its.toArray)=(List.replicate k.toNat its).flatten.toArray:=by
  have f0:=fun m=>by
   have:=Qmq its m []
   rw[List.nil_append]at this
   exact this
  rw[f0]
  cases its with
  | nil=>simp
  | cons a r'=>rw[aD (by simp)]
 refine wpAny_binaryOp_repeat_ref (by decide) ⟨_,e,rfl⟩ (fun s'=>typeIs_int s' k t) noFill_list_mul F.fills_int_mul F.slot_int_rmul repeat_list F.slot_int_index.lookup
  (call_meets F.slot_int_rmul (typeIs_int s k t) F.entry_int_rmul (F.args_int_rmul_2 _ _) (int___rmul___int_list k t l its.toArray n)
   ⟨e,rfl,⟨_,e,rfl⟩,call_meets F.slot_list_mul ⟨_,e,rfl⟩ F.entry_list_mul (F.args_list_mul_2 _ _) (AutoListH.list___mul___list_int_3 l its.toArray n k t hfit hcap hlong) ⟨e,?_⟩⟩)
 rw[hnew]
 exact⟨.ref _,_,I.lnew (r.rep k.toNat) (by rw[QvE,Nat.mul_comm];exact hz),rfl,q _ I.fresh⟩
end
section
end
section
end
end L2
namespace Att
open PySem PySem.W PySem.Calls PyProof.Rows
theorem Qkj{P:Params}{h:Heap}:∀(ns:List Int)(vs:List Value),WellAll P h vs (ns.map WData.int)->IntsAre vs ns:=by
 intro ns
 induction ns with
 | nil=>
  intro vs w
  rw[List.map_nil]at w
  cases w
  exact .nil
 | cons n ns ih=>
  intro vs w
  rw[au]at w
  cases w with
  | cons a b=>
   cases a
   exact .cons _ _ (ih _ b)
theorem script_of{l:OpenLaw}{n:Nat}(hn:l.most=some n){P:Params}{h:Heap}{args:List WData}{vals:List Value}
 (hpre:l.row.toRowW.claim.pre args=true) (hwl:WellAll P h vals args):
 ∃ a vs ns,vals=[Value.ref a]/\args=[WData.list (ns.map WData.int)]/\h.get? a=some { cls:=.type "list",data:=.seq vs.toArray }/\IntsAre vs ns/\ns.length<=n:=by
 have hsh:WShape.hasAll [] args [.list .int]=true:=(pre_splitW hpre).1
 have hc:l.pre.holds [] { args:=args }=true:=(pre_splitW hpre).2
 obtain⟨d,r,rfl,h1,h2⟩:=hasAllW_cons hsh
 obtain rfl:=hasAllW_nil h2
 obtain⟨xs,rfl,h3⟩:=hasW_list h1
 obtain⟨ns,rfl⟩:=items_int h3
 have hlen:ns.length<=n:=by
  unfold OpenLaw.pre at hc
  have h4:(WTm.not (.lt (.lit (.int (n:Int))) (.len (.arg 0)))).holds [] { args:=[.list (ns.map .int)] }=true:=by
   have h4:=(holds_andW hc).1
   rw[hn]at h4
   exact h4
  have h5:=condW_of h4 (w_not (w_lt w_lit (w_len_list (w_arg rfl))))
  rw[aC]at h5
  refine Nat.le_of_not_lt fun q=>?_
  have q':(n:Int)<((ns.length:Nat):Int):=by omega
  first
   | (rw[aG q']at h5;exact absurd h5 (by decide))
   | (simp at h5;omega)
 cases hwl with
 | cons w1 w2=>
  cases w2
  cases w1 with
  | list ho hall=>exact⟨_,_,ns,rfl,rfl,ho,Qkj ns _ hall,hlen⟩
theorem post_true(l:OpenLaw)(args:List WData):l.row.toRowW.claim.post args (.bool true) args=true:=
 postW_of
  (by first | rfl | decide | simp[WShape.has,WShape.arms,WShape.armsAll])
  (w_eq_bool (w_res rfl) w_lit) rfl
section
variable      {K:Frag}
end
end Att
namespace L2
open PySem PySem.Spec PyProof.Rows
theorem Qmg:∀{vs:List Value}{ns:List Int},IntsAre vs ns->Vals (ns.map V.int) vs
 | _,_,.nil=>.nil
 | _,_,.cons n t h=>.cons ⟨t,rfl⟩ (Qmg h)
def Only(H:Hp):Prop:=∀ b,H b=none∨∃ o xs,H b=some (.frz o (.lst xs))
theorem QuQ{P:Program}{w:World}{K:PySem.W.Frag}{mg mb:Str->Option Value}{CX:CXT}{k:Nat}{fa a:Addr}{fd:FuncData}{x:Str}{sp:Sp}{s₁:Shared}{vs:List Value}{ns:List Int}
 (KX:K.In s₁.heap) (hns:s₁.heap.Ns mainGlobals mg) (hb:s₁.heap.Ns builtinsNs mb) (hbb:∀ x:Str,x≠"__name__"->mb x=bootBuiltins x) (hlim:s₁.heap.NoLimit) (hg:s₁.gens = #[])
 (ha:s₁.heap.get? a=some { cls:=.type "list",data:=.seq vs.toArray }) (hi:IntsAre vs ns) (hl:ns.length<=sizeLine) (hr:Room k callerA)
 (F:∀ base:Heap,K.In base->base.Ns mainGlobals mg->FnOk P w K mg base CX k fa fd [x] sp) (hbind:∀(s:Shared)(u:Value),BindsTo s fd ⟨[u],[]⟩ [(x,u)])
 (hsp:∀ H:Hp,Only H->SqL K H a (ns.map V.int)->sp [.ref a] H (fun v _=>v=.bl true) fun _ _ _=>False)
 (hCX:∀ H e s',CX [] H s₁ (fun _ _ _=>False) e s'->False):
 codeAny (model P w) callerA (.call (.ref fa) ⟨[.ref a],[]⟩) (fun r s'=>r=.ok (.ret (.bool true))/\OldK s₁.heap s'.heap/\s'.os=s₁.os/\AllBare s'.gens) s₁:=by
 have rv:=Qmg hi
 have lenV:=hi.length
 have core:∀ H:Hp,Only H->SqL K H a (ns.map V.int)->HOk P w H s₁.heap->(∀ b,H b≠none->b=a)->(H a≠none->K.lookup a=none)->
  codeAny (model P w) callerA (.call (.ref fa) ⟨[.ref a],[]⟩) (fun r s'=>r=.ok (.ret (.bool true))/\OldK s₁.heap s'.heap/\s'.os=s₁.os/\AllBare s'.gens) s₁:=by
  intro H hO hS hok hA hK
  have base_of:∀{b:Addr}{o:Obj},s₁.heap.get? b=some o->H b=none->(hidT s₁.heap H).get? b=some o:=fun e n=>Qu3 e n
  have noA:∀{b:Addr}{o:Obj}{es:Array DictEntry}{ep:Nat},s₁.heap.get? b=some o->o.data=.dict es ep->H b=none:=fun {b o es ep} e d=>by
   cases q:H b with
   | none=>rfl
   | some u=>
    have e':b=a:=hA b (by rw[q];simp)
    subst e'
    rw[ha]at e;cases e
    have d':Data.seq vs.toArray _=Data.dict es ep:=d
    cases d'
  have nsK:∀{b:Addr}{m:Str->Option Value},s₁.heap.Ns b m->(hidT s₁.heap H).Ns b m:=fun {b m} z0z=>by obtain⟨o,es,ep,e,d,r⟩:=z0z;exact⟨o,es,ep,base_of e (noA e d),d,r⟩
  have hKb:K.In (hidT s₁.heap H):=fun b o e=>base_of (KX b o e) (by
   cases q:H b with
   | none=>rfl
   | some u=>
    have e':b=a:=hA b (by rw[q];simp)
    subst e'
    rw[hK (by rw[q];simp)]at e;cases e)
  have hM:Mod K mg (hidT s₁.heap H):=⟨hKb,nsK hns,⟨mb,nsK hb,hbb⟩,let ⟨mc,h1,h2⟩:=hlim;⟨mc,nsK h1,h2⟩⟩
  have e0:Env0 P w K mg (hidT s₁.heap H) callerA [] s₁ H:=⟨rfl,hM,fun b o e=>QvP e,Nat.le_of_eq (Qt6 _ _),trivial,fun b hb=>absurd (show b∈([]:List Addr) from hb) (by simp),hok,.of_eq hg⟩
  refine cM ((F _ hKb (nsK hns)).run callerA [] s₁ H ⟨[.ref a],[]⟩ [.ref a] [.ref a] _ _ hr e0 (hbind s₁ (.ref a)) (.cons rfl .nil) (hsp H hO hS)) fun r s' h=>?_
  cases r with
  | error e=>exact(hCX H e s' h).elim
  | ok fl=>
   cases fl with
   | next=>exact False.elim h
   | brk=>exact False.elim h
   | cont=>exact False.elim h
   | ret u=>
    obtain⟨v,H',os,bare,un,hok',r',q⟩:=h
    have q':v=.bl true:=q
    subst q'
    obtain rfl:u=Value.bool true:=r'
    refine⟨rfl,OldK.of_keep fun b o e=>?_,os,bare⟩
    cases q:H b with
    | none=>exact un.keep b o e q (by intro z;exact absurd (show b∈([]:List Addr) from z) (by simp)) (by simp)
    | some u=>
     rcases hO b with z | ⟨ob,xs,z⟩
     ·rw[q]at z;cases z
     ·have z2:=un.frzs b ob _ z
      obtain⟨e1,_⟩:=hok b _ z
      obtain⟨e2,_⟩:=hok' b _ z2
      rw[e]at e1;cases e1
      exact e2
 cases hk:K.lookup a with
 | some o=>
  have e:=KX a o hk
  rw[ha]at e
  cases e
  refine core (fun _=>none) (fun _=>.inl rfl) (.inr ⟨_,vs.toArray,_,hk,rfl,rfl,rfl,by rw[aW,lenV];exact hl,by simpa using rv⟩) (fun b u z=>by have z':(none:Option HO)=some u:=z;cases z') (fun b z=>absurd rfl z) fun z=>absurd rfl z
 | none=>
  refine core (fun b=>if b=a then some (.frz { cls:=.type "list",data:=.seq vs.toArray } (.lst (ns.map V.int))) else none) (fun b=>?_) (.inl (.inr ⟨{ cls:=.type "list",data:=.seq vs.toArray },aA rfl⟩)) (fun b u z=>?_) (fun b z=>?_) fun _=>hk
  ·by_cases hb:b=a
   ·exact .inr ⟨_,_,aA hb⟩
   ·exact .inl (aD hb)
  ·by_cases hb:b=a
   ·have z':=(aA hb).symm.trans z
    cases z'
    subst hb
    exact⟨ha,by rw[aC];exact hl,vs,_,rv,ha⟩
   ·have z':=(aD hb).symm.trans z
    cases z'
  ·by_cases hb:b=a
   ·exact hb
   ·exact absurd (aD hb) z
end L2
namespace L2
open PySem PySem.Spec PyProof.Rows
end L2
namespace L2
open PySem PySem.Spec PyProof.Rows
noncomputable def QcK(s:Stmt):Arguments:=match s with
 | .FunctionDef _ a _ _ _ _ _ _ _ _=>a
 | _=>{ posonlyargs:=[],args:=[],vararg:=none,kwonlyargs:=[],kw_defaults:=[],kwarg:=none,defaults:=[] }
noncomputable def QaT(s:Stmt):List Stmt:=match s with
 | .FunctionDef _ _ b _ _ _ _ _ _ _=>b
 | _=>[]
noncomputable def Qd(s:Stmt):Scope:=match s with
 | .FunctionDef _ _ _ _ _ _ sc _ _ _=>sc
 | _=>{ kind:=.function,names:=[],isGenerator:=false,isCoroutine:=false }
abbrev CX0:CXT:=fun _ _ _ _ _ _=>False
abbrev E0:XK:=fun _ _ _=>False
theorem pass0:Qc0 CX0 X E0:=fun _ _ _ _ _ _ _ h=>h.elim
structure Fun(K:PySem.W.Frag)(x qual:Str)(st:Stmt)(f:Addr)(fd:FuncData):Prop where
 ex:∃(oc:Value)(od:Option Addr)(kV doc pm:Value)(an:Option Addr)(cdv ct:Value)(osl:Array (Option Value)),
  fd=PySem.W.fnOf x qual (QcK st) (QaT st) (Qd st) .none kV doc pm an cdv ct/\K.lookup f=some ⟨oc,od,.func fd,osl⟩/\PySem.W.codeIn K cdv qual=true
 kp:PySem.W.keepIn K (.ref f)=true
section
variable{P:Program}{w:World}{K:PySem.W.Frag}{mg:Str->Option Value}{base:Heap}
theorem Fun.ok{x qual:Str}{st:Stmt}{f:Addr}{fd:FuncData}{N ps:List Str}{k:Nat}{sp:Sp}(F:Fun K x qual st f fd)(S:Qn N ps (Qd st))(len:∀ vs H Q E,sp vs H Q E->vs.length=ps.length)
 (hbody:∀(cdv:Value)(A:Around)(outer:List Env)(s:Shared)(H:Hp)(vs:List V)(Q:VK)(E:XK),Room k (A.deeper (envOfC qual (Qd st) s.heap.objs.size f cdv))->sp vs H Q E->
  ∃ t,PSs (cxOf CX0 P w K mg base N qual (Qd st) f cdv A outer s H E).nox (QaT st) t/\t { nx:=fun _ H'=>Q .non H',rt:=Q } (start N vs) H):FnOk P w K mg base CX0 (k+1) f fd ps sp:=by
 obtain⟨oc,od,kV,doc,pm,an,cdv,ct,osl,rfl,lk,hcd⟩:=F.ex
 refine fn_of lk hcd S len fun A outer s H vs Q E hr hsp=>?_
 obtain⟨t,h,q⟩:=hbody cdv A outer s H vs Q E hr hsp
 exact⟨t,h.nox,q⟩
end
section
end
theorem iteF{A B:Prop}(h:B):if false=true then A else B:=by
 rw[aD b8]
 exact h
theorem iteT{A B:Prop}(h:A):if true=true then A else B:=by
 rw[aA rfl]
 exact h
def Same(H H':Hp):Prop:=∀ b o,H b=some o->H' b=some o
theorem Same.refl(H:Hp):Same H H:=fun _ _ h=>h
abbrev cf:=@Same.refl
theorem Same.trans{H H1 H2:Hp}(a:Same H H1)(b:Same H1 H2):Same H H2:=fun c o h=>b c o (a c o h)
theorem Same.free{H H':Hp}(e:Same H H'){l:Addr}(h:H' l=Option.none):H l=Option.none:=by
 cases q:H l with
 | none=>rfl
 | some o=>
  rw[e l o q]at h
  cases h
theorem Same.seq{K:PySem.W.Frag}{H H':Hp}{a:Addr}{xs:List V}(e:Same H H')(h:SqL K H a xs):SqL K H' a xs:=by
 rcases h with(h | ⟨o,h⟩) | h
 ·exact .inl (.inl (e _ _ h))
 ·exact .inl (.inr ⟨o,e _ _ h⟩)
 ·exact .inr h
end L2
namespace L2
open PySem PySem.Spec PyProof.Rows
section
variable  [DecidableEq κ]
noncomputable def valV(kvs:List (κ×V))(k:κ):Option V:=(kvs.find? fun kv=>decide (kv.1=k)).map (·.2)
noncomputable def putK(kvs:List (κ×V))(k:κ)(v:V):List (κ×V):=
 if (kvs.any fun kv=>decide (kv.1=k))=true then kvs.map (fun kv=>if kv.1=k then(kv.1,v) else kv) else kvs++[(k,v)]
theorem Qjp{k:κ}(e:p.1=k):valV (p::r) k=some p.2:=by simp[valV,b9,e]
theorem Qjs{k:κ}(e:¬ p.1=k):valV (p::r) k=valV r k:=by simp[valV,b9,e]
theorem QnO(k:κ):∀ kvs:List (κ×V),(kvs.any fun kv=>decide (kv.1=k))=(valV kvs k).isSome
 | []=>rfl
 | p::r=>by
  rw[bt]
  by_cases e:p.1=k
  ·simp only[Qjp e,aG e,Bool.true_or,Option.isSome_some]
  ·rw[Qjs e,aQ e,Bool.false_or];exact QnO k r
theorem Qi0(kvs:List (κ×V))(k:κ)(v:V):(putK kvs k v).length<=kvs.length+1:=by
 unfold putK
 split
 ·rw[aC];omega
 ·rw[ae,aR,bw];omega
theorem RelO.isSome_eq(r:RelO o u):o.isSome=u.isSome:=by
 cases o with
 | none=>cases u with
  | none=>rfl
  | some _=>exact(r).elim
 | some _=>cases u with
  | none=>exact(r).elim
  | some _=>rfl
theorem RelO.getD(r:RelO o u)(rd:RelV d d'):RelV (o.getD d) (u.getD d'):=by
 cases o with
 | none=>cases u with
  | none=>exact rd
  | some _=>exact(r).elim
 | some _=>cases u with
  | none=>exact(r).elim
  | some _=>exact r
theorem KV.val{vs:List (κ×Value)}(r:KV kvs vs)(k:κ):RelO (valV kvs k) (valueAt vs k):=by
 unfold KV at r
 induction r with
 | nil=>exact True.intro
 | @cons p q ps qs h t ih=>
  obtain⟨h1,h2⟩:=h
  by_cases e:p.1=k
  ·have e':=h1.symm.trans e
   have b:valueAt (q::qs) k=some q.2:=by simp[valueAt,b9,e']
   rw[Qjp e,b];exact h2
  ·have e':¬ q.1=k:=fun z=>e (h1.trans z)
   have b:valueAt (q::qs) k=valueAt qs k:=by simp[valueAt,b9,e']
   rw[Qjs e,b];exact ih
theorem KV.any(r:KV kvs vs)(k:κ):(kvs.any fun kv=>decide (kv.1=k))=vs.any fun kv=>decide (kv.1=k):=by
 unfold KV at r
 induction r with
 | nil=>rfl
 | cons h t ih=>rw[bt,bt,ih,h.1]
theorem KV.repl(r:KV kvs vs)(k:κ)(ry:RelV y u):
 KV (kvs.map fun kv=>if kv.1=k then(kv.1,y) else kv) (vs.map fun kv=>if kv.1=k then(kv.1,u) else kv):=by
 unfold KV at r ⊢
 induction r with
 | nil=>exact .nil
 | @cons p q ps qs h t ih=>
  rw[au,au]
  refine .cons ?_ ih
  obtain⟨h1,h2⟩:=h
  by_cases e:p.1=k
  ·rw[aA e,aA (h1.symm.trans e)];exact⟨h1,ry⟩
  ·rw[aD e,aD (fun z=>e (h1.trans z))];exact⟨h1,h2⟩
theorem KV.put(r:KV kvs vs)(k:κ)(ry:RelV y u):KV (putK kvs k y) (stored vs k u):=by
 unfold putK stored
 rw[r.any k]
 by_cases e:(vs.any fun kv=>decide (kv.1=k))=true
 ·rw[aA e,aA e];exact r.repl k ry
 ·rw[aD e,aD e];exact Paired.snoc r ⟨rfl,ry⟩
theorem KV.length(r:KV kvs vs):kvs.length=vs.length:=Paired.length r
end
theorem kV_is(r:RelV (kV k) u):(Qaz P w).is k u=true:=by
 cases k with
 | inl i=>obtain⟨t,e⟩:=(r);subst e;exact Qqf P w i t
 | inr x=>obtain⟨t,e⟩:=(r);subst e;exact Qpz P w x t
theorem Qmk:∀{ks:List Key}{us:List Value},Vals (ks.map kV) us->ItemsAre (Qaz P w) ks us
 | [],_,r=>by rw[List.map_nil]at r;cases r;exact .nil
 | k::ks,_,r=>by
  rw[au]at r
  cases r with
  | cons h t=>exact .cons (kV_is h) (Qmk t)
abbrev KT(H:Hp):List (List Key×V)->List (List Key×Addr×Value)->Prop:=Paired fun p q=>p.1=q.1/\H q.2.1=some (.tup (p.1.map kV))/\RelV p.2 q.2.2
theorem KT.val{xs:List (List Key×Addr×Value)}(r:KT H kvs xs)(k:List Key):RelO (valV kvs k) ((atKey xs k).map (·.2)):=by
 induction r with
 | nil=>exact True.intro
 | @cons p q ps qs h t ih=>
  obtain⟨h1,_,h2⟩:=h
  by_cases e:p.1=k
  ·have e':=h1.symm.trans e
   have b:atKey (q::qs) k=some q.2:=by simp[atKey,b9,e']
   rw[Qjp e,b];exact h2
  ·have e':¬ q.1=k:=fun z=>e (h1.trans z)
   have b:atKey (q::qs) k=atKey qs k:=by simp[atKey,b9,e']
   rw[Qjs e,b];exact ih
theorem KT.repl(r:KT H kvs xs)(k:List Key)(ry:RelV y u):
 KT H (kvs.map fun kv=>if kv.1=k then(kv.1,y) else kv) (xs.map (putAt k u)):=by
 induction r with
 | nil=>exact .nil
 | @cons p q ps qs h t ih=>
  rw[au,au]
  refine .cons ?_ ih
  obtain⟨h1,h2,h3⟩:=h
  unfold putAt
  by_cases e:p.1=k
  ·rw[aA e,aA (h1.symm.trans e)];exact⟨h1,h2,ry⟩
  ·rw[aD e,aD (fun z=>e (h1.trans z))];exact⟨h1,h2,h3⟩
theorem KT.put(r:KT H kvs xs)(k:List Key)(hb:H b=some (.tup (k.map kV)))(ry:RelV y u):
 KT H (putK kvs k y) (storedH xs k b u):=by
 have e:(kvs.any fun kv=>decide (kv.1=k))=(atKey xs k).isSome:=by
  rw[QnO,(r.val k).isSome_eq,Option.isSome_map]
 unfold putK storedH
 rw[e]
 by_cases q:(atKey xs k).isSome=true
 ·rw[aA q,aA q];exact r.repl k ry
 ·rw[aD q,aD q];exact Paired.snoc r ⟨rfl,hb,ry⟩
theorem KT.keeps(r:KT H kvs xs)(ht:∀ b ys,H b=some (.tup ys)->H' b=some (.tup ys)):KT H' kvs xs:=
 Paired.mapP r fun _ _ z=>⟨z.1,ht _ _ z.2.1,z.2.2⟩
section
theorem rd_of(ok:HOk P w H h)(e:Rd H a u):ObjOk P w H h a u:=e.ok ok
theorem dk_rd(ok:HOk P w H h)(e:Rd H a (.dK kvs)):kvs.length<=sizeLine/\(a == sysModules)=false/\∃ vs,KV kvs vs/\h.DictOf (Qaz P w) a vs:=
 rd_of ok e
theorem dk_of(ok:HOk P w H h)(e:H a=some (.dK kvs)):kvs.length<=sizeLine/\(a == sysModules)=false/\∃ vs,KV kvs vs/\h.DictOf (Qaz P w) a vs:=dk_rd ok (.inl e)
theorem QkB(ok:HOk P w H h)(e:H a=some (.tup (ks.map kV))):(tupleKind (Qaz P w)).is h ks a:=by
 obtain⟨_,its,r,o,h1,h2,n,h3⟩:=(ok a _ e)
 exact⟨o,its.toArray,n,h1,h2,h3,by simpa using Qmk r⟩
theorem dt_rd(ok:HOk P w H h)(e:Rd H a (.dT kvs)):kvs.length<=sizeLine/\(a == sysModules)=false/\
 ∃ xs,KT H kvs xs/\h.DictOfH (tupleKind (Qaz P w)) a xs:=by
 obtain⟨z,y,xs,r,o,es,ep,h1,h2,h3,h4,h5⟩:=(rd_of ok e)
 refine⟨z,y,xs,r,o,es,ep,h1,h2,h3,h4,fun x hx=>?_,h5⟩
 have all:∀{l:List (List Key×V)}{m:List (List Key×Addr×Value)},KT H l m->∀ x∈m,(tupleKind (Qaz P w)).is h x.1 x.2.1:=by
  intro l m q
  induction q with
  | nil=>intro x hx;exact nomatch hx
  | @cons p q ps qs hq t ih=>
   intro x hx
   rcases aF.mp hx with e | hx
   ·subst e
    exact QkB ok (by rw[← hq.1];exact hq.2.1)
   ·exact ih x hx
 exact all r x hx
theorem dt_of(ok:HOk P w H h)(e:H a=some (.dT kvs)):kvs.length<=sizeLine/\(a == sysModules)=false/\
 ∃ xs,KT H kvs xs/\h.DictOfH (tupleKind (Qaz P w)) a xs:=dt_rd ok (.inl e)
end
def DGet(H:Hp)(a:Addr)(y:V)(r:Option V):Prop:=
 (∃ kvs k,Rd H a (.dK kvs)/\y=kV k/\r=valV kvs k)∨∃ kvs k b,Rd H a (.dT kvs)/\y=.ref b/\H b=some (.tup (k.map kV))/\r=valV kvs k
def DPut(H:Hp)(a:Addr)(y v:V)(H':Hp):Prop:=
 (∃ kvs k,H a=some (.dK kvs)/\y=kV k/\kvs.length<sizeLine/\H'=upd H a (.dK (putK kvs k v)))∨
 ∃ kvs k b,H a=some (.dT kvs)/\y=.ref b/\H b=some (.tup (k.map kV))/\kvs.length<sizeLine/\H'=upd H a (.dT (putK kvs k v))
theorem DGet.k{k:Key}(e:H a=some (.dK kvs)):DGet H a (kV k) (valV kvs k):=.inl ⟨kvs,k,.inl e,rfl,rfl⟩
theorem DGet.t{k:List Key}(e:H a=some (.dT kvs))(eb:H b=some (.tup (k.map kV))):DGet H a (.ref b) (valV kvs k):=.inr ⟨kvs,k,b,.inl e,rfl,eb,rfl⟩
theorem DPut.k{k:Key}(e:H a=some (.dK kvs))(hl:kvs.length<sizeLine):DPut H a (kV k) v (upd H a (.dK (putK kvs k v))):=.inl ⟨kvs,k,e,rfl,hl,rfl⟩
theorem DPut.t{k:List Key}(e:H a=some (.dT kvs))(eb:H b=some (.tup (k.map kV)))(hl:kvs.length<sizeLine):
 DPut H a (.ref b) v (upd H a (.dT (putK kvs k v))):=.inr ⟨kvs,k,b,e,rfl,eb,hl,rfl⟩
section
theorem QtS(hu:A.units+1<cLine)(I:Inv X pins σ H s)(g:DGet H a y (some v))(ry:RelV y u)(h:∀ w' s',Inv X pins σ H s'->RelV v w'->Q w' s'):
 wpAny (model X.prog X.w) A (getItem (.ref a) u) Q E s:=by
 rcases g with⟨kvs,k,e,ey,l⟩ | ⟨kvs,k,b,e,ey,eb,l⟩
 ·subst ey
  obtain⟨z,hd,vs,rel,dd⟩:=dk_rd I.hok e
  obtain⟨w',hw,rw'⟩:=RelO.some_of (by rw[l];exact rel.val k)
  exact wpAny_getItem_of (kV_is ry) dd.mapOf hw (h w' _ (I.tok _) rw')
 ·subst ey
  cases (ry)
  obtain⟨z,hd,xs,rel,dd⟩:=dt_rd I.hok e
  obtain⟨w',hw,rw'⟩:=RelO.some_of (by rw[l];exact rel.val k)
  obtain⟨p,hp,hp2⟩:=Option.map_eq_some_iff.mp hw
  refine wpAny_getItem_heap (tupleKind_room_in1 hu) (QkB I.hok eb) dd hp ?_
  rw[hp2]
  exact h w' _ (I.tok _) rw'
theorem QqV(I:Inv X pins σ H s)(mu:Mut (H a))(hs:Heap.SameBut a s.heap h')(he:∃ q,h'.get? a=some q)(new:ObjOk X.prog X.w (upd H a ob) h' a ob):
 Inv X pins σ (upd H a ob) { s with heap:=h',toks:=t' }:=
 I.write mu (.inl rfl) (fun b q hb z=>(hs.2 b hb).trans z) he new
theorem Qw5(z:kvs.length<=sizeLine)(hd:(a == sysModules)=false)(rel:KV kvs vs)(dd:h'.DictOf (Qaz P w) a vs):
 ObjOk P w H' h' a (.dK kvs):=⟨z,hd,vs,rel,dd⟩
theorem QsK(hu:A.units+1<cLine)(I:Inv X pins σ H s)(g:DPut H a y v H')(ry:RelV y u)(rv:RelV v r)(h:∀ s',Inv X pins σ H' s'->Q () s'):
 wpAny (model X.prog X.w) A (setItem (.ref a) u r) Q E s:=by
 rcases g with⟨kvs,k,e,ey,l,eH⟩ | ⟨kvs,k,b,e,ey,eb,l,eH⟩
 ·subst ey eH
  obtain⟨z,hd,vs,rel,dd⟩:=dk_of I.hok e
  have hz:vs.length<=sizeLine:=by rw[← rel.length];exact z
  have hl:(putK kvs k v).length<=sizeLine:=by have:=Qi0 kvs k v;omega
  refine wpAny_setItem_pairs (kV_is ry) dd fun h' dd' hs=>h _ ?_
  have he:∃ q,h'.get? a=some q:=let ⟨q,_,_,hq,_⟩:=dd';⟨q,hq⟩
  exact QqV I (by rw[e];exact True.intro) hs he (Qw5 hl hd (rel.put k rv) dd')
 ·subst ey eH
  cases (ry)
  obtain⟨z,hd,xs,rel,dd⟩:=dt_of I.hok e
  have hz:xs.length<=sizeLine:=by rw[← Paired.length rel];exact z
  have hl:(putK kvs k v).length<=sizeLine:=by have:=Qi0 kvs k v;omega
  refine wpAny_setItem_heap (tupleKind_room_in1 hu) (QkB I.hok eb) dd fun h' dd' hs=>h _ ?_
  obtain⟨q,es,ep,hq,h2,h3,h4,_,h5⟩:=dd'
  refine QqV I (by rw[e];exact True.intro) hs ⟨q,hq⟩ ⟨hl,hd,_,(rel.put k eb rv).keeps fun c ys ec=>?_,q,es,ep,hq,h2,h3,h4,h5⟩
  rw[Qi (ne_of ec e (fun z=>nomatch z))]
  exact ec
end
section
end
def NoSl(i:Expr):Prop:=∀ ov iv,subscripted i false ov iv=operate [ov,iv] (getItem ov iv)
theorem Qwx{T id:String}
 (hl:typeLookup (.type T) "__getitem__"=pure (some (.builtin id))) (hs:NoSl slice)
 (h:wpAny (model prog w) A (eval value env) (fun o s₁=>wpAny (model prog w) A (eval slice env) (fun i s₂ => s₂.TypeIs o T/\wpAny (model prog w) A (getItem o i) Q E s₂) E s₁) E s):
 wpAny (model prog w) A (eval (.Subscript value slice pos) env) Q E s:=by
 refine Subscript_ (bB h (fun o s₁ h₁=>bB h₁ (fun i s₂ h₂ => ?_) fun _ _ x=>x) fun _ _ x=>x)
 obtain⟨hT,h₂⟩:=h₂
 unfold subscriptTail
 refine aN ?_
 rw[getitemInPython_of_ne hT.not_modules]
 refine aN (wpAny_specialOf hT hl ?_)
 have fin:wpAny (model prog w) A (subscripted slice false o i) (fun r s₃ => wpAny (model prog w) A (letTemporaryGo value o r>>=fun _=>pure r) Q E s₃) E s₂ := by
  rw[hs o i]
  exact wpAny_operating (bB h₂ (fun r s₃ h₃ => aN (wpAny_letTemporaryGo (aY h₃))) fun _ _ x=>x)
 first
  | exact aY (aN fin)
  | exact aN (aY (aN fin))
  | exact aN fin
theorem Qqn(I:Inv X pins σ H s)(g:DGet H a y o):s.TypeIs (.ref a) "dict":=by
 rcases g with⟨kvs,k,e,_,_⟩ | ⟨kvs,k,b,e,_,_,_⟩
 ·obtain⟨_,_,vs,_,dd⟩:=dk_rd I.hok e
  exact dd.typeIs
 ·obtain⟨_,_,xs,_,dd⟩:=dt_rd I.hok e
  exact dd.typeIs
def tDGet(td ty:TE):TE:=fun σ H Q=>td σ H fun x H1=>ty σ H1 fun y H2=>∃ a v,x=.ref a/\DGet H2 a y (some v)/\Q v H2
def sDPut(td ty tv:TE):TS:=fun D σ H=>tv σ H fun v H1=>td σ H1 fun x H2=>ty σ H2 fun y H3=>∃ a H4,x=.ref a/\DPut H3 a y v H4/\D.nx σ H4
section
theorem Qwa(hu:X.A.units+1<cLine)(ho:PE X o td)(hi:PE X i ty)(hs:NoSl i):PE X (.Subscript o i pos) (tDGet td ty):=by
 intro pins s σ H Q I h
 refine Qwx PySem.F.slot_dict_getitem.lookup hs (thn (ho pins s σ H _ I h) fun u s1 ⟨x,H1,I1,rx,q1⟩=>thn (hi pins s1 σ H1 _ I1 q1) fun iv s2 z0z=>?_)
 obtain⟨y,H2,I2,ry,a,v,ex,g,q2⟩:=z0z
 subst ex
 obtain rfl:=rx
 exact⟨Qqn I2 g,QtS hu I2 g ry fun w' s3 I3 rw'=>⟨v,H2,I3,rw',q2⟩⟩
theorem QvY(hu:X.A.units+1<cLine)(ho:PE X o td)(hi:PE X i ty)(hv:PE X value tv)(hs:swapsWith value (some (.Subscript o i pos')) pos.line X.env=pure false):
 PS X (.Assign [.Subscript o i pos'] value pos) (sDPut td ty tv):=by
 intro pins s σ H D I h
 refine wpAny_Assign_Subscript (thn (hv pins s σ H _ I h) fun r s1 ⟨v,H1,I1,rv,q1⟩=>thn (ho pins s1 σ H1 _ I1 q1) fun u s2 ⟨x,H2,I2,rx,q2⟩=>thn (hi pins s2 σ H2 _ I2 q2) fun iv s3 z0z=>?_) hs
 obtain⟨y,H3,I3,ry,a,H4,ex,g,q3⟩:=z0z
 subst ex
 obtain rfl:=rx
 exact QsK hu I3 g ry rv fun s4 I4=>⟨σ,H4,I4,q3⟩
end
section
end
structure M1(X:Cx)(o:Expr)(m:Str)(apos:Pos)(e:Expr)(cpos:Pos):Prop where
 base:attributeBase o m X.env (eval o X.env)=eval o X.env
 few:((backTo cpos (starEach [e] X.env)).all (fun x => !x.1)&&(backToKw cpos (keywordEach [] X.env)).all (fun x=>x.1.isSome)
  && decide (([e]:List Expr).length+([]:List Keyword).length+(if ([]:List Keyword).isEmpty then 0 else 1)<30))=true
 line:(apos.endLine == cpos.line)=true
 trees:backTo cpos (starEach [e] X.env)=[(false,eval e X.env)]
def IsD(H:Hp)(a:Addr):Prop:=(∃ kvs,Rd H a (.dK kvs))∨∃ kvs,Rd H a (.dT kvs)
theorem QwQ(I:Inv X pins σ H s)(d:IsD H a):
 s.TypeIs (.ref a) "dict"/\(∀ b,Value.ref a=.ref b->∃ ob,s.heap.get? b=some ob/\ob.dict=none)/\(a == sysModules)=false:=by
 rcases d with⟨kvs,e⟩ | ⟨kvs,e⟩
 ·obtain⟨_,hd,vs,_,dd⟩:=dk_rd I.hok e
  refine⟨dd.typeIs,fun b q=>?_,hd⟩
  cases q
  obtain⟨ob,_,_,h1,h2,_⟩:=dd
  exact⟨ob,h1,h2.2.1⟩
 ·obtain⟨_,hd,xs,_,dd⟩:=dt_rd I.hok e
  refine⟨dd.typeIs,fun b q=>?_,hd⟩
  cases q
  obtain⟨ob,_,_,h1,h2,_⟩:=dd
  exact⟨ob,h1,h2.2.1⟩
section
theorem Qx4(hu:A.units+1<cLine)(I:Inv X pins σ H s)(g:DGet H a y o)(ry:RelV y u)(h:∀ w' s',Inv X pins σ H s'->RelV (o.getD .non) w'->Q w' s'):
 wpAny (model X.prog X.w) A (call (.builtin "dict.get") [.ref a,u]) Q E s:=by
 rcases g with⟨kvs,k,e,ey,l⟩ | ⟨kvs,k,b,e,ey,eb,l⟩
 ·subst ey
  obtain⟨z,hd,vs,rel,dd⟩:=dk_rd I.hok e
  refine call_meetsIn PySem.F.slot_dict_get dd.typeIs PySem.F.entry_dict_get (PySem.F.args_dict_get_2 _ _) (meets_dict_get (Qaz X.prog X.w) a (kV_is ry) hd) ⟨_,dd.mapOf,h _ _ (I.tok _) ?_⟩
  rw[l]
  exact(rel.val k).getD rfl
 ·subst ey
  cases (ry)
  obtain⟨z,hd,xs,rel,dd⟩:=dt_rd I.hok e
  refine call_meetsIn PySem.F.slot_dict_get dd.typeIs PySem.F.entry_dict_get (PySem.F.args_dict_get_2 _ _) (meetsH_dict_get (tupleKind (Qaz X.prog X.w)) a b hd) ⟨tupleKind_room_in1 hu,k,xs,QkB I.hok eb,dd,h _ _ (I.tok _) ?_⟩
  rw[l]
  exact(rel.val k).getD rfl
end
def QwR(td ty:TE):TE:=fun σ H Q=>td σ H fun x H1=>∃ a,x=.ref a/\IsD H1 a/\ty σ H1 fun y H2=>∃ o,DGet H2 a y o/\Q (o.getD .non) H2
section
theorem Qux(hu:X.A.units+1<cLine)(ho:PE X o td)(he:PE X e ty)(m:M1 X o "get" apos e cpos):PE X (.Call (.Attribute o "get" apos) [e] [] cpos) (QwR td ty):=by
 intro pins s σ H Q I h
 refine wpAny_Call_method m.base m.few m.line PySem.F.plainAttrs_dict PySem.F.slot_dict_get PySem.F.type_dict_get (thn (ho pins s σ H _ I h) fun u s1 z0z=>?_)
 obtain⟨x,H1,I1,rx,a,ex,d,q1⟩:=z0z
 subst ex
 obtain rfl:=rx
 obtain⟨t1,t2,_⟩:=QwQ I1 d
 refine⟨t1,t2,?_⟩
 rw[m.trees]
 refine Calls.callWith_builtin rfl (Calls.evalArgs_plain (Calls.spliced_cons (thn (he pins s1 σ H1 _ I1 q1) fun iv s2 ⟨y,H2,I2,ry,ov,g,q2⟩=>Calls.spliced_nil ?_)))
 exact Qx4 hu I2 g ry fun w' s3 I3 rw'=>⟨_,H2,I3,rw',q2⟩
end
section
end
section
end
end L2
namespace L2
open PySem PySem.Spec
def Mild{α:Type}:Sem α->Prop
 | .pure _=>True
 | .raise _=>True
 | .unsupported _=>True
 | .finish _=>True
 | .rule _ k=>Mild (k ())
 | .at _ k=>Mild (k ())
 | .load _ _ k=>∀ o,Mild (k o)
 | .update _ _ f k=>(∀ o,(f o).cls=o.cls/\(f o).dict=o.dict/\(o.isFreed=false->(f o).isFreed=false))/\Mild (k ())
 | .alloc _ k=>∀ a,Mild (k a)
 | .loadIfAlive _ k=>∀ o,Mild (k o)
 | .point _ k=>Mild (k ())
 | .register _ _=>False
 | .fresh k=>∀ t,Mild (k t)
 | .ask k=>∀ t,Mild (k t)
 | .choose _ _ _=>False
 | .os _ _ _=>False
 | .call _ _ _ _ _=>False
 | .handled _ k=>∀ t,Mild (k t)
 | .newGen _ _=>False
 | .genState _ _=>False
 | .resume _ _ _ _=>False
 | .yield _ _ _ _=>False
 | .stack k=>∀ t,Mild (k t)
 | .fork _ _=>False
 | .thread _=>False
 | .await _ _ _ _ _=>False
def DK(h h':Heap):Prop:=∀ b o,h.get? b=some o->∃ o',h'.get? b=some o'/\o'.cls=o.cls/\o'.dict=o.dict
theorem DK.refl(h:Heap):DK h h:=fun b o e=>⟨o,e,rfl,rfl⟩
theorem DK.trans{h1 h2 h3:Heap}(a:DK h1 h2)(b:DK h2 h3):DK h1 h3:=fun x o e=>by
 obtain⟨o',e1,c1,d1⟩:=a x o e
 obtain⟨o2,e2,c2,d2⟩:=b x o' e1
 exact⟨o2,e2,c2.trans c1,d2.trans d1⟩
theorem Qtu{h:Heap}{a:Addr}{f:Obj->Obj}(hf:∀ o,(f o).cls=o.cls/\(f o).dict=o.dict/\(o.isFreed=false->(f o).isFreed=false)):DK h (h.update a f):=fun b o e=>by
 by_cases hb:a=b
 ·subst hb
  have hl:=(Heap.get?_some_iff.mp e).2
  exact⟨f o,Heap.get?_update_self f e ((hf o).2.2 hl),(hf o).1,(hf o).2.1⟩
 ·exact⟨o,(Heap.get?_update_other h f hb).trans e,rfl,rfl⟩
theorem QvH{α:Type}{M:Model}{Γ : PySem.Ctx}{h0:Heap}{Q:α->Pos->Shared->Prop}{E:Value->Pos->Shared->Prop}:∀(t:Sem α)(p:Pos)(s:Shared),Mild t->DK h0 s.heap->Sem.wp M Γ t Q E p s->
 Sem.wp M Γ t (fun a p s'=>Q a p s'/\DK h0 s'.heap) (fun e p s'=>E e p s'/\DK h0 s'.heap) p s:=by
 intro t
 induction t with
 | pure a=>intro p s _ d h;rw[Sem.wp]at h ⊢;exact⟨h,d⟩
 | raise e=>intro p s _ d h;rw[Sem.wp]at h ⊢;exact⟨h,d⟩
 | unsupported w=>intro p s _ d h;rw[Sem.wp]at h;exact h.elim
 | finish w=>intro p s _ d h;rw[Sem.wp]at h;exact h.elim
 | rule t k ih=>intro p s m d h;rw[Sem.wp]at h ⊢;exact ih () p s m d h
 | «at» t k ih=>intro p s m d h;rw[Sem.wp]at h ⊢;exact ih () t s m d h
 | load a q k ih=>intro p s m d h;rw[Sem.wp]at h ⊢;obtain⟨o,e,h⟩:=h;exact⟨o,e,ih o p s (m o) d h⟩
 | update a q f k ih=>intro p s m d h;rw[Sem.wp]at h ⊢;exact⟨h.1,ih () p _ m.2 (d.trans (Qtu m.1)) h.2⟩
 | alloc o k ih=>intro p s m d h;rw[Sem.wp]at h ⊢;exact ih _ p _ (m _) (d.trans fun b o' e=>⟨o',aK _ e,rfl,rfl⟩) h
 | loadIfAlive a k ih=>intro p s m d h;rw[Sem.wp]at h ⊢;exact ih _ p s (m _) d h
 | point l k ih=>intro p s m d h;rw[Sem.wp]at h ⊢;exact ih () p s m d h
 | fresh k ih=>intro p s m d h;rw[Sem.wp]at h ⊢;exact ih _ p _ (m _) d h
 | ask k ih=>intro p s m d h;rw[Sem.wp]at h ⊢;exact ih _ p s (m _) d h
 | handled o k ih=>intro p s m d h;rw[Sem.wp]at h ⊢;exact ih _ p s (m _) d h
 | stack k ih=>intro p s m d h;rw[Sem.wp]at h ⊢;exact ih _ p s (m _) d h
 | _=>intro p s m;exact m.elim
theorem QrE{α:Type}{M:Model}{A:Around}{t:Sem α}{Q:α->Shared->Prop}{E:Value->Shared->Prop}{s:Shared}(m:Mild t)(h:wpAny M A t Q E s):
 wpAny M A t (fun a s'=>Q a s'/\DK s.heap s'.heap) (fun e s'=>E e s'/\DK s.heap s'.heap) s:=fun Γ p hΓ => QvH t p s m (DK.refl _) (h Γ p hΓ)
theorem Qju{α:Type}{M:Model}{A:Around}{t:Sem α}{Q:α->Shared->Prop}{E:Value->Shared->Prop}{s:Shared}(m:Mild t)(h:wpAny M A t (fun a s'=>DK s.heap s'.heap->Q a s') E s):wpAny M A t Q E s:=
 bB (QrE m h) (fun _ _ z=>z.1 z.2) fun _ _ z=>z.1
theorem Mild.bind{α β:Type}{k:α->Sem β}:∀{t:Sem α},Mild t->(∀ a,Mild (k a))->Mild (t>>=k):=by
 intro t
 show Mild t->(∀ a,Mild (k a))->Mild (t.bind k)
 induction t with
 | pure a=>exact fun _ h=>h a
 | raise e=>exact fun _ _=>True.intro
 | unsupported w=>exact fun _ _=>True.intro
 | finish w=>exact fun _ _=>True.intro
 | rule t k ih=>exact fun m h=>ih () m h
 | «at» t k ih=>exact fun m h=>ih () m h
 | load a q k ih=>exact fun m h o=>ih o (m o) h
 | update a q f k ih=>exact fun m h=>⟨m.1,ih () m.2 h⟩
 | alloc o k ih=>exact fun m h a=>ih a (m a) h
 | loadIfAlive a k ih=>exact fun m h o=>ih o (m o) h
 | point l k ih=>exact fun m h=>ih () m h
 | fresh k ih=>exact fun m h o=>ih o (m o) h
 | ask k ih=>exact fun m h o=>ih o (m o) h
 | handled o k ih=>exact fun m h o=>ih o (m o) h
 | stack k ih=>exact fun m h o=>ih o (m o) h
 | _=>exact fun m _=>m.elim
end L2
namespace L2
open PySem PySem.Spec
section
variable{α β:Type}
theorem Q7(a:α):Mild (pure a:Sem α):=True.intro
theorem QcP(w:String):Mild (unsupported w:Sem α):=True.intro
theorem QhR(a:Addr):Mild (load a):=fun _=>True.intro
theorem Qho:Mild stack:=fun _=>True.intro
theorem QqB(a:Addr)(g:Array Value->Array Value):Mild (update a (Obj.mapFields g)):=by
 refine⟨fun o=>?_,True.intro⟩
 obtain⟨c,d,dt,sl⟩:=o
 cases dt<;>exact⟨rfl,rfl,fun h=>by first | exact h | rfl⟩
theorem Qa9{c:Prop}[Decidable c]{t u:Sem α}(h1:Mild t)(h2:Mild u):Mild (if c then t else u):=by split<;>assumption
theorem QmZ(v:Value):Mild (fieldsOf v):=by
 unfold fieldsOf
 cases v<;>first | exact QcP _ | (refine(QhR _).bind fun o=>?_;split<;>trivial)
theorem Qe4(v:Value)(i:Nat):Mild (field v i):=by
 unfold field
 refine(QmZ v).bind fun vs=>?_
 split<;>trivial
theorem Qez(v:Value)(i:Nat)(x:Value):Mild (setField v i x):=by
 unfold setField
 cases v<;>first | exact QcP _ | skip
 unfold updateField
 refine(QhR _).bind fun o=>?_
 split
 ·exact Qa9 (QqB _ _) (QcP _)
 ·exact QcP _
theorem Qlf:Mild frameEnvs:=by
 unfold frameEnvs
 exact Qho.bind fun _=>Q7 _
theorem Qr6:Mild underTheClaimsCaller:=by
 unfold underTheClaimsCaller
 exact Qho.bind fun _=>Q7 _
theorem Qp8(env:Env)(l:List Env):Mild (behindIsImport env l):=by
 unfold behindIsImport
 refine Qa9 (Q7 _) (Qa9 (Q7 _) ?_)
 exact(Qe4 _ _).bind fun _=>Q7 _
theorem Qs2(env:Env)(b:Bool)(l:List Env):Mild (keptBack env b l):=by
 cases l with
 | nil=>exact Qa9 (Q7 _) (Qr6.bind fun _=>Q7 _)
 | cons a l=>exact Q7 _
theorem Qkb:∀ l:List Env,Mild (readyFrames l)
 | []=>True.intro
 | env::outer=>by
  unfold readyFrames
  split
  ·refine(QhR _).bind fun o=>Qa9 (Q7 _) ?_
   refine(Qp8 _ _).bind fun _=>(Qs2 _ _ _).bind fun _=>?_
   refine Mild.bind (t:=update _ _) ⟨fun o=>⟨rfl,rfl,fun h=>?_⟩,True.intro⟩ fun _=>Qkb outer
   obtain⟨c,d,dt,sl⟩:=o
   cases dt<;>first | exact h | rfl
  ·exact QcP _
theorem QoE(env:Env):Mild (frameOf env):=by
 unfold frameOf
 refine Qlf.bind fun l=>?_
 refine Mild.bind ?_ fun r=>?_
 ·cases List.dropWhile _ l with
  | nil=>exact Q7 _
  | cons a l=>exact(Qkb (a::l)).bind fun _=>Q7 _
 ·split<;>trivial
theorem QrP(f:Addr)(b:Bool):Mild (entryPlaceOf f b):=by
 unfold entryPlaceOf
 refine Qho.bind fun l=>?_
 split<;>exact Q7 _
theorem Qrw(a b c d e:Value)(pl:List Value):Mild (EntryCells.newEntry a b c d e pl):=by
 unfold EntryCells.newEntry newFields newObj newObjAsIs
 first
  | (refine Mild.bind (Qa9 (QcP _) (Q7 _)) fun _=>?_;exact fun _=>True.intro)
  | (refine Qa9 (QcP _) ?_;exact fun _=>True.intro)
theorem Qpf(e:Value)(f:Option Addr):Mild (setFlight e f):=by
 unfold setFlight
 exact(Qe4 _ _).bind fun _=>Qa9 (Qez _ _ _) (Q7 _)
theorem Qua(e:Value)(env:Env):Mild (noteFrame e env):=by
 unfold noteFrame
 split
 ·refine(Qe4 _ _).bind fun head=>?_
  have last:∀ fr:Addr,Mild (do setField e 1 (← EntryCells.newEntry head (← frameOf env) .none (rawInt fr) .none (← entryPlaceOf fr (head != .none)))):=fun fr=>
   (QoE env).bind fun _=>(QrP _ _).bind fun _=>(Qrw _ _ _ _ _ _).bind fun _=>Qez _ _ _
  refine Qa9 ?_ (last _)
  exact(Qe4 _ _).bind fun _=>Qa9 (Q7 _) ((Qez _ _ _).bind fun _=>last _)
 ·exact QcP _
theorem Qfq(env:Env)(e:Value):Mild (leaving env e):=by
 unfold leaving
 exact(Qua e env).bind fun _=>Qpf e none
end
end L2
namespace L2
open PySem PySem.Spec PyProof.Rows
structure FlyS(P:Program)(w:World)(l:List Env)(H:Hp)(s:Shared)(ea C t:Addr)(H':Hp)(B:Heap)(s':Shared):Prop where
 os:s'.os=s.os
 bare:AllBare s'.gens
 un:Un (frs l) [] H H' s.heap s'.heap
 kb:∀ b o,s.heap.get? b=some o->H b=none->b∉frs l->B.get? b=some o
 th:∀ b o,s.heap.get? b=some o->b∉frs l->∃ o',B.get? b=some o'
 hok:HOk P w H' B
 fly:Heap.FlyingW B l ea (.ref C) (.ref t) s'.heap
def HasD(h:Heap)(ea:Addr)(dx:Option Addr):Prop:=∃ oe,h.get? ea=some oe/\oe.dict=dx
theorem HasD.go{h h':Heap}{ea:Addr}{dx:Option Addr}(x:HasD h ea dx)(k:DK h h'):HasD h' ea dx:=let ⟨oe,e,d⟩:=x;let ⟨o',e',_,d'⟩:=k ea oe e;⟨o',e',d'.trans d⟩
def CXR(P:Program)(w:World):CXT:=fun l H s E e s'=>∃ ea C t dx H' B,e=.ref ea/\FlyS P w l H s ea C t H' B s'/\HasD s'.heap ea dx/\E (.ref C) dx H'
section
end
section
theorem Qc4(I:Inv X pins σ H1 s1):∀ b o,X.s₀.heap.get? b=some o->b∉X.fs->b∉frs X.stack:=fun b o e hb z=>by
 rcases aF.mp (I.stkSub b z) with q | q
 ·have:=aO e
  rw[q]at this
  exact absurd (aa this I.ok.above) (bG _)
 ·exact hb q
theorem QwE(I:Inv X pins σ H1 s1):HOk X.prog X.w H1 (PySem.W.hideAll s1.heap (frs X.stack)):=fun a o e=>
 (I.hok a o e).stay (fun b u hb q=>PySem.W.hideAll_get _ q fun z=>by
  have:=I.stkFree b z
  rcases hb with rfl | hb
  ·rw[this]at e;cases e
  ·rw[this]at hb;cases hb) (fun _ q=>q) fun _ _ q=>q
theorem QkZ(I:Inv X pins σ H1 s1):∀ b∈X.fs,∀ o,X.s₀.heap.get? b=some o->∀ vs,o.data≠.fields vs:=fun b hb o e=>by
 obtain⟨_,o',h1,h2⟩:=I.ok.funs.mem hb
 rw[e]at h1;cases h1
 exact h2
theorem Qsl(I:Inv X pins σ H1 s1)(hst:X.stack=X.env::X.outer)(hfr:X.env.frame=some X.env.locals)(hex:X.ex=[])(hx:Heap.MadeExcOf s1.heap h' ea (.ref C) vs)(hE:E (.ref C) none H1):
 wpAny M X.A (leaving X.env (.ref ea)) (fun _ s''=>CXR X.prog X.w X.outer X.H₀ X.s₀ E (.ref ea) s'') Ex { s1 with heap:=h' }:=by
 have hin:∀ env∈X.stack,∀ b,env.frame=some b->b∈frs X.stack:=fun env he b hb=>bS.mpr ⟨env,he,hb⟩
 have st:=I.stack
 refine Qju (Qfq _ _) (wpAny_leaves_madeW (base:=PySem.W.hideAll s1.heap (frs X.stack)) (h:=s1.heap) (env:=X.env) (outer:=X.outer) (by rw[← hst];exact I.ok.frames) hfr (fun b o q=>PySem.W.of_hideAll _ q)
  (by rw[← hst];exact PySem.W.funFrames_hide st hin) hx fun h2 t fl tp nt up dk=>?_)
 have nx:∀ b:Addr,b∉X.ex:=fun b z=>by rw[hex]at z;cases z
 have kbB:=fun b o e n hb=>PySem.W.hideAll_get _ (I.base.keep b o e n hb (nx b)) (Qc4 I b o e hb)
 have thB:∀ b o,X.s₀.heap.get? b=some o->b∉X.fs->∃ o',(PySem.W.hideAll s1.heap (frs X.stack)).get? b=some o':=fun b o e hb=>by
  obtain⟨o',q⟩:=I.base.there b o e (nx b)
  exact⟨o',PySem.W.hideAll_get _ q (Qc4 I b o e hb)⟩
 have slot:∀ b o,X.s₀.heap.get? b=some o->X.H₀ b=none->b∈X.fs->∃ sl,h2.get? b=some { o with slots:=sl }:=fun b o e n hb=>by
  obtain⟨sl,q⟩:=I.base.slot b o e n hb (nx b)
  obtain⟨sl2,q2⟩:=up b _ (hx.keeps _ _ q) (QkZ I b hb o e)
  exact⟨sl2,q2⟩
 have hd0:HasD h' ea none:=let ⟨_,q,_⟩:=hx.there;⟨_,q,rfl⟩
 refine⟨ea,C,t,none,H1,_,rfl,⟨I.os,I.bare,⟨fun b o e n hb _=>fl.1 b o (kbB b o e n hb),fun b o e n hb _=>slot b o e n hb,fun b o e n _=>I.base.free b o e n (nx b),fun b o e _=>?_,I.base.tups,I.base.frzs,I.base.tbls⟩,kbB,thB,QwE I,fl⟩,hd0.go dk,hE⟩
 by_cases hb:b∈X.fs
 ·obtain⟨sl,q⟩:=slot b o e (I.ok.frf b hb) hb
  exact⟨_,q⟩
 ·obtain⟨o',q⟩:=thB b o e hb
  exact⟨o',fl.1 b o' q⟩
theorem QuV(I:Inv X pins σ H1 s1)(hst:X.stack=X.env::X.outer)(hfr:X.env.frame=some X.env.locals)(hex:X.ex=[])(h:CXR X.prog X.w X.stack H1 s1 E e s'):
 wpAny M X.A (leaving X.env e) (fun _ s''=>CXR X.prog X.w X.outer X.H₀ X.s₀ E e s'') Ex s':=by
 obtain⟨ea,C,t,dx,H',B,rfl,F,hD,hE⟩:=h
 have fl:=F.fly
 rw[hst]at fl
 refine Qju (Qfq _ _) (wpAny_leaves_onW (by rw[← hst];exact I.ok.frames) hfr fl fun h2 fl2 up dk=>?_)
 have nx:∀ b:Addr,b∉X.ex:=fun b z=>by rw[hex]at z;cases z
 have nn:∀ b:Addr,b∉([]:List Addr):=fun b z=>by cases z
 have kbB:=fun b o e n hb=>
  F.kb b o (I.base.keep b o e n hb (nx b)) (I.base.free b o e n (nx b)) (Qc4 I b o e hb)
 have thB:∀ b o,X.s₀.heap.get? b=some o->b∉X.fs->∃ o',B.get? b=some o':=fun b o e hb=>by
  obtain⟨o',q⟩:=I.base.there b o e (nx b)
  exact F.th b o' q (Qc4 I b o e hb)
 have slot:∀ b o,X.s₀.heap.get? b=some o->X.H₀ b=none->b∈X.fs->∃ sl,h2.get? b=some { o with slots:=sl }:=fun b o e n hb=>by
  obtain⟨sl,q⟩:=I.base.slot b o e n hb (nx b)
  have hs:b∈frs X.stack:=by
   rw[hst]
   obtain⟨env,h1,h2⟩:=bS.mp hb
   exact bS.mpr ⟨env,aE _ h1,h2⟩
  obtain⟨sl1,q1⟩:=F.un.slot b _ q (I.base.free b o e n (nx b)) hs (nn b)
  obtain⟨sl2,q2⟩:=up b _ q1 (QkZ I b hb o e)
  exact⟨sl2,q2⟩
 refine⟨ea,C,t,dx,H',B,rfl,⟨F.os.trans I.os,F.bare,⟨fun b o e n hb _=>fl2.1 b o (kbB b o e n hb),fun b o e n hb _=>slot b o e n hb,fun b o e n _=>?_,fun b o e _=>?_,fun b xs e=>F.un.tups b xs (I.base.tups b xs e),fun b o u e=>F.un.frzs b o u (I.base.frzs b o u e),fun b ps e=>?_⟩,kbB,thB,F.hok,fl2⟩,hD.go dk,hE⟩
 ·obtain⟨o',q⟩:∃ o',s1.heap.get? b=some o':=I.base.there b o e (nx b)
  exact F.un.free b o' q (I.base.free b o e n (nx b)) (nn b)
 ·by_cases hb:b∈X.fs
  ·obtain⟨sl,q⟩:=slot b o e (I.ok.frf b hb) hb
   exact⟨_,q⟩
  ·obtain⟨o',q⟩:=thB b o e hb
   exact⟨o',fl2.1 b o' q⟩
 ·obtain⟨m1,q1⟩:=I.base.tbls b ps e
  obtain⟨m2,q2⟩:=F.un.tbls b _ q1
  exact⟨m1++m2,by rw[q2,Array.append_assoc]⟩
end
section
variable   {K:PySem.W.Frag}
theorem passR:Qc0 (CXR P w) (cxOf (CXR P w) P w K mg base N qual scope f cd A outer s H E) E:=fun pins σ H1 s1 e s' I h=>QuV I rfl rfl rfl h
end
end L2
namespace L2
open PySem PySem.Spec PyProof.Rows
section
variable      {rest:List Expr}
end
end L2
namespace L2
open PySem PySem.Spec PyProof.Rows
noncomputable def exO(ea C:Addr)(dx:Option Addr:=none):HO:=.ext fun h=>∃ o vs,h.get? ea=some o/\o.cls=.ref C/\o.data=.fields vs/\o.dict=dx
section
variable{X:Cx}{pins:List (Addr×Obj)}{σ:St}{H H':Hp}{s s':Shared}{ea C t:Addr}{dx:Option Addr}{B:Heap}
end
section
variable{X:Cx}{pins:List (Addr×Obj)}{σ:St}{H H':Hp}{s s':Shared}{ea C DD t:Addr}{dx:Option Addr}{B:Heap}{x n:Str}{np hpos:Pos}{b₀:Stmt}{suite:List Stmt}{rest:List ExceptHandler}{D:Ends}{Ex:Value->Shared->Prop}{i:Nat}{ts:TS}
end
end L2
namespace L2
open PySem PySem.Spec PyProof.Rows
section
variable     {ps:List Str} {sp:Sp}
theorem PA.nox(h:PA X.nox es t)(I:Inv X pins σ H s)(q:t σ H Q):
 wpAny (model X.prog X.w) X.A (spliced (backTo pos (starEach es X.env))) (AP X pins σ Q) E s:=
 bB (h pos pins s σ H Q (I.wish _) q) (fun _ _ z0z=>by obtain⟨v,H',I',r,q⟩:=z0z;exact⟨v,H',I'.unwish,r,q⟩) fun _ _ z=>False.elim z
variable   {st:Stmt} {rest:List Stmt}
end
end L2
namespace L2
open PySem PySem.Spec PyProof.Rows
def ExAt(x D:Addr)(h:Heap):Prop:=∃ o vs,h.get? x=some o/\o.cls=.ref D/\o.data=.fields vs
section
open PySem.W PySem.Calls Builtin Builtin.ObjectAttr Builtin.Getset_descriptor
variable{K:PySem.W.Frag}
theorem QgE{M:Model}{h:Heap}(I:ExAt x D h):Looks M h (typeOf (.ref x)) (.ref D):=by
 obtain⟨o,vs,h1,h2,_⟩:=I
 exact h2 ▸ (Looks.ld h1).andThen .now
theorem Qj3(X:K.In h)(ha:findIn K (.ref D) name=some (some a))(hg:specialIn K a "__get__"=some (some g))(ht:takesIn K a=some true):
 Looks M h (find (.ref x) (.ref D) name) (.bind g a):=by
 have L1:=looks_findIn (M:=M) X ha
 have L2:Looks M h (getOf (some a)) (some g):=looks_specialIn X hg
 have L3:=looks_takesIn (M:=M) X ht
 exact L1.andThen (L2.andThen ((show Looks M h (dataDescriptor? (some a) (some g)) (some (g,a)) from L3.andThen .now).andThen (Looks.tag .now)))
theorem Qve{M:Model}{nameV:Value}{Q:Unit->Shared->Prop}(X:K.In s.heap)(I:ExAt x D s.heap)(hb:mroIn K D (.type "BaseException")=some true)(hq:Q () s):wpAny M A (checkBuiltinCall "BaseException.__getattribute__" ⟨[.ref x,nameV],[]⟩) Q E s:=by
 obtain⟨hh,g,dr,t,os⟩:=s
 have hk:builtinKind "BaseException.__getattribute__"=some .slot:=dk
 have hsplit:splitId "BaseException.__getattribute__"=some ("BaseException","__getattribute__"):=dk
 have L0:=QgE (M:=M) I
 have L1:=looks_mroIn (M:=M) X hb
 simp only[checkBuiltinCall,hk,hsplit]
 refine aN ?_
 unfold isInstance
 repeat (first | lk | wp_step)
 exact hq
theorem QxQ(X:K.In s.heap)(I:ExAt x D s.heap)(hm:mroIn K D (.type "object")=some true)
 (h:R (.ok (.ret (.ref D))) s):codeAny (model prog w) A (.call (.builtin "getset_descriptor.__get__") ⟨[.builtin "object.__class__",.ref x,tp],[]⟩) R s:=by
 obtain⟨hh,g,dr,t,os⟩:=s
 have L0:=QgE (M:=model prog w) I
 have L1:=looks_mroIn (M:=model prog w) X hm
 refine codeAny_call_builtin KF.slot_gs.plain KF.entry_gs (KF.slot_gs.check _ _ _ _ _ _ _ _ KF.type_class (KF.args_gs _ _ _) ?_)
 unfold Builtin.«getset_descriptor.__get__» descrGet
 rw[dga_obj]
 refine aN (aY ?_)
 unfold descrGetter descrCheckInstance descrNameAndClass isInstance
 simp only[KF.owner_class]
 repeat lk
 refine⟨Code.quiet_builtin _ (dk),codeAny_builtin KF.entry_class ?_⟩
 unfold Builtin.«object.__class__» shownTypeOf
 repeat lk
 exact h
theorem QuG{g a:Value}{tk:Tok}{Q:Fin->Shared->Prop}(X:K.In s.heap)(I:ExAt x D s.heap)(ha:findIn K (.ref D) "__class__"=some (some (.builtin "object.__class__")))
 (hn:specialIn K (.builtin "object.__class__") "__get__"=some (some (.builtin "getset_descriptor.__get__"))) (ht:takesIn K (.builtin "object.__class__")=some true) (hm:mroIn K D (.type "object")=some true)
 (hq:Q (.done (.ret (.ref D))) s):wpAny (model prog w) A (Builtin.«object.__getattribute__» ⟨[.ref x,.str "__class__" tk],[]⟩) Q E s:=by
 have L3:=Qj3 (x:=x) (M:=model prog w) X ha hn ht
 have L0:=QgE (M:=model prog w) I
 obtain⟨hh,gg,d,t,os⟩:=s
 refine aN (aY ?_)
 refine aN (aY (aN (L0.at (aN (L3.at ?_)))))
 exact aN (cF (wpAny_call (QxQ X I hm (aY hq))))
theorem QwA{Q:Option Value->Shared->Prop}(X:K.In s.heap)(I:ExAt x D s.heap)(g1:findIn K (.ref D) "__getattribute__"=some (some (.builtin "BaseException.__getattribute__")))(hb:mroIn K D (.type "BaseException")=some true)
 (g2:findIn K (.ref D) "__getattr__"=some none) (ha:findIn K (.ref D) "__class__"=some (some (.builtin "object.__class__")))
 (hn:specialIn K (.builtin "object.__class__") "__get__"=some (some (.builtin "getset_descriptor.__get__"))) (ht:takesIn K (.builtin "object.__class__")=some true) (hm:mroIn K D (.type "object")=some true)
 (h:Q (some (.ref D)) { s with toks:=s.toks+1 }):wpAny (model prog w) A (getAttr? (.ref x) "__class__") Q E s:=by
 obtain⟨hh,g,d,t,os⟩:=s
 have L0:=QgE (M:=model prog w) I
 have L1:=looks_findIn (M:=model prog w) X g1
 have L2:=looks_findIn (M:=model prog w) X g2
 have f3:=PySem.F.attr_ValueError.ga.bind (.ref x)
 have hx2:(Value.builtin "BaseException.__getattribute__" == Value.builtin "object.__getattribute__")=false:=dk
 have hx1:(onTheHeap (Value.ref D)&&Value.builtin "BaseException.__getattribute__" == Value.builtin "object.__getattribute__")=false:=by rw[hx2];rfl
 unfold getAttr? getAttrBy? getAttrBy
 refine aN (wpAny_mkText (aN (wpAny_attempt (cF (aN (L0.at (aN (L1.at ?_))))))))
 show wpAny _ _ (if (onTheHeap (Value.ref D)&&Value.builtin "BaseException.__getattribute__" == Value.builtin "object.__getattribute__")=true then _ else getAttrByItsOwn _ _ _ _ _ _) _ _ _
 rw[hx1,aD (by decide)]
 unfold getAttrByItsOwn
 refine aN ?_
 refine L2.at ?_
 refine aN (wpAny_attempt ?_)
 refine cF ?_
 show wpAny _ _ (boundAndCalled (.builtin "BaseException.__getattribute__") (.ref x) _) _ _ _
 unfold boundAndCalled
 refine aN (wpAny_of_eq f3 ?_)
 refine wpAny_call (codeAny_call_builtin PySem.F.attr_ValueError.ga.plain F.entry_bexc_ga (Qve X I hb (QuG (g:=.none) (a:=.none) X I ha hn ht hm ?_)))
 exact handed_on rfl (aY h)
structure ExCls(K:PySem.W.Frag)(D:Addr):Prop where
 cl:(clsIn K D).isSome=true
 g1:findIn K (.ref D) "__getattribute__"=some (some (.builtin "BaseException.__getattribute__"))
 hb:mroIn K D (.type "BaseException")=some true
 g2:findIn K (.ref D) "__getattr__"=some none
 ha:findIn K (.ref D) "__class__"=some (some (.builtin "object.__class__"))
 hn:specialIn K (.builtin "object.__class__") "__get__"=some (some (.builtin "getset_descriptor.__get__"))
 htk:takesIn K (.builtin "object.__class__")=some true
 hm:mroIn K D (.type "object")=some true
theorem Qvk(e:ExCls K D):KitX K (.ref x) (.ref D) (ExAt x D) where
 ty:=fun _ _ _ I=>QgE I
 it:=fun _ _ X _=>by
  obtain⟨cdD,hcD⟩:=bH.mp e.cl
  unfold clsIn at hcD
  split at hcD
  ·rename_i c' d' cd' sl' ho
   intro A' Q' E' s' k q
   unfold isType loadHead
   exact aN (wpAny_loadPart (k _ _ (X _ _ ho)) (aY q))
  ·cases hcD
 ne:=fun h tp dd its n sl X htp=>by
  obtain⟨cdD,hcD⟩:=bH.mp e.cl
  refine Bool.eq_false_iff.mpr fun q=>?_
  have e:=Value.ref.inj (bc.mp q)
  subst e
  unfold clsIn at hcD
  split at hcD
  ·rename_i c' d' cd' sl' ho
   have z:=(X _ _ ho).symm.trans htp
   cases z
  ·cases hcD
 ca:=fun X I k=>QwA X I e.g1 e.hb e.g2 e.ha e.hn e.htk e.hm k
end
end L2
namespace L2
open PySem PySem.Spec
section
variable{prog:Program}{w:World}{A:Around}{E:Value->Shared->Prop}{h:Heap}{g:Array GenState}{d:Drawn}{t:Nat}{os:OsState}
variable{nm q:Str}{C N:Addr}{bs bm bmB:List Value}{hdct:Bool}{sn:List Str}{sub:List Value}{ab:Bool}{col:Option Bool}{dd:Option Addr}{k0 k1 k2 k3 k5:Option Value}{B newId initId:String}
end
section
variable{M:Model}{A:Around}{E:Value->Shared->Prop}{env:Env}{nm q:Str}{C N:Addr}{bs bm:List Value}{hdct:Bool}{sn:List Str}{sub:List Value}{ab:Bool}{col:Option Bool}{dd:Option Addr}{k0 k1 k2 k3 k5:Option Value}{newId:String}
end
end L2
namespace L2
open PySem PySem.Spec
section
variable{prog:Program}{w:World}{A:Around}{s:Shared}{K:PySem.W.Frag}{x C:Addr}{R:Result->Shared->Prop}{E:Value->Shared->Prop}
end
end L2
namespace L2
open PySem PySem.Spec PySem.W
section
variable{prog:Program}{w:World}{A:Around}{E:Value->Shared->Prop}{s:Shared}{K:PySem.W.Frag}{x D:Addr}{ox od:Obj}{name:Str}{expr:Bool}{Q:Value->Shared->Prop}{v:Value}
end
end L2
namespace L2
open PySem PySem.Spec PyProof.Rows
abbrev exObj(C t:Addr)(dx:Option Addr):Obj:={ cls:=.ref C,dict:=dx,data:=.fields #[.ref t,.none,.none,.none,.bool false,.none] }
noncomputable def exM(ea C t:Addr)(dx:Option Addr):HO:=.ext fun h=>h.get? ea=some (exObj C t dx)
section
variable{X:Cx}{pins:List (Addr×Obj)}{σ:St}{H:Hp}{s:Shared}{ea C t:Addr}{h':Heap}{us:List Value}
end
end L2
namespace L2
open PySem PySem.Spec PyProof.Rows
section
variable{X:Cx}{pins:List (Addr×Obj)}{σ:St}{H:Hp}{s:Shared}{a C t:Addr}{f:Str}{y:V}{u:Value}{A:Around}{E:Value->Shared->Prop}
end
section
variable{X:Cx}{o value:Expr}{f:Str}{pos pos':Pos}{ta tv:TE}
end
end L2
namespace L2
open PySem PySem.Spec PyProof.Rows
noncomputable def dropH(H:Hp)(ea:Addr):Hp:=fun b=>if b=ea then none else H b
theorem QgN{H:Hp}{ea b:Addr}(h:b≠ea):dropH H ea b=H b:=aD h
theorem QtY{H:Hp}{ea b:Addr}(h:H b=none):dropH H ea b=none:=by unfold dropH;split<;>first | rfl | exact h
theorem QtI{H:Hp}{ea b:Addr}{o:HO}(h:dropH H ea b=some o):b≠ea/\H b=some o:=by
 unfold dropH at h
 split at h
 ·cases h
 ·exact⟨by assumption,h⟩
section
variable{X:Cx}{pins:List (Addr×Obj)}{σ:St}{H:Hp}{s:Shared}{E:XK}{ea C t:Addr}{dx:Option Addr}{Ex:Value->Shared->Prop}{M:Model}
theorem QqJ(I:Inv X pins σ H s)(hst:X.stack=X.env::X.outer)(hfr:X.env.frame=some X.env.locals)(hex:X.ex=[])(e:H ea=some (exM ea C t dx))(hn0:X.s₀.heap.get? ea=none)(hE:E (.ref C) dx (dropH H ea)):
 wpAny M X.A (leaving X.env (.ref ea)) (fun _ s''=>CXR X.prog X.w X.outer X.H₀ X.s₀ E (.ref ea) s'') Ex s:=by
 obtain⟨hx,_,_⟩:=(show ObjOk X.prog X.w H s.heap ea (exM ea C t dx) from I.hok ea _ e)
 have hin:∀ env∈X.stack,∀ b,env.frame=some b->b∈ea::frs X.stack:=fun env he b hb=>aE _ (bS.mpr ⟨env,he,hb⟩)
 have st:=I.stack
 have nx:∀ b:Addr,b∉X.ex:=fun b z=>by rw[hex]at z;cases z
 have nea:∀ b o,X.s₀.heap.get? b=some o->b≠ea:=fun b o q z=>by rw[z,hn0]at q;cases q
 have ne2:∀ b o,X.s₀.heap.get? b=some o->b∉X.fs->b∉ea::frs X.stack:=fun b o q hb z=>by
  rcases aF.mp z with z | z
  ·exact nea b o q z
  ·exact Qc4 I b o q hb z
 refine Qju (Qfq _ _) (wpAny_leaving_firstW (base:=PySem.W.hideAll s.heap (ea::frs X.stack)) (env:=X.env) (outer:=X.outer) (a0:=.ref t) (by rw[← hst];exact I.ok.frames)
  (by rw[← hst];exact PySem.W.funFrames_hide st hin) hfr hx (fun b o q=>PySem.W.of_hideAll _ q) (PySem.W.hideAll_none _ (aL ..)) rfl rfl rfl fun h2 hL dk=>?_)
 obtain⟨k1,⟨_,_,k2⟩,k3,up⟩:=hL
 have fl:Heap.FlyingW (PySem.W.hideAll s.heap (ea::frs X.stack)) X.outer ea (.ref C) (.ref t) h2:=⟨k1,PySem.W.hideAll_none _ (aL ..),k2,k3⟩
 have kbB:∀ b o,X.s₀.heap.get? b=some o->X.H₀ b=none->b∉X.fs->(PySem.W.hideAll s.heap (ea::frs X.stack)).get? b=some o:=fun b o q n hb=>PySem.W.hideAll_get _ (I.base.keep b o q n hb (nx b)) (ne2 b o q hb)
 have thB:∀ b o,X.s₀.heap.get? b=some o->b∉X.fs->∃ o',(PySem.W.hideAll s.heap (ea::frs X.stack)).get? b=some o':=fun b o q hb=>by
  obtain⟨o',z⟩:=I.base.there b o q (nx b)
  exact⟨o',PySem.W.hideAll_get _ z (ne2 b o q hb)⟩
 have slot:∀ b o,X.s₀.heap.get? b=some o->X.H₀ b=none->b∈X.fs->∃ sl,h2.get? b=some { o with slots:=sl }:=fun b o q n hb=>by
  obtain⟨sl,z⟩:=I.base.slot b o q n hb (nx b)
  obtain⟨sl2,z2⟩:=up b _ z (QkZ I b hb o q)
  exact⟨sl2,z2⟩
 have hokD:HOk X.prog X.w (dropH H ea) (PySem.W.hideAll s.heap (ea::frs X.stack)):=fun a o q=>by
  obtain⟨ha,q⟩:=QtI q
  refine(I.hok a o q).stay (fun b u hb z=>PySem.W.hideAll_get _ z fun m=>?_) (fun b z=>?_) fun b xs z=>?_
  ·rcases aF.mp m with m | m
   ·subst m
    rcases hb with rfl | hb
    ·exact ha rfl
    ·rw[e]at hb;cases hb
   ·have:=I.stkFree b m
    rcases hb with rfl | hb
    ·rw[this]at q;cases q
    ·rw[this]at hb;cases hb
  ·rw[QgN (by rintro rfl;rw[e]at z;cases z)];exact z
  ·rw[QgN (by rintro rfl;rw[e]at z;cases z)];exact z
 refine⟨ea,C,t,dx,dropH H ea,_,rfl,⟨I.os,I.bare,⟨fun b o q n hb _=>fl.1 b o (kbB b o q n hb),fun b o q n hb _=>slot b o q n hb,fun b o q n _=>QtY (I.base.free b o q n (nx b)),fun b o q _=>?_,fun b xs q=>?_,fun b o u q=>?_,fun b ps q=>?_⟩,kbB,thB,hokD,fl⟩,HasD.go ⟨_,hx,rfl⟩ dk,hE⟩
 ·by_cases hb:b∈X.fs
  ·obtain⟨sl,z⟩:=slot b o q (I.ok.frf b hb) hb
   exact⟨_,z⟩
  ·obtain⟨o',z⟩:=thB b o q hb
   exact⟨o',fl.1 b o' z⟩
 ·have z:=I.base.tups b xs q
  rw[QgN (by rintro rfl;rw[e]at z;cases z)];exact z
 ·have z:=I.base.frzs b o u q
  rw[QgN (by rintro rfl;rw[e]at z;cases z)];exact z
 ·obtain⟨m,z⟩:=I.base.tbls b ps q
  exact⟨m,by rw[QgN (by rintro rfl;rw[e]at z;cases z)];exact z⟩
end
end L2
namespace L2
open PySem PySem.Spec PyProof.Rows
end L2
namespace L2
open PySem PySem.Spec PyProof.Rows
section
variable{X:Cx}{pins:List (Addr×Obj)}{σ:St}{H:Hp}{s:Shared}{C f:Addr}{k:Nat}{fd:FuncData}{ps:List Str}{sp:Sp}{dvs vs:List V}{ds us:List Value}{Q:Addr->Addr->Hp->Prop}
end
section
variable{X:Cx}{C f:Addr}{E:XK}{x:Str}{k:Nat}{fd:FuncData}{ps:List Str}{sp:Sp}{dvs:List V}{ds:List Value}{e₀:Expr}{rest:List Expr}{ta:TA}{np cpos pos:Pos}
end
end L2
namespace L2
open PySem PySem.Spec PyProof.Rows
section
variable{X:Cx}{e:Expr}{f:Str}{pos:Pos}{ta:TE}
end
end L2
namespace L2
open PySem PySem.Spec
end L2
set_option maxHeartbeats 1000000
namespace L2
open PySem PySem.Spec PyProof.Rows
section
theorem Qn0(I:Nat->Shared->Prop)(NB:Value->Shared->Prop)(hNB:∀ e s',NB e s'->notedBy (model prog w) A env (fun e s'=>R (.error e) s') e s')
 (turn:∀ n s,I n s->wpAny (model prog w) A (pyNext it) (fun r s₁=>match r with
  | none=>R (.ok .next) s₁
  | some v=>wpAny (model prog w) A (letOwnedTupleGo target it v) (fun _ s₁'=>wpAny (model prog w) A (assign target env v) (fun _ s₂ =>
   wpAny (model prog w) A (forIn ifs true fun c r=>if r=true then do let ok ← isTrue c env (eval c env);pure (ForInStep.yield ok) else pure (ForInStep.yield r)) (fun ok s₃ =>
    if ok=true then wpAny (model prog w) A (eval elt env) (fun x s₄ =>
     wpAny (model prog w) A (call (.builtin "list.append") [acc,x]) (fun _ s₅ => ∃ m,m<n/\I m s₅) NB s₄) NB s₃
    else ∃ m,m<n/\I m s₃) NB s₂) NB s₁') NB s₁) NB s)
 (n:Nat) (h:I n s):
 codeAny (model prog w) A (.compLoop (.ListComp elt [⟨target,iter,ifs,0⟩] scope pos) 0 it acc env) R s:=by
 refine codeAny_loop rfl I (fun n s hI=>?_) n h
 refine wpAny_noted ?_
 rw[compTurn_list]
 refine aN (wpAny_standAt (aN (bB (turn n s hI) (fun r s₁ h₁=>?_) hNB)))
 cases r with
 | none=>exact aY h₁
 | some v=>
  refine aN (bB h₁ (fun _ s₁' h₁'=>?_) hNB)
  refine aN (bB h₁' (fun _ s₂ h₂ => aN (bB h₂ (fun ok s₃ h₃ => ?_) hNB)) hNB)
  cases ok with
  | false=>exact aY ⟨rfl,h₃⟩
  | true=>
   exact aN (aN (bB h₃ (fun x s₄ h₄ => aN (bB h₄ (fun _ s₅ h₅ => aY (aY ⟨rfl,h₅⟩)) hNB)) hNB))
end
noncomputable def Qbs(scope outer:Scope):Scope:=
 { scope with names:=scope.names.map fun(n,k)=>if (k == .free&&outer.kind == .function&&outer.names.lookup n == some .cell) then(n,.cell) else(n,k) }
theorem QgT(c:Str->NameKind->Bool)(x:Str):∀ names:List (Str×NameKind),(names.map fun(n,k)=>if c n k=true then(n,NameKind.cell) else(n,k)).lookup x=(names.lookup x).map fun k=>if c x k=true then NameKind.cell else k
 | []=>rfl
 | (n,k)::r=>by
  have ih:=QgT c x r
  show List.lookup x ((if c n k=true then(n,NameKind.cell) else(n,k))::_)=_
  by_cases hx:x=n
  ·subst hx
   by_cases hc:c x k=true
   ·rw[aA hc,bY,bY];simp[hc]
   ·rw[aD hc,bY,bY];simp[hc]
  ·have hb:(x == n)=false:=by simpa using hx
   by_cases hc:c n k=true
   ·rw[aA hc,aJ,aJ,hb];exact ih
   ·rw[aD hc,aJ,aJ,hb];exact ih
theorem QfZ(scope outer:Scope)(x:Str):(Qbs scope outer).names.lookup x=(scope.names.lookup x).map fun k=>if (k == .free&&outer.kind == .function&&outer.names.lookup x == some .cell)=true then NameKind.cell else k:=
 QgT (fun n k=>k == .free&&outer.kind == .function&&outer.names.lookup n == some .cell) x scope.names
theorem Qm2(h:scope.names.lookup x=some .free):(Qbs scope outer).names.lookup x=some .cell∨(Qbs scope outer).names.lookup x=some .free:=by
 rw[QfZ,h]
 show some (if _ then _ else _)=_∨some (if _ then _ else _)=_
 split
 ·exact .inl rfl
 ·exact .inr rfl
theorem Qnc(h:(Qbs scope outer).names.lookup x=some .cell∨(Qbs scope outer).names.lookup x=some .free):scope.names.lookup x=some .cell∨scope.names.lookup x=some .free:=by
 rw[QfZ]at h
 cases e:scope.names.lookup x with
 | none=>rw[e]at h;rcases h with h | h<;>cases h
 | some k=>
  rw[e]at h
  cases k with
  | free=>exact .inr rfl
  | cell=>exact .inl rfl
  | _=>rcases h with h | h<;>cases h
noncomputable def QaD(env:Env):List (Str×NameKind)->List (Str×Addr)->List (Str×Addr)
 | [],acc=>acc
 | (n,k)::r,acc=>if (k == .free)=true then QaD env r ((n,(env.cells.lookup n).getD 0)::acc) else QaD env r acc
theorem Qkz(h:∀ y∈scope.names,y.2=.free->(env.cells.lookup y.1).isSome=true):closureFor scope env=pure (QaD env scope.names []):=by
 have go:∀ names acc,(∀ y∈names,y.2=.free->(env.cells.lookup y.1).isSome=true)->
  (forIn names acc fun x r=>if (x.2 == NameKind.free)=true then(cellOf env x.1>>=fun a=>pure (ForInStep.yield ((x.1,a)::r))) else pure (ForInStep.yield r):Sem (List (Str×Addr)))=pure (QaD env names acc):=by
  intro names
  induction names with
  | nil=>intro acc _;rfl
  | cons y r ih=>
   intro acc hy
   obtain⟨n,k⟩:=y
   rw[List.forIn_cons]
   unfold QaD
   by_cases hk:(k == NameKind.free)=true
   ·obtain⟨c,hc⟩:=bH.mp (hy (n,k) aL (bc.mp hk))
    have e:cellOf env n=pure c:=by unfold cellOf;rw[hc]
    simp only[hk,cQ,e]
    rw[show(env.cells.lookup n).getD 0=c from by rw[hc];rfl]
    exact ih _ fun y hm=>hy y (aE _ hm)
   ·simp only[hk]
    exact ih _ fun y hm=>hy y (aE _ hm)
 have e:=go scope.names [] h
 unfold closureFor
 exact bg (fun m=>m>>=fun s=>(pure s)) e
theorem QeP:∀{names:List (Str×NameKind)}{acc:List (Str×Addr)},p∈QaD env names acc->p∈acc∨p.2=(env.cells.lookup p.1).getD 0/\∃ y∈names,y.1=p.1/\y.2=.free
 | [],_,h=>.inl h
 | (n,k)::r,acc,h=>by
  unfold QaD at h
  split at h
  ·rename_i hk
   rcases QeP h with h | ⟨h,y,hy,e⟩
   ·rcases aF.mp h with h | h
    ·subst h;exact .inr ⟨rfl,(n,k),aL,rfl,bc.mp hk⟩
    ·exact .inl h
   ·exact .inr ⟨h,y,aE _ hy,e⟩
  ·rcases QeP h with h | ⟨h,y,hy,e⟩
   ·exact .inl h
   ·exact .inr ⟨h,y,aE _ hy,e⟩
theorem QeW:∀{names:List (Str×NameKind)}{acc:List (Str×Addr)},(acc.lookup x).isSome=true∨(∃ y∈names,y.1=x/\y.2=.free)->((QaD env names acc).lookup x).isSome=true
 | [],_,h=>h.elim id fun⟨_,hy,_⟩=>nomatch hy
 | (n,k)::r,acc,h=>by
  unfold QaD
  split
  ·rename_i hk
   refine QeW ?_
   rcases h with h | ⟨y,hy,e1,e2⟩
   ·refine .inl ?_
    rw[aJ]
    split
    ·rfl
    ·exact h
   ·rcases aF.mp hy with rfl | hy
    ·refine .inl ?_
     have e1:=e1
     subst e1
     rw[bY];rfl
    ·exact .inr ⟨y,hy,e1,e2⟩
  ·rename_i hk
   refine QeW ?_
   rcases h with h | ⟨y,hy,e1,e2⟩
   ·exact .inl h
   ·rcases aF.mp hy with rfl | hy
    ·have e2:=e2
     subst e2
     exact absurd rfl hk
    ·exact .inr ⟨y,hy,e1,e2⟩
theorem QaM{α:Type}{l:List (Str×α)}{c:α}(h:l.lookup x=some c):(x,c)∈l:=bR h
theorem Qks:∀{names:List (Str×NameKind)}{n:Nat}{acc:List (Str×Addr)},p∈cellsFrom n names acc->p∈acc∨n<=p.2
 | [],_,_,h=>.inl h
 | (y,k)::r,n,acc,h=>by
  unfold cellsFrom at h
  split at h
  ·rcases Qks h with h | h
   ·rcases aF.mp h with h | h
    ·subst h;exact .inr (aP _)
    ·exact .inl h
   ·exact .inr (cT h)
  ·exact Qks h
theorem QnJ:∀{names:List (Str×NameKind)}{n:Nat}{acc:List (Str×Addr)},(∀ p∈acc,p.2<n)->(∀ p∈acc,∀ q∈acc,p.2=q.2->p.1=q.1)->∀ p∈cellsFrom n names acc,∀ q∈cellsFrom n names acc,p.2=q.2->p.1=q.1
 | [],_,_,_,h=>h
 | (y,k)::r,n,acc,hl,hi=>by
  unfold cellsFrom
  split
  ·refine QnJ (fun p hp=>?_) fun p hp q hq e=>?_
   ·rcases aF.mp hp with rfl | hp
    ·exact cW _
    ·exact c8 (hl p hp)
   ·rcases aF.mp hp with rfl | hp<;>rcases aF.mp hq with rfl | hq
    ·rfl
    ·exact absurd e (cL (hl q hq))
    ·exact absurd e (af (hl p hp))
    ·exact hi p hp q hq e
  ·exact QnJ hl hi
theorem Qlu:∀{names:List (Str×NameKind)}{h:Heap}{acc:List (Str×Addr)},(∀ p∈acc,∃ v,h.IsCell p.2 v)->∀ p∈cellsFrom h.objs.size names acc,∃ v,(pushCells h names).IsCell p.2 v
 | [],_,_,h=>h
 | (y,k)::r,h,acc,hc=>by
  unfold cellsFrom pushCells
  split
  ·have:=Qlu (names:=r) (h:=h.push { cls:=.type "cell",data:=.cell none }) (acc:=(y,h.objs.size)::acc) fun p hp=>by
    rcases aF.mp hp with rfl | hp
    ·exact⟨none,_,ag _ rfl,rfl⟩
    ·obtain⟨v,q⟩:=hc p hp
     exact⟨v,q.keeps fun b o e=>aK _ e⟩
   rwa [bf]at this
  ·exact Qlu hc
theorem Qlg:∀{names:List (Str×NameKind)}{n:Nat}{acc:List (Str×Addr)},(∀ y∈names,y.1=x->y.2=.free)->(cellsFrom n names acc).lookup x=acc.lookup x
 | [],_,_,_=>rfl
 | (y,k)::r,n,acc,h=>by
  unfold cellsFrom
  split
  ·rename_i hk
   rw[Qlg fun z hz=>h z (aE _ hz),aJ]
   split
   ·rename_i hb
    have hx:=bc.mp hb
    have:=h (y,k) aL hx.symm
    have this:=this
    subst this
    exact absurd hk (by decide)
   ·rfl
  ·exact Qlg fun z hz=>h z (aE _ hz)
def QnT(scope:Scope)(cl:List (Str×Addr))(L:Addr)(env:Env):Env:=
 { scope:=Qbs scope env.scope,locals:=L,globals:=env.globals,cells:=cellsFrom (L+1) scope.names cl,qual:=env.qual,func:=none,code:=env.code,frame:=env.frame,builtins:=env.builtins }
theorem Qwi
 (h:∀ c,{ c with scope:=relabel scope env }=QnT scope cl s.heap.objs.size env->c.locals=s.heap.objs.size->Q c { s with heap:=pushCells (s.heap.push { cls:=.type "dict",data:=.dict #[] }) scope.names }):
 wpAny M A (newFunctionEnv scope env.globals cl [] env.qual none .none (some env)) Q E s:=by
 simp only[newFunctionEnv,Option.isSome_some,cQ]
 refine aN (wpAny_alloc ?_)
 refine aN (wpAny_layCells _ (fun name kind cells=>by cases hkc:kind == NameKind.cell<;>simp[hkc]) _ _ _ _ ?_)
 rw[bf ..]
 refine aN (aY (aY (h _ ?_ rfl)))
 rfl
noncomputable def capt(js:List (Option Nat))(σ:St):St:=js.map fun j=>j.bind fun j=>(σ[j]?).join
structure Qz(N':List Str)(js:List (Option Nat))(scope outer:Scope)(N:List Str):Prop where
 kind:scope.kind=.function
 uniq:∀ y∈scope.names,scope.names.lookup y.1=some y.2
 nd:N'.Nodup
 len:js.length=N'.length
 free:∀ y∈scope.names,y.2=.free->outer.names.lookup y.1=some .cell∨outer.names.lookup y.1=some .free
 cap:((N'.zip js).all fun p=>match p.2 with
  | none=>true
  | some j=>decide (N[j]?=some p.1)&&decide (scope.names.lookup p.1=some .free))=true
theorem Qz.capOf(S:Qz N' js scope outer N){i j:Nat}(h1:N'[i]?=some x)(h2:js[i]?=some (some j)):
 N[j]?=some x/\scope.names.lookup x=some .free/\∀ y∈scope.names,y.1=x->y.2=.free:=by
 have h:=bM.mp S.cap (x,some j) (by
  refine cD (i:=i) ?_
  rw[List.getElem?_zip_eq_some]
  exact⟨h1,h2⟩)
 simp only[aH,c9]at h
 exact⟨h.1,h.2,fun y hy e=>by
  have:=S.uniq y hy
  rw[e,h.2]at this
  exact(ai this).symm⟩
theorem Qz.names(S:Qz N' js scope outer N):∀ y∈scope.names,y.2=.local->scope.names.lookup y.1=some .local:=fun y hy e=>by
 rw[S.uniq y hy,e]
def cxC(X:Cx)(N':List Str)(scope:Scope)(fp:List Addr)(s:Shared)(H:Hp):Cx:=
 { X with N:=N',s₀:=s,H₀:=H,env:=QnT scope (QaD X.env scope.names []) s.heap.objs.size X.env,outer:=X.stack,ex:=fp,
          fn:=fun x=>match scope.names.lookup x with | some .cell=>true | _=>false,pn:=[],xe:=fun _ _=>False }
theorem Qus{X:Cx}{N':List Str}{js:List (Option Nat)}(S:Qz N' js scope X.env.scope X.N)(I:Inv X pins σ H s)(hf:∀ b∈fp,FpOk X pins H b)
 (hlt:∀ b∈fp,b<s.heap.objs.size):
 Inv (cxC X N' scope fp s H) [] (capt js σ) H { s with heap:=pushCells (s.heap.push { cls:=.type "dict",data:=.dict #[] }) scope.names }:=by
 have hk:∀ b o,s.heap.get? b=some o->(pushCells (s.heap.push { cls:=.type "dict",data:=.dict #[] }) scope.names).get? b=some o:=fun b o e=>pushCells_keeps _ _ b o (aK _ e)
 have sz:(s.heap.push { cls:=.type "dict",data:=.dict #[] }).objs.size=s.heap.objs.size+1:=bf ..
 have out:∀ x,(∃ y∈scope.names,y.1=x/\y.2=.free)->∃ c,X.env.cells.lookup x=some c:=fun x z0z=>by
  obtain⟨y,hy,e1,e2⟩:=z0z
  subst e1
  exact I.ok.has y.1 (S.free y hy e2)
 have clm:∀ p∈QaD X.env scope.names [],X.env.cells.lookup p.1=some p.2:=fun p hp=>by
  rcases QeP hp with h | ⟨h,hy⟩
  ·cases h
  ·obtain⟨c,hc⟩:=out p.1 hy
   rw[hc]at h ⊢
   rw[h];rfl
 have cllt:∀ p∈QaD X.env scope.names [],p.2<s.heap.objs.size:=fun p hp=>by
  obtain⟨v,q⟩:=I.cell p.1 p.2 (clm p hp)
  exact q.lt
 have cin:∀ x c,(cellsFrom (s.heap.objs.size+1) scope.names (QaD X.env scope.names [])).lookup x=some c->X.env.cells.lookup x=some c∨s.heap.objs.size+1<=c:=fun x c e=>by
  rcases Qks (QaM e) with h | h
  ·exact .inl (clm _ h)
  ·exact .inr h
 have capL:∀ x,scope.names.lookup x=some .free->(∀ y∈scope.names,y.1=x->y.2=.free)->(cellsFrom (s.heap.objs.size+1) scope.names (QaD X.env scope.names [])).lookup x=X.env.cells.lookup x:=fun x hx hy=>by
  rw[Qlg hy]
  have hs:=QeW (env:=X.env) (acc:=[]) (.inr ⟨_,QaM hx,rfl,rfl⟩)
  obtain⟨c,hc⟩:=bH.mp hs
  rw[hc,clm _ (QaM hc)]
 refine⟨⟨I.ok.mod,S.kind,I.ok.glob,I.ok.blt,aP _,fun x y c h1 h2=>?_,fun x hx=>?_,fun x c hx h=>?_,I.ok.hd,I.ok.frames,.inl rfl,fun b hb=>?_,I.bs,aq I.ok.bsz I.sz,fun b o e hb=>?_,fun b hb hz=>?_,I.stack,I.stkFree⟩,
  rfl,I.bare,Un.kept hk,?_,fun x c h=>?_,I.hok.fresh (aP _),fun x c h=>?_,fun p hp=>absurd (show p∈([]:List (Addr×Obj)) from hp) (by simp),I.hok.kept hk,?_⟩
 ·refine QnJ (fun p hp=>c8 (cllt p hp)) (fun p hp q hq e=>?_) (x,c) (QaM h1) (y,c) (QaM h2) rfl
  have a:=clm p hp
  have b:=clm q hq
  rw[← e]at b
  exact I.ok.inj _ _ _ a b
 ·have hx':=Qnc (hx)
  refine bH.mp (PySem.W.cellsFrom_some scope.names _ _ ?_)
  rcases hx' with h | h
  ·exact .inl h
  ·exact .inr (QeW (.inr ⟨_,QaM h,rfl,rfl⟩))
 ·rcases Qks (QaM h) with hm | hm
  ·-- an own cell's name is captured too: its first entry is the own one
   have hx':scope.names.lookup x=some .cell:=by
    have hx2:(match scope.names.lookup x with | some .cell=>true | _=>false)=true:=hx
    split at hx2
    ·assumption
    ·cases hx2
   rcases QeP hm with q | ⟨_,y,hy,e1,e2⟩
   ·cases q
   ·have:=S.uniq y hy
    have e1:=e1
    rw[e1,hx',e2]at this
    cases this
  ·exact cT hm
 ·refine⟨af (hlt b hb),fun x c h e=>?_⟩
  rcases cin x c h with q | q
  ·exact(hf b hb).2.2.2.2.1 x c q e
  ·have:=hlt b hb
   rw[← e]at this
   exact absurd (aa this (cT q)) (bG _)
 ·rcases(hf b hb).2.2.2.1 with z | z
  ·exact I.ok.noex b o e z
  ·exact absurd (aa (aO (I.ok.bs b o e).1) z) (bG _)
 ·rcases aF.mp (I.stkSub b hz) with e | e
  ·exact(hf b hb).2.1 e
  ·exact(hf b hb).2.2.1 e
 ·obtain⟨m,hn,hl⟩:=I.loc
  refine⟨fun _=>none,(Heap.Ns.new s.heap (.type "dict")).keeps (pushCells_keeps _ _),fun i x v h1 h2 h3=>?_⟩
  have h2':((js[i]?).map fun j=>j.bind fun j=>(σ[j]?).join)=some (some v):=by
   unfold capt at h2
   rw[aM]at h2
   exact h2
  cases e:js[i]? with
  | none=>rw[e]at h2';cases h2'
  | some o=>
   rw[e]at h2'
   cases o with
   | none=>cases h2'
   | some j=>
    have h4:(σ[j]?).join=some v:=ai h2'
    have h5:σ[j]?=some (some v):=by
     cases z:σ[j]? with
     | none=>rw[z]at h4;cases h4
     | some o=>rw[z]at h4;have h4:o=some v:=h4;rw[h4]
    obtain⟨hN,hx,hy⟩:=S.capOf h1 e
    have hvis:=S.free _ (QaM hx) rfl
    obtain⟨u,r,lk⟩:=hl j x v hN h5 (.inr hvis)
    refine⟨u,r,.inr ⟨Qm2 hx,?_⟩⟩
    rcases lk with⟨k,_⟩ | ⟨_,c,hc,z⟩
    ·have k:X.env.scope.names.lookup x=some .local:=k
     rcases hvis with q | q
     ·rw[k]at q;cases q
     ·rw[k]at q;cases q
    ·exact⟨c,(capL x hx hy).trans hc,z.keeps hk⟩
 ·have:=Qlu (names:=scope.names) (h:=s.heap.push { cls:=.type "dict",data:=.dict #[] }) (acc:=QaD X.env scope.names []) (fun p hp=>by
   obtain⟨v,q⟩:=I.cell p.1 p.2 (clm p hp)
   exact⟨v,q.keeps fun b o e=>aK _ e⟩) (x,c) (by rw[sz];exact QaM h)
  exact this
 ·rcases cin x c h with q | q
  ·exact I.freeC x c q
  ·exact I.hok.fresh (cT q)
 ·show(js.map _).length=N'.length
  rw[aC];exact S.len
def eMax(X:Cx)(e:Expr):TE:=fun σ H Q=>∃ t,PE X e t/\t σ H Q
theorem Qn4:PE X e (eMax X e):=fun pins s σ H Q I ⟨t,ht,h⟩=>ht pins s σ H Q I h
def gMax(X:Cx)(e:Expr):TG:=fun v σ H Q=>∃ t,PG X e t/\t v σ H Q
theorem QxK:PG X e (gMax X e):=fun pins s σ H v u Q I r ⟨t,ht,h⟩=>ht pins s σ H v u Q I r h
def PIf(X:Cx)(ifs:List Expr)(tc:TT):Prop:=(ifs=[]/\tc=fun _ H Q=>Q true H)∨∃ c,ifs=[c]/\PT X c tc
theorem Qq8:PIf X [] (fun _ H Q=>Q true H):=.inl ⟨rfl,rfl⟩
theorem PIf.run(h:PIf X ifs tc)(I:Inv X pins σ H s)(q:tc σ H Q):
 wpAny (model X.prog X.w) X.A (forIn ifs true fun c r=>if r=true then do let ok ← isTrue c X.env (eval c X.env);pure (ForInStep.yield ok) else pure (ForInStep.yield r)) (TP X pins σ Q) X.xe s:=by
 rcases h with⟨rfl,rfl⟩ | ⟨c,rfl,h⟩
 ·exact wpAny_tests_nil ⟨H,I,q⟩
 ·exact wpAny_tests_one (h pins s σ H Q I q)
def cMax(X:Cx)(ifs:List Expr):TT:=fun σ H Q=>∃ t,PIf X ifs t/\t σ H Q
def CompW(X':Cx)(js:List (Option Nat))(tg elt:Expr)(ifs:List Expr)(σ:St)(H1:Hp)(J:It)(p:Addr)(Q:VK):Prop:=
 ∃ W:Nat->Nat->St->Hp->Prop,(∃ m,W 0 m (capt js σ) (upd H1 p (.lst [])))/\∀ i m τ H',W i m τ H'->
 (J.stop i H'/\Q (.ref p) H')∨(J.go i H'/\∃ N:St->Hp->Prop,(∀ τ' H'',N τ' H''->∃ m',m'<m/\W (i+1) m' τ' H'')/\∀ x H'',J.yld i H' x H''->gMax X' tg x τ H'' fun τ2 H2=>cMax X' ifs τ2 H2 fun b H3=>
  if b=true then eMax X' elt τ2 H3 fun y H4=>∃ ys,H4 p=some (.lst ys)/\ys.length<sizeLine/\N τ2 (upd H4 p (.lst (ys++[y]))) else N τ2 H3)
def tComp(X:Cx)(N':List Str)(js:List (Option Nat))(scope:Scope)(tg elt:Expr)(ifs:List Expr)(wi:TI):TE:=fun σ H Q=>wi σ H fun J H1=>∀ p,H1 p=none->∀ fp s,
 CompW (cxC X N' scope fp s (upd H1 p (.lst []))) js tg elt ifs σ H1 J p Q
section
theorem Qkd(hc:X.calm=true)(S:Qz N' js scope X.env.scope X.N)
 (I2:Inv X pins σ H s) (T:Turn X.prog X.w X.K tg J fp it tn) (st:tn 0 s.heap) (hf:∀ b∈fp,FpOk X pins H b)
 (hW:∀ p,H p=none->∀ fp s,CompW (cxC X N' scope fp s (upd H p (.lst []))) js tg elt ifs σ H J p R)
 {RR:Value->Addr->Result->Shared->Prop}
 (hRR:∀(D C:Addr)(s':Shared)(H':Hp),Inv X pins σ H' s'->(∃ m,s'.heap.Ns C m)->H' C=none->C≠X.env.locals->X.s₀.heap.objs.size<=C->(∀ x c,X.env.cells.lookup x=some c->c≠C)->(∀ p∈X.pn++pins,p.1≠C)->R (.ref D) H'->RR (.ref D) C (.ok .next) s'):
 wpAny (model X.prog X.w) X.A (newList []) (fun acc s₃ => wpAny (model X.prog X.w) X.A (newFunctionEnv scope X.env.globals (QaD X.env scope.names []) [] X.env.qual none .none (some X.env)) (fun cenv s₄ =>
  codeAny (model X.prog X.w) X.A (.compStart (.ListComp elt [⟨tg,iter,ifs,0⟩] scope pos) 0 (.ref it) acc { cenv with scope:=relabel scope X.env }) (RR acc cenv.locals) s₄) E s₃) E s:=by
 refine wpAny_newObj_type ?_
 have hfresh:=I2.hok.fresh (aP _)
 have I3:=I2.lnew (t':=s.toks) .nil (av _)
 generalize hs3:({ s with heap:=s.heap.push { cls:=.type "list",data:=.seq ([]).toArray } }:Shared)=s3 at I3 ⊢
 have hsz3:s3.heap.objs.size=s.heap.objs.size+1:=by rw[← hs3];exact bf ..
 have hk3:∀ b o,s.heap.get? b=some o->s3.heap.get? b=some o:=fun b o e=>by rw[← hs3];exact aK _ e
 have flt:∀ b∈fp,b<s.heap.objs.size:=fun b hb=>by
  obtain⟨o,e,_⟩:=T.obj _ _ st b hb
  exact aO e
 have hf3:∀ b∈fp,FpOk X pins (upd H s.heap.objs.size (.lst [])) b:=fun b hb=>⟨by rw[Qi (af (flt b hb))];exact(hf b hb).1,(hf b hb).2⟩
 have st3:=T.keep _ _ _ st fun b _ o e=>hk3 b o e
 refine Qwi fun cenv ecenv el=>?_
 rw[ecenv,el]
 have I4:=Qus S I3 hf3 fun b hb=>by rw[hsz3];exact c8 (flt b hb)
 obtain⟨W,⟨m0,w0⟩,turn⟩:=hW _ hfresh fp s3
 generalize hX':cxC X N' scope fp s3 (upd H s.heap.objs.size (.lst []))=X' at I4 turn
 generalize hs4:({ s3 with heap:=pushCells (s3.heap.push { cls:=.type "dict",data:=.dict #[] }) scope.names }:Shared)=s4 at I4 ⊢
 have eenv:QnT scope (QaD X.env scope.names []) s3.heap.objs.size X.env=X'.env:=by rw[← hX'];rfl
 have eprog:X'.prog=X.prog:=by rw[← hX'];rfl
 have ew:X'.w=X.w:=by rw[← hX'];rfl
 have eK:X'.K=X.K:=by rw[← hX'];rfl
 have eA:X'.A=X.A:=by rw[← hX'];rfl
 have ecalm:X'.calm=true:=by rw[← hX'];exact hc
 have exe:∀ e s',X'.xe e s'->False:=fun e s' h=>by rw[← hX']at h;exact h
 have eex:X'.ex=fp:=by rw[← hX'];rfl
 have efs:X'.fs=frs X.stack:=by rw[← hX'];rfl
 have epn:X'.pn=[]:=by rw[← hX'];rfl
 have es0:X'.s₀=s3:=by rw[← hX'];rfl
 have eH0:X'.H₀=upd H s.heap.objs.size (.lst []):=by rw[← hX'];rfl
 have eloc:X'.env.locals=s3.heap.objs.size:=by rw[← eenv];rfl
 rw[eenv]
 have st4:tn 0 s4.heap:=T.keep _ _ _ st3 fun b _ o e=>by rw[← hs4];exact pushCells_keeps _ _ b o (aK _ e)
 have fpok:∀{H':Hp},(∀ b∈fp,H' b=none)->∀ b∈fp,FpOk X' [] H' b:=fun {H'} hn b hb=>by
  obtain⟨h1,h2⟩:=I4.ok.exf b (by rw[eex];exact hb)
  exact⟨hn b hb,h1,fun z=>I4.ok.exfs b (by rw[eex];exact hb) z,.inl (by rw[eex];exact hb),h2,fun p hp=>by rw[epn]at hp;cases hp⟩
 have loop:∀ s5,s5=s4->codeAny (model X.prog X.w) X.A (.compLoop (.ListComp elt [⟨tg,iter,ifs,0⟩] scope pos) 0 (.ref it) (.ref s.heap.objs.size) X'.env) (RR (.ref s.heap.objs.size) s3.heap.objs.size) s5:=by
  rintro s5 rfl
  refine Qn0 (fun n s'=>∃ i τ H',Inv X' [] τ H' s'/\tn i s'.heap/\(∀ b∈fp,H' b=none)/\W i n τ H') (fun _ _=>False) (fun _ _ h=>h.elim) ?_ m0 ⟨0,_,_,I4,st4,fun b hb=>(hf3 b hb).1,w0⟩
  rintro n s6 ⟨i,τ,H6,I6,st6,fr6,w6⟩
  have A1:∀{α:Type}{t:Sem α}{Q:α->Shared->Prop}{s:Shared},wpAny (model X'.prog X'.w) X'.A t Q X'.xe s->wpAny (model X.prog X.w) X.A t Q (fun _ _=>False) s:=fun {α t Q s} h=>by
   rw[eprog,ew,eA]at h
   exact bB h (fun _ _ q=>q) exe
  rcases turn i n τ H6 w6 with⟨stop,qn⟩ | ⟨go,N,hN,step⟩
  ·have h7:=T.done X' eprog ew eK ecalm i [] s6 τ H6 (fun _ _=>False) I6 (fpok fr6) st6 stop
   rw[eA]at h7
   refine thn h7 fun r s7 ⟨hr,I7⟩=>?_
   subst hr
   have un:=I7.base
   rw[es0,eH0,efs,eex]at un
   have Iout:=I3.call' (by rw[I7.os,es0]) un (by have:=I7.hok;rw[eprog,ew]at this;exact this) I7.bare fun b hb=>by
    obtain⟨f0,f1,f2,f3,f4,f5⟩:=hf3 b hb
    exact⟨f3,f1,f4,f5⟩
   refine hRR _ _ s7 H6 Iout ?_ ?_ ?_ ?_ ?_ ?_ qn
   ·obtain⟨m,hn,_⟩:=I7.loc
    rw[eloc]at hn
    exact⟨m,hn⟩
   ·have:=I7.free
    rw[eloc]at this
    exact this
   ·exact cL I3.lt
   ·exact I3.sz
   ·intro x c e z
    obtain⟨v,q⟩:=I3.cell x c e
    exact absurd q.lt (by rw[z];exact bG _)
   ·intro p hp z
    exact absurd (aO (I3.pin p hp).1) (by rw[z];exact bG _)
  ·have h6:=T.item X' eprog ew eK ecalm i [] s6 τ H6 (fun _ _=>False) I6 (fpok fr6) st6 go
   rw[eA]at h6
   refine thn h6 fun r s7 ⟨u,hr,h7⟩=>?_
   subst hr
   refine thn h7 fun _ s8 z0z=>?_
   obtain⟨x,H8,I8,r8,y8,st8,fr8⟩:=z0z
   have I8':=I8.pinned (fpok fr8) (T.obj _ _ st8)
   refine thn (A1 (QxK _ s8 τ H8 x u _ I8' r8 (step x H8 y8))) fun _ s9 z0z=>?_
   obtain⟨τ9,H9,I9,q9⟩:=z0z
   obtain⟨tcc,hif,q9⟩:=q9
   refine thn (A1 (hif.run I9 q9)) fun ok s10 ⟨H10,I10,q10⟩=>?_
   have again:∀{τ':St}{H':Hp}{s':Shared},Inv X' ([]++QhX fp s8.heap) τ' H' s'->N τ' H'->∃ m,m<n/\∃ i τ H',Inv X' [] τ H' s'/\tn i s'.heap/\(∀ b∈fp,H' b=none)/\W i m τ H':=fun {τ' H' s'} I' n'=>by
    obtain⟨m',hm,w'⟩:=hN τ' H' n'
    refine⟨m',hm,i+1,τ',H',I'.unpinned,T.keep _ _ _ st8 fun b hb o e=>(I'.pin (b,o) (aZ _ (aZ _ (QeU hb e)))).1,fun b hb=>?_,w'⟩
    obtain⟨o,e,d⟩:=T.obj _ _ st8 b hb
    exact(I'.pin (b,o) (aZ _ (aZ _ (QeU hb e)))).2.1
   cases ok with
   | false=>
    rw[aD b8]at q10 ⊢
    exact again I10 q10
   | true=>
    rw[aA rfl]at q10 ⊢
    refine thn (A1 (Qn4 _ s10 τ9 H10 _ I10 q10)) fun y s11 z0z=>?_
    obtain⟨yv,H11,I11,r11,ys,hp11,hz,n11⟩:=z0z
    refine thn (A1 (Qfx _ s11 τ9 H11 (.ref s.heap.objs.size) [yv] (.ref s.heap.objs.size) [y] (fun _ H'=>N τ9 H') I11 rfl (.cons r11 .nil) ⟨_,ys,yv,rfl,rfl,hp11,hz,n11⟩)) fun _ s12 z0z=>?_
    obtain⟨v12,H12,I12,_,n12⟩:=z0z
    exact again I12 n12
 exact codeAny_compStart_list (loop _ rfl) (T.self _ 0 _ _ _ st4 (loop _ rfl))
theorem Qwc(hc:X.calm=true)(S:Qz N' js scope X.env.scope X.N)(hi:PI X tg iter wi)
 (hs:∀ x,foldedSetIterable iter X.env x=pure x:=by fail"V3"):PE X (.ListComp elt [⟨tg,iter,ifs,0⟩] scope pos) (tComp X N' js scope tg elt ifs wi):=by
 intro pins s σ H Q I h
 rw[eval_ListComp]
 have hcl:=Qkz fun y hy e=>by
  obtain⟨c,hc⟩:=I.ok.has y.1 (S.free y hy e)
  rw[hc];rfl
 refine wpAny_comprehension_free rfl hs hcl S.kind S.names (thn (hi pins s σ H _ I h) fun v s1 h1=>thn h1 fun itv s2 h2=>?_)
 obtain⟨it,fp,tn,J,H2,e,I2,T,st2,f2,hW⟩:=h2
 subst e
 refine Qkd hc S I2 T st2 f2 hW ?_
 rintro D C s' H' I' ⟨m,hn⟩ hC h1 h2 h3 h4 q
 refine⟨m,hn,fun h' hsb=>⟨.ref D,H',?_,rfl,q⟩⟩
 exact I'.turned (fun b o hb e=>(hsb.2 b hb).trans e) hC (bV (bV h1)) (.inr h2) h3 h4
theorem Qlx(hc:X.calm=true)(S:Qz N' js scope X.env.scope X.N)(hi:PI X tg iter wi)
 (hN:X.N.Nodup) (hx:X.N[i]?=some x) (hl:Loc X.env.scope x)
 (hsw:swapsWith (.ListComp elt [⟨tg,iter,ifs,0⟩] scope pos) (some (.Name x px)) spos.line X.env=pure true)
 (hf:X.fn x=true∨X.env.scope.names.lookup x=some .local:=by fail"V2")
 (hs:∀ x,foldedSetIterable iter X.env x=pure x:=by fail"V3"):PS X (.Assign [.Name x px] (.ListComp elt [⟨tg,iter,ifs,0⟩] scope pos) spos) (tAsg (tComp X N' js scope tg elt ifs wi) (gName i)):=by
 intro pins s σ H D I h
 rw[exec_Assign_Name_used _ _ _ _ hsw]
 refine aN (wpAny_standAt (aN ?_))
 have hcl:=Qkz fun y hy e=>by
  obtain⟨c,hc⟩:=I.ok.has y.1 (S.free y hy e)
  rw[hc];rfl
 refine aN (bB (wpAny_comprehension_free rfl hs hcl S.kind S.names
  (thn (hi pins s σ H _ I h) fun v s1 h1=>thn h1 fun itv s2 h2=>?_)) (fun _ s' hq=>aY (aY hq)) fun _ _ e=>e)
 obtain⟨it,fp,tn,J,H2,e,I2,T,st2,f2,hW⟩:=h2
 subst e
 refine Qkd hc S I2 T st2 f2 hW ?_
 rintro DD C s' H' I' ⟨m,hn⟩ hC h1 h2 h3 h4 q
 refine wpAny_assign_Name (Qmb (v:=.ref DD) I' hN hx hl rfl (fun s'' I'' ⟨a,hsb,ha⟩=>?_) hf)
 have hCa:C≠a:=by
  rcases ha with rfl | ha
  ·exact h1
  ·exact bV (h3 x a ha)
 refine⟨m,hn.sameBut hsb hCa,fun h' hsb'=>⟨_,H',?_,q⟩⟩
 exact I''.turned (fun b o hb e=>(hsb'.2 b hb).trans e) hC h1 (.inr h2) h3 h4
end
end L2
namespace DL
open PySem PySem.Spec PyProof.Rows L2
inductive D where
 | non | bl (b:Bool) | int (i:Int) | str (x:Str)
 | lst (xs:List D) | lln (xs:List D) | tup (xs:List D) | dic (kvs:List (Key×D)) | ins (c:Str) (fs:List (Str×D)) | err (c:Str) (fs:List (Str×V):=[])
instance:Inhabited D:=⟨.non⟩
def PayOk(H:Hp)(dx:Option Addr)(fs:List (Str×V)):Prop:=(fs=[]/\dx=none)∨∃ b,dx=some b/\H b=some (.xd fs)
def PayN(H0 H:Hp)(dx:Option Addr)(fs:List (Str×V)):Prop:=(fs=[]/\dx=none)∨∃ b,dx=some b/\H0 b=none/\H b=some (.xd fs)
theorem PayOk.mono{H H':Hp}{dx:Option Addr}{fs:List (Str×V)}(x:PayOk H dx fs)(e:∀ b o,H b=some o->H' b=some o):PayOk H' dx fs:=by
 rcases x with x | ⟨b,x,y⟩
 ·exact .inl x
 ·exact .inr ⟨b,x,e _ _ y⟩
theorem PayN.back{H0 H1 H:Hp}{dx:Option Addr}{fs:List (Str×V)}(x:PayN H1 H dx fs)(e:∀ b,H1 b=none->H0 b=none):PayN H0 H dx fs:=by
 rcases x with x | ⟨b,x,y,z⟩
 ·exact .inl x
 ·exact .inr ⟨b,x,e _ y,z⟩
abbrev CTab:=Str->Option Addr
def SqS(K:PySem.W.Frag)(H:Hp)(a:Addr)(vs:List V):Prop:=H a=some (.lst vs)
theorem SqS.of{K:PySem.W.Frag}{H:Hp}{a:Addr}{vs:List V}(h:H a=some (.lst vs)):SqS K H a vs:=h
theorem SqS.l{K:PySem.W.Frag}{H:Hp}{a:Addr}{vs:List V}(h:SqS K H a vs):SqL K H a vs:=.inl (.inl h)
instance {K:PySem.W.Frag} {H:Hp} {a:Addr} {vs:List V}:Coe (SqS K H a vs) (SqL K H a vs):=⟨SqS.l⟩
section
variable(K:PySem.W.Frag)(CT:CTab)(H:Hp)
mutual
def Rep:D->V->Prop
 | .non,v=>v=.non
 | .bl b,v=>v=.bl b
 | .int i,v=>v=.int i
 | .str x,v=>v=.str x
 | .lst ds,v=>∃ a vs,v=.ref a/\SqS K H a vs/\RepL ds vs
 | .lln ds,v=>∃ a vs,v=.ref a/\SqL K H a vs/\RepL ds vs
 | .tup ds,v=>∃ a vs,v=.ref a/\SqT K H a vs/\RepL ds vs
 | .dic kds,v=>∃ a kvs,v=.ref a/\Rd H a (.dK kvs)/\RepK kds kvs
 | .ins c fds,v=>∃ a C dx fs,v=.ref a/\CT c=some C/\H a=some (.ins C dx fs)/\RepF fds fs
 | .err c fs,v=>∃ a C dx,v=.ref a/\CT c=some C/\H a=some (exO a C dx)/\PayOk H dx fs
def RepL:List D->List V->Prop
 | [],vs=>vs=[]
 | d::ds,vs=>∃ v r,vs=v::r/\Rep d v/\RepL ds r
def RepK:List (Key×D)->List (Key×V)->Prop
 | [],kvs=>kvs=[]
 | (k,d)::ds,kvs=>∃ v r,kvs=(k,v)::r/\Rep d v/\RepK ds r
def RepF:List (Str×D)->List (Str×V)->Prop
 | [],kvs=>kvs=[]
 | (k,d)::ds,kvs=>∃ v r,kvs=(k,v)::r/\Rep d v/\RepF ds r
end
end
section
variable{K:PySem.W.Frag}
theorem Same.sqT(e:Same H H')(h:SqT K H a xs):SqT K H' a xs:=by
 rcases h with(h | ⟨o,h⟩) | h
 ·exact .inl (.inl (e _ _ h))
 ·exact .inl (.inr ⟨o,e _ _ h⟩)
 ·exact .inr h
theorem Same.rd(e:Same H H')(h:Rd H a u):Rd H' a u:=by
 rcases h with h | ⟨o,h⟩
 ·exact .inl (e _ _ h)
 ·exact .inr ⟨o,e _ _ h⟩
mutual
theorem Rep.mono(e:Same H H'):∀(d:D)(v:V),Rep K CT H d v->Rep K CT H' d v
 | .non,_,h=>h
 | .bl _,_,h=>h
 | .int _,_,h=>h
 | .str _,_,h=>h
 | .lst ds,_,⟨a,vs,h1,h2,h3⟩=>⟨a,vs,h1,e _ _ h2,RepL.mono e ds vs h3⟩
 | .lln ds,_,⟨a,vs,h1,h2,h3⟩=>⟨a,vs,h1,e.seq h2,RepL.mono e ds vs h3⟩
 | .tup ds,_,⟨a,vs,h1,h2,h3⟩=>⟨a,vs,h1,Same.sqT e h2,RepL.mono e ds vs h3⟩
 | .dic ds,_,⟨a,vs,h1,h2,h3⟩=>⟨a,vs,h1,Same.rd e h2,RepK.mono e ds vs h3⟩
 | .ins c ds,_,⟨a,C,dx,fs,h1,h2,h3,h4⟩=>⟨a,C,dx,fs,h1,h2,e _ _ h3,RepF.mono e ds fs h4⟩
 | .err c fs,_,⟨a,C,dx,h1,h2,h3,h4⟩=>⟨a,C,dx,h1,h2,e _ _ h3,h4.mono e⟩
theorem RepL.mono(e:Same H H'):∀(ds:List D)(vs:List V),RepL K CT H ds vs->RepL K CT H' ds vs
 | [],_,h=>h
 | d::ds,_,z0z=>by obtain⟨v,r,h1,h2,h3⟩:=z0z;exact⟨v,r,h1,Rep.mono e d v h2,RepL.mono e ds r h3⟩
theorem RepK.mono(e:Same H H'):∀(ds:List (Key×D))(vs:List (Key×V)),RepK K CT H ds vs->RepK K CT H' ds vs
 | [],_,h=>h
 | (k,d)::ds,_,z0z=>by obtain⟨v,r,h1,h2,h3⟩:=z0z;exact⟨v,r,h1,Rep.mono e d v h2,RepK.mono e ds r h3⟩
theorem RepF.mono(e:Same H H'):∀(ds:List (Str×D))(vs:List (Str×V)),RepF K CT H ds vs->RepF K CT H' ds vs
 | [],_,h=>h
 | (k,d)::ds,_,z0z=>by obtain⟨v,r,h1,h2,h3⟩:=z0z;exact⟨v,r,h1,Rep.mono e d v h2,RepF.mono e ds r h3⟩
end
abbrev cg:=@Rep.mono
abbrev cj:=@RepL.mono
theorem RepL.length:∀{ds:List D}{vs:List V},RepL K CT H ds vs->ds.length=vs.length
 | [],_,h=>by cases h;rfl
 | d::ds,_,z0z=>by obtain⟨v,r,h1,h2,h3⟩:=z0z;subst h1;simp[RepL.length h3]
theorem RepL.get:∀{ds:List D}{vs:List V}{i:Nat}{d:D},RepL K CT H ds vs->ds[i]?=some d->∃ v,vs[i]?=some v/\Rep K CT H d v
 | [],_,_,_,_,e=>by simp at e
 | d::ds,_,0,_,z0z,e=>by obtain⟨v,r,h1,h2,h3⟩:=z0z;subst h1;simp at e;subst e;exact⟨v,rfl,h2⟩
 | d::ds,_,i+1,x,z0z,e=>by
  obtain⟨v,r,h1,h2,h3⟩:=z0z
  subst h1
  obtain⟨u,a,b⟩:=RepL.get h3 (by simpa using e)
  exact⟨u,by simpa using a,b⟩
theorem RepL.append:∀{ds es:List D}{vs us:List V},RepL K CT H ds vs->RepL K CT H es us->RepL K CT H (ds++es) (vs++us)
 | [],_,_,_,h,k=>by cases h;exact k
 | d::ds,_,_,_,z0z,k=>by obtain⟨v,r,h1,h2,h3⟩:=z0z;subst h1;exact⟨v,_,rfl,h2,RepL.append h3 k⟩
theorem RepL.take:∀(n:Nat){ds:List D}{vs:List V},RepL K CT H ds vs->RepL K CT H (ds.take n) (vs.take n)
 | 0,_,_,_=>by simp[RepL]
 | n+1,[],_,h=>by cases h;simp[RepL]
 | n+1,d::ds,_,z0z=>by obtain⟨v,r,h1,h2,h3⟩:=z0z;subst h1;exact⟨v,_,rfl,h2,RepL.take n h3⟩
theorem RepL.drop:∀(n:Nat){ds:List D}{vs:List V},RepL K CT H ds vs->RepL K CT H (ds.drop n) (vs.drop n)
 | 0,_,_,h=>h
 | n+1,[],_,h=>by cases h;simp[RepL]
 | n+1,d::ds,_,z0z=>by obtain⟨v,r,h1,h2,h3⟩:=z0z;subst h1;exact RepL.drop n h3
theorem RepL.set(q:Rep K CT H d v):∀(i:Nat){ds:List D}{vs:List V},RepL K CT H ds vs->RepL K CT H (ds.set i d) (vs.set i v)
 | _,[],_,h=>by cases h;simp[RepL]
 | 0,_::ds,_,z0z=>by obtain⟨w,r,h1,h2,h3⟩:=z0z;subst h1;exact⟨v,r,rfl,q,h3⟩
 | i+1,e::ds,_,z0z=>by obtain⟨w,r,h1,h2,h3⟩:=z0z;subst h1;exact⟨w,_,rfl,h2,RepL.set q i h3⟩
theorem RepL.rep(h:RepL K CT H ds vs):∀ k:Nat,RepL K CT H (List.replicate k ds).flatten (List.replicate k vs).flatten
 | 0=>rfl
 | k+1=>by
  rw[bL,bL,bb,bb]
  exact h.append (h.rep k)
theorem RepL.one(h:Rep K CT H d v):RepL K CT H [d] [v]:=⟨v,[],rfl,h,rfl⟩
theorem RepL.map_int:∀(ns:List Int),RepL K CT H (ns.map D.int) (ns.map V.int)
 | []=>rfl
 | n::ns=>⟨_,_,rfl,rfl,RepL.map_int ns⟩
end
inductive Out(α:Type) where
 | ok (a:α) | exc (x:D) | stuck
namespace Out
noncomputable def bind{α β:Type}:Out α->(α->Out β)->Out β
 | .ok a,f=>f a
 | .exc x,_=>.exc x
 | .stuck,_=>.stuck
instance:Monad Out where
 pure:=.ok
 bind:=bind
def post{α:Type}(o:Out α)(k:α->Prop)(x:D->Prop):Prop:=match o with
 | .ok a=>k a
 | .exc e=>x e
 | .stuck=>False
@[simp] theorem bind_ok(a:α)(f:α->Out β):(Out.ok a>>=f)=f a:=rfl
@[simp] theorem bind_exc(x:D)(f:α->Out β):((Out.exc x:Out α)>>=f)=.exc x:=rfl
@[simp] theorem bind_stuck(f:α->Out β):((Out.stuck:Out α)>>=f)=.stuck:=rfl
@[simp] theorem Qyp(a:α)(f:α->Out β):(Out.ok a).bind f=f a:=rfl
@[simp] theorem Qyo(x:D)(f:α->Out β):(Out.exc x:Out α).bind f=.exc x:=rfl
@[simp] theorem Qye(f:α->Out β):(Out.stuck:Out α).bind f=.stuck:=rfl
@[simp] theorem pure_eq(a:α):(pure a:Out α)=.ok a:=rfl
theorem post_bind(o:Out α)(f:α->Out β)(k:β->Prop)(x:D->Prop):(o>>=f).post k x↔o.post (fun a=>(f a).post k x) x:=by
 cases o<;>exact Iff.rfl
theorem post_mono{o:Out α}(h:o.post k x)(hk:∀ a,k a->k' a):o.post k' x:=by
 cases o with
 | ok a=>exact hk a h
 | exc e=>exact h
 | stuck=>exact h
end Out
abbrev d8:=@Out.bind_ok
abbrev d9:=@Out.post_bind
abbrev dA:=@Out.post_mono
end DL
namespace DL
open PySem PySem.Spec PyProof.Rows L2
abbrev St:=L2.St
inductive SM where
 | k | o | l | s
abbrev SD:=List (Option (SM×D))
structure Dc where
 X:Cx
 CT:CTab
 G0:Hp
 XD:D->Prop
 B:Hp
 M:Addr->Prop
 W:Nat->Option Addr:=fun _=>none
 H0:Hp:=X.H₀
abbrev Dc.K(C:Dc):PySem.W.Frag:=C.X.K
def Own(K:PySem.W.Frag)(CT:CTab)(G H:Hp)(p:Addr):D->Prop
 | .lst ds=>∃ vs,H p=some (.lst vs)/\RepL K CT G ds vs
 | .dic ds=>∃ kvs,H p=some (.dK kvs)/\RepK K CT G ds kvs
 | .ins c ds=>∃ A dx fs,CT c=some A/\H p=some (.ins A dx fs)/\RepF K CT G ds fs
 | _=>False
theorem Own.there{K:PySem.W.Frag}{CT:CTab}{G H:Hp}{p:Addr}:∀{d:D},Own K CT G H p d->∃ o,H p=some o
 | .lst _,z0z=>by obtain⟨_,h,_⟩:=z0z;exact⟨_,h⟩
 | .dic _,z0z=>by obtain⟨_,h,_⟩:=z0z;exact⟨_,h⟩
 | .ins _ _,z0z=>by obtain⟨_,_,_,_,h,_⟩:=z0z;exact⟨_,h⟩
 | .non,h=>h.elim
 | .bl _,h=>h.elim
 | .int _,h=>h.elim
 | .str _,h=>h.elim
 | .tup _,h=>h.elim
theorem Own.mono{K:PySem.W.Frag}{CT:CTab}{G G' H H':Hp}{p:Addr}(g:Same G G')(h:∀ o,H p=some o->H' p=some o):∀{d:D},Own K CT G H p d->Own K CT G' H' p d
 | .lst ds,z0z=>by obtain⟨vs,a,b⟩:=z0z;exact⟨vs,h _ a,cj g ds vs b⟩
 | .dic ds,z0z=>by obtain⟨vs,a,b⟩:=z0z;exact⟨vs,h _ a,RepK.mono g ds vs b⟩
 | .ins _ ds,z0z=>by obtain⟨A,dx,fs,e,a,b⟩:=z0z;exact⟨A,dx,fs,e,h _ a,RepF.mono g ds fs b⟩
 | .non,h=>h.elim
 | .bl _,h=>h.elim
 | .int _,h=>h.elim
 | .str _,h=>h.elim
 | .tup _,h=>h.elim
theorem Own.rep{K:PySem.W.Frag}(g:Same G H):∀{d:D},Own K CT G H p d->Rep K CT H d (.ref p)
 | .lst ds,z0z=>by obtain⟨vs,a,b⟩:=z0z;exact⟨p,vs,rfl,SqS.of a,cj g ds vs b⟩
 | .dic ds,z0z=>by obtain⟨vs,a,b⟩:=z0z;exact⟨p,vs,rfl,Rd.of a,RepK.mono g ds vs b⟩
 | .ins _ ds,z0z=>by obtain⟨A,dx,fs,e,a,b⟩:=z0z;exact⟨p,A,dx,fs,rfl,e,a,RepF.mono g ds fs b⟩
 | .non,h=>h.elim
 | .bl _,h=>h.elim
 | .int _,h=>h.elim
 | .str _,h=>h.elim
 | .tup _,h=>h.elim
structure GH(C:Dc)(G H:Hp):Prop where
 sub:Same G H
 g0:Same C.G0 G
 new:∀ b,C.G0 b=none->G b≠none->C.H0 b=none
 fr:∀ b o,C.H0 b=some o->¬ C.M b->H b=some o
 dom:∀ b,H b=none->C.H0 b=none
 bs:Same C.B H
 bh:∀ b,C.H0 b=none->C.B b=none
structure StR(C:Dc)(G H:Hp)(σ:St)(ς:SD):Prop extends GH C G H where
 len:σ.length=ς.length
 fz:∀(i:Nat) d,ς[i]?=some (some (.k,d))->∃ v,σ[i]?=some (some v)/\Rep C.X.K C.CT G d v
 ow:∀(i:Nat) d,ς[i]?=some (some (.o,d))->∃ p,σ[i]?=some (some (.ref p))/\G p=none/\C.H0 p=none/\Own C.X.K C.CT G H p d
 ln:∀(i:Nat) d,ς[i]?=some (some (.l,d))->∃ v,σ[i]?=some (some v)/\Rep C.X.K C.CT C.B d v/\∀ p,C.W i=some p->v=.ref p
 inj:∀(i j:Nat) d e p,i≠j->ς[i]?=some (some (.o,d))->ς[j]?=some (some (.o,e))->σ[i]?=some (some (.ref p))->σ[j]?≠some (some (.ref p))
 sf:∀(i:Nat) d,ς[i]?=some (some (.s,d))->∃ p,σ[i]?=some (some (.ref p))/\G p=none/\C.H0 p≠none/\(C.M p/\C.W i=some p)/\C.B p=none/\Own C.X.K C.CT G H p d
 su:∀(i j:Nat) d e p,i≠j->ς[i]?=some (some (.s,d))->ς[j]?=some (some (.s,e))->σ[i]?=some (some (.ref p))->σ[j]?≠some (some (.ref p))
section
theorem GH.gnone(S:GH C G H)(h:H p=none):G p=none:=S.sub.free h
theorem GH.h0none(S:GH C G H){p:Addr}(h:H p=none):C.H0 p=none:=S.dom p h
theorem Qt(h:H p=none):Same H (upd H p o):=fun b u e=>by
 rw[Qi (QH e h)];exact e
theorem QhI(s:Same G H):Same (upd G p o) (upd H p o):=fun b u e=>by
 by_cases hb:b=p
 ·subst hb;rw[Qq]at e ⊢;exact e
 ·rw[Qi hb]at e ⊢;exact s b u e
theorem GH.grow(S:GH C G H)(hH:Same H H')(hG:Same G G')(hs:Same G' H')(hn:∀ b,G b=none->G' b≠none->H b=none):GH C G' H' where
 sub:=hs
 g0:=S.g0.trans hG
 new:=fun b h0 h1=>by
  cases q:G b with
  | none=>exact S.h0none (hn b q h1)
  | some o=>exact S.new b h0 (by rw[q];simp)
 fr:=fun b o e m=>hH b o (S.fr b o e m)
 dom:=fun b e=>S.dom b (hH.free e)
 bs:=S.bs.trans hH
 bh:=S.bh
theorem StR.own_ne(S:StR C G H σ ς){i:Nat}(h:ς[i]?=some (some (.o,d)))(hp:σ[i]?=some (some (.ref p))):∃ o,H p=some o:=by
 obtain⟨q,e,_,_,o⟩:=S.ow i d h
 rw[hp]at e;cases e
 exact o.there
theorem StR.grow(S:StR C G H σ ς)(hH:Same H H')(hG:Same G G')(hs:Same G' H')(hn:∀ b,G b=none->G' b≠none->H b=none):StR C G' H' σ ς where
 toGH:=S.toGH.grow hH hG hs hn
 len:=S.len
 fz:=fun i d e=>let ⟨v,a,b⟩:=S.fz i d e;⟨v,a,cg hG d v b⟩
 ow:=fun i d e=>by
  obtain⟨p,a,b,c,o⟩:=S.ow i d e
  refine⟨p,a,?_,c,o.mono hG fun u q=>hH _ _ q⟩
  cases q:G' p with
  | none=>rfl
  | some u=>
   obtain⟨w,hw⟩:=o.there
   have:=hn p b (by rw[q];simp)
   rw[hw]at this;cases this
 ln:=S.ln
 inj:=S.inj
 sf:=fun i d e=>by
  obtain⟨p,a,b,c,m,z,o⟩:=S.sf i d e
  refine⟨p,a,?_,c,m,z,o.mono hG fun u q=>hH _ _ q⟩
  cases q:G' p with
  | none=>rfl
  | some u=>
   obtain⟨w,hw⟩:=o.there
   have:=hn p b (by rw[q];simp)
   rw[hw]at this;cases this
 su:=S.su
theorem StR.alloc(S:StR C G H σ ς)(h:H p=none):StR C (upd G p o) (upd H p o) σ ς:=
 S.grow (Qt h) (Qt (S.sub.free h)) (QhI S.sub) fun b g n=>by
  by_cases hb:b=p
  ·subst hb;exact h
  ·rw[Qi hb,g]at n;exact absurd rfl n
theorem StR.allocO(S:StR C G H σ ς)(h:H p=none):StR C G (upd H p o) σ ς:=
 S.grow (Qt h) (cf G) (S.sub.trans (Qt h)) fun b g n=>absurd g n
end
def KD(C:Dc)(G H:Hp)(σ:St)(ς:SD)(Q:VK)(d:D):Prop:=∀ v H' G',StR C G' H' σ ς->Same H H'->Same G G'->Rep C.X.K C.CT G' d v->Q v H'
def KB(C:Dc)(G H:Hp)(σ:St)(ς:SD)(Q:VK)(d:D):Prop:=∀ v H' G',StR C G' H' σ ς->Same H H'->Same G G'->Rep C.X.K C.CT H' d v->Q v H'
def KF(C:Dc)(G H:Hp)(σ:St)(ς:SD)(Q:VK)(d:D):Prop:=∀ p H' G',StR C G' H' σ ς->Same H H'->Same G G'->H p=none->G' p=none->Own C.X.K C.CT G' H' p d->Q (.ref p) H'
def DE(C:Dc)(e:Expr)(E:SD->Out D):Prop:=∃ t,PE C.X e t/\∀ G H σ ς Q,StR C G H σ ς->(E ς).post (KD C G H σ ς Q) C.XD->t σ H Q
def DB(C:Dc)(e:Expr)(E:SD->Out D):Prop:=∃ t,PE C.X e t/\∀ G H σ ς Q,StR C G H σ ς->(E ς).post (KB C G H σ ς Q) C.XD->t σ H Q
def DF(C:Dc)(e:Expr)(E:SD->Out D):Prop:=∃ t,PE C.X e t/\∀ G H σ ς Q,StR C G H σ ς->(E ς).post (KF C G H σ ς Q) C.XD->t σ H Q
def KT(C:Dc)(G H:Hp)(σ:St)(ς:SD)(Q:Bool->Hp->Prop)(b:Bool):Prop:=∀ H' G',StR C G' H' σ ς->Same H H'->Same G G'->Q b H'
def DT(C:Dc)(e:Expr)(T:SD->Out Bool):Prop:=∃ t,PT C.X e t/\∀ G H σ ς Q,StR C G H σ ς->(T ς).post (KT C G H σ ς Q) C.XD->t σ H Q
def DW(C:Dc)(e:Expr)(T:SD->Out Bool):Prop:=∃ t,PW C.X e t/\∀ G H σ ς Q,StR C G H σ ς->(T ς).post (KT C G H σ ς Q) C.XD->t σ H Q
def DA(C:Dc)(es:List Expr)(A:SD->Out (List D)):Prop:=∃ t,PA C.X es t/\∀ G H σ ς Q,StR C G H σ ς->
 (A ς).post (fun ds=>∀ vs H' G',StR C G' H' σ ς->Same H H'->Same G G'->RepL C.X.K C.CT G' ds vs->Q vs H') C.XD->t σ H Q
def DAB(C:Dc)(es:List Expr)(A:SD->Out (List D)):Prop:=∃ t,PA C.X es t/\∀ G H σ ς Q,StR C G H σ ς->
 (A ς).post (fun ds=>∀ vs H' G',StR C G' H' σ ς->Same H H'->Same G G'->RepL C.X.K C.CT H' ds vs->Q vs H') C.XD->t σ H Q
inductive Fl where
 | nx (ς:SD) | rt (fr:Bool) (d:D) | bk (ς:SD) | ct (ς:SD)
def RetR(K:PySem.W.Frag)(CT:CTab)(fr:Bool)(H0 G' H':Hp)(d:D)(v:V):Prop:=
 if fr=true then ∃ p,v=.ref p/\H0 p=none/\G' p=none/\Own K CT G' H' p d else Rep K CT G' d v
def FlK(C:Dc)(G:Hp)(W:Ends):Fl->Prop
 | .nx ς'=>∀ σ' H' G',StR C G' H' σ' ς'->Same G G'->W.nx σ' H'
 | .bk ς'=>∀ σ' H' G',StR C G' H' σ' ς'->Same G G'->W.bk σ' H'
 | .ct ς'=>∀ σ' H' G',StR C G' H' σ' ς'->Same G G'->W.ct σ' H'
 | .rt fr d=>∀ v H' G',GH C G' H'->Same G G'->RetR C.X.K C.CT fr C.H0 G' H' d v->W.rt v H'
def DS(C:Dc)(st:Stmt)(T:SD->Out Fl):Prop:=∃ t,PS C.X st t/\∀ G H σ ς W,StR C G H σ ς->(T ς).post (FlK C G W) C.XD->t W σ H
def DSs(C:Dc)(st:List Stmt)(T:SD->Out Fl):Prop:=∃ t,PSs C.X st t/\∀ G H σ ς W,StR C G H σ ς->(T ς).post (FlK C G W) C.XD->t W σ H
section
theorem StR.freeze(S:StR C G H σ ς)(hp:H p=some o)(hg:G p=none)(h0:C.H0 p=none)(hn:∀(i:Nat) d,ς[i]?=some (some (.o,d))->σ[i]?≠some (some (.ref p))):StR C (upd G p o) H σ ς where
 sub:=fun b u q=>by
  by_cases hb:b=p
  ·subst hb;rw[Qq]at q;cases q;exact hp
  ·rw[Qi hb]at q;exact S.sub b u q
 g0:=S.g0.trans (Qt hg)
 new:=fun b h1 h2=>by
  by_cases hb:b=p
  ·subst hb;exact h0
  ·rw[Qi hb]at h2;exact S.new b h1 h2
 fr:=S.fr
 dom:=S.dom
 bs:=S.bs
 bh:=S.bh
 len:=S.len
 fz:=fun i d q=>let ⟨v,a,b⟩:=S.fz i d q;⟨v,a,cg (Qt hg) d v b⟩
 ow:=fun i d q=>by
  obtain⟨r,a,b,c,w⟩:=S.ow i d q
  refine⟨r,a,?_,c,w.mono (Qt hg) fun _ z=>z⟩
  rw[Qi (by rintro rfl;exact hn i d q a)];exact b
 ln:=S.ln
 inj:=S.inj
 sf:=fun i d q=>by
  obtain⟨r,a,b,c,m,z,w⟩:=S.sf i d q
  refine⟨r,a,?_,c,m,z,w.mono (Qt hg) fun _ z=>z⟩
  rw[Qi (by rintro rfl;exact c h0)];exact b
 su:=S.su
theorem Own.known{K:PySem.W.Frag}(hg:G p=none)(hp:H p=some o):∀{d:D},Own K CT G H p d->Rep K CT (upd G p o) d (.ref p)
 | .lst ds,z0z=>by obtain⟨vs,a,b⟩:=z0z;rw[hp]at a;cases a;exact⟨p,vs,rfl,SqS.of Qq,cj (Qt hg) ds vs b⟩
 | .dic ds,z0z=>by obtain⟨vs,a,b⟩:=z0z;rw[hp]at a;cases a;exact⟨p,vs,rfl,Rd.of Qq,RepK.mono (Qt hg) ds vs b⟩
 | .ins _ ds,z0z=>by obtain⟨A,dx,fs,e,a,b⟩:=z0z;rw[hp]at a;cases a;exact⟨p,A,dx,fs,rfl,e,Qq,RepF.mono (Qt hg) ds fs b⟩
 | .non,h=>h.elim
 | .bl _,h=>h.elim
 | .int _,h=>h.elim
 | .str _,h=>h.elim
 | .tup _,h=>h.elim
theorem StR.new_ne(S:StR C G H σ ς)(h:H p=none):∀(i:Nat) d,ς[i]?=some (some (.o,d))->σ[i]?≠some (some (.ref p)):=fun i d q z=>by
 obtain⟨o,w⟩:=S.own_ne q z
 rw[h]at w;cases w
theorem KD.ofF(S:StR C G H σ ς)(k:KD C G H σ ς Q d):KF C G H σ ς Q d:=fun p H' G' S' hH hG hp hg ow=>by
 obtain⟨o,ho⟩:=ow.there
 exact k _ _ _ (S'.freeze ho hg (S.h0none hp) (S.new_ne hp)) hH (hG.trans (Qt hg)) (ow.known hg ho)
theorem DF.de(h:DF C e E):DE C e E:=by
 obtain⟨t,h1,h2⟩:=h
 refine⟨t,h1,fun G H σ ς Q S q=>h2 G H σ ς Q S (dA q fun d k=>KD.ofF S k)⟩
abbrev cm:=@DF.de
theorem DE.db(h:DE C e E):DB C e E:=by
 obtain⟨t,h1,h2⟩:=h
 refine⟨t,h1,fun G H σ ς Q S q=>h2 G H σ ς Q S (dA q fun d k v H' G' S' a b r=>k v H' G' S' a b (cg S'.sub d v r))⟩
abbrev cn:=@DE.db
noncomputable def D.scal:D->Bool
 | .non=>true
 | .bl _=>true
 | .int _=>true
 | .str _=>true
 | _=>false
theorem Rep.scal{K:PySem.W.Frag}:∀{d:D}{v:V},d.scal=true->Rep K CT H d v->Rep K CT G d v
 | .non,_,_,h=>h
 | .bl _,_,_,h=>h
 | .int _,_,_,h=>h
 | .str _,_,_,h=>h
def Qh7(o:Out D):Out D:=o>>=fun d=>if d.scal=true then .ok d else .stuck
theorem DB.de(h:DB C e E):DE C e (fun ς=>Qh7 (E ς)):=by
 obtain⟨t,h1,h2⟩:=h
 refine⟨t,h1,fun G H σ ς Q S q=>h2 G H σ ς Q S ?_⟩
 unfold Qh7 at q
 rw[d9]at q
 refine dA q fun d k v H' G' S' a b r=>?_
 by_cases hs:d.scal=true
 ·rw[aA hs]at k
  exact k v H' G' S' a b (r.scal hs)
 ·rw[aD hs]at k
  exact k.elim
theorem KD.now(k:KD C G H σ ς Q d)(S:StR C G H σ ς)(r:Rep C.X.K C.CT G d v):Q v H:=k v H G S (cf H) (cf G) r
abbrev cp:=@KD.now
theorem KB.now(k:KB C G H σ ς Q d)(S:StR C G H σ ς)(r:Rep C.X.K C.CT H d v):Q v H:=k v H G S (cf H) (cf G) r
theorem KT.now(k:KT C G H σ ς Q b)(S:StR C G H σ ς):Q b H:=k H G S (cf H) (cf G)
theorem KD.later(k:KD C G H σ ς Q d)(hH:Same H H1)(hG:Same G G1):KD C G1 H1 σ ς Q d:=fun v H' G' S a b r=>k v H' G' S (hH.trans a) (hG.trans b) r
abbrev cq:=@KD.later
theorem KT.later(k:KT C G H σ ς Q d)(hH:Same H H1)(hG:Same G G1):KT C G1 H1 σ ς Q d:=fun H' G' S a b=>k H' G' S (hH.trans a) (hG.trans b)
theorem KF.later(k:KF C G H σ ς Q d)(hH:Same H H1)(hG:Same G G1):KF C G1 H1 σ ς Q d:=fun p H' G' S a b hp hg ow=>k p H' G' S (hH.trans a) (hG.trans b) (hH.free hp) hg ow
abbrev cu:=@KF.later
theorem KF.lst(k:KF C G H σ ς Q (.lst ds))(S:StR C G H σ ς)(r:RepL C.X.K C.CT G ds vs):∀ p,H p=none->Q (.ref p) (upd H p (.lst vs)):=fun p hp=>
 k p _ G (S.allocO hp) (Qt hp) (cf G) hp (S.gnone hp) ⟨vs,Qq,r⟩
theorem KD.lst(k:KD C G H σ ς Q (.lst ds))(S:StR C G H σ ς)(r:RepL C.X.K C.CT G ds vs):∀ p,H p=none->Q (.ref p) (upd H p (.lst vs)):=fun p hp=>
 k _ _ _ (S.alloc hp) (Qt hp) (Qt (S.gnone hp)) ⟨p,vs,rfl,SqS.of Qq,cj (Qt (S.gnone hp)) ds vs r⟩
theorem KD.tup(k:KD C G H σ ς Q (.tup ds))(S:StR C G H σ ς)(r:RepL C.X.K C.CT G ds vs):∀ p,H p=none->Q (.ref p) (upd H p (.tup vs)):=fun p hp=>
 k _ _ _ (S.alloc hp) (Qt hp) (Qt (S.gnone hp)) ⟨p,vs,rfl,SqT.of Qq,cj (Qt (S.gnone hp)) ds vs r⟩
end
end DL
namespace DL
open PySem PySem.Spec PyProof.Rows L2
noncomputable def eVar(i:Nat):SD->Out D:=fun ς=>match ς[i]? with | some (some (.k,d))=>.ok d | _=>.stuck
noncomputable def eVarB(i:Nat):SD->Out D:=fun ς=>match ς[i]? with | some (some (_,d))=>.ok d | _=>.stuck
noncomputable def eC(d:D):SD->Out D:=fun _=>.ok d
section
theorem Qjg(h:(eVar i ς).post k x):∃ d,ς[i]?=some (some (.k,d))/\k d:=by
 unfold eVar at h
 split at h
 ·rename_i d e;exact⟨d,e,h⟩
 ·exact h.elim
theorem QtM(h:(eVarB i ς).post k x):∃ b d,ς[i]?=some (some (b,d))/\k d:=by
 unfold eVarB at h
 split at h
 ·rename_i b d e;exact⟨b,d,e,h⟩
 ·exact h.elim
theorem Qa(i:Nat)(hN:C.X.N[i]?=some x:=by rfl)(hv:Vis C.X.env.scope x:=by fail"V1")
 (hd:(x == ("__debug__":Str))=false:=by decide) (hcd:(x == ("__classdict__":Str))=false:=by decide):DE C (.Name x pos) (eVar i):=by
 refine⟨_,Qar hN hv hd hcd,fun G H σ ς Q S q=>?_⟩
 obtain⟨d,e,k⟩:=Qjg q
 obtain⟨v,a,b⟩:=S.fz i d e
 exact⟨v,a,k.now S b⟩
theorem QxI(i:Nat)(hN:C.X.N[i]?=some x:=by rfl)(hv:Vis C.X.env.scope x:=by fail"V1")
 (hd:(x == ("__debug__":Str))=false:=by decide) (hcd:(x == ("__classdict__":Str))=false:=by decide):DB C (.Name x pos) (eVarB i):=by
 refine⟨_,Qar hN hv hd hcd,fun G H σ ς Q S q=>?_⟩
 obtain⟨b,d,e,k⟩:=QtM q
 cases b with
 | k=>
  obtain⟨v,a,b⟩:=S.fz i d e
  exact⟨v,a,k.now S (cg S.sub d v b)⟩
 | o=>
  obtain⟨p,a,b,c,w⟩:=S.ow i d e
  exact⟨_,a,k.now S (w.rep S.sub)⟩
 | l=>
  obtain⟨v,a,b,_⟩:=S.ln i d e
  exact⟨v,a,k.now S (cg S.bs d v b)⟩
 | s=>
  obtain⟨p,a,b,c,m,z,w⟩:=S.sf i d e
  exact⟨_,a,k.now S (w.rep S.sub)⟩
theorem Qe:DE C (.Constant (.int i) j pos) (eC (.int i)):=⟨_,QsA,fun G H σ ς Q S q=>cp q S rfl⟩
theorem de_bl:DE C (.Constant (.bool b) j pos) (eC (.bl b)):=⟨_,pe_bl,fun G H σ ς Q S q=>cp q S rfl⟩
theorem QwX:DE C (.Constant .none j pos) (eC .non):=⟨_,QtL,fun G H σ ς Q S q=>cp q S rfl⟩
theorem QW:DE C (.Constant (.str x) j pos) (eC (.str x)):=⟨_,Qt1,fun G H σ ς Q S q=>cp q S rfl⟩
noncomputable def toV:D->V
 | .bl b=>.bl b
 | .int i=>.int i
 | .str x=>.str x
 | _=>.non
theorem QkJ{K:PySem.W.Frag}:∀{d:D},d.scal=true->Rep K CT H d (toV d)
 | .non,_=>rfl
 | .bl _,_=>rfl
 | .int _,_=>rfl
 | .str _,_=>rfl
theorem QbE(hg:Gl C.X x)(hm:C.X.mg x=some u)(hs:d.scal=true)(r:RelV (toV d) u)(hd:(x == ("__debug__":Str))=false:=by decide):DE C (.Name x pos) (eC d):=
 ⟨_,Qg0 hg hm r hd,fun G H σ ς Q S q=>cp q S (QkJ hs)⟩
end
def e1(f:D->Out D)(a:SD->Out D):SD->Out D:=fun ς=>a ς>>=f
def e2(f:D->D->Out D)(a b:SD->Out D):SD->Out D:=fun ς=>a ς>>=fun x=>b ς>>=fun y=>f x y
def DRS(C:Dc)(r:R2)(f:D->D->Out D):Prop:=∀ G H σ ς (Q:VK) x y vx vy,StR C G H σ ς->Rep C.X.K C.CT H x vx->Rep C.X.K C.CT H y vy->
 (f x y).post (fun d=>d.scal=true/\Q (toV d) H) (fun _=>False)->r vx vy H Q
def scal2(f:D->D->Out D):Prop:=∀ x y,match f x y with | .ok d=>d.scal=true | .exc _=>False | .stuck=>True
section
theorem Qfk{o:Out D}(S:StR C G H σ ς)(hs:match o with | .ok d=>d.scal=true | .exc _=>False | .stuck=>True)(q:o.post (KD C G H σ ς Q) C.XD):
 o.post (fun d=>d.scal=true/\Q (toV d) H) (fun _=>False):=by
 cases o with
 | ok d=>exact⟨hs,cp q S (QkJ hs)⟩
 | exc _=>exact hs
 | stuck=>exact q
theorem dop{t:TE}(hr:DRS C r f)(hs:scal2 f)
 (h1:∀ G H σ ς Q,StR C G H σ ς->(A ς).post (KB C G H σ ς Q) C.XD->ta σ H Q) (h2:∀ G H σ ς Q,StR C G H σ ς->(B ς).post (KB C G H σ ς Q) C.XD->tb σ H Q):
 ∀ G H σ ς Q,StR C G H σ ς->(e2 f A B ς).post (KD C G H σ ς Q) C.XD->tOp r ta tb σ H Q:=by
 intro G H σ ς Q S q
 unfold e2 at q
 rw[d9]at q
 refine h1 G H σ ς _ S (dA q fun x k v1 H1 G1 S1 a1 b1 r1=>?_)
 rw[d9]at k
 refine h2 G1 H1 σ ς _ S1 (dA k fun y k2 v2 H2 G2 S2 a2 b2 r2=>?_)
 refine hr G2 H2 σ ς _ x y v1 v2 S2 (cg a2 x v1 r1) r2 (Qfk S2 (hs x y) ?_)
 exact dA k2 fun d kd=>cq kd (a1.trans a2) (b1.trans b2)
theorem de_op{op:Operator}(ho:OpR C.X (binaryOp op) r)(hr:DRS C r f)(hs:scal2 f)(ha:DB C a A)(hb:DB C b B):DE C (.BinOp a op b pos) (e2 f A B):=by
 obtain⟨ta,p1,q1⟩:=ha
 obtain⟨tb,p2,q2⟩:=hb
 exact⟨_,pe_op ho p1 p2,dop (t:=ta) hr hs q1 q2⟩
theorem QkD{op:CmpOp}(ho:OpR C.X (compareOp op) r)(hr:DRS C r f)(hs:scal2 f)(ha:DB C a A)(hb:DB C b B)(hm:behindInMarks op b=false):DE C (.Compare a [op] [b] pos) (e2 f A B):=by
 obtain⟨ta,p1,q1⟩:=ha
 obtain⟨tb,p2,q2⟩:=hb
 exact⟨_,Qwt ho p1 p2 hm,dop (t:=ta) hr hs q1 q2⟩
def tVal(a:SD->Out D):SD->Out Bool:=fun ς=>a ς>>=fun d=>match d with | .bl b=>.ok b | _=>.stuck
theorem QhH{o:Out D}(q:(o>>=fun d=>match d with | .bl b=>Out.ok b | _=>.stuck).post (KT C G H σ ς Q) C.XD):
 o.post (KD C G H σ ς fun x H'=>∃ k,x=.bl k/\Q k H') C.XD:=by
 rw[d9]at q
 refine dA q fun d k v H' G' S' a b r=>?_
 cases d with
 | bl c=>exact⟨c,r,k H' G' S' a b⟩
 | _=>exact k.elim
theorem Qkv{op:CmpOp}(ho:OpR C.X (compareOp op) r)(hr:DRS C r f)(hs:scal2 f)(ha:DB C a A)(hb:DB C b B)(hm:behindInMarks op b=false):DT C (.Compare a [op] [b] pos) (tVal (e2 f A B)):=by
 obtain⟨ta,p1,q1⟩:=ha
 obtain⟨tb,p2,q2⟩:=hb
 exact⟨_,Qwr ho p1 p2 hm,fun G H σ ς Q S q=>dop (t:=ta) hr hs q1 q2 G H σ ς _ S (QhH q)⟩
theorem QR(h:DE C a A)(he:∀ whole,isTrue a C.X.env whole=(do let v ← whole;standAt a.pos;holding [v] (truthy v)):=by fail"V3"):DT C a (tVal A):=by
 obtain⟨ta,p1,q1⟩:=h
 exact⟨_,Qxc p1 he,fun G H σ ς Q S q=>q1 G H σ ς _ S (QhH q)⟩
def Qa6(f g:D->D->Out D)(a b c:SD->Out D):SD->Out D:=fun ς=>a ς>>=fun x=>b ς>>=fun y=>f x y>>=fun z=>match z with
 | .bl true=>c ς>>=fun w=>g y w
 | .bl false=>.ok (.bl false)
 | _=>.stuck
theorem Qs3{r r':R2}(hr:DRS C r f)(hs:scal2 f)(hr':DRS C r' g)(hs':scal2 g)
 (h1:∀ G H σ ς Q,StR C G H σ ς->(A ς).post (KB C G H σ ς Q) C.XD->ta σ H Q) (h2:∀ G H σ ς Q,StR C G H σ ς->(B ς).post (KB C G H σ ς Q) C.XD->tb σ H Q)
 (h3:∀ G H σ ς Q,StR C G H σ ς->(A' ς).post (KB C G H σ ς Q) C.XD->tc σ H Q):
 ∀ G H σ ς Q,StR C G H σ ς->(Qa6 f g A B A' ς).post (KD C G H σ ς Q) C.XD->QnB r r' ta tb tc σ H Q:=by
 intro G H σ ς Q S q
 unfold Qa6 at q
 rw[d9]at q
 refine h1 G H σ ς _ S (dA q fun x k v1 H1 G1 S1 a1 b1 r1=>?_)
 rw[d9]at k
 refine h2 G1 H1 σ ς _ S1 (dA k fun y k2 v2 H2 G2 S2 a2 b2 r2=>?_)
 rw[d9]at k2
 refine hr G2 H2 σ ς _ x y v1 v2 S2 (cg a2 x v1 r1) r2 ?_
 have hxy:=hs x y
 cases e:f x y with
 | exc _=>rw[e]at hxy;exact hxy
 | stuck=>rw[e]at k2;exact k2.elim
 | ok z=>
  rw[e]at k2
  refine⟨by rw[e]at hxy;exact hxy,?_⟩
  cases z with
  | bl cc=>
   refine⟨cc,rfl,?_⟩
   cases cc with
   | false=>exact iteF (cp (cq (k2) (a1.trans a2) (b1.trans b2)) S2 rfl)
   | true=>
    refine iteT (h3 G2 H2 σ ς _ S2 ?_)
    have k2':(A' ς>>=fun w=>g y w).post (KD C G H σ ς Q) C.XD:=k2
    rw[d9]at k2'
    refine dA k2' fun w k3 v3 H3 G3 S3 a3 b3 r3=>?_
    refine hr' G3 H3 σ ς _ y w v2 v3 S3 (cg a3 y v2 r2) r3 (Qfk S3 (hs' y w) ?_)
    exact dA k3 fun d kd=>cq kd ((a1.trans a2).trans a3) ((b1.trans b2).trans b3)
  | _=>exact k2.elim
theorem QnF(ho:OpR C.X (compareOp op) r)(hr:DRS C r f)(hs:scal2 f)(ho':OpR C.X (compareOp op') r')(hr':DRS C r' g)(hs':scal2 g)
 (ha:DB C a A) (hb:DB C b B) (hc:DB C c A') (hm:lastMarks [op,op'] [b,c]=false:=by with_unfolding_all rfl):DE C (.Compare a [op,op'] [b,c] pos) (Qa6 f g A B A'):=by
 obtain⟨ta,p1,q1⟩:=ha
 obtain⟨tb,p2,q2⟩:=hb
 obtain⟨tc,p3,q3⟩:=hc
 exact⟨_,QuH ho ho' p1 p2 p3 hm,Qs3 hr hs hr' hs' q1 q2 q3⟩
theorem Qoa{op op':CmpOp}(ho:OpR C.X (compareOp op) r)(hr:DRS C r f)(hs:scal2 f)(ho':OpR C.X (compareOp op') r')(hr':DRS C r' g)(hs':scal2 g)
 (ha:DB C a A) (hb:DB C b B) (hc:DB C c A') (hm:lastMarks [op,op'] [b,c]=false:=by with_unfolding_all rfl):DT C (.Compare a [op,op'] [b,c] pos) (tVal (Qa6 f g A B A')):=by
 obtain⟨ta,p1,q1⟩:=ha
 obtain⟨tb,p2,q2⟩:=hb
 obtain⟨tc,p3,q3⟩:=hc
 exact⟨_,QuC ho ho' p1 p2 p3 hm,fun G H σ ς Q S q=>Qs3 hr hs hr' hs' q1 q2 q3 G H σ ς _ S (QhH q)⟩
end
section
noncomputable def dI(cnd:Int->Int->Bool)(g:Int->Int->D):D->D->Out D
 | .int i,.int j=>if cnd i j=true then .ok (g i j) else .stuck
 | _,_=>.stuck
noncomputable def dI0(g:Int->Int->D):D->D->Out D
 | .int i,.int j=>.ok (g i j)
 | _,_=>.stuck
theorem QF[Decidable c]{a b:Out α}(h:(if c then a else b).post k x):(c/\a.post k x)∨(¬ c/\b.post k x):=by
 by_cases e:c
 ·rw[aA e]at h;exact .inl ⟨e,h⟩
 ·rw[aD e]at h;exact .inr ⟨e,h⟩
theorem QdF[Decidable c](h:d.scal=true):match (if c then Out.ok d else Out.stuck:Out D) with | .ok d=>d.scal=true | .exc _=>False | .stuck=>True:=by
 by_cases e:c
 ·rw[aA e];exact h
 ·rw[aD e];exact True.intro
theorem QkM(h:∀ i j,(g i j).scal=true):scal2 (dI cnd g):=by
 intro x y
 cases x with
 | int i=>
  cases y with
  | int j=>exact QdF (h i j)
  | _=>exact True.intro
 | _=>exact True.intro
theorem QaJ(h:∀ i j,(g i j).scal=true):scal2 (dI0 g):=by
 intro x y
 cases x<;>cases y<;>simp[dI0,h]
theorem Qnq{P:Int->Int->Prop}(hP:∀ i j,cnd i j=true->P i j):DRS C (rI P fun i j=>toV (g i j)) (dI cnd g):=by
 intro G H σ ς Q x y vx vy S hx hy q
 cases x with
 | int i=>
  cases y with
  | int j=>
   cases hx;cases hy
   refine⟨i,j,rfl,rfl,?_⟩
   rcases QF (q) with⟨hc,q⟩ | ⟨hc,q⟩
   ·exact⟨hP i j hc,q.2⟩
   ·exact q.elim
  | _=>exact q.elim
 | _=>exact q.elim
theorem Qa1:DRS C (rI0 fun i j=>toV (g i j)) (dI0 g):=by
 intro G H σ ς Q x y vx vy S hx hy q
 cases x with
 | int i=>
  cases y with
  | int j=>
   cases hx;cases hy
   exact⟨i,j,rfl,rfl,q.2⟩
  | _=>exact q.elim
 | _=>exact q.elim
def dSub:D->D->Out D:=dI0 fun i j=>.int (i - j)
noncomputable def big(i:Int):Bool:=decide (i.natAbs<2 ^ 9000)
def dMul:D->D->Out D:=dI (fun i j=>decide (Builtin.Int.intBits i+Builtin.Int.intBits j<=134217728)) fun i j=>.int (i * j)
def dFdiv:D->D->Out D:=dI (fun i j=>decide (j≠0)&&big j) fun i j=>.int (i.fdiv j)
def dMod:D->D->Out D:=dI (fun i j=>decide (j≠0)) fun i j=>.int (i.fmod j)
theorem QuS(h:big i=true):i.natAbs.log2<9000:=by
 have h':=aI h
 by_cases z:i.natAbs=0
 ·rw[z];decide
 ·exact(Nat.log2_lt z).mpr h'
theorem QwD:OpR X (binaryOp .Mult) (rI IntMulOk fun i j=>.int (i * j)):=opI fun _ _ _ _ _ _ _ hc q=>mul_int q hc
def CDivB(i j:Int):Prop:=j≠0/\j.natAbs.log2<9000
theorem QuD:OpR X (binaryOp .FloorDiv) (rI CDivB fun i j=>.int (i.fdiv j)):=opI fun _ _ _ _ _ _ _ hc q=>floordiv_int hc.1 q (.inl (PyProof.noPylong_of_log2 hc.2))
theorem QgO(ha:DB C a A)(hb:DB C b B):DE C (.BinOp a .Sub b pos) (e2 dSub A B):=de_op Qw3 Qa1 (QaJ fun _ _=>rfl) ha hb
theorem QbN(ha:DB C a A)(hb:DB C b B):DE C (.BinOp a .Mult b pos) (e2 dMul A B):=de_op QwD (Qnq fun i j h=>IntMulOk.of_le (aP _) (aP _) (aI h)) (QkM fun _ _=>rfl) ha hb
theorem QbB(ha:DB C a A)(hb:DB C b B):DE C (.BinOp a .FloorDiv b pos) (e2 dFdiv A B):=de_op QuD (Qnq fun i j h=>by
 rw[aH]at h
 exact⟨aI h.1,QuS h.2⟩) (QkM fun _ _=>rfl) ha hb
theorem QV(ha:DB C a A)(hb:DB C b B):DE C (.BinOp a .Mod b pos) (e2 dMod A B):=de_op Qv3 (Qnq fun i j h=>aI h) (QkM fun _ _=>rfl) ha hb
noncomputable def dAdd:D->D->Out D
 | .int i,.int j=>.ok (.int (i+j))
 | .str x,.str y=>if x.length+y.length<=sizeLine then .ok (.str (x++y)) else .stuck
 | _,_=>.stuck
theorem QQ(ha:DB C a A)(hb:DB C b B):DE C (.BinOp a .Add b pos) (e2 dAdd A B):=by
 refine de_op (Qxs.or QrM) ?_ ?_ ha hb
 ·intro G H σ ς Q x y vx vy S hx hy q
  cases x with
  | int i=>
   cases y with
   | int j=>
    cases hx;cases hy
    exact .inl ⟨i,j,rfl,rfl,q.2⟩
   | _=>exact q.elim
  | str i=>
   cases y with
   | str j=>
    cases hx;cases hy
    rcases QF (q) with⟨hc,q⟩ | ⟨hc,q⟩
    ·exact .inr ⟨i,j,rfl,rfl,hc,q.2⟩
    ·exact q.elim
   | _=>exact q.elim
  | _=>exact q.elim
 ·intro x y
  cases x with
  | int i=>
   cases y with
   | int j=>exact rfl
   | _=>exact True.intro
  | str i=>
   cases y with
   | str j=>exact QdF rfl
   | _=>exact True.intro
  | _=>exact True.intro
def dLt:D->D->Out D:=dI0 fun i j=>.bl (decide (i<j))
def dLe:D->D->Out D:=dI0 fun i j=>.bl (decide (i<=j))
def dGt:D->D->Out D:=dI0 fun i j=>.bl (decide (j<i))
def dGe:D->D->Out D:=dI0 fun i j=>.bl (decide (j<=i))
end
section
variable{C:Dc}
noncomputable def dNeg:D->Out D
 | .int i=>.ok (.int (-i))
 | _=>.stuck
theorem QoK(ha:DB C a A):DE C (.UnaryOp .USub a pos) (e1 dNeg A):=by
 obtain⟨ta,p1,q1⟩:=ha
 refine⟨_,pe_un QwS p1,fun G H σ ς Q S q=>?_⟩
 unfold e1 at q
 rw[d9]at q
 refine q1 G H σ ς _ S (dA q fun x k v1 H1 G1 S1 a1 b1 r1=>?_)
 cases x with
 | int i=>cases r1;exact⟨i,rfl,cp (cq k a1 b1) S1 rfl⟩
 | _=>exact k.elim
variable{TA TB:SD->Out Bool}{rest:List Expr}
def tAnd'(a b:SD->Out Bool):SD->Out Bool:=fun ς=>a ς>>=fun c=>if c=true then b ς else .ok false
def tOr'(a b:SD->Out Bool):SD->Out Bool:=fun ς=>a ς>>=fun c=>if c=true then .ok true else b ς
def tNot'(a:SD->Out Bool):SD->Out Bool:=fun ς=>a ς>>=fun c=>.ok (!c)
theorem DW.dt(h:DW C e T):DT C e T:=let ⟨t,p,q⟩:=h;⟨t,p.pt,q⟩
abbrev cv:=@DW.dt
theorem QaY(ha:DT C a TA):DW C (.BoolOp .Or [a] pos) TA:=let ⟨t,p,q⟩:=ha;⟨t,QxU p,q⟩
theorem dw_or(ha:DT C a TA)(hb:DW C (.BoolOp .Or (b::rest) pos) TB):DW C (.BoolOp .Or (a::b::rest) pos) (tOr' TA TB):=by
 obtain⟨t1,p1,q1⟩:=ha
 obtain⟨t2,p2,q2⟩:=hb
 refine⟨_,pw_or p1 p2,fun G H σ ς Q S q=>?_⟩
 unfold tOr' at q
 rw[d9]at q
 refine q1 G H σ ς _ S (dA q fun x k H1 G1 S1 a1 b1=>?_)
 cases x with
 | true=>exact iteT (KT.now (KT.later (k) a1 b1) S1)
 | false=>exact iteF (q2 G1 H1 σ ς _ S1 (dA (k) fun x k=>KT.later k a1 b1))
theorem QT(ha:DT C a TA):DT C (.UnaryOp .Not a pos) (tNot' TA):=by
 obtain⟨t1,p1,q1⟩:=ha
 refine⟨_,Qxf p1,fun G H σ ς Q S q=>?_⟩
 unfold tNot' at q
 rw[d9]at q
 exact q1 G H σ ς _ S (dA q fun x k H1 G1 S1 a1 b1=>k H1 G1 S1 a1 b1)
def eAnd(a b:SD->Out D):SD->Out D:=fun ς=>a ς>>=fun d=>match d with | .bl true=>b ς | .bl false=>.ok (.bl false) | _=>.stuck
def eOr(a b:SD->Out D):SD->Out D:=fun ς=>a ς>>=fun d=>match d with | .bl true=>.ok (.bl true) | .bl false=>b ς | _=>.stuck
def eNot(a:SD->Out D):SD->Out D:=fun ς=>a ς>>=fun d=>match d with | .bl c=>.ok (.bl (!c)) | _=>.stuck
theorem Qep(h:DE C a A):DE C (.BoolOp op [a] pos) A:=let ⟨t,p,q⟩:=h;⟨t,QxF p,q⟩
theorem QbS(ha:DE C a A)(hb:DE C (.BoolOp .And (b::rest) pos) B):DE C (.BoolOp .And (a::b::rest) pos) (eAnd A B):=by
 obtain⟨t1,p1,q1⟩:=ha
 obtain⟨t2,p2,q2⟩:=hb
 refine⟨_,QxX p1 p2,fun G H σ ς Q S q=>?_⟩
 unfold eAnd at q
 rw[d9]at q
 refine q1 G H σ ς _ S (dA q fun x k v1 H1 G1 S1 a1 b1 r1=>?_)
 cases x with
 | bl c=>
  refine⟨c,r1,?_⟩
  cases c with
  | true=>exact iteT (q2 G1 H1 σ ς _ S1 (dA (k) fun x k=>cq k a1 b1))
  | false=>exact iteF (cp (cq (k) a1 b1) S1 rfl)
 | _=>exact k.elim
theorem Qti(ha:DE C a A):DE C (.UnaryOp .Not a pos) (eNot A):=by
 obtain⟨t1,p1,q1⟩:=ha
 refine⟨_,QxA p1,fun G H σ ς Q S q=>?_⟩
 unfold eNot at q
 rw[d9]at q
 refine q1 G H σ ς _ S (dA q fun x k v1 H1 G1 S1 a1 b1 r1=>?_)
 cases x with
 | bl c=>exact⟨c,r1,cp (cq (k) a1 b1) S1 rfl⟩
 | _=>exact k.elim
def eIf(t:SD->Out Bool)(a b:SD->Out D):SD->Out D:=fun ς=>t ς>>=fun c=>if c=true then a ς else b ς
theorem de_if(ht:DT C t TA)(ha:DE C a A)(hb:DE C b B):DE C (.IfExp t a b pos) (eIf TA A B):=by
 obtain⟨t0,p0,q0⟩:=ht
 obtain⟨t1,p1,q1⟩:=ha
 obtain⟨t2,p2,q2⟩:=hb
 refine⟨_,Qu8 p0 p1 p2,fun G H σ ς Q S q=>?_⟩
 unfold eIf at q
 rw[d9]at q
 refine q0 G H σ ς _ S (dA q fun x k H1 G1 S1 a1 b1=>?_)
 cases x with
 | true=>exact iteT (q1 G1 H1 σ ς _ S1 (dA (k) fun x k=>cq k a1 b1))
 | false=>exact iteF (q2 G1 H1 σ ς _ S1 (dA (k) fun x k=>cq k a1 b1))
end
end DL
namespace DL
open PySem PySem.Spec PyProof.Rows L2
noncomputable def aNil:SD->Out (List D):=fun _=>.ok []
def aCons(a:SD->Out D)(r:SD->Out (List D)):SD->Out (List D):=fun ς=>a ς>>=fun x=>r ς>>=fun xs=>.ok (x::xs)
section
theorem Qk:DA C [] aNil:=⟨_,QaL,fun G H σ ς Q S q=>q [] H G S (cf H) (cf G) rfl⟩
theorem Qu:DAB C [] aNil:=⟨_,QaL,fun G H σ ς Q S q=>q [] H G S (cf H) (cf G) rfl⟩
theorem Qc(ha:DE C e E)(hr:DA C es A)(hs:starEach (e::es) C.X.env=(false,eval e C.X.env)::starEach es C.X.env:=by rfl):DA C (e::es) (aCons E A):=by
 obtain⟨t1,p1,q1⟩:=ha
 obtain⟨t2,p2,q2⟩:=hr
 refine⟨_,Q0 p1 p2 hs,fun G H σ ς Q S q=>?_⟩
 unfold aCons at q
 rw[d9]at q
 refine q1 G H σ ς _ S (dA q fun x k v1 H1 G1 S1 a1 b1 r1=>?_)
 rw[d9]at k
 refine q2 G1 H1 σ ς _ S1 (dA k fun xs k2 vs H2 G2 S2 a2 b2 r2=>?_)
 exact k2 (v1::vs) H2 G2 S2 (a1.trans a2) (b1.trans b2) ⟨v1,vs,rfl,cg b2 x v1 r1,r2⟩
theorem Qo(ha:DB C e E)(hr:DAB C es A)(hs:starEach (e::es) C.X.env=(false,eval e C.X.env)::starEach es C.X.env:=by rfl):DAB C (e::es) (aCons E A):=by
 obtain⟨t1,p1,q1⟩:=ha
 obtain⟨t2,p2,q2⟩:=hr
 refine⟨_,Q0 p1 p2 hs,fun G H σ ς Q S q=>?_⟩
 unfold aCons at q
 rw[d9]at q
 refine q1 G H σ ς _ S (dA q fun x k v1 H1 G1 S1 a1 b1 r1=>?_)
 rw[d9]at k
 refine q2 G1 H1 σ ς _ S1 (dA k fun xs k2 vs H2 G2 S2 a2 b2 r2=>?_)
 exact k2 (v1::vs) H2 G2 S2 (a1.trans a2) (b1.trans b2) ⟨v1,vs,rfl,cg a2 x v1 r1,r2⟩
noncomputable def fits(n:Nat):Bool:=decide (n<=sizeLine)
def eTup(a:SD->Out (List D)):SD->Out D:=fun ς=>a ς>>=fun xs=>if fits xs.length=true then .ok (.tup xs) else .stuck
def eLst(a:SD->Out (List D)):SD->Out D:=fun ς=>a ς>>=fun xs=>if fits xs.length=true then .ok (.lst xs) else .stuck
theorem Qnw(h:DA C es A):DE C (.Tuple es x1 pos) (eTup A):=by
 obtain⟨t,p,q⟩:=h
 refine⟨_,QnW p,fun G H σ ς Q S k=>?_⟩
 unfold eTup at k
 rw[d9]at k
 refine q G H σ ς _ S (dA k fun xs k2 vs H1 G1 S1 a1 b1 r1=>?_)
 rcases QF k2 with⟨hc,k3⟩ | ⟨_,k3⟩
 ·exact⟨by rw[← r1.length];exact aI hc,KD.tup (cq k3 a1 b1) S1 r1⟩
 ·exact k3.elim
theorem Qav(h:DA C es A):DF C (.List es pos) (eLst A):=by
 obtain⟨t,p,q⟩:=h
 refine⟨_,QoR p,fun G H σ ς Q S k=>?_⟩
 unfold eLst at k
 rw[d9]at k
 refine q G H σ ς _ S (dA k fun xs k2 vs H1 G1 S1 a1 b1 r1=>?_)
 rcases QF k2 with⟨hc,k3⟩ | ⟨_,k3⟩
 ·exact⟨by rw[← r1.length];exact aI hc,KF.lst (cu k3 a1 b1) S1 r1⟩
 ·exact k3.elim
end
theorem QiI{K:PySem.W.Frag}(r:RepL K CT H ds vs)(h:atI ds i=some d):∃ v,atI vs i=some v/\Rep K CT H d v:=by
 unfold atI at h ⊢
 rw[← r.length]
 cases e:ixN ds.length i with
 | none=>rw[e]at h;cases h
 | some j=>
  rw[e]at h
  exact r.get h
noncomputable def optO{α:Type}:Option α->Out α
 | some a=>.ok a
 | none=>.stuck
theorem QcE(h:(optO o).post k x):∃ a,o=some a/\k a:=by
 cases o with
 | none=>exact h.elim
 | some a=>exact⟨a,rfl,h⟩
def dIx:D->D->Out D
 | .lst xs,.int i=>optO (atI xs i)
 | .lln xs,.int i=>optO (atI xs i)
 | .tup xs,.int i=>optO (atI xs i)
 | .str x,.int i=>if fits x.length=true then optO ((atI x.cps.toList i).map fun c=>D.str ⟨#[c]⟩) else .stuck
 | _,_=>.stuck
section
variable{C:Dc}
theorem de_ix(ha:DE C a A)(hb:DB C b B)(hs:Qiz b:=by fail"V4"):DE C (.Subscript a b pos) (e2 dIx A B):=by
 obtain⟨ta,p1,q1⟩:=ha
 obtain⟨tb,p2,q2⟩:=hb
 refine⟨_,pe_ix QoT p1 p2 hs,fun G H σ ς Q S q=>?_⟩
 unfold e2 at q
 rw[d9]at q
 refine q1 G H σ ς _ S (dA q fun x k v1 H1 G1 S1 a1 b1 r1=>?_)
 rw[d9]at k
 refine q2 G1 H1 σ ς _ S1 (dA k fun y k2 v2 H2 G2 S2 a2 b2 r2=>?_)
 have r1':=cg b2 x v1 r1
 cases y with
 | int i=>
  cases r2
  cases x with
  | lst xs=>
   obtain⟨p,vs,rfl,h2,h3⟩:=r1'
   obtain⟨d,e,kd⟩:=QcE k2
   obtain⟨v,e2,r⟩:=QiI h3 e
   exact .inl ⟨p,vs,i,v,rfl,rfl,S2.sub.seq h2,e2,cp (cq kd (a1.trans a2) (b1.trans b2)) S2 r⟩
  | lln xs=>
   obtain⟨p,vs,rfl,h2,h3⟩:=r1'
   obtain⟨d,e,kd⟩:=QcE k2
   obtain⟨v,e2,r⟩:=QiI h3 e
   exact .inl ⟨p,vs,i,v,rfl,rfl,S2.sub.seq h2,e2,cp (cq kd (a1.trans a2) (b1.trans b2)) S2 r⟩
  | tup xs=>
   obtain⟨p,vs,rfl,h2,h3⟩:=r1'
   obtain⟨d,e,kd⟩:=QcE k2
   obtain⟨v,e2,r⟩:=QiI h3 e
   exact .inr (.inl ⟨p,vs,i,v,rfl,rfl,Same.sqT S2.sub h2,e2,cp (cq kd (a1.trans a2) (b1.trans b2)) S2 r⟩)
  | str z=>
   cases r1'
   rcases QF (k2) with⟨hc,q⟩ | ⟨_,q⟩
   ·obtain⟨d,e,kd⟩:=QcE q
    cases e3:atI z.cps.toList i with
    | none=>rw[e3]at e;cases e
    | some c=>
     rw[e3]at e
     cases e
     exact .inr (.inr ⟨z,i,c,rfl,rfl,aI hc,e3,cp (cq kd (a1.trans a2) (b1.trans b2)) S2 rfl⟩)
   ·exact q.elim
  | _=>exact k2.elim
 | _=>cases x<;>exact k2.elim
end
def cutD{α:Type}(xs:List α)(lo hi:Option Int):List α:=(xs.drop (HT.sIx xs.length 0 lo)).take (HT.sIx xs.length xs.length hi - HT.sIx xs.length 0 lo)
theorem Qrf{K:PySem.W.Frag}(lo hi:Option Int)(r:RepL K CT H ds vs):RepL K CT H (cutD ds lo hi) (cutV vs lo hi):=by
 unfold cutD cutV
 rw[r.length]
 exact(r.drop _).take _
noncomputable def oNo:SD->Out (Option Int):=fun _=>.ok none
def oSome(e:SD->Out D):SD->Out (Option Int):=fun ς=>e ς>>=fun d=>match d with | .int i=>.ok (some i) | _=>.stuck
def DO(C:Dc)(e:Option Expr)(T:SD->Out (Option Int)):Prop:=∃ t,PO C.X e t/\∀ G H σ ς Q,StR C G H σ ς->(T ς).post (fun o=>∀ H' G',StR C G' H' σ ς->Same H H'->Same G G'->Q o H') C.XD->t σ H Q
section
variable    {lo hi:Option Expr}
theorem Qiv:DO C none oNo:=⟨_,QvL,fun G H σ ς Q S q=>q H G S (cf H) (cf G)⟩
theorem Qe7(h:DB C a A):DO C (some a) (oSome A):=by
 obtain⟨t,p,q⟩:=h
 refine⟨_,Qwz p,fun G H σ ς Q S k=>?_⟩
 unfold oSome at k
 rw[d9]at k
 refine q G H σ ς _ S (dA k fun x k2 v1 H1 G1 S1 a1 b1 r1=>?_)
 cases x with
 | int i=>cases r1;exact⟨i,rfl,k2 H1 G1 S1 a1 b1⟩
 | _=>exact k2.elim
def eSl(a:SD->Out D)(l u:SD->Out (Option Int)):SD->Out D:=fun ς=>a ς>>=fun x=>l ς>>=fun i=>u ς>>=fun j=>match x with
 | .lst xs=>.ok (.lst (cutD xs i j))
 | .lln xs=>.ok (.lst (cutD xs i j))
 | _=>.stuck
theorem df_sl(ha:DE C a A)(hl:DO C lo L)(hu:DO C hi U):DF C (.Subscript a (.Slice lo hi none p2) pos) (eSl A L U):=by
 obtain⟨ta,p1,q1⟩:=ha
 obtain⟨tl,p3,q3⟩:=hl
 obtain⟨tu,p4,q4⟩:=hu
 refine⟨_,Qot Qvx p1 p3 p4,fun G H σ ς Q S q=>?_⟩
 unfold eSl at q
 rw[d9]at q
 refine q1 G H σ ς _ S (dA q fun x k v1 H1 G1 S1 a1 b1 r1=>?_)
 rw[d9]at k
 refine q3 G1 H1 σ ς _ S1 (dA k fun i k2 H2 G2 S2 a2 b2=>?_)
 rw[d9]at k2
 refine q4 G2 H2 σ ς _ S2 (dA k2 fun j k3 H3 G3 S3 a3 b3=>?_)
 cases x with
 | lst xs=>
  obtain⟨p,vs,rfl,h2,h3⟩:=cg (b2.trans b3) _ v1 r1
  exact⟨p,vs,rfl,S3.sub.seq h2,KF.lst (cu (k3) ((a1.trans a2).trans a3) ((b1.trans b2).trans b3)) S3 (Qrf i j h3)⟩
 | lln xs=>
  obtain⟨p,vs,rfl,h2,h3⟩:=cg (b2.trans b3) _ v1 r1
  exact⟨p,vs,rfl,S3.sub.seq h2,KF.lst (cu (show KF C G H σ ς Q (.lst (cutD xs i j)) from k3) ((a1.trans a2).trans a3) ((b1.trans b2).trans b3)) S3 (Qrf i j h3)⟩
 | _=>exact k3.elim
end
section
variable       {id T:String}
def eA(f:List D->Out D)(a:SD->Out (List D)):SD->Out D:=fun ς=>a ς>>=f
def DCS(C:Dc)(r:List V->Hp->VK->Prop)(f:List D->Out D):Prop:=∀ G H σ ς (Q:VK) xs vs,StR C G H σ ς->RepL C.X.K C.CT H xs vs->
 (f xs).post (fun d=>d.scal=true/\Q (toV d) H) (fun _=>False)->r vs H Q
def scalA(f:List D->Out D):Prop:=∀ xs,match f xs with | .ok d=>d.scal=true | .exc _=>False | .stuck=>True
theorem dcall(hr:DCS C r f)(hs:scalA f)
 (h:∀ G H σ ς Q,StR C G H σ ς->(A ς).post (fun ds=>∀ vs H' G',StR C G' H' σ ς->Same H H'->Same G G'->RepL C.X.K C.CT H' ds vs->Q vs H') C.XD->t σ H Q):
 ∀ G H σ ς Q,StR C G H σ ς->(eA f A ς).post (KD C G H σ ς Q) C.XD->tCB r t σ H Q:=by
 intro G H σ ς Q S q
 unfold eA at q
 rw[d9]at q
 refine h G H σ ς _ S (dA q fun ds k vs H1 G1 S1 a1 b1 r1=>?_)
 exact hr G1 H1 σ ς Q ds vs S1 r1 (Qfk S1 (hs ds) (dA k fun d kd=>cq kd a1 b1))
theorem Qhg(hc:CallR C.X (.builtin id) r)(hr:DCS C r f)(hs:scalA f)(hg:Gl C.X x)(hm:C.X.mg x=none)(hv:bootBuiltins x=some (.builtin id))(ha:DAB C (e::es) A)(hn:x≠"__name__":=by decide)(hdb:(x == ("__debug__":Str))=false:=by decide)
 (he:starEach (e::es) C.X.env=(false,eval e C.X.env)::starEach es C.X.env:=by rfl) (hpl:(backTo pos (starEach es C.X.env)).any (·.1)=false:=by rfl):DE C (.Call (.Name x p) (e::es) [] pos) (eA f A):=by
 obtain⟨t,p1,q1⟩:=ha
 exact⟨_,QjN hc hg hm hv p1 hn hdb he hpl,dcall hr hs q1⟩
theorem Ql8(hc:CallR C.X (.type T) r)(hr:DCS C r f)(hs:scalA f)(hg:Gl C.X x)(hm:C.X.mg x=none)(hv:bootBuiltins x=some (.type T))(ha:DAB C (e::es) A)(hn:x≠"__name__":=by decide)(hdb:(x == ("__debug__":Str))=false:=by decide)
 (he:starEach (e::es) C.X.env=(false,eval e C.X.env)::starEach es C.X.env:=by rfl) (hpl:(backTo pos (starEach es C.X.env)).any (·.1)=false:=by rfl):DE C (.Call (.Name x p) (e::es) [] pos) (eA f A):=by
 obtain⟨t,p1,q1⟩:=ha
 exact⟨_,Qmi hc hg hm hv p1 hn hdb he hpl,dcall hr hs q1⟩
def fLen:List D->Out D
 | [.lst xs]=>.ok (.int xs.length)
 | [.lln xs]=>.ok (.int xs.length)
 | [.tup xs]=>.ok (.int xs.length)
 | [.str x]=>if fits x.length=true then .ok (.int x.length) else .stuck
 | _=>.stuck
theorem QvO:DCS C (fun xs H Q=>(∃ p ys,xs=[.ref p]/\(SqL C.X.K H p ys∨SqT C.X.K H p ys)/\Q (.int ys.length) H)∨∃ z,xs=[.str z]/\z.length<=sizeLine/\Q (.int z.length) H) fLen:=by
 intro G H σ ς Q xs vs S r q
 cases xs with
 | nil=>exact q.elim
 | cons x xr=>
  obtain⟨v,vr,rfl,r1,r2⟩:=r
  cases xr with
  | cons y yr=>cases x<;>exact q.elim
  | nil=>
   cases r2
   cases x with
   | lst ys=>
    obtain⟨p,us,rfl,h2,h3⟩:=r1
    exact .inl ⟨p,us,rfl,.inl h2.l,by rw[← h3.length];exact q.2⟩
   | lln ys=>
    obtain⟨p,us,rfl,h2,h3⟩:=r1
    exact .inl ⟨p,us,rfl,.inl h2,by rw[← h3.length];exact q.2⟩
   | tup ys=>
    obtain⟨p,us,rfl,h2,h3⟩:=r1
    exact .inl ⟨p,us,rfl,.inr h2,by rw[← h3.length];exact q.2⟩
   | str z=>
    cases r1
    rcases QF (q) with⟨hc,q⟩ | ⟨_,q⟩
    ·exact .inr ⟨z,rfl,aI hc,q.2⟩
    ·exact q.elim
   | _=>exact q.elim
theorem QuZ:scalA fLen:=by
 intro xs
 cases xs with
 | nil=>exact True.intro
 | cons x xr=>
  cases xr with
  | cons y yr=>cases x<;>exact True.intro
  | nil=>
   cases x with
   | lst ys=>exact rfl
   | lln ys=>exact rfl
   | tup ys=>exact rfl
   | str z=>exact QdF rfl
   | _=>exact True.intro
theorem QU(hg:Gl C.X "len")(hm:C.X.mg "len"=none)(ha:DAB C (e::es) A)
 (he:starEach (e::es) C.X.env=(false,eval e C.X.env)::starEach es C.X.env:=by rfl) (hpl:(backTo pos (starEach es C.X.env)).any (·.1)=false:=by rfl):DE C (.Call (.Name "len" p) (e::es) [] pos) (eA fLen A):=
 Qhg (Qom.or Qop) QvO QuZ hg hm PySem.boot_len ha (by decide) (by decide) he hpl
noncomputable def f1(g:D->Out D):List D->Out D
 | [x]=>g x
 | _=>.stuck
theorem QiC(h:∀ x,match g x with | .ok d=>d.scal=true | .exc _=>False | .stuck=>True):scalA (f1 g):=by
 intro xs
 match xs with
 | []=>exact True.intro
 | [x]=>exact h x
 | _::_::_=>exact True.intro
noncomputable def dAbs:D->Out D
 | .int i=>.ok (.int (if i<0 then -i else i))
 | _=>.stuck
theorem Qj5(h:∀ G H σ ς (Q:VK) x v,StR C G H σ ς->Rep C.X.K C.CT H x v->(g x).post (fun d=>d.scal=true/\Q (toV d) H) (fun _=>False)->r [v] H Q):DCS C r (f1 g):=by
 intro G H σ ς Q xs vs S r q
 match xs,r with
 | [],_=>exact q.elim
 | [x],⟨v,vr,e1,r1,r2⟩=>cases r2;subst e1;exact h G H σ ς Q x v S r1 q
 | _::_::_,_=>exact q.elim
end
mutual
def D.py:D->PyData
 | .non=>.none
 | .bl b=>.bool b
 | .int i=>.int i
 | .str x=>.str x
 | .lst xs=>.list (D.pys xs)
 | .lln xs=>.list (D.pys xs)
 | .tup xs=>.tuple (D.pys xs)
 | .dic _=>.dict []
 | .ins _ _=>.dict []
 | .err _ _=>.dict []
def D.pys:List D->List PyData
 | []=>[]
 | x::xs=>D.py x::D.pys xs
end
section
mutual
theorem Qfl(I:Inv X pins σ H s):∀(d:D)(v:V)(u:Value),Rep X.K CT H d v->RelV v u->d.py.canLay0=true->∃ as,Reads s.heap u d.py as
 | .non,_,_,h,r,_=>by cases h;cases r;exact⟨_,.none⟩
 | .bl b,_,_,h,r,_=>by cases h;cases r;exact⟨_,.bool b⟩
 | .int i,_,_,h,r,_=>by cases h;obtain⟨t,rfl⟩:=r;exact⟨_,.int i t⟩
 | .str x,_,_,h,r,_=>by cases h;obtain⟨t,rfl⟩:=r;exact⟨_,.str x t⟩
 | .lst ds,_,_,⟨a,vs,h1,h2,h3⟩,r,c=>by
  subst h1;cases r
  obtain⟨its,q,⟨o,n,ho,hc,_,hd⟩,_⟩:=I.list h2.l
  obtain⟨as,ra⟩:=QfQ I ds vs its h3 q (by simpa [D.py,PyData.canLay0] using c)
  exact⟨_,.list ho hc hd (by simpa using ra)⟩
 | .lln ds,_,_,⟨a,vs,h1,h2,h3⟩,r,c=>by
  subst h1;cases r
  obtain⟨its,q,⟨o,n,ho,hc,_,hd⟩,_⟩:=I.list h2
  obtain⟨as,ra⟩:=QfQ I ds vs its h3 q (by simpa [D.py,PyData.canLay0] using c)
  exact⟨_,.list ho hc hd (by simpa using ra)⟩
 | .tup ds,_,_,⟨a,vs,h1,h2,h3⟩,r,c=>by
  subst h1;cases r
  obtain⟨its,q,⟨o,ho,hc,n,hd⟩,_⟩:=I.tuple h2
  obtain⟨as,ra⟩:=QfQ I ds vs its h3 q (by simpa [D.py,PyData.canLay0] using c)
  exact⟨_,.tuple ho hc hd (by simpa using ra)⟩
 | .dic _,_,_,_,_,c=>by simp[D.py,PyData.canLay0]at c
 | .ins _ _,_,_,_,_,c=>by simp[D.py,PyData.canLay0]at c
 | .err _ _,_,_,_,_,c=>by simp[D.py,PyData.canLay0]at c
theorem QfQ(I:Inv X pins σ H s):∀(ds:List D)(vs:List V)(us:List Value),RepL X.K CT H ds vs->Vals vs us->PyData.canLayAll0 (D.pys ds)=true->∃ as,ReadsAll s.heap us (D.pys ds) as
 | [],_,_,h,r,_=>by cases h;cases r;exact⟨_,.nil⟩
 | d::ds,_,_,⟨v,w,h1,h2,h3⟩,r,c=>by
  subst h1
  cases r with
  | cons r1 r2=>
   have c':d.py.canLay0=true/\PyData.canLayAll0 (D.pys ds)=true:=by simpa [D.pys,PyData.canLayAll0] using c
   obtain⟨as,q1⟩:=Qfl I d v _ h2 r1 c'.1
   obtain⟨bs,q2⟩:=QfQ I ds w _ h3 r2 c'.2
   exact⟨_,.cons q1 q2⟩
end
end
noncomputable def shp(d:D):Bool:=SeqAt.shaped d.py
def dEq(x y:D):Out D:=if (shp x&&shp y)=true then .ok (.bl (PyData.eqv x.py y.py)) else .stuck
def dNe(x y:D):Out D:=if (shp x&&shp y)=true then .ok (.bl (!PyData.eqv x.py y.py)) else .stuck
section
def rEqD(C:Dc)(n:Bool):R2:=fun vx vy H Q=>∃ x y,Rep C.X.K C.CT H x vx/\Rep C.X.K C.CT H y vy/\shp x=true/\shp y=true/\Q (.bl (n != PyData.eqv x.py y.py)) H
theorem Qs6(hu:C.X.A.units+64<cLine):OpR C.X (compareOp .Eq) (rEqD C false):=by
 intro pins s σ H vx vy u w Q I rx ry h
 obtain⟨x,y,h1,h2,h3,h4,q⟩:=h
 obtain⟨as,ra⟩:=Qfl I x vx u h1 rx (bz h3)
 obtain⟨bs,rb⟩:=Qfl I y vy w h2 ry (bz h4)
 exact eq_dataH ra rb h3 h4 hu ⟨.bl _,H,I,rfl,by simpa using q⟩
theorem QxS(hu:C.X.A.units+64<cLine):OpR C.X (compareOp .NotEq) (rEqD C true):=by
 intro pins s σ H vx vy u w Q I rx ry h
 obtain⟨x,y,h1,h2,h3,h4,q⟩:=h
 obtain⟨as,ra⟩:=Qfl I x vx u h1 rx (bz h3)
 obtain⟨bs,rb⟩:=Qfl I y vy w h2 ry (bz h4)
 exact ne_dataH ra rb h3 h4 hu ⟨.bl _,H,I,rfl,by simpa using q⟩
theorem Qtc:DRS C (rEqD C false) dEq:=by
 intro G H σ ς Q x y vx vy S hx hy q
 rcases QF q with⟨hc,q⟩ | ⟨_,q⟩
 ·rw[aH]at hc
  exact⟨x,y,hx,hy,hc.1,hc.2,by simpa [toV] using q.2⟩
 ·exact q.elim
theorem Qxv:DRS C (rEqD C true) dNe:=by
 intro G H σ ς Q x y vx vy S hx hy q
 rcases QF q with⟨hc,q⟩ | ⟨_,q⟩
 ·rw[aH]at hc
  exact⟨x,y,hx,hy,hc.1,hc.2,by simpa [toV] using q.2⟩
 ·exact q.elim
theorem Qq9:scal2 dEq:=fun x y=>QdF rfl
theorem Qv1:scal2 dNe:=fun x y=>QdF rfl
theorem de_lt(ha:DB C a A)(hb:DB C b B):DE C (.Compare a [.Lt] [b] pos) (e2 dLt A B):=QkD op_lt Qa1 (QaJ fun _ _=>rfl) ha hb (QgP _)
theorem dt_lt(ha:DB C a A)(hb:DB C b B):DT C (.Compare a [.Lt] [b] pos) (tVal (e2 dLt A B)):=Qkv op_lt Qa1 (QaJ fun _ _=>rfl) ha hb (QgP _)
theorem dt_gt(ha:DB C a A)(hb:DB C b B):DT C (.Compare a [.Gt] [b] pos) (tVal (e2 dGt A B)):=Qkv op_gt Qa1 (QaJ fun _ _=>rfl) ha hb (QgP _)
theorem de_eq(hu:C.X.A.units+64<cLine)(ha:DB C a A)(hb:DB C b B):DE C (.Compare a [.Eq] [b] pos) (e2 dEq A B):=QkD (Qs6 hu) Qtc Qq9 ha hb (QgP _)
theorem dt_eq(hu:C.X.A.units+64<cLine)(ha:DB C a A)(hb:DB C b B):DT C (.Compare a [.Eq] [b] pos) (tVal (e2 dEq A B)):=Qkv (Qs6 hu) Qtc Qq9 ha hb (QgP _)
theorem dt_ne(hu:C.X.A.units+64<cLine)(ha:DB C a A)(hb:DB C b B):DT C (.Compare a [.NotEq] [b] pos) (tVal (e2 dNe A B)):=Qkv (QxS hu) Qxv Qv1 ha hb (QgP _)
end
end DL
namespace DL
open PySem PySem.Spec PyProof.Rows L2
section
end
noncomputable def Qaw:D->String
 | .non=>"NoneType"
 | .bl _=>"bool"
 | .int _=>"int"
 | .str _=>"str"
 | .lst _=>"list"
 | .lln _=>"list"
 | .tup _=>"tuple"
 | .dic _=>"dict"
 | .ins _ _=>"object"
 | .err _ _=>"object"
structure ClsD(K:PySem.W.Frag)(A:Addr):Prop where
 cl:Cls K A
 ha:PySem.W.findIn K (.ref A) "__class__"=some (some (.builtin "object.__class__"))
 hn:PySem.W.specialIn K (.builtin "object.__class__") "__get__"=some (some (.builtin "getset_descriptor.__get__"))
 htk:PySem.W.takesIn K (.builtin "object.__class__")=some true
 hm:PySem.W.mroIn K A (.type "object")=some true
def KitD(K:PySem.W.Frag)(CT:CTab)(d:D)(uc:Value)(b:Bool):Prop:=match d with
 | .ins c _=>∀ A,CT c=some A->ClsD K A/\PySem.W.kitOne K (.ref A) uc=some b
 | .err c _=>∀ A,CT c=some A->ExCls K A/\PySem.W.kitOne K (.ref A) uc=some b
 | d=>PySem.W.kitOne K (.type (Qaw d)) uc=some b
section
variable{C:Dc}
theorem QvW(I:Inv C.X pins σ H s)(h:Rep C.X.K C.CT H d v)(r:RelV v u)(k:KitD C.X.K C.CT d uc b)
 (q:∀ tk,Q (.bool b) { s with toks:=tk }):wpAny (model C.X.prog C.X.w) A (call (.builtin "isinstance") [u,uc]) Q Ex s:=by
 cases d with
 | non=>cases h;cases r;exact PySem.W.kia_one PySem.W.kitx_none I.kIn True.intro k (fun z=>nomatch z) q
 | bl y=>cases h;cases r;exact PySem.W.kia_one PySem.W.kitx_bool I.kIn True.intro k (fun z=>nomatch z) q
 | int i=>cases h;obtain⟨t,rfl⟩:=r;exact PySem.W.kia_one PySem.W.kitx_int I.kIn True.intro k (fun z=>nomatch z) q
 | str i=>cases h;obtain⟨t,rfl⟩:=r;exact PySem.W.kia_one PySem.W.kitx_str I.kIn True.intro k (fun z=>nomatch z) q
 | lln ds=>
  obtain⟨a,vs,rfl,h2,_⟩:=h;cases r
  obtain⟨its,_,⟨o,n,ho,hc,_⟩,_⟩:=I.list h2
  exact PySem.W.kia_one PySem.W.kitx_list I.kIn ⟨o,ho,hc⟩ k (fun z=>nomatch z) q
 | lst ds=>
  obtain⟨a,vs,rfl,h2,_⟩:=h;cases r
  obtain⟨its,_,⟨o,n,ho,hc,_⟩,_⟩:=I.list h2.l
  exact PySem.W.kia_one PySem.W.kitx_list I.kIn ⟨o,ho,hc⟩ k (fun z=>nomatch z) q
 | tup ds=>
  obtain⟨a,vs,rfl,h2,_⟩:=h;cases r
  obtain⟨its,_,⟨o,ho,hc,_⟩,_⟩:=I.tuple h2
  exact PySem.W.kia_one PySem.W.kitx_tuple I.kIn ⟨o,ho,hc⟩ k (fun z=>nomatch z) q
 | dic ds=>
  obtain⟨a,kvs,rfl,h2,_⟩:=h;cases r
  obtain⟨_,_,vs,_,p⟩:=h2.ok I.hok
  obtain⟨o,es,ep,h1,h2,_⟩:=p
  exact PySem.W.kia_one PySem.W.kitx_dict I.kIn ⟨o,h1,h2.1⟩ k (fun z=>nomatch z) q
 | ins c fs=>
  obtain⟨a,A',dx,fs',rfl,h1,h2,_⟩:=h;cases r
  obtain⟨cd,kk⟩:=k A' h1
  obtain⟨mA,O,_⟩:=QgL I.hok h2
  obtain⟨od,J,_⟩:=O.look
  exact PySem.W.kia_one (PySem.W.kitx_own (cd.cl.get _) cd.cl.hd cd.ha cd.hn cd.htk cd.hm) I.kIn J kk (fun z=>nomatch z) q
 | err c fs=>
  obtain⟨a,A',dx,rfl,h1,h2,_⟩:=h;cases r
  obtain⟨cd,kk⟩:=k A' h1
  obtain⟨⟨o,vs,p1,p2,p3,_⟩,_⟩:=(show ObjOk C.X.prog C.X.w H s.heap a (exO a A' dx) from I.hok a _ h2)
  exact PySem.W.kia_one (Qvk cd) I.kIn ⟨o,vs,p1,p2,p3⟩ kk (fun z=>nomatch z) q
noncomputable def clsV:V->Option Value
 | .ty n=>some (.type n)
 | .ref a=>some (.ref a)
 | _=>none
def eIsa(f:D->Out Bool)(a:SD->Out D):SD->Out D:=fun ς=>a ς>>=fun d=>f d>>=fun b=>.ok (.bl b)
theorem Qxp(hc:PE C.X cx (tC vc))(rc:clsV vc=some uc)(hf:∀ d,match f d with | .ok b=>KitD C.X.K C.CT d uc b | .exc _=>False | .stuck=>True)(hg:Gl C.X "isinstance")(hm:C.X.mg "isinstance"=none)(h:DB C e E)
 (he:starEach (e::[cx]) C.X.env=(false,eval e C.X.env)::starEach [cx] C.X.env:=by rfl) (he2:starEach (cx::[]) C.X.env=(false,eval cx C.X.env)::starEach [] C.X.env:=by rfl)
 (hpl:(backTo pos (starEach [cx] C.X.env)).any (·.1)=false:=by rfl):DE C (.Call (.Name "isinstance" p) [e,cx] [] pos) (eIsa f E):=by
 obtain⟨t,p1,q1⟩:=h
 have hR:CallR C.X (.builtin "isinstance") (fun xs H Q=>∃ d x b,xs=[x,vc]/\Rep C.X.K C.CT H d x/\KitD C.X.K C.CT d uc b/\Q (.bl b) H):=by
  intro pins s σ H xs us Q I r h
  obtain⟨d,x,b,rfl,h1,h2,q⟩:=h
  obtain⟨u,w,rfl,r1,r2⟩:=vals2 r
  have:w=uc:=by
   cases vc<;>first
    | (cases rc;cases r2;rfl)
    | cases rc
  subst this
  exact QvW I h1 r1 h2 fun tk=>⟨.bl b,H,I.tok _,rfl,q⟩
 refine⟨_,QjN hR hg hm PyProof.Rows.Boot.«isinstance» (Q0 p1 (Q0 hc QaL he2) he) (by decide) (by decide) he hpl,fun G H σ ς Q S q=>?_⟩
 unfold eIsa at q
 rw[d9]at q
 refine q1 G H σ ς _ S (dA q fun d k v1 H1 G1 S1 a1 b1 r1=>?_)
 rw[d9]at k
 have hd:=hf d
 cases e:f d with
 | exc _=>rw[e]at hd;exact hd.elim
 | stuck=>rw[e]at k;exact k.elim
 | ok b=>
  rw[e]at k hd
  exact⟨d,v1,b,rfl,r1,hd,cp (cq (k) a1 b1) S1 rfl⟩
end
end DL
namespace DL
open PySem PySem.Spec PyProof.Rows L2
section
theorem Qr{xs:List α}{i j:Nat}{x y:α}(h:(xs.set i x)[j]?=some y):(i=j/\y=x/\i<xs.length)∨(i≠j/\xs[j]?=some y):=by
 rw[bE]at h
 by_cases e:i=j
 ·rw[aA e]at h
  by_cases l:i<xs.length
  ·rw[aA l]at h;exact .inl ⟨e,(ai h).symm,l⟩
  ·rw[aD l]at h;cases h
 ·rw[aD e]at h;exact .inr ⟨e,h⟩
theorem Qdy{xs:List α}{i:Nat}{x:α}(h:i<xs.length):(xs.set i x)[i]?=some x:=by
 rw[bE,aA rfl,aA h]
theorem Qj{xs:List α}{i j:Nat}{x:α}(h:i≠j):(xs.set i x)[j]?=xs[j]?:=by
 rw[bE,aD h]
theorem StR.set(S:StR C G H σ ς){d:D}(i:Nat)(r:Rep C.X.K C.CT G d v):StR C G H (σ.set i (some v)) (ς.set i (some (.k,d))) where
 toGH:=S.toGH
 len:=by rw[ah,ah];exact S.len
 fz:=fun j e h=>by
  rcases Qr h with⟨rfl,h2,l⟩ | ⟨ne,h2⟩
  ·cases h2
   exact⟨v,Qdy (by rw[S.len];exact l),r⟩
  ·rw[Qj ne];exact S.fz j e h2
 ow:=fun j e h=>by
  rcases Qr h with⟨rfl,h2,l⟩ | ⟨ne,h2⟩
  ·cases h2
  ·rw[Qj ne];exact S.ow j e h2
 ln:=fun j e h=>by
  rcases Qr h with⟨rfl,h2,l⟩ | ⟨ne,h2⟩
  ·cases h2
  ·rw[Qj ne];exact S.ln j e h2
 inj:=fun j k d1 d2 p hjk h1 h2 h3=>by
  rcases Qr h1 with⟨rfl,q1,l⟩ | ⟨n1,q1⟩
  ·cases q1
  ·rcases Qr h2 with⟨rfl,q2,l⟩ | ⟨n2,q2⟩
   ·cases q2
   ·rw[Qj n1]at h3
    rw[Qj n2];exact S.inj j k d1 d2 p hjk q1 q2 h3
 sf:=fun j e h=>by
  rcases Qr h with⟨rfl,h2,l⟩ | ⟨ne,h2⟩
  ·cases h2
  ·rw[Qj ne];exact S.sf j e h2
 su:=fun j k d1 d2 p hjk h1 h2 h3=>by
  rcases Qr h1 with⟨rfl,q1,l⟩ | ⟨n1,q1⟩
  ·cases q1
  ·rcases Qr h2 with⟨rfl,q2,l⟩ | ⟨n2,q2⟩
   ·cases q2
   ·rw[Qj n1]at h3
    rw[Qj n2];exact S.su j k d1 d2 p hjk q1 q2 h3
theorem StR.setO(S:StR C G H σ ς){d:D}(i:Nat)(hg:G p=none)(h0:C.H0 p=none)(ow:Own C.X.K C.CT G H p d)(hn:∀(j:Nat) e,j≠i->ς[j]?=some (some (.o,e))->σ[j]?≠some (some (.ref p))):
 StR C G H (σ.set i (some (.ref p))) (ς.set i (some (.o,d))) where
 toGH:=S.toGH
 len:=by rw[ah,ah];exact S.len
 fz:=fun j e h=>by
  rcases Qr h with⟨rfl,h2,l⟩ | ⟨ne,h2⟩
  ·cases h2
  ·rw[Qj ne];exact S.fz j e h2
 ow:=fun j e h=>by
  rcases Qr h with⟨rfl,h2,l⟩ | ⟨ne,h2⟩
  ·cases h2
   exact⟨p,Qdy (by rw[S.len];exact l),hg,h0,ow⟩
  ·rw[Qj ne];exact S.ow j e h2
 ln:=fun j e h=>by
  rcases Qr h with⟨rfl,h2,l⟩ | ⟨ne,h2⟩
  ·cases h2
  ·rw[Qj ne];exact S.ln j e h2
 inj:=fun j k d1 d2 q hjk h1 h2 h3=>by
  rcases Qr h1 with⟨rfl,q1,l1⟩ | ⟨n1,q1⟩
  ·rcases Qr h2 with⟨rfl,q2,l⟩ | ⟨n2,q2⟩
   ·exact absurd rfl hjk
   ·rw[Qdy (by rw[S.len];exact l1)]at h3
    cases h3
    rw[Qj n2];exact hn k d2 (bV n2) q2
  ·rcases Qr h2 with⟨rfl,q2,l⟩ | ⟨n2,q2⟩
   ·rw[Qj n1]at h3
    rw[Qdy (by rw[S.len];exact l)]
    intro z;cases z
    exact hn j d1 (bV n1) q1 h3
   ·rw[Qj n1]at h3
    rw[Qj n2];exact S.inj j k d1 d2 q hjk q1 q2 h3
 sf:=fun j e h=>by
  rcases Qr h with⟨rfl,h2,l⟩ | ⟨ne,h2⟩
  ·cases h2
  ·rw[Qj ne];exact S.sf j e h2
 su:=fun j k d1 d2 p hjk h1 h2 h3=>by
  rcases Qr h1 with⟨rfl,q1,l⟩ | ⟨n1,q1⟩
  ·cases q1
  ·rcases Qr h2 with⟨rfl,q2,l⟩ | ⟨n2,q2⟩
   ·cases q2
   ·rw[Qj n1]at h3
    rw[Qj n2];exact S.su j k d1 d2 p hjk q1 q2 h3
end
noncomputable def sNil:SD->Out Fl:=fun ς=>.ok (.nx ς)
noncomputable def thenF(U:SD->Out Fl):Fl->Out Fl
 | .nx ς=>U ς
 | .rt b d=>.ok (.rt b d)
 | .bk ς=>.ok (.bk ς)
 | .ct ς=>.ok (.ct ς)
def sSeq(T U:SD->Out Fl):SD->Out Fl:=fun ς=>T ς>>=thenF U
section
variable    {st:Stmt} {rest:List Stmt}
theorem FlK.later(h:FlK C G W f)(s:Same G G1):FlK C G1 W f:=by
 cases f with
 | nx ς=>exact fun σ' H' G' S q=>h σ' H' G' S (s.trans q)
 | bk ς=>exact fun σ' H' G' S q=>h σ' H' G' S (s.trans q)
 | ct ς=>exact fun σ' H' G' S q=>h σ' H' G' S (s.trans q)
 | rt b d=>exact fun σ' H' G' S q=>h σ' H' G' S (s.trans q)
abbrev cw:=@FlK.later
theorem QJ:DSs C [] sNil:=⟨_,QiE,fun G H σ ς W S q=>q σ H G S (cf G)⟩
theorem Qh(h1:DS C st T)(h2:DSs C rest U):DSs C (st::rest) (sSeq T U):=by
 obtain⟨t1,p1,q1⟩:=h1
 obtain⟨t2,p2,q2⟩:=h2
 refine⟨_,QaI p1 p2,fun G H σ ς W S q=>?_⟩
 unfold sSeq at q
 rw[d9]at q
 refine q1 G H σ ς _ S (dA q fun f k=>?_)
 cases f with
 | nx ς'=>exact fun σ' H' G' S' s'=>q2 G' H' σ' ς' W S' (dA (k) fun f k=>cw k s')
 | bk ς'=>exact k
 | ct ς'=>exact k
 | rt b d=>exact k
theorem Qg(h1:DS C st T):DSs C [st] T:=let ⟨t,p,q⟩:=h1;⟨t,Qle p,q⟩
def sSet(i:Nat)(E:SD->Out D):SD->Out Fl:=fun ς=>E ς>>=fun d=>.ok (.nx (ς.set i (some (.k,d))))
def sSetO(i:Nat)(E:SD->Out D):SD->Out Fl:=fun ς=>E ς>>=fun d=>.ok (.nx (ς.set i (some (.o,d))))
theorem Q4(hN:C.X.N.Nodup)(hi:C.X.N[i]?=some x)(hx:Loc C.X.env.scope x)(he:DE C e E)(hs:swapsWith e (some (.Name x pos')) pos.line C.X.env=pure false:=by rfl)
 (hf:C.X.fn x=true∨C.X.env.scope.names.lookup x=some .local:=by fail"V2"):DS C (.Assign [.Name x pos'] e pos) (sSet i E):=by
 obtain⟨t,p,q⟩:=he
 refine⟨_,Qn9 hN hi hx p hs hf,fun G H σ ς W S k=>?_⟩
 unfold sSet at k
 rw[d9]at k
 exact q G H σ ς _ S (dA k fun d k v H1 G1 S1 a1 b1 r1=>k _ H1 G1 (S1.set i r1) b1)
theorem QdS(hN:C.X.N.Nodup)(hi:C.X.N[i]?=some x)(hx:Loc C.X.env.scope x)(he:DF C e E)(hs:swapsWith e (some (.Name x pos')) pos.line C.X.env=pure false:=by rfl)
 (hf:C.X.fn x=true∨C.X.env.scope.names.lookup x=some .local:=by fail"V2"):DS C (.Assign [.Name x pos'] e pos) (sSetO i E):=by
 obtain⟨t,p,q⟩:=he
 refine⟨_,Qn9 hN hi hx p hs hf,fun G H σ ς W S k=>?_⟩
 unfold sSetO at k
 rw[d9]at k
 exact q G H σ ς _ S (dA k fun d k p H1 G1 S1 a1 b1 hp hg ow=>k _ H1 G1 (S1.setO i hg (S.h0none hp) ow fun j e _ z=>S.new_ne hp j e z) b1)
def sPar(i j:Nat)(A:SD->Out (List D)):SD->Out Fl:=fun ς=>A ς>>=fun ds=>match ds with
 | [x,y]=>.ok (.nx ((ς.set i (some (.k,x))).set j (some (.k,y))))
 | _=>.stuck
noncomputable def Q6:List Nat->List D->SD->Out SD
 | [],[],ς=>.ok ς
 | i::is,d::ds,ς=>Q6 is ds (ς.set i (some (.k,d)))
 | _,_,_=>.stuck
def DGs(C:Dc)(es:List Expr)(is:List Nat):Prop:=∃ t,PGs C.X es t/\∀ G H σ ς ds vs ς' (Q:St->Hp->Prop),StR C G H σ ς->RepL C.X.K C.CT G ds vs->Q6 is ds ς=.ok ς'->
 (∀ σ',StR C G H σ' ς'->Q σ' H)->t vs σ H Q
theorem QcN:DGs C [] []:=by
 refine⟨_,Qrj,fun G H σ ς ds vs ς' Q S r h q=>?_⟩
 cases ds with
 | nil=>
  cases h
  exact⟨r,q σ S⟩
 | cons d ds=>cases h
theorem Q3(hN:C.X.N.Nodup)(hi:C.X.N[i]?=some x)(hx:Loc C.X.env.scope x)(h2:DGs C es is)
 (hf:C.X.fn x=true∨C.X.env.scope.names.lookup x=some .local:=by fail"V2")
 (hs:(assignEach (.Name x pos::es) C.X.env).map (·.2)=assign (.Name x pos) C.X.env::(assignEach es C.X.env).map (·.2):=by rfl):DGs C (.Name x pos::es) (i::is):=by
 obtain⟨t,p,q⟩:=h2
 refine⟨_,Qfa (QcJ hN hi hx hf) p hs,fun G H σ ς ds vs ς' Q S r h k=>?_⟩
 cases ds with
 | nil=>cases h
 | cons d ds=>
  obtain⟨v,w,rfl,r1,r2⟩:=r
  exact⟨v,w,rfl,q G H _ _ ds w ς' Q (S.set i r1) r2 h k⟩
def sUnp(is:List Nat)(E:SD->Out D):SD->Out Fl:=fun ς=>E ς>>=fun d=>match d with
 | .tup ds=>Q6 is ds ς>>=fun ς'=>.ok (.nx ς')
 | _=>.stuck
theorem Qg9:∀{is:List Nat}{ds:List D}{ς ς':SD},Q6 is ds ς=.ok ς'->ds.length=is.length
 | [],[],_,_,_=>rfl
 | i::is,d::ds,ς,ς',h=>by
  have:=Qg9 (ds:=ds) h
  simp[this]
 | [],_::_,_,_,h=>by cases h
 | _::_,[],_,_,h=>by cases h
def sRet(E:SD->Out D):SD->Out Fl:=fun ς=>E ς>>=fun d=>.ok (.rt false d)
def sRetF(E:SD->Out D):SD->Out Fl:=fun ς=>E ς>>=fun d=>.ok (.rt true d)
theorem Qy(he:DE C e E):DS C (.Return (some e) pos) (sRet E):=by
 obtain⟨t,p,q⟩:=he
 refine⟨_,Qkm p,fun G H σ ς W S k=>?_⟩
 unfold sRet at k
 rw[d9]at k
 exact q G H σ ς _ S (dA k fun d k v H1 G1 S1 a1 b1 r1=>k v H1 G1 S1.toGH b1 r1)
theorem QaR(he:DF C e E):DS C (.Return (some e) pos) (sRetF E):=by
 obtain⟨t,p,q⟩:=he
 refine⟨_,Qkm p,fun G H σ ς W S k=>?_⟩
 unfold sRetF at k
 rw[d9]at k
 exact q G H σ ς _ S (dA k fun d k p H1 G1 S1 a1 b1 hp hg ow=>k _ H1 G1 S1.toGH b1 ⟨p,rfl,S.h0none hp,hg,ow⟩)
noncomputable def sRetO(i:Nat):SD->Out Fl:=fun ς=>match ς[i]? with | some (some (.o,d))=>.ok (.rt true d) | _=>.stuck
theorem Qlw(i:Nat)(hN:C.X.N[i]?=some x:=by rfl)(hv:Vis C.X.env.scope x:=by fail"V1")
 (hd:(x == ("__debug__":Str))=false:=by decide) (hcd:(x == ("__classdict__":Str))=false:=by decide):DS C (.Return (some (.Name x px)) pos) (sRetO i):=by
 refine⟨_,Qkm (Qar hN hv hd hcd),fun G H σ ς W S k=>?_⟩
 unfold sRetO at k
 split at k
 ·rename_i d z
  obtain⟨p,a,b,c,w⟩:=S.ow i d z
  exact⟨_,a,k _ H G S.toGH (cf G) ⟨p,rfl,c,b,w⟩⟩
 ·exact k.elim
def sIf(c:SD->Out Bool)(T U:SD->Out Fl):SD->Out Fl:=fun ς=>c ς>>=fun b=>if b=true then T ς else U ς
theorem ds_if(hc:DT C c TC)(ha:DSs C a T)(hb:DSs C b U):DS C (.If c a b pos) (sIf TC T U):=by
 obtain⟨t0,p0,q0⟩:=hc
 obtain⟨t1,p1,q1⟩:=ha
 obtain⟨t2,p2,q2⟩:=hb
 refine⟨_,ps_if p0 p1 p2,fun G H σ ς W S k=>?_⟩
 unfold sIf at k
 rw[d9]at k
 refine q0 G H σ ς _ S (dA k fun b k H1 G1 S1 a1 b1=>?_)
 cases b with
 | true=>exact iteT (q1 G1 H1 σ ς W S1 (dA (k) fun f k=>cw k b1))
 | false=>exact iteF (q2 G1 H1 σ ς W S1 (dA (k) fun f k=>cw k b1))
noncomputable def Qc2:SD->Out Fl:=fun _=>.stuck
theorem QbM:DS C st Qc2:=⟨_,Quk,fun G H σ ς W S k=>k.elim⟩
end
def loopD(body:D->SD->Out Fl):List D->SD->Out Fl
 | [],ς=>.ok (.nx ς)
 | x::xs,ς=>body x ς>>=fun f=>match f with
  | .nx ς'=>loopD body xs ς'
  | .ct ς'=>loopD body xs ς'
  | .bk ς'=>.ok (.nx ς')
  | .rt b d=>.ok (.rt b d)
def DG(C:Dc)(tg:Expr)(g:D->SD->Out SD):Prop:=∃ t,PG C.X tg t/\∀ G H σ ς d v ς' (Q:St->Hp->Prop),StR C G H σ ς->Rep C.X.K C.CT G d v->g d ς=.ok ς'->(∀ σ',StR C G H σ' ς'->Q σ' H)->t v σ H Q
noncomputable def gN(i:Nat):D->SD->Out SD:=fun d ς=>.ok (ς.set i (some (.k,d)))
def gT(is:List Nat):D->SD->Out SD:=fun d ς=>match d with | .tup ds=>Q6 is ds ς | _=>.stuck
def noExc{α β γ : Type}(g:α->β->Out γ):Prop:=∀ a b x,g a b≠.exc x
theorem Qs(i:Nat):noExc (gN i):=fun _ _ _ h=>by cases h
theorem Qie(is:List Nat):∀(ds:List D) (ς:SD) x,Q6 is ds ς≠.exc x:=by
 induction is with
 | nil=>intro ds ς x h;cases ds<;>cases h
 | cons i is ih=>intro ds ς x h;cases ds with
  | nil=>cases h
  | cons d ds=>exact ih ds _ x h
theorem Qfj(is:List Nat):noExc (gT is):=fun d ς x h=>by
 cases d with
 | tup ds=>exact Qie is ds ς x h
 | _=>cases h
section
variable     {T U:SD->Out Fl}
theorem Qx(hN:C.X.N.Nodup)(hi:C.X.N[i]?=some x)(hx:Loc C.X.env.scope x)
 (hf:C.X.fn x=true∨C.X.env.scope.names.lookup x=some .local:=by fail"V2"):DG C (.Name x pos) (gN i):=
 ⟨_,QcJ hN hi hx hf,fun G H σ ς d v ς' Q S r h k=>by cases h;exact k _ (S.set i r)⟩
theorem Qik(hc:C.X.calm=true)(hg:DGs C es is)(hn:(assignEach es C.X.env).length=is.length:=by rfl)(hst:(assignEach es C.X.env).findIdx? (·.1)=none:=by rfl):
 DG C (.Tuple es k pos) (gT is):=by
 obtain⟨t2,p2,q2⟩:=hg
 refine⟨_,QsT hc p2 hn hst,fun G H σ ς d v ς' Q S r h k=>?_⟩
 cases d with
 | tup ds=>
  obtain⟨a,vs,rfl,h2,h3⟩:=r
  exact⟨a,vs,rfl,Same.sqT S.sub h2,by rw[← h3.length];exact Qg9 h,q2 G H σ ς ds vs ς' Q S h3 h k⟩
 | _=>cases h
def sFor(g:D->SD->Out SD)(its:SD->Out (List D))(T:SD->Out Fl):SD->Out Fl:=fun ς=>its ς>>=fun xs=>loopD (fun x ς=>g x ς>>=fun ς'=>T ς') xs ς
def itL(E:SD->Out D):SD->Out (List D):=fun ς=>E ς>>=fun d=>match d with | .lst xs=>.ok xs | .lln xs=>.ok xs | _=>.stuck
theorem turnD{tb:TS}{tt:TG}(hne:noExc g)
 (hg:∀ G H σ ς d v ς' (Q:St->Hp->Prop),StR C G H σ ς->Rep C.X.K C.CT G d v->g d ς=.ok ς'->(∀ σ',StR C G H σ' ς'->Q σ' H)->tt v σ H Q)
 (hb:∀ G H σ ς W,StR C G H σ ς->(T ς).post (FlK C G W) C.XD->tb W σ H)
 (S:StR C G H σ ς) (r:Rep C.X.K C.CT G x v) (q:(loopD (fun x ς=>g x ς>>=fun ς'=>T ς') (x::xs) ς).post (FlK C G W) C.XD)
 (hN:∀ σ' H' G' ς',StR C G' H' σ' ς'->Same G G'->(loopD (fun x ς=>g x ς>>=fun ς'=>T ς') xs ς').post (FlK C G' W) C.XD->N σ' H'):
 tt v σ H fun σ2 H2=>tb { W with nx:=N,ct:=N,bk:=W.nx } σ2 H2:=by
 have q':((g x ς>>=fun ς'=>T ς')>>=fun f=>match f with
  | .nx ς'=>loopD (fun x ς=>g x ς>>=fun ς'=>T ς') xs ς'
  | .ct ς'=>loopD (fun x ς=>g x ς>>=fun ς'=>T ς') xs ς'
  | .bk ς'=>.ok (.nx ς')
  | .rt b d=>.ok (.rt b d)).post (FlK C G W) C.XD:=q
 rw[d9,d9]at q'
 cases z:g x ς with
 | exc y=>exact absurd z (hne _ _ _)
 | stuck=>rw[z]at q';exact q'.elim
 | ok ς1=>
  rw[z]at q'
  refine hg G H σ ς x v ς1 _ S r z fun σ1 S1=>hb G H σ1 ς1 _ S1 (dA q' fun f k=>?_)
  cases f with
  | nx ς'=>exact fun σ' H' G' S' s'=>hN σ' H' G' ς' S' s' (dA (k) fun f k=>cw k s')
  | ct ς'=>exact fun σ' H' G' S' s'=>hN σ' H' G' ς' S' s' (dA (k) fun f k=>cw k s')
  | bk ς'=>exact fun σ' H' G' S' s'=>(k) σ' H' G' S' s'
  | rt b d=>exact k
theorem Qh1{xs:List α}(h:xs[i]?=some x):xs.drop i=x::xs.drop (i+1):=by
 obtain⟨l,e⟩:=aU.mp h
 rw[List.drop_eq_getElem_cons l,e]
noncomputable def Qa4(lo:Int)(n:Nat):List D:=(List.range n).map fun(i:Nat)=>D.int (lo+i)
theorem QrH{lo:Int}(h:i<n):(Qa4 lo n)[i]?=some (D.int (lo+i)):=by
 unfold Qa4
 rw[aM,ao h];rfl
theorem QjY{lo:Int}:(Qa4 lo n).length=n:=by simp[Qa4]
noncomputable def QgJ(i:Int):Bool:=decide (-(2 ^ 62)<=i)&&decide (i<2 ^ 62)
def itR1(A:SD->Out D):SD->Out (List D):=fun ς=>A ς>>=fun d=>match d with
 | .int n=>if QgJ n=true then .ok (Qa4 0 n.toNat) else .stuck
 | _=>.stuck
theorem Qso(h:QgJ i=true) : -(2 ^ 62)<=i/\i<2 ^ 62:=by
 unfold QgJ at h
 rw[aH]at h
 exact⟨aI h.1,aI h.2⟩
end
end DL
namespace DL
open PySem PySem.Spec PyProof.Rows L2
def RetG(K:PySem.W.Frag)(CT:CTab)(fr:Bool)(H0 G' H':Hp)(d:D)(v:V):Prop:=
 if (fr && !d.scal)=true then ∃ p,v=.ref p/\H0 p=none/\G' p=none/\Own K CT G' H' p d else Rep K CT G' d v
def retF(fr:Bool):Fl->Out D
 | .rt b d=>if (!fr||b||d.scal)=true then .ok d else .stuck
 | .nx _=>.ok .non
 | _=>.stuck
def bodyF(fr:Bool)(n len:Nat)(T:SD->Out Fl):List D->Out D:=fun ds=>
 if ds.length=n then T (ds.map (fun d=>some (.k,d))++List.replicate (len - n) none)>>=retF fr else .stuck
def SpD(K:PySem.W.Frag)(CT:CTab)(fr:Bool)(m:List D->Out D):Sp:=fun vs H Q _=>∃ ds G0,Same G0 H/\RepL K CT G0 ds vs/\
 (m ds).post (fun d=>∀ v H' G',Same G0 G'->Same H H'->Same G' H'->(∀ b,G0 b=none->G' b≠none->H b=none)->RetG K CT fr H G' H' d v->Q v H') (fun _=>False)
structure FunV(K:PySem.W.Frag)(x qual:Str)(st:Stmt)(f:Addr)(fd:FuncData)(dV:Value):Prop where
 ex:∃(oc:Value)(od:Option Addr)(kV doc pm:Value)(an:Option Addr)(cdv ct:Value)(osl:Array (Option Value)),
  fd=PySem.W.fnOf x qual (QcK st) (QaT st) (Qd st) dV kV doc pm an cdv ct/\K.lookup f=some ⟨oc,od,.func fd,osl⟩/\PySem.W.codeIn K cdv qual=true
 kp:PySem.W.keepIn K (.ref f)=true
theorem funV_mk{K:PySem.W.Frag}{st:Stmt}{dV kV doc pm cdv ct:Value}(l:K.lookup f=some ⟨oc,od,.func (PySem.W.fnOf x qual (QcK st) (QaT st) (Qd st) dV kV doc pm an cdv ct),osl⟩)
 (c:PySem.W.codeIn K cdv qual=true) (k:PySem.W.keepIn K (.ref f)=true):FunV K x qual st f (PySem.W.fnOf x qual (QcK st) (QaT st) (Qd st) dV kV doc pm an cdv ct) dV:=⟨⟨oc,od,kV,doc,pm,an,cdv,ct,osl,rfl,l,c⟩,k⟩
theorem FunV.binds{K:PySem.W.Frag}{st:Stmt}(F:FunV K x qual st f fd .none)
 (h:∀(kV doc pm:Value)(an:Option Addr)(cdv ct:Value)(us:List Value),us.length=ps.length->bindArgs (PySem.W.fnOf x qual (QcK st) (QaT st) (Qd st) .none kV doc pm an cdv ct) ⟨us,[]⟩=pure (ps.zip us)):Binds K fd ps []:=by
 obtain⟨oc,od,kV,doc,pm,an,cdv,ct,osl,rfl,lk,hcd⟩:=F.ex
 exact .all (h kV doc pm an cdv ct)
abbrev dcOf(P:Program)(w:World)(K:PySem.W.Frag)(mg:Str->Option Value)(base:Heap)(CT:CTab)(N:List Str)(qual:Str)(sc:Scope)(f:Addr)(cdv:Value)(A:Around)(outer:List Env)(s:Shared)(H:Hp)(E:XK)(G:Hp):Dc:=
 { X:=(cxOf CX0 P w K mg base N qual sc f cdv A outer s H E).nox,CT:=CT,G0:=G,XD:=fun _=>False,B:=H,M:=fun _=>False }
theorem Qfw{i:Nat}(h:vs[i]?=some v):(L2.start N vs)[i]?=some (some v):=by
 unfold L2.start
 have hi:=(aU.mp h).1
 rw[cK (by simpa using hi),aM,h];rfl
theorem Qal{ds:List D}{i:Nat}(h:(ds.map (fun d=>some (SM.k,d))++List.replicate k (none:Option (SM×D)))[i]?=some (some x)):∃ d,ds[i]?=some d/\x=(.k,d):=by
 by_cases hi:i<ds.length
 ·rw[cK (by simpa using hi),aM]at h
  cases e:ds[i]? with
  | none=>rw[e]at h;cases h
  | some d=>rw[e]at h;cases h;exact⟨d,rfl,rfl⟩
 ·rw[List.getElem?_append_right (by simpa using hi),bq]at h
  split at h<;>cases h
theorem GH.freezeR(S:GH C G' H')(hp:H' p=some o)(hg:G' p=none)(h0:C.H0 p=none):GH C (upd G' p o) H' where
 sub:=fun b u q=>by
  by_cases hb:b=p
  ·subst hb;rw[Qq]at q;cases q;exact hp
  ·rw[Qi hb]at q;exact S.sub b u q
 g0:=S.g0.trans (Qt hg)
 new:=fun b h1 h2=>by
  by_cases hb:b=p
  ·subst hb;exact h0
  ·rw[Qi hb]at h2;exact S.new b h1 h2
 fr:=S.fr
 dom:=S.dom
 bs:=S.bs
 bh:=S.bh
theorem fnV{P:Program}{w:World}{K:PySem.W.Frag}{mg:Str->Option Value}{base:Heap}{CT:CTab}{fr:Bool}{x qual:Str}{st:Stmt}{f:Addr}{fd:FuncData}{dV:Value}{N ps:List Str}{k:Nat}{T:SD->Out Fl}
 (F:FunV K x qual st f fd dV) (S:Qn N ps (Qd st))
 (hb:∀(cdv:Value)(A:Around)(outer:List Env)(s:Shared)(H:Hp)(E:XK)(G:Hp),Room k (A.deeper (envOfC qual (Qd st) s.heap.objs.size f cdv))->DSs (dcOf P w K mg base CT N qual (Qd st) f cdv A outer s H E G) (QaT st) T):
 FnOk P w K mg base CX0 (k+1) f fd ps (SpD K CT fr (bodyF fr ps.length N.length T)):=by
 obtain⟨oc,od,kV,doc,pm,an,cdv,ct,osl,rfl,lk,hcd⟩:=F.ex
 have len:∀ vs H Q E,SpD K CT fr (bodyF fr ps.length N.length T) vs H Q E->vs.length=ps.length:=by
  rintro vs H Q E ⟨ds,G0,sub,r,q⟩
  unfold bodyF at q
  by_cases hl:ds.length=ps.length
  ·rw[← r.length];exact hl
  ·rw[aD hl]at q;exact q.elim
 refine fn_of lk hcd S len fun A outer s H vs Q E hr hsp=>?_
 have hlen:=len vs H Q E hsp
 obtain⟨ds,G0,sub,r,q⟩:=hsp
 obtain⟨t,p1,q1⟩:=hb cdv A outer s H E G0 hr
 have hl:ds.length=ps.length:=by rw[r.length];exact hlen
 refine⟨t,p1.nox,?_⟩
 unfold bodyF at q
 rw[aA hl,d9]at q
 have S0:StR (dcOf P w K mg base CT N qual (Qd st) f cdv A outer s H E G0) G0 H (L2.start N vs) (ds.map (fun d=>some (.k,d))++List.replicate (N.length - ps.length) none):={
  sub:=sub
  g0:=cf _
  new:=fun b h1 h2=>absurd h1 h2
  fr:=fun b o e _=>e
  dom:=fun b e=>e
  bs:=cf _
  bh:=fun b e=>e
  len:=by unfold L2.start;simp;omega
  fz:=fun i d e=>by
   obtain⟨d',e1,e2⟩:=Qal e
   cases e2
   obtain⟨v,e3,rv⟩:=r.get e1
   exact⟨v,Qfw e3,rv⟩
  ow:=fun i d e=>by
   obtain⟨d',e1,e2⟩:=Qal e
   cases e2
  ln:=fun i d e=>by
   obtain⟨d',e1,e2⟩:=Qal e
   cases e2
  inj:=fun i j d e p _ h=>by
   obtain⟨d',e1,e2⟩:=Qal h
   cases e2
  sf:=fun i d e=>by
   obtain⟨d',e1,e2⟩:=Qal e
   cases e2
  su:=fun i j d e p _ h=>by
   obtain⟨d',e1,e2⟩:=Qal h
   cases e2 }
 refine q1 G0 H (L2.start N vs) _ _ S0 (dA q fun fl kk=>?_)
 cases fl with
 | nx ς'=>exact fun σ' H' G' S' s'=>kk .non H' G' s' (fun b o e=>S'.fr b o e id) S'.sub S'.new (by unfold RetG;rw[aD (by cases fr<;>decide)];rfl)
 | bk ς'=>exact fun σ' H' G' S' s'=>kk.elim
 | ct ς'=>exact fun σ' H' G' S' s'=>kk.elim
 | rt b d=>
  intro v H' G' S' s' ret
  have kk':=kk
  rcases QF kk' with⟨hc,k2⟩ | ⟨_,k2⟩
  ·have k3:=k2
   cases b with
   | false=>
    refine k3 v H' G' s' (fun b o e=>S'.fr b o e id) S'.sub S'.new ?_
    unfold RetG
    have hn:¬ (fr && !d.scal)=true:=by revert hc;cases fr<;>cases d.scal<;>simp
    rw[aD hn]
    exact ret
   | true=>
    obtain⟨p,rfl,h0,hg,ow⟩:=(ret)
    cases fr with
    | true=>
     refine k3 _ H' G' s' (fun b o e=>S'.fr b o e id) S'.sub S'.new ?_
     have hs:d.scal=false:=by cases d<;>first | rfl | exact ow.elim
     unfold RetG
     rw[aA (by rw[hs];rfl)]
     exact⟨p,rfl,h0,hg,ow⟩
    | false=>
     obtain⟨o,ho⟩:=ow.there
     have S2:=GH.freezeR S' ho hg h0
     refine k3 _ H' _ (s'.trans (Qt hg)) (fun b o e=>S2.fr b o e id) S2.sub S2.new ?_
     unfold RetG
     rw[aD (by simp)]
     exact ow.known hg ho
  ·exact k2.elim
theorem FnOk.as{P:Program}{w:World}{K:PySem.W.Frag}{mg:Str->Option Value}{base:Heap}{CT:CTab}{fr:Bool}{k:Nat}{f:Addr}{fd:FuncData}{ps:List Str}{m m':List D->Out D}
 (F:FnOk P w K mg base CX0 k f fd ps (SpD K CT fr m)) (h:∀ ds,m' ds=.stuck∨m' ds=m ds):FnOk P w K mg base CX0 k f fd ps (SpD K CT fr m'):=by
 refine F.imp fun vs H Q E ⟨ds,G0,sub,r,q⟩=>⟨ds,G0,sub,r,?_⟩
 rcases h ds with e | e
 ·rw[e]at q;exact q.elim
 ·rw[← e];exact q
def DefOk(P:Program)(w:World)(K:PySem.W.Frag)(mg:Str->Option Value)(base:Heap)(CT:CTab)(x:Str)(k:Nat)(fr:Bool)(dd:List D)(m:List D->Out D):Prop:=
 ∃ f fd ps ds,FnOk P w K mg base CX0 k f fd ps (SpD K CT fr m)/\mg x=some (.ref f)/\PySem.W.keepIn K (.ref f)=true/\Binds K fd ps ds/\Vals (dd.map toV) ds
theorem Qjc{K:PySem.W.Frag}{CT:CTab}{H:Hp}:∀{dd:List D},dd.all D.scal=true->RepL K CT H dd (dd.map toV)
 | [],_=>rfl
 | d::ds,h=>by
  rw[bJ,aH]at h
  exact⟨_,_,rfl,QkJ h.1,Qjc h.2⟩
def QaS(o:Out D):Out D:=o>>=fun d=>if d.scal=true then .stuck else .ok d
section
theorem de_f(h:DefOk C.X.prog C.X.w C.X.K C.X.mg C.X.base C.CT x k fr dd m)(hr:Room k C.X.A)(ha:DA C (e::es) A)(hg:Gl C.X x)(hs:dd.all D.scal=true:=by rfl)(hx:∀ x,¬ C.XD x:=by fail"V5")
 (hdb:(x == ("__debug__":Str))=false:=by decide) (he:starEach (e::es) C.X.env=(false,eval e C.X.env)::starEach es C.X.env:=by rfl) (hpl:(backTo pos (starEach es C.X.env)).any (·.1)=false:=by rfl):
 DE C (.Call (.Name x p) (e::es) [] pos) (eA (fun xs=>m (xs++dd)) A):=by
 obtain⟨f,fd,ps,ds,F,hm,hk,hb,hd⟩:=h
 obtain⟨t,p1,q1⟩:=ha
 refine⟨_,QgG F hr hg hm hk hb hd pass0 p1 hdb he hpl,fun G H σ ς Q S q=>?_⟩
 unfold eA at q
 rw[d9]at q
 refine q1 G H σ ς _ S (dA q fun xs kk vs H1 G1 S1 a1 b1 r1=>⟨xs++dd,G1,S1.sub,r1.append (Qjc hs),?_⟩)
 cases z:m (xs++dd) with
 | stuck=>rw[z]at kk;exact kk.elim
 | exc y=>rw[z]at kk;exact absurd kk (hx y)
 | ok d=>
  rw[z]at kk
  intro v H' G' g1 h1 s1 n1 ret
  unfold RetG at ret
  by_cases hc:(fr && !d.scal)=true
  ·rw[aA hc]at ret
   obtain⟨pp,rfl,h0,hg',ow⟩:=ret
   obtain⟨o,ho⟩:=ow.there
   have S2:=(S1.grow h1 g1 s1 n1).freeze ho hg' (S1.h0none h0) (fun i d' z1 z2=>by
    obtain⟨o',ho'⟩:=S1.own_ne z1 z2
    rw[h0]at ho';cases ho')
   exact(kk) _ _ _ S2 (a1.trans h1) ((b1.trans g1).trans (Qt hg')) (ow.known hg' ho)
  ·rw[aD hc]at ret
   exact(kk) v H' G' (S1.grow h1 g1 s1 n1) (a1.trans h1) (b1.trans g1) ret
theorem db_f(h:DefOk C.X.prog C.X.w C.X.K C.X.mg C.X.base C.CT x k fr dd m)(hr:Room k C.X.A)(ha:DAB C (e::es) A)(hg:Gl C.X x)(hs:dd.all D.scal=true:=by rfl)(hx:∀ x,¬ C.XD x:=by fail"V5")
 (hdb:(x == ("__debug__":Str))=false:=by decide) (he:starEach (e::es) C.X.env=(false,eval e C.X.env)::starEach es C.X.env:=by rfl) (hpl:(backTo pos (starEach es C.X.env)).any (·.1)=false:=by rfl):
 DB C (.Call (.Name x p) (e::es) [] pos) (eA (fun xs=>m (xs++dd)) A):=by
 obtain⟨f,fd,ps,ds,F,hm,hk,hb,hd⟩:=h
 obtain⟨t,p1,q1⟩:=ha
 refine⟨_,QgG F hr hg hm hk hb hd pass0 p1 hdb he hpl,fun G H σ ς Q S q=>?_⟩
 unfold eA at q
 rw[d9]at q
 refine q1 G H σ ς _ S (dA q fun xs kk vs H1 G1 S1 a1 b1 r1=>⟨xs++dd,H1,cf _,r1.append (Qjc hs),?_⟩)
 cases z:m (xs++dd) with
 | stuck=>rw[z]at kk;exact kk.elim
 | exc y=>rw[z]at kk;exact absurd kk (hx y)
 | ok d=>
  rw[z]at kk
  intro v H' G' g1 h1 s1 n1 ret
  have S2:=S1.grow h1 (cf _) (S1.sub.trans h1) fun b g n=>absurd g n
  refine(kk) v H' G1 S2 (a1.trans h1) b1 ?_
  unfold RetG at ret
  by_cases hc:(fr && !d.scal)=true
  ·rw[aA hc]at ret
   obtain⟨pp,rfl,h0,hg',ow⟩:=ret
   exact ow.rep s1
  ·rw[aD hc]at ret
   exact cg s1 d v ret
end
abbrev bitsI(i:Int):Nat:=Builtin.Int.intBits i
theorem QjT:∀{xs:List PySem.W.WData}{x:PySem.W.WData},x∈xs->x.weight<=PySem.W.WData.weightAll xs
 | y::r,x,hx=>by
  rcases aF.mp hx with rfl | hx'
  ·simp only[PySem.W.WData.weightAll];omega
  ·have:=QjT hx'
   simp only[PySem.W.WData.weightAll];omega
theorem Qpq{ns:List Int}(h:PySem.W.WData.layableAll [PySem.W.WData.list (ns.map PySem.W.WData.int)]=true):∀ z∈ns,bitsI z<=1048576:=fun z hz=>by
 have h1:(PySem.W.WData.list (ns.map PySem.W.WData.int)).layable=true:=by simpa [PySem.W.WData.layableAll] using h
 have h2:=aI (Bool.and_eq_true_iff.mp h1).2
 have h3:(PySem.W.WData.int z).weight<=PySem.W.WData.weightAll (ns.map PySem.W.WData.int):=QjT (aX.mpr ⟨z,hz,rfl⟩)
 have h4:(PySem.W.WData.int z).weight<=1048576:=by
  simp only[PySem.W.WData.weight]at h2
  omega
 simpa only[PySem.W.WData.weight,Builtin.Int.intBits] using h4
theorem walk_of{l:PySem.W.OpenLaw}{n k:Nat}{q:Program}{loose:List Str}{XP:(Str->Option Value)->Heap->Prop}{YP:World->Heap->Prop}{d:DefRec}{K:Params->PySem.W.Frag}{CX:World->CXT}{sp:World->Sp}{x:Str}
 (hn:l.most=some n) (hn2:n<=sizeLine) (hdf:d.params.defaults=[]) (hr:Room k callerA)
 (hY:∀(w:World)(h:Heap),YP w h->(K w.params).In h)
 (F:∀(w:World)(mg:Str->Option Value)(fa:Addr)(h:Heap),(K w.params).In h->h.Ns mainGlobals mg->mg d.name=some (.ref fa)->
  ∃ fd:FuncData,(∀(s:Shared)(u:Value),BindsTo s fd ⟨[u],[]⟩ [(x,u)])/\
   ∀ base:Heap,(K w.params).In base->base.Ns mainGlobals mg->FnOk l.prog w (K w.params) mg base (CX w) k fa fd [x] (sp w))
 (hsp:∀(w:World)(H:Hp)(a:Addr)(ns:List Int),ns.length<=n->(∀ z∈ns,bitsI z<=1048576)->Only H->SqL (K w.params) H a (ns.map V.int)->sp w [.ref a] H (fun v _=>v=.bl true) fun _ _ _=>False)
 (hCX:∀(w:World)(H:Hp)(s:Shared)(e:Value)(s':Shared),CX w [] H s (fun _ _ _=>False) e s'->False):
 PySem.W.WalkO q loose XP YP l.row.toRowW d [] (fun f vs=>PySem.call f vs):=by
 intro w s₀ s₁ mg mb G Y fa o pm cd doc dV kV ho hd hcd hD hmg hg args vals as hpre hlay hrd hwl hlo
 obtain rfl:=PySem.W.Dflts.none hD hdf
 obtain rfl:=PySem.W.Dflts.noKw hD
 obtain⟨a,vs,ns,rfl,rfl,hobj,hints,hlen⟩:=Att.script_of hn hpre hwl
 have KX:=hY w _ Y
 obtain⟨fd,hb,hF⟩:=F w mg fa _ KX G.T.g hmg
 refine PySem.W.enter_call (cM (QuQ KX G.T.g G.T.b G.T.builtins G.T.nolimit hg hobj hints (aq hlen hn2) hr hF hb (fun H hO hS=>hsp w H a ns hlen (Qpq hlay) hO hS) fun H e s'=>hCX w H s₁ e s') fun r s' hq=>?_)
 obtain⟨rfl,h2,h3,h4⟩:=hq
 exact⟨.inl ⟨.bool true,.bool true,[],rfl,fun _=>rfl,.bool true,Att.post_true l _,fun _=>⟨List.Pairwise.nil,fun _ hm=>(nomatch hm)⟩⟩,h2,h3,h4⟩
end DL
namespace DL
open PySem PySem.Spec PyProof.Rows L2
def rCatS(K:PySem.W.Frag):R2:=fun x y H Q=>∃ l b xs zs,x=.ref l/\y=.ref b/\SqL K H l xs/\SqL K H b zs/\xs.length+zs.length<=sizeLine/\∀ p,H p=none->Q (.ref p) (upd H p (.lst (xs++zs)))
theorem Qv8:OpR X (binaryOp .Add) (rCatS X.K):=by
 intro pins s σ H x y v u Q I rx ry h
 obtain⟨l,b,xs,zs,rfl,rfl,hH,hB,hz,q⟩:=h
 cases rx
 cases ry
 obtain⟨its,r,pl,hz1⟩:=I.list hH
 obtain⟨its2,r2,pl2,hz2⟩:=I.list hB
 obtain⟨⟨cls,dd,data,sl⟩,n,ho,hc,hdd,hd⟩:=pl
 obtain⟨⟨cls2,dd2,data2,sl2⟩,n2,ho2,hc2,hdd2,hd2⟩:=pl2
 simp only at hc hd hc2 hd2
 subst hc hd hc2 hd2
 have e:its.toArray++its2.toArray=(its++its2).toArray:=by simp
 have h1:=r.length
 have h2:=r2.length
 refine concat_meets ⟨_,ho,rfl⟩ ⟨_,ho2,rfl⟩ noFill_list_add seq_list_add PySem.F.slot_list_add PySem.F.entry_list_add (PySem.F.args_list_add_2 _ _) (list_addW l b its.toArray its2.toArray n n2 dd dd2 sl sl2 (by rw[aW,aW];omega)) ⟨ho,ho2,?_⟩
 rw[e]
 exact⟨.ref _,_,I.lnew (r.append r2) (by rw[ae];omega),rfl,q _ I.fresh⟩
def dCat:D->D->Out D
 | .lst xs,.lst ys=>if fits (xs.length+ys.length)=true then .ok (.lst (xs++ys)) else .stuck
 | .lst xs,.lln ys=>if fits (xs.length+ys.length)=true then .ok (.lst (xs++ys)) else .stuck
 | _,_=>.stuck
def dRep:D->D->Out D
 | .lst xs,.int k=>if (decide (-(2 ^ 63)<=k)&&decide (k<2 ^ 63)&&fits (xs.length * k.toNat))=true then .ok (.lst (List.replicate k.toNat xs).flatten) else .stuck
 | _,_=>.stuck
section
theorem QnA(ha:DE C a A)(hb:DE C b B):DF C (.BinOp a .Add b pos) (e2 dCat A B):=by
 obtain⟨ta,p1,q1⟩:=ha
 obtain⟨tb,p2,q2⟩:=hb
 refine⟨_,pe_op Qv8 p1 p2,fun G H σ ς Q S q=>?_⟩
 unfold e2 at q
 rw[d9]at q
 refine q1 G H σ ς _ S (dA q fun x k v1 H1 G1 S1 a1 b1 r1=>?_)
 rw[d9]at k
 refine q2 G1 H1 σ ς _ S1 (dA k fun y k2 v2 H2 G2 S2 a2 b2 r2=>?_)
 have r1':=cg b2 x v1 r1
 cases x with
 | lst xs=>
  cases y with
  | lst ys=>
   obtain⟨p,vs,rfl,h2,h3⟩:=r1'
   obtain⟨p',vs',rfl,h2',h3'⟩:=r2
   rcases QF (k2) with⟨hc,k3⟩ | ⟨_,k3⟩
   ·exact⟨p,p',vs,vs',rfl,rfl,S2.sub.seq h2,S2.sub.seq h2',by rw[← h3.length, ← h3'.length];exact aI hc,
     KF.lst (cu (k3) (a1.trans a2) (b1.trans b2)) S2 (h3.append h3')⟩
   ·exact k3.elim
  | lln ys=>
   obtain⟨p,vs,rfl,h2,h3⟩:=r1'
   obtain⟨p',vs',rfl,h2',h3'⟩:=r2
   rcases QF (k2) with⟨hc,k3⟩ | ⟨_,k3⟩
   ·exact⟨p,p',vs,vs',rfl,rfl,S2.sub.seq h2,S2.sub.seq h2',by rw[← h3.length, ← h3'.length];exact aI hc,
     KF.lst (cu (k3) (a1.trans a2) (b1.trans b2)) S2 (h3.append h3')⟩
   ·exact k3.elim
  | _=>exact k2.elim
 | _=>cases y<;>exact k2.elim
theorem Qty(ha:DF C a A)(hb:DB C b B):DF C (.BinOp a .Mult b pos) (e2 dRep A B):=by
 obtain⟨ta,p1,q1⟩:=ha
 obtain⟨tb,p2,q2⟩:=hb
 refine⟨_,pe_op Qx1 p1 p2,fun G H σ ς Q S q=>?_⟩
 unfold e2 at q
 rw[d9]at q
 refine q1 G H σ ς _ S (dA q fun x k p H1 G1 S1 a1 b1 hp hg ow=>?_)
 rw[d9]at k
 refine q2 G1 H1 σ ς _ S1 (dA k fun y k2 v2 H2 G2 S2 a2 b2 r2=>?_)
 cases x with
 | lst xs=>
  cases y with
  | int i=>
   cases r2
   obtain⟨vs,h2,h3⟩:=ow
   rcases QF (k2) with⟨hc,k3⟩ | ⟨_,k3⟩
   ·rw[aH,aH]at hc
    have h3':=cj b2 xs vs h3
    exact⟨p,i,vs,rfl,rfl,a2 _ _ h2,aI hc.1.1,aI hc.1.2,by rw[← h3'.length];exact aI hc.2,
     KF.lst (cu (k3) (a1.trans a2) (b1.trans b2)) S2 (h3'.rep i.toNat)⟩
   ·exact k3.elim
  | _=>exact k2.elim
 | _=>cases y<;>exact k2.elim
noncomputable def dList:D->Out D
 | .lst xs=>.ok (.lst xs)
 | .lln xs=>.ok (.lst xs)
 | .tup xs=>.ok (.lst xs)
 | _=>.stuck
theorem QbD(hg:Gl C.X "list")(hm:C.X.mg "list"=none)(ha:DE C a A)
 (he:starEach (a::[]) C.X.env=(false,eval a C.X.env)::starEach [] C.X.env:=by rfl):DF C (.Call (.Name "list" p) [a] [] pos) (e1 dList A):=by
 obtain⟨ta,p1,q1⟩:=ha
 refine⟨_,Qmi QoG hg hm PyProof.Rows.Boot.«list» (Q0 p1 QaL he) (by decide) (by decide) he rfl,fun G H σ ς Q S q=>?_⟩
 unfold e1 at q
 rw[d9]at q
 refine q1 G H σ ς _ S (dA q fun x k v1 H1 G1 S1 a1 b1 r1=>?_)
 cases x with
 | lst xs=>
  obtain⟨p,vs,rfl,h2,h3⟩:=r1
  exact⟨p,vs,rfl,.inl (S1.sub.seq h2),KF.lst (cu (k) a1 b1) S1 h3⟩
 | lln xs=>
  obtain⟨p,vs,rfl,h2,h3⟩:=r1
  exact⟨p,vs,rfl,.inl (S1.sub.seq h2),KF.lst (cu (show KF C G H σ ς Q (.lst xs) from k) a1 b1) S1 h3⟩
 | tup xs=>
  obtain⟨p,vs,rfl,h2,h3⟩:=r1
  exact⟨p,vs,rfl,.inr (Same.sqT S1.sub h2),KF.lst (cu (k) a1 b1) S1 h3⟩
 | _=>exact k.elim
end
section
noncomputable def fMin2:List D->Out D
 | [.int i,.int j]=>.ok (.int (if j<i then j else i))
 | _=>.stuck
noncomputable def fMax2:List D->Out D
 | [.int i,.int j]=>.ok (.int (if j > i then j else i))
 | _=>.stuck
theorem QtC(xs:List D):(∃ i j,xs=[D.int i,D.int j])∨(fMin2 xs=.stuck/\fMax2 xs=.stuck):=by
 match xs with
 | []=>exact .inr ⟨rfl,rfl⟩
 | [x]=>cases x<;>exact .inr ⟨rfl,rfl⟩
 | [x,y]=>
  cases x with
  | int i=>
   cases y with
   | int j=>exact .inl ⟨i,j,rfl⟩
   | _=>exact .inr ⟨rfl,rfl⟩
  | _=>exact .inr ⟨rfl,rfl⟩
 | x::y::z::r=>
  cases x with
  | int i=>cases y<;>exact .inr ⟨rfl,rfl⟩
  | _=>exact .inr ⟨rfl,rfl⟩
theorem Qwk(hc:C.X.calm=true)(hg:Gl C.X "min")(hm:C.X.mg "min"=none)(ha:DAB C (e::es) A)
 (he:starEach (e::es) C.X.env=(false,eval e C.X.env)::starEach es C.X.env:=by rfl) (hpl:(backTo pos (starEach es C.X.env)).any (·.1)=false:=by rfl):DE C (.Call (.Name "min" p) (e::es) [] pos) (eA fMin2 A):=by
 refine Qhg (Qto hc) ?_ ?_ hg hm PyProof.Rows.Boot.«min» ha (by decide) (by decide) he hpl
 ·intro G H σ ς Q xs vs S r q
  rcases QtC xs with⟨i,j,rfl⟩ | ⟨h,_⟩
  ·obtain⟨_,_,rfl,rfl,_,_,rfl,rfl,rfl⟩:=r
   exact⟨i,j,rfl,q.2⟩
  ·rw[h]at q;exact q.elim
 ·intro xs
  rcases QtC xs with⟨i,j,rfl⟩ | ⟨h,_⟩
  ·exact rfl
  ·rw[h];exact True.intro
noncomputable def dInt:D->Out D
 | .int i=>.ok (.int i)
 | .bl b=>.ok (.int (if b then 1 else 0))
 | _=>.stuck
theorem Qiy(hg:Gl C.X "int")(hm:C.X.mg "int"=none)(ha:DAB C (e::es) A)
 (he:starEach (e::es) C.X.env=(false,eval e C.X.env)::starEach es C.X.env:=by rfl) (hpl:(backTo pos (starEach es C.X.env)).any (·.1)=false:=by rfl):DE C (.Call (.Name "int" p) (e::es) [] pos) (eA (f1 dInt) A):=by
 refine Ql8 Qsx (Qj5 ?_) (QiC ?_) hg hm PyProof.Rows.Boot.«int» ha (by decide) (by decide) he hpl
 ·intro G H σ ς Q x v S r q
  cases x with
  | int i=>cases r;exact .inl ⟨i,rfl,q.2⟩
  | bl b=>cases r;exact .inr ⟨b,rfl,q.2⟩
  | _=>exact q.elim
 ·intro x
  cases x<;>first | exact rfl | exact True.intro
noncomputable def dStr:D->Out D
 | .int i=>if decide (i.natAbs.log2<1920)=true then .ok (.str (toString i)) else .stuck
 | _=>.stuck
theorem Qe8(hg:Gl C.X "str")(hm:C.X.mg "str"=none)(ha:DAB C (e::es) A)
 (he:starEach (e::es) C.X.env=(false,eval e C.X.env)::starEach es C.X.env:=by rfl) (hpl:(backTo pos (starEach es C.X.env)).any (·.1)=false:=by rfl):DE C (.Call (.Name "str" p) (e::es) [] pos) (eA (f1 dStr) A):=by
 refine Ql8 Qoq (Qj5 ?_) (QiC ?_) hg hm PyProof.Rows.Boot.«str» ha (by decide) (by decide) he hpl
 ·intro G H σ ς Q x v S r q
  cases x with
  | int i=>
   cases r
   rcases QF (q) with⟨hc,q⟩ | ⟨_,q⟩
   ·exact⟨i,rfl,aI hc,q.2⟩
   ·exact q.elim
  | _=>exact q.elim
 ·intro x
  cases x with
  | int i=>exact QdF rfl
  | _=>exact True.intro
end
def isaT(T:String):D->Out Bool
 | .ins _ _=>.stuck
 | .err _ _=>.stuck
 | .bl _=>.ok (T == "bool"||T == "int")
 | d=>.ok (Qaw d == T)
structure Kit(K:PySem.W.Frag)(T:String):Prop where
 h:∀ d:D,(match d with | .ins _ _=>True | .err _ _=>True | .bl _=>PySem.W.kitOne K (.type "bool") (.type T)=some (T == "bool"||T == "int") | d=>PySem.W.kitOne K (.type (Qaw d)) (.type T)=some (Qaw d == T))
section
theorem QaG(T:Str)(k:Kit C.X.K T')(hgT:Gl C.X T)(hmT:C.X.mg T=none)(hb:bootBuiltins T=some (.type T'))(hg:Gl C.X "isinstance")(hm:C.X.mg "isinstance"=none)(h:DB C e E)
 (hn:T≠"__name__":=by decide) (hdb:(T == ("__debug__":Str))=false:=by decide)
 (he:starEach (e::[.Name T pc]) C.X.env=(false,eval e C.X.env)::starEach [.Name T pc] C.X.env:=by rfl) (he2:starEach (.Name T pc::[]) C.X.env=(false,eval (.Name T pc) C.X.env)::starEach [] C.X.env:=by rfl)
 (hpl:(backTo pos (starEach [.Name T pc] C.X.env)).any (·.1)=false:=by rfl):DE C (.Call (.Name "isinstance" p) [e,.Name T pc] [] pos) (eIsa (isaT T') E):=by
 refine Qxp (vc:=.ty T') (Qwh hgT hmT hb rfl hn hdb) rfl (fun d=>?_) hg hm h he he2 hpl
 have:=k.h d
 cases d<;>first | exact True.intro | exact this
end
theorem Qh3{K:PySem.W.Frag}(h1:PySem.W.kitOne K (.type "NoneType") (.type T)=some ("NoneType" == T))(h2:PySem.W.kitOne K (.type "bool") (.type T)=some (T == "bool"||T == "int"))
 (h3:PySem.W.kitOne K (.type "int") (.type T)=some ("int" == T)) (h4:PySem.W.kitOne K (.type "str") (.type T)=some ("str" == T)) (h5:PySem.W.kitOne K (.type "list") (.type T)=some ("list" == T))
 (h6:PySem.W.kitOne K (.type "tuple") (.type T)=some ("tuple" == T)) (h7:PySem.W.kitOne K (.type "dict") (.type T)=some ("dict" == T)):Kit K T:=⟨fun d=>by
 cases d with
 | non=>exact h1
 | bl _=>exact h2
 | int _=>exact h3
 | str _=>exact h4
 | lst _=>exact h5
 | lln _=>exact h5
 | tup _=>exact h6
 | dic _=>exact h7
 | ins _ _=>exact True.intro
 | err _=>exact True.intro⟩
theorem QqW{K:PySem.W.Frag}:Kit K "int":=Qh3 (by rfl) (by rfl) (by rfl) (by rfl) (by rfl) (by rfl) (by rfl)
theorem Qjz{K:PySem.W.Frag}:Kit K "bool":=Qh3 (by rfl) (by rfl) (by rfl) (by rfl) (by rfl) (by rfl) (by rfl)
theorem Qrd{K:PySem.W.Frag}:Kit K "str":=Qh3 (by rfl) (by rfl) (by rfl) (by rfl) (by rfl) (by rfl) (by rfl)
theorem Qfv{K:PySem.W.Frag}:Kit K "list":=Qh3 (by rfl) (by rfl) (by rfl) (by rfl) (by rfl) (by rfl) (by rfl)
theorem Ql9{K:PySem.W.Frag}:Kit K "tuple":=Qh3 (by rfl) (by rfl) (by rfl) (by rfl) (by rfl) (by rfl) (by rfl)
def QaP(i:Nat)(E:SD->Out D):SD->Out Fl:=fun ς=>match ς[i]? with
 | some (some (.o,.lst xs))=>E ς>>=fun d=>if decide (xs.length<sizeLine)=true then .ok (.nx (ς.set i (some (.o,.lst (xs++[d]))))) else .stuck
 | _=>.stuck
section
theorem QdE{xs:List α}(h:xs[i]?=some x):xs.set i x=xs:=by
 obtain⟨hi,e⟩:=aU.mp h
 rw[← e];exact List.set_getElem_self hi
theorem StR.write(S:StR C G H σ ς){p:Addr}(hi:ς[i]?=some (some (.o,.lst xs)))(hp:σ[i]?=some (some (.ref p)))(hH:H p=some (.lst vs))(r:RepL C.X.K C.CT G ys ws):
 StR C G (upd H p (.lst ws)) σ (ς.set i (some (.o,.lst ys))):=by
 obtain⟨p',e1,hg,h0,ow⟩:=S.ow i _ hi
 rw[hp]at e1;cases e1
 have ne:∀ b o,G b=some o->b≠p:=fun b o e z=>by subst z;rw[hg]at e;cases e
 have S':StR C G (upd H p (.lst ws)) (σ.set i (some (.ref p))) (ς.set i (some (.o,.lst ys))):={
  sub:=fun b o e=>by rw[Qi (ne b o e)];exact S.sub b o e
  g0:=S.g0
  new:=S.new
  fr:=fun b o e m=>by
   rw[Qi (by rintro rfl;rw[h0]at e;cases e)];exact S.fr b o e m
  dom:=fun b e=>by
   by_cases hb:b=p
   ·subst hb;exact h0
   ·rw[Qi hb]at e;exact S.dom b e
  bs:=fun b o e=>by
   rw[Qi (by rintro rfl;rw[S.bh _ h0]at e;cases e)];exact S.bs b o e
  bh:=S.bh
  len:=by rw[ah,ah];exact S.len
  fz:=fun j d h=>by
   rcases Qr h with⟨rfl,h2,l⟩ | ⟨hne,h2⟩
   ·cases h2
   ·rw[Qj hne];exact S.fz j d h2
  ow:=fun j d h=>by
   rcases Qr h with⟨rfl,h2,l⟩ | ⟨hne,h2⟩
   ·cases h2
    exact⟨p,Qdy (by rw[S.len];exact l),hg,h0,⟨ws,Qq,r⟩⟩
   ·rw[Qj hne]
    obtain⟨q,a,b,c,w⟩:=S.ow j d h2
    have qp:q≠p:=by
     rintro rfl
     exact S.inj i j _ _ q hne hi h2 hp a
    exact⟨q,a,b,c,w.mono (cf G) fun o z=>by rw[Qi qp];exact z⟩
  ln:=fun j d h=>by
   rcases Qr h with⟨rfl,h2,l⟩ | ⟨hne,h2⟩
   ·cases h2
   ·rw[Qj hne];exact S.ln j d h2
  inj:=fun j k d1 d2 q hjk h1 h2 h3=>by
   have get:∀(j:Nat) d,(ς.set i (some (.o,D.lst ys)))[j]?=some (some (.o,d))->∃ d',ς[j]?=some (some (.o,d')):=fun j d h=>by
    rcases Qr h with⟨rfl,h2,l⟩ | ⟨hne,h2⟩
    ·exact⟨_,hi⟩
    ·exact⟨_,h2⟩
   obtain⟨d1',g1⟩:=get j d1 h1
   obtain⟨d2',g2⟩:=get k d2 h2
   rw[QdE hp]at h3 ⊢
   exact S.inj j k d1' d2' q hjk g1 g2 h3
  sf:=fun j d h=>by
   rcases Qr h with⟨rfl,h2,l⟩ | ⟨hne,h2⟩
   ·cases h2
   ·rw[Qj hne]
    obtain⟨q,a,b,c,m,z,w⟩:=S.sf j d h2
    have qp:q≠p:=by
     rintro rfl
     exact c h0
    exact⟨q,a,b,c,m,z,w.mono (cf G) fun o z=>by rw[Qi qp];exact z⟩
  su:=fun j k d1 d2 q hjk h1 h2 h3=>by
   rcases Qr h1 with⟨rfl,q1,l⟩ | ⟨n1,q1⟩
   ·cases q1
   ·rcases Qr h2 with⟨rfl,q2,l⟩ | ⟨n2,q2⟩
    ·cases q2
    ·rw[Qj n1]at h3
     rw[Qj n2];exact S.su j k d1 d2 q hjk q1 q2 h3 }
 rw[QdE hp]at S'
 exact S'
theorem QbO(i:Nat)(he:DE C e E)(hN:C.X.N[i]?=some x:=by rfl)(hv:Vis C.X.env.scope x:=by fail"V1")
 (hd:(x == ("__debug__":Str))=false:=by decide) (hcd:(x == ("__classdict__":Str))=false:=by decide)
 (hbase:attributeBase (.Name x p1) "append" C.X.env (eval (.Name x p1) C.X.env)=eval (.Name x p1) C.X.env:=by rfl)
 (hfew:((backTo p3 (starEach (e::[]) C.X.env)).all (fun x => !x.1)&&(backToKw p3 (keywordEach [] C.X.env)).all (fun x=>x.1.isSome)
  && decide ((e::[]).length+([]:List Keyword).length+(if ([]:List Keyword).isEmpty then 0 else 1)<30))=true:=by rfl)
 (hline:(p2.endLine == p3.line)=true:=by rfl) (hs:starEach (e::[]) C.X.env=(false,eval e C.X.env)::starEach [] C.X.env:=by rfl)
 (hsw:swapsWith (.Call (.Attribute (.Name x p1) "append" p2) [e] [] p3) none pos.line C.X.env=pure false:=by rfl):
 DS C (.Expr (.Call (.Attribute (.Name x p1) "append" p2) [e] [] p3) pos) (QaP i E):=by
 obtain⟨t,p,q⟩:=he
 refine⟨_,Qdv (pe_bm bQ cN cO Qfx (Qar hN hv hd hcd) (Q0 p QaL hs) hbase hfew hline hs rfl) hsw,fun G H σ ς W S k=>?_⟩
 unfold QaP at k
 split at k
 ·rename_i xs z
  obtain⟨pp,e1,hg,h0,ow⟩:=S.ow i _ z
  obtain⟨vs,hv1,hv2⟩:=ow
  rw[d9]at k
  refine⟨_,e1,.inl ⟨rfl,vs,cb hv1⟩,q G H σ ς _ S (dA k fun d k2 v H1 G1 S1 a1 b1 r1=>?_)⟩
  rcases QF k2 with⟨hc,k3⟩ | ⟨_,k3⟩
  ·have hl:=hv2.length
   refine⟨pp,vs,v,rfl,rfl,a1 _ _ hv1,by rw[← hl];exact aI hc,?_⟩
   exact k3 σ _ G1 (S1.write z e1 (a1 _ _ hv1) ((cj b1 xs vs hv2).append (RepL.one r1))) b1
  ·exact k3.elim
 ·exact k.elim
end
end DL
namespace DL
open PySem PySem.Spec PyProof.Rows L2
structure DIt(K:PySem.W.Frag)(CT:CTab)(G1:Hp)(J:It)(ds:List D):Prop where
 go:∀ G H (i:Nat) d,Same G1 G->Same G H->ds[i]?=some d->J.go i H/\∀ x H',J.yld i H x H'->∃ G',Same G G'/\Same H H'/\Same G' H'/\(∀ b,G b=none->G' b≠none->H b=none)/\Rep K CT G' d x
 stop:∀ G H,Same G1 G->Same G H->J.stop ds.length H
structure DItB(K:PySem.W.Frag)(CT:CTab)(B1 G1:Hp)(J:It)(ds:List D):Prop where
 go:∀ G H (i:Nat) d,Same G1 G->Same G H->Same B1 H->ds[i]?=some d->J.go i H/\∀ x H',J.yld i H x H'->∃ G',Same G G'/\Same H H'/\Same G' H'/\(∀ b,G b=none->G' b≠none->H b=none)/\Rep K CT G' d x
 stop:∀ G H,Same G1 G->Same G H->Same B1 H->J.stop ds.length H
theorem DIt.b{K:PySem.W.Frag}{CT:CTab}{B1 G1:Hp}{J:It}{ds:List D}(h:DIt K CT G1 J ds):DItB K CT B1 G1 J ds:=⟨fun G H i d a b _ e=>h.go G H i d a b e,fun G H a b _=>h.stop G H a b⟩
def DIB(C:Dc)(tg iter:Expr)(its:SD->Out (List D)):Prop:=∃ wi,PI C.X tg iter wi/\∀ G H σ ς (R:It->Hp->Prop),StR C G H σ ς->
 (its ς).post (fun ds=>∀ J H1 G1,StR C G1 H1 σ ς->Same H H1->Same G G1->DItB C.X.K C.CT H1 G1 J ds->R J H1) C.XD->wi σ H R
def DI(C:Dc)(tg iter:Expr)(its:SD->Out (List D)):Prop:=∃ wi,PI C.X tg iter wi/\∀ G H σ ς (R:It->Hp->Prop),StR C G H σ ς->
 (its ς).post (fun ds=>∀ J H1 G1,StR C G1 H1 σ ς->Same H H1->Same G G1->DIt C.X.K C.CT G1 J ds->R J H1) C.XD->wi σ H R
section
theorem DI.b(h:DI C tg iter its):DIB C tg iter its:=by
 obtain⟨wi,p,q⟩:=h
 exact⟨wi,p,fun G H σ ς R S k=>q G H σ ς R S (dA k fun ds kd J H1 G1 S1 a b dit=>kd J H1 G1 S1 a b dit.b)⟩
abbrev cy:=@DI.b
theorem QnH{K:PySem.W.Frag}(h:SqL K G1 a vs)(r:RepL K CT G1 ds vs):DIt K CT G1 (Itl K a) ds where
 go:=fun G H i d s1 sH hd=>by
  obtain⟨v,hv,rv⟩:=r.get hd
  have hq:=sH.seq (s1.seq h)
  refine⟨⟨vs,v,hq,hv⟩,fun x H' ⟨e,y⟩=>?_⟩
  have ex:=y vs hq
  rw[hv]at ex;cases ex
  subst e
  exact⟨G,cf _,cf _,sH,fun b g n=>absurd g n,cg s1 d v rv⟩
 stop:=fun G H s1 sH=>⟨vs,sH.seq (s1.seq h),by rw[r.length];exact aP _⟩
theorem QsE{K:PySem.W.Frag}{lo:Int}:DIt K CT G1 (Itr lo n) (Qa4 lo n) where
 go:=fun G H i d s1 sH hd=>by
  have hi:i<n:=by
   have:=(aU.mp hd).1
   rw[QjY]at this;exact this
  rw[QrH hi]at hd;cases hd
  exact⟨hi,fun x H' ⟨e,y⟩=>by
   subst e y
   exact⟨G,cf _,cf _,sH,fun b g n=>absurd g n,rfl⟩⟩
 stop:=fun G H s1 sH=>by rw[QjY];exact aP _
theorem QL(h:DE C iter E):DI C tg iter (itL E):=by
 obtain⟨t,p,q⟩:=h
 refine⟨_,Qiw p,fun G H σ ς R S k=>?_⟩
 unfold itL at k
 rw[d9]at k
 refine q G H σ ς _ S (dA k fun d k v H1 G1 S1 a1 b1 r1=>?_)
 cases d with
 | lst xs=>
  obtain⟨a,vs,rfl,h2,h3⟩:=r1
  exact⟨a,rfl,⟨vs,S1.sub.seq h2⟩,k _ H1 G1 S1 a1 b1 (QnH h2 h3)⟩
 | lln xs=>
  obtain⟨a,vs,rfl,h2,h3⟩:=r1
  exact⟨a,rfl,⟨vs,S1.sub.seq h2⟩,k _ H1 G1 S1 a1 b1 (QnH h2 h3)⟩
 | _=>exact k.elim
theorem Qaj(hgl:Gl C.X "range")(hm:C.X.mg "range"=none)(ha:DB C a A)
 (hst:starEach [a] C.X.env=(false,eval a C.X.env)::starEach [] C.X.env:=by rfl):DI C tg (.Call (.Name "range" p1) [a] [] p2) (itR1 A):=by
 obtain⟨t,p,q⟩:=ha
 refine⟨_,QtG hgl hm (Q0 p QaL hst) hst,fun G H σ ς R S k=>?_⟩
 unfold itR1 at k
 rw[d9]at k
 refine q G H σ ς _ S (dA k fun d k v H1 G1 S1 a1 b1 r=>?_)
 cases d with
 | int n=>
  cases r
  rcases QF k with⟨hc,k⟩ | ⟨_,k⟩
  ·obtain⟨c1,c2⟩:=Qso hc
   exact⟨n,rfl,c1,c2,k _ H1 G1 S1 a1 b1 QsE⟩
  ·exact k.elim
 | _=>exact k.elim
theorem Qbl(hp:PassesOwn (model C.X.prog C.X.w) C.X.A C.X.env C.X.xe)(hc:C.X.calm=true)(hi:DI C tg iter its)(hg:DG C tg g)(hne:noExc g)(hb:DSs C body T)
 (hs:∀ x,foldedSetIterable iter C.X.env x=pure x:=by fail"V3"):DS C (.For tg iter body [] pos) (sFor g its T):=by
 obtain⟨t0,p0,q0⟩:=hi
 obtain⟨t1,p1,q1⟩:=hg
 obtain⟨t2,p2,q2⟩:=hb
 refine⟨_,QjW hp hc p0 p1 p2 hs,fun G H σ ς W S k=>?_⟩
 unfold sFor at k
 rw[d9]at k
 refine q0 G H σ ς _ S (dA k fun xs k J H1 G1 S1 a1 b1 dit=>?_)
 refine⟨fun i m σ' H'=>m=xs.length - i/\i<=xs.length/\∃ G' ς',StR C G' H' σ' ς'/\Same G1 G'/\(loopD (fun x ς=>g x ς>>=fun ς'=>T ς') (xs.drop i) ς').post (FlK C G' W) C.XD,
  ⟨xs.length,by simp,av _,G1,ς,S1,cf _,dA (by simpa using k) fun f k=>cw k b1⟩,?_⟩
 rintro i m σ' H' ⟨rfl,hle,G',ς',S',s',q'⟩
 by_cases hlt:i<xs.length
 ·have hd:xs[i]?=some xs[i]:=by simp[hlt]
  obtain⟨hgo,hy⟩:=dit.go G' H' i _ s' S'.sub hd
  refine .inr ⟨hgo,fun σ2 H2=>∃ G2 ς2,StR C G2 H2 σ2 ς2/\Same G1 G2/\(loopD (fun x ς=>g x ς>>=fun ς'=>T ς') (xs.drop (i+1)) ς2).post (FlK C G2 W) C.XD,
   fun σ2 H2 h2=>⟨xs.length - (i+1),by lia,rfl,hlt,h2⟩,fun x H'' y=>?_⟩
  obtain⟨G'',g1,h1,s1,n1,r⟩:=hy x H'' y
  rw[Qh1 hd]at q'
  exact turnD hne q1 q2 (S'.grow h1 g1 s1 n1) r (dA q' fun f k=>cw k g1) fun σ2 H2 G2 ς2 S2 s2 q2=>⟨G2,ς2,S2,(s'.trans g1).trans s2,q2⟩
 ·have e:i=xs.length:=by lia
  subst e
  rw[cX]at q'
  exact .inl ⟨dit.stop G' H' s' S'.sub,q' σ' H' G' S' (cf _)⟩
end
def compM(f:D->Out (Option D)):List D->Out (List D)
 | []=>.ok []
 | x::xs=>f x>>=fun o=>compM f xs>>=fun ys=>.ok (o.toList++ys)
noncomputable def captS(ς:SD)(j:Nat):Option (SM×D):=match ς[j]? with
 | some (some (.k,d))=>some (.k,d)
 | some (some (_,d))=>some (.l,d)
 | _=>none
def captD(js:List (Option Nat))(ς:SD):SD:=js.map fun j=>j.bind (captS ς)
def turnC(js:List (Option Nat))(g:D->SD->Out SD)(c:SD->Out Bool)(e:SD->Out D)(ς:SD)(x:D):Out (Option D):=
 g x (captD js ς)>>=fun τ=>c τ>>=fun b=>if b=true then e τ>>=fun y=>.ok (some y) else .ok none
def eComp(js:List (Option Nat))(its:SD->Out (List D))(g:D->SD->Out SD)(c:SD->Out Bool)(e:SD->Out D):SD->Out D:=fun ς=>
 its ς>>=fun xs=>compM (turnC js g c e ς) xs>>=fun ys=>if fits ys.length=true then .ok (.lst ys) else .stuck
def DIf(C:Dc)(ifs:List Expr)(T:SD->Out Bool):Prop:=∃ t,PIf C.X ifs t/\∀ G H σ ς Q,StR C G H σ ς->(T ς).post (KT C G H σ ς Q) C.XD->t σ H Q
noncomputable def cTrue:SD->Out Bool:=fun _=>.ok true
theorem QB:DIf C [] cTrue:=⟨_,Qq8,fun G H σ ς Q S q=>KT.now q S⟩
def gKeep(g:D->SD->Out SD)(τ0:SD):Prop:=∀ x τ,g x τ0=.ok τ->τ.length=τ0.length/\∀(i:Nat) md,τ0[i]?=some (some md)->τ[i]?=some (some md)
theorem QA(h:τ0[i]?=some none):gKeep (gN i) τ0:=by
 intro x τ e
 cases e
 refine⟨ah ..,fun j md hj=>?_⟩
 rw[Qj (by rintro rfl;rw[h]at hj;cases hj)];exact hj
theorem Qqx:∀(is:List Nat)(ds:List D)(τ0 τ:SD),(∀ i∈is,∀ md,τ0[i]?=some (some md)->False)->Q6 is ds τ0=.ok τ->τ.length=τ0.length/\∀(i:Nat) md,τ0[i]?=some (some md)->τ[i]?=some (some md)
 | [],[],τ0,τ,_,e=>by cases e;exact⟨rfl,fun _ _ h=>h⟩
 | i::is,d::ds,τ0,τ,h,e=>by
  have e':=e
  have go:∀ is ds τ1 τ,τ1.length=τ0.length->(∀ i∈is,∀ md,τ0[i]?=some (some md)->False)->(∀(i:Nat) md,τ0[i]?=some (some md)->τ1[i]?=some (some md))->Q6 is ds τ1=.ok τ->
   τ.length=τ0.length/\∀(i:Nat) md,τ0[i]?=some (some md)->τ[i]?=some (some md):=by
   intro is
   induction is with
   | nil=>intro ds τ1 τ hl _ hk e;cases ds with
    | nil=>cases e;exact⟨hl,hk⟩
    | cons _ _=>cases e
   | cons i is ih=>intro ds τ1 τ hl hn hk e;cases ds with
    | nil=>cases e
    | cons d ds=>
     refine ih ds _ τ (by rw[ah];exact hl) (fun j hj=>hn j (aE _ hj)) (fun j md hj=>?_) e
     rw[Qj (by rintro rfl;exact hn _ aL md hj)];exact hk j md hj
  refine go is ds _ τ (ah ..) (fun j hj=>h j (aE _ hj)) (fun j md hj=>?_) e'
  rw[Qj (by rintro rfl;exact h _ aL md hj)];exact hj
 | [],_::_,_,_,_,e=>by cases e
 | _::_,[],_,_,_,e=>by cases e
theorem Qov(h:∀ i∈is,τ0[i]?=some none):gKeep (gT is) τ0:=by
 intro x τ e
 cases x with
 | tup ds=>exact Qqx is ds τ0 τ (fun i hi md z=>by rw[h i hi]at z;cases z) e
 | _=>cases e
theorem Qp{i:Nat}(h:js[i]?=some none)(ς:SD):(captD js ς)[i]?=some none:=by
 unfold captD
 rw[aM,h];rfl
section
theorem StR.weak(S:StR C G H σ ς')(hl:ς'.length=ς.length)(h:∀(i:Nat) md,ς[i]?=some (some md)->ς'[i]?=some (some md)):StR C G H σ ς:=
 { S with len:=by rw[S.len,hl],fz:=fun i d e=>S.fz i d (h i _ e),ow:=fun i d e=>S.ow i d (h i _ e),ln:=fun i d e=>S.ln i d (h i _ e),inj:=fun i j d e p n h1 h2=>S.inj i j d e p n (h i _ h1) (h j _ h2),sf:=fun i d e=>S.sf i d (h i _ e),su:=fun i j d e p n h1 h2=>S.su i j d e p n (h i _ h1) (h j _ h2) }
theorem StR.updM(S:StR C G H σ ς)(hM:C.M p)(h0:C.H0 p≠none)(hno:∀(i:Nat) d,ς[i]?≠some (some (.s,d)))(hB:C.B p=none)(hg:G p=none):StR C G (upd H p o) σ ς where
 sub:=fun b u e=>by rw[Qi (by rintro rfl;rw[hg]at e;cases e)];exact S.sub b u e
 g0:=S.g0
 new:=S.new
 fr:=fun b u e m=>by rw[Qi (by rintro rfl;exact m hM)];exact S.fr b u e m
 dom:=fun b e=>by
  by_cases hb:b=p
  ·subst hb;rw[Qq]at e;cases e
  ·rw[Qi hb]at e;exact S.dom b e
 bs:=fun b u e=>by rw[Qi (by rintro rfl;rw[hB]at e;cases e)];exact S.bs b u e
 bh:=S.bh
 len:=S.len
 fz:=S.fz
 ow:=fun i d e=>by
  obtain⟨q,a,b,c,w⟩:=S.ow i d e
  exact⟨q,a,b,c,w.mono (cf G) fun u z=>by rw[Qi (by rintro rfl;exact h0 c)];exact z⟩
 ln:=S.ln
 inj:=S.inj
 sf:=fun i d e=>absurd e (hno i d)
 su:=S.su
abbrev ccOf(C:Dc)(N':List Str)(scope:Scope)(fp:List Addr)(s:Shared)(H1 G1:Hp)(p:Addr):Dc:=
 { X:=cxC C.X N' scope fp s (upd H1 p (.lst [])),CT:=C.CT,G0:=G1,XD:=fun _=>False,B:=H1,M:=fun b=>b=p }
theorem Qeg{i:Nat}(h:(captD js ς)[i]?=some (some md)):∃ j,js[i]?=some (some j)/\captS ς j=some md:=by
 unfold captD at h
 rw[aM]at h
 cases e:js[i]? with
 | none=>rw[e]at h;cases h
 | some o=>
  rw[e]at h
  cases o with
  | none=>cases h
  | some j=>exact⟨j,rfl,ai h⟩
theorem Qhj{i j:Nat}(h:js[i]?=some (some j))(hv:σ[j]?=some (some v)):(capt js σ)[i]?=some (some v):=by
 unfold capt
 rw[aM,h]
 show some ((σ[j]?).join)=_
 rw[hv];rfl
theorem Qcf(h:captS ς j=some (m,d)):(m=.k/\ς[j]?=some (some (.k,d)))∨(m=.l/\(ς[j]?=some (some (.o,d))∨ς[j]?=some (some (.l,d))∨ς[j]?=some (some (.s,d)))):=by
 unfold captS at h
 split at h
 ·rename_i d' e;cases h;exact .inl ⟨rfl,e⟩
 ·rename_i m' d' hne e
  cases h
  cases m' with
  | k=>exact(hne rfl).elim
  | o=>exact .inr ⟨rfl,.inl e⟩
  | l=>exact .inr ⟨rfl,.inr (.inl e)⟩
  | s=>exact .inr ⟨rfl,.inr (.inr e)⟩
 ·cases h
theorem Qha{i:Nat}(h:(captD js ς)[i]?=some (some (.s,d))):False:=by
 obtain⟨j,h1,h2⟩:=Qeg h
 rcases Qcf h2 with⟨h3,_⟩ | ⟨h3,_⟩<;>cases h3
theorem StR.comp{s:Shared}(S:StR C G H σ ς)(hp:H p=none):StR (ccOf C N' scope fp s H G p) G (upd H p (.lst [])) (capt js σ) (captD js ς) where
 sub:=S.sub.trans (Qt hp)
 g0:=cf _
 new:=fun b h1 h2=>absurd h1 h2
 fr:=fun b o e _=>e
 dom:=fun b e=>e
 bs:=Qt hp
 bh:=fun b e=>by
  have e':upd H p (.lst []) b=none:=e
  by_cases hb:b=p
  ·subst hb;exact hp
  ·rw[Qi hb]at e';exact e'
 len:=by unfold capt captD;rw[aC,aC]
 fz:=fun i d e=>by
  obtain⟨j,h1,h2⟩:=Qeg e
  rcases Qcf h2 with⟨_,h3⟩ | ⟨h3,_⟩
  ·obtain⟨v,a,b⟩:=S.fz j d h3
   exact⟨v,Qhj h1 a,b⟩
  ·cases h3
 ow:=fun i d e=>by
  obtain⟨j,h1,h2⟩:=Qeg e
  rcases Qcf h2 with⟨h3,_⟩ | ⟨h3,_⟩<;>cases h3
 ln:=fun i d e=>by
  obtain⟨j,h1,h2⟩:=Qeg e
  rcases Qcf h2 with⟨h3,_⟩ | ⟨_,h3 | h3 | h3⟩
  ·cases h3
  ·obtain⟨q,a,_,_,w⟩:=S.ow j d h3
   exact⟨_,Qhj h1 a,w.rep S.sub,fun _ h=>nomatch h⟩
  ·obtain⟨v,a,b,_⟩:=S.ln j d h3
   exact⟨v,Qhj h1 a,cg S.bs d v b,fun _ h=>nomatch h⟩
  ·obtain⟨q,a,_,_,_,_,w⟩:=S.sf j d h3
   exact⟨_,Qhj h1 a,w.rep S.sub,fun _ h=>nomatch h⟩
 inj:=fun i j d e q _ h=>by
  obtain⟨j,h1,h2⟩:=Qeg h
  rcases Qcf h2 with⟨h3,_⟩ | ⟨h3,_⟩<;>cases h3
 sf:=fun i d e=>(Qha e).elim
 su:=fun i j d e p _ h=>(Qha h).elim
theorem Qvf{fp:List Addr}(S:StR C G H σ ς)(hp:H p=none)(dit:DItB C.X.K C.CT H G J xs)(hx:∀ x,¬ C.XD x)(hk:gKeep g (captD js ς))(hne:noExc g)
 (hin:DG (ccOf C N' scope fp s H G p) tg g/\DIf (ccOf C N' scope fp s H G p) ifs c/\DE (ccOf C N' scope fp s H G p) elt e)
 (q:(compM (turnC js g c e ς) xs>>=fun ys=>if fits ys.length=true then Out.ok (D.lst ys) else .stuck).post (fun d=>∀ H' G',StR C G' H' σ ς->Same H H'->Same G G'->G' p=none->Own C.X.K C.CT G' H' p d->Q (.ref p) H') C.XD):
 CompW (cxC C.X N' scope fp s (upd H p (.lst []))) js tg elt ifs σ H J p Q:=by
 obtain⟨⟨tt,pg,hg⟩,⟨tcc,pif,hcI⟩,⟨te,pe,he⟩⟩:=hin
 generalize hτ:captD js ς=τ0 at hk
 have S0:StR (ccOf C N' scope fp s H G p) G (upd H p (.lst [])) (capt js σ) τ0:=by rw[← hτ];exact S.comp hp
 refine⟨fun i m τ H'=>m=xs.length - i/\i<=xs.length/\∃ G' acc vs,StR (ccOf C N' scope fp s H G p) G' H' τ τ0/\H' p=some (.lst vs)/\RepL C.X.K C.CT G' acc vs/\G' p=none/\
  (compM (turnC js g c e ς) (xs.drop i)).post (fun ys=>(if fits (acc++ys).length=true then Out.ok (D.lst (acc++ys)) else .stuck).post (fun d=>∀ H' G',StR C G' H' σ ς->Same H H'->Same G G'->G' p=none->Own C.X.K C.CT G' H' p d->Q (.ref p) H') C.XD) C.XD,
  ⟨xs.length,by simp,av _,G,[],[],S0,Qq,rfl,S.sub.free hp,by rw[d9]at q;simpa using q⟩,?_⟩
 rintro i m τ H' ⟨rfl,hle,G',acc,vs,S',hp',r',hg',q'⟩
 have hH0:(ccOf C N' scope fp s H G p).H0 p≠none:=by
  show upd H p (.lst []) p≠none
  rw[Qq];simp
 by_cases hlt:i<xs.length
 ·have hd:xs[i]?=some xs[i]:=by simp[hlt]
  obtain⟨hgo,hy⟩:=dit.go G' H' i _ S'.g0 S'.sub S'.bs hd
  refine .inr ⟨hgo,fun τ2 H2=>i+1<=xs.length/\∃ G' acc vs,StR (ccOf C N' scope fp s H G p) G' H2 τ2 τ0/\H2 p=some (.lst vs)/\RepL C.X.K C.CT G' acc vs/\G' p=none/\
   (compM (turnC js g c e ς) (xs.drop (i+1))).post (fun ys=>(if fits (acc++ys).length=true then Out.ok (D.lst (acc++ys)) else .stuck).post (fun d=>∀ H' G',StR C G' H' σ ς->Same H H'->Same G G'->G' p=none->Own C.X.K C.CT G' H' p d->Q (.ref p) H') C.XD) C.XD,
   fun τ2 H2 h2=>⟨xs.length - (i+1),by lia,rfl,h2⟩,fun x H'' y=>?_⟩
  obtain⟨G'',g1,h1,s1,n1,r⟩:=hy x H'' y
  have S'':=S'.grow h1 g1 s1 n1
  rw[Qh1 hd,compM,d9]at q'
  have tu:turnC js g c e ς xs[i]=(g xs[i] τ0>>=fun τ=>c τ>>=fun b=>if b=true then e τ>>=fun y=>Out.ok (some y) else Out.ok none):=by unfold turnC;rw[hτ]
  rw[tu,d9]at q'
  cases z:g xs[i] τ0 with
  | exc w=>exact absurd z (hne _ _ _)
  | stuck=>rw[z]at q';exact q'.elim
  | ok τ1=>
   rw[z]at q'
   obtain⟨hl1,hk1⟩:=hk _ _ z
   refine⟨tt,pg,hg G'' H'' τ τ0 xs[i] x τ1 _ S'' r z fun τ2 S2=>?_⟩
   have q2:(c τ1>>=fun b=>if b=true then e τ1>>=fun y=>Out.ok (some y) else Out.ok none).post _ _:=q'
   rw[d9]at q2
   have q3:(c τ1).post (fun b=>(if b=true then e τ1>>=fun y=>Out.ok (some y) else Out.ok none).post (fun o=>(compM (turnC js g c e ς) (xs.drop (i+1))>>=fun ys=>Out.ok (o.toList++ys)).post (fun ys=>(if fits (acc++ys).length=true then Out.ok (D.lst (acc++ys)) else .stuck).post (fun d=>∀ H' G',StR C G' H' σ ς->Same H H'->Same G G'->G' p=none->Own C.X.K C.CT G' H' p d->Q (.ref p) H') C.XD) C.XD) C.XD) (fun _=>False):=by
    cases w:c τ1 with
    | ok b=>rw[w]at q2;exact q2
    | exc w'=>rw[w]at q2;exact absurd q2 (hx _)
    | stuck=>rw[w]at q2;exact q2.elim
   refine⟨tcc,pif,hcI G'' H'' τ2 τ1 _ S2 (dA q3 fun b kb H3 G3 S3 a3 b3=>?_)⟩
   have hp3:=a3 _ _ (h1 _ _ hp')
   have hg3:G3 p=none:=by
    cases z3:G3 p with
    | none=>rfl
    | some o=>
     have e3:=S.sub.free hp
     exact absurd (S3.new p e3 (by rw[z3];simp)) hH0
   cases b with
   | false=>
    refine iteF ⟨hlt,G3,acc,vs,S3.weak (by rw[hl1]) hk1,hp3,cj (g1.trans b3) acc vs r',hg3,?_⟩
    have kb':(compM (turnC js g c e ς) (xs.drop (i+1))>>=fun ys=>Out.ok ((none:Option D).toList++ys)).post (fun ys=>(if fits (acc++ys).length=true then Out.ok (D.lst (acc++ys)) else .stuck).post (fun d=>∀ H' G',StR C G' H' σ ς->Same H H'->Same G G'->G' p=none->Own C.X.K C.CT G' H' p d->Q (.ref p) H') C.XD) C.XD:=kb
    rw[d9]at kb'
    exact dA kb' fun ys k=>k
   | true=>
    have kb:(e τ1>>=fun y=>Out.ok (some y)).post (fun o=>(compM (turnC js g c e ς) (xs.drop (i+1))>>=fun ys=>Out.ok (o.toList++ys)).post (fun ys=>(if fits (acc++ys).length=true then Out.ok (D.lst (acc++ys)) else .stuck).post (fun d=>∀ H' G',StR C G' H' σ ς->Same H H'->Same G G'->G' p=none->Own C.X.K C.CT G' H' p d->Q (.ref p) H') C.XD) C.XD) C.XD:=kb
    rw[d9]at kb
    have kb2:(e τ1).post (fun y=>(compM (turnC js g c e ς) (xs.drop (i+1))>>=fun ys=>Out.ok ((some y).toList++ys)).post (fun ys=>(if fits (acc++ys).length=true then Out.ok (D.lst (acc++ys)) else .stuck).post (fun d=>∀ H' G',StR C G' H' σ ς->Same H H'->Same G G'->G' p=none->Own C.X.K C.CT G' H' p d->Q (.ref p) H') C.XD) C.XD) (fun _=>False):=by
     cases w:e τ1 with
     | ok b=>rw[w]at kb;exact kb
     | exc w'=>rw[w]at kb;exact absurd kb (hx _)
     | stuck=>rw[w]at kb;exact kb.elim
    refine iteT ⟨te,pe,he G3 H3 τ2 τ1 _ S3 (dA kb2 fun y ky v4 H4 G4 S4 a4 b4 r4=>?_)⟩
    rw[d9]at ky
    have hp4:=a4 _ _ hp3
    have hg4:G4 p=none:=by
     cases z3:G4 p with
     | none=>rfl
     | some o=>
      have e3:=S.sub.free hp
      exact absurd (S4.new p e3 (by rw[z3];simp)) hH0
    have rr:=cj ((g1.trans b3).trans b4) acc vs r'
    refine⟨vs,hp4,?_,hlt,G4,acc++[y],vs++[v4],?_,Qq,rr.append (RepL.one r4),hg4,?_⟩
    ·cases w:compM (turnC js g c e ς) (xs.drop (i+1)) with
     | stuck=>rw[w]at ky;exact ky.elim
     | exc w'=>rw[w]at ky;exact absurd ky (hx _)
     | ok ys=>
      rw[w]at ky
      rcases QF (ky) with⟨hc,_⟩ | ⟨_,k⟩
      ·have hc':=aI hc
       rw[ae,ae]at hc'
       have:(some y:Option D).toList.length=1:=rfl
       have hl:=r'.length
       lia
      ·exact k.elim
    ·exact(S4.weak (by rw[hl1]) hk1).updM rfl hH0 (fun i d z=>by rw[← hτ]at z;exact Qha z) hp hg4
    ·exact dA ky fun ys k=>by
      have e5:acc++[y]++ys=acc++((some y).toList++ys):=by simp
      rw[e5];exact k
 ·have ei:i=xs.length:=by lia
  subst ei
  rw[cX]at q'
  refine .inl ⟨dit.stop G' H' S'.g0 S'.sub S'.bs,?_⟩
  have q2:=q'
  rcases QF q2 with⟨_,k⟩ | ⟨_,k⟩
  ·rw[aj]at k
   have hHH:=fun b o eb=>S'.fr b o (by
    show upd H p (.lst []) b=some o
    rw[Qi (QH eb hp)];exact eb) (QH eb hp)
   have SG:=S.grow hHH S'.g0 S'.sub fun b h1 h2=>by
    have:=S'.new b h1 h2
    have this:upd H p (.lst []) b=none:=this
    by_cases hb:b=p
    ·subst hb;exact hp
    ·rw[Qi hb]at this;exact this
   exact k H' G' SG hHH S'.g0 hg' ⟨vs,hp',r'⟩
  ·exact k.elim
theorem compT(hi:∃ wi,PI C.X tg iter wi/\∀ G H σ ς (R:It->Hp->Prop),StR C G H σ ς->(its ς).post (fun ds=>∀ J H1 G1,StR C G1 H1 σ ς->Same H H1->Same G G1->DItB C.X.K C.CT H1 G1 J ds->R J H1) C.XD->wi σ H R)
 (hx:∀ x,¬ C.XD x) (hk:∀ ς,gKeep g (captD js ς)) (hne:noExc g)
 (hin:∀ fp s H G p,DG (ccOf C N' scope fp s H G p) tg g/\DIf (ccOf C N' scope fp s H G p) ifs c/\DE (ccOf C N' scope fp s H G p) elt e):
 ∃ wi,PI C.X tg iter wi/\∀ G H σ ς Q,StR C G H σ ς->(eComp js its g c e ς).post (KF C G H σ ς Q) C.XD->tComp C.X N' js scope tg elt ifs wi σ H Q:=by
 obtain⟨wi,pi,hq⟩:=hi
 refine⟨wi,pi,fun G H σ ς Q S k=>?_⟩
 unfold eComp at k
 rw[d9]at k
 refine hq G H σ ς _ S (dA k fun xs k J H1 G1 S1 a1 b1 dit p hp fp s=>?_)
 refine Qvf S1 hp dit hx (hk ς) hne (hin fp s H1 G1 p) (dA k fun d kd H' G' S' h1 g1 hg ow=>?_)
 exact kd p H' G' S' (a1.trans h1) (b1.trans g1) (a1.free hp) hg ow
theorem QM(hc:C.X.calm=true)(S:Qz N' js scope C.X.env.scope C.X.N)(hi:DIB C tg iter its)(hk:∀ ς,gKeep g (captD js ς))(hne:noExc g)
 (hin:∀ fp s H G p,DG (ccOf C N' scope fp s H G p) tg g/\DIf (ccOf C N' scope fp s H G p) ifs c/\DE (ccOf C N' scope fp s H G p) elt e)
 (hx:∀ x,¬ C.XD x:=by fail"V5") (hs:∀ x,foldedSetIterable iter C.X.env x=pure x:=by fail"V3"):DF C (.ListComp elt [⟨tg,iter,ifs,0⟩] scope pos) (eComp js its g c e):=by
 obtain⟨wi,pi,h⟩:=compT hi hx hk hne hin
 exact⟨_,Qwc hc S pi hs,h⟩
theorem QiA(hc:C.X.calm=true)(S:Qz N' js scope C.X.env.scope C.X.N)(hi:DIB C tg iter its)(hk:∀ ς,gKeep g (captD js ς))(hne:noExc g)
 (hin:∀ fp s H G p,DG (ccOf C N' scope fp s H G p) tg g/\DIf (ccOf C N' scope fp s H G p) ifs c/\DE (ccOf C N' scope fp s H G p) elt e)
 (hN:C.X.N.Nodup) (hxN:C.X.N[i]?=some x) (hl:Loc C.X.env.scope x)
 (hsw:swapsWith (.ListComp elt [⟨tg,iter,ifs,0⟩] scope pos) (some (.Name x px)) spos.line C.X.env=pure true:=by rfl)
 (hf:C.X.fn x=true∨C.X.env.scope.names.lookup x=some .local:=by fail"V2")
 (hx:∀ x,¬ C.XD x:=by fail"V5") (hs:∀ x,foldedSetIterable iter C.X.env x=pure x:=by fail"V3"):DS C (.Assign [.Name x px] (.ListComp elt [⟨tg,iter,ifs,0⟩] scope pos) spos) (sSet i (eComp js its g c e)):=by
 obtain⟨wi,pi,h⟩:=compT hi hx hk hne hin
 refine⟨_,Qlx hc S pi hN hxN hl hsw hf hs,fun G H σ ς W S k=>?_⟩
 unfold sSet at k
 rw[d9]at k
 exact h G H σ ς _ S (dA k fun d k=>KD.ofF S fun v H1 G1 S1 a1 b1 r1=>k _ H1 G1 (S1.set i r1) b1)
theorem Qok(hc:C.X.calm=true)(S:Qz N' js scope C.X.env.scope C.X.N)(hi:DIB C tg iter its)(hk:∀ ς,gKeep g (captD js ς))(hne:noExc g)
 (hin:∀ fp s H G p,DG (ccOf C N' scope fp s H G p) tg g/\DIf (ccOf C N' scope fp s H G p) ifs c/\DE (ccOf C N' scope fp s H G p) elt e)
 (hN:C.X.N.Nodup) (hxN:C.X.N[i]?=some x) (hl:Loc C.X.env.scope x)
 (hsw:swapsWith (.ListComp elt [⟨tg,iter,ifs,0⟩] scope pos) (some (.Name x px)) spos.line C.X.env=pure true:=by rfl)
 (hf:C.X.fn x=true∨C.X.env.scope.names.lookup x=some .local:=by fail"V2")
 (hx:∀ x,¬ C.XD x:=by fail"V5") (hs:∀ x,foldedSetIterable iter C.X.env x=pure x:=by fail"V3"):DS C (.Assign [.Name x px] (.ListComp elt [⟨tg,iter,ifs,0⟩] scope pos) spos) (sSetO i (eComp js its g c e)):=by
 obtain⟨wi,pi,h⟩:=compT hi hx hk hne hin
 refine⟨_,Qlx hc S pi hN hxN hl hsw hf hs,fun G H σ ς W S k=>?_⟩
 unfold sSetO at k
 rw[d9]at k
 exact h G H σ ς _ S (dA k fun d k p H1 G1 S1 a1 b1 hp hg ow=>k _ H1 G1 (S1.setO i hg (S.h0none hp) ow fun j e _ z=>S.new_ne hp j e z) b1)
end
end DL
namespace L2
open PySem PySem.Spec PyProof.Rows
noncomputable def Its(x:Str):It:=⟨fun i _=>i<x.cps.size,fun i H v H'=>H'=H/\∃ c,x.cps[i]?=some c/\v=.str ⟨#[c]⟩,fun i _=>x.cps.size<=i⟩
section
theorem Qmp{K:PySem.W.Frag}(it:Addr)(hn:["enumerate","zip","dict_itemiterator","dict_reverseitemiterator","odict_iterator","itertools.zip_longest","itertools.pairwise"].contains ty=false)
 (hs:∀(A:Around)(i:Nat)(s:Shared)(Q:Value->Shared->Prop)(E:Value->Shared->Prop),s.heap.IsStrIter it ty x t i->Q (.ref it) s->wpAny (model P w) A (pyIter (.ref it)) Q E s)
 (W:∀ A':Around,A'.handled=none->Walks P w A' it [it] [it] x.cps.size (SignAt x) (fun i h=>h.IsStrIter it ty x t i)):Turn P w K tg (Its x) [it] it (fun i h=>h.IsStrIter it ty x t i/\i<=x.cps.size) where
 mem:=by simp
 obj:=fun i h st b hb=>by
  have e:b=it:=by simpa using hb
  subst e
  obtain⟨⟨o,e,c,d⟩,_⟩:=st
  exact⟨o,e,fun v z=>by rw[d]at z;cases z⟩
 keep:=fun i h h' st k=>⟨by obtain⟨⟨o,e,c,d⟩,_⟩:=st;exact⟨o,k it (by simp) o e,c,d⟩,st.2⟩
 item:=by
  intro X hP hw hK hc i pins s σ H E I hf st hg
  subst hP hw hK
  obtain⟨f0,f1,f2,f3,f4,f5⟩:=hf it (by simp)
  refine(W X.A (I.ok.hd hc)).item i s _ _ hg st.1 fun v h' tk hv st' kk=>?_
  obtain⟨c,u,hcx,rfl⟩:=hv
  have I1:Inv X pins σ H { s with heap:=h',toks:=tk }:=I.turned (fun b o hb e=>kk b o (by simpa using hb) e) f0 f1 f3 f4 f5
  obtain⟨o,e,c',d⟩:=id st'
  exact⟨_,rfl,go_of e c' d hn ⟨.str ⟨#[c]⟩,H,I1,⟨u,rfl⟩,⟨rfl,c,hcx,rfl⟩,⟨st',hg⟩,fun b hb=>(hf b hb).1⟩⟩
 done:=by
  intro X hP hw hK hc i pins s σ H E I hf st hg
  subst hP hw hK
  obtain⟨f0,f1,f2,f3,f4,f5⟩:=hf it (by simp)
  have hg':=hg
  have e:=Nat.le_antisymm st.2 hg'
  subst e
  exact(W X.A (I.ok.hd hc)).done s _ _ st.1 fun h' tk kk=>⟨rfl,I.turned (fun b o hb e=>kk b o (by simpa using hb) e) f0 f1 f3 f4 f5⟩
 self:=fun A i s Q E st h=>hs A i s Q E st.1 h
def iStr(tl:TE):TI:=fun σ H R=>tl σ H fun x H1=>∃ z,x=.str z/\R (Its z) H1
theorem Qx0{l:Expr}(hl:PE X l tl):PI X tg l (iStr tl):=by
 intro pins s σ H R I h
 refine thn (hl pins s σ H _ I h) fun v s1 z0z=>?_
 obtain⟨x,H1,I1,r1,q1⟩:=z0z
 obtain⟨z,e,q⟩:=q1
 subst e
 obtain⟨t,rfl⟩:=r1
 cases ha:z.cps.all (· < 128)
 ·refine wpAny_pyIter_wide ha ⟨s1.heap.objs.size,[s1.heap.objs.size],_,_,H1,rfl,I1.kept fun b o e=>aK _ e,Qmp _ (by decide) (fun _ _ _ _ _ st h=>wpAny_pyIter_striter_wide st h) (fun A' hA=>Walks.strWide hA _ z t),⟨⟨_,ag _ rfl,rfl,rfl⟩,av _⟩,fun b hb=>?_,q⟩
  have e:b=s1.heap.objs.size:=by simpa using hb
  subst e
  exact I1.fpOk (aP _) (I1.hok.fresh (aP _))
 ·refine wpAny_pyIter_ascii ha ⟨s1.heap.objs.size,[s1.heap.objs.size],_,_,H1,rfl,I1.kept fun b o e=>aK _ e,Qmp _ (by decide) (fun _ _ _ _ _ st h=>wpAny_pyIter_striter_ascii st h) (fun A' hA=>Walks.strAscii hA _ z t),⟨⟨_,ag _ rfl,rfl,rfl⟩,av _⟩,fun b hb=>?_,q⟩
  have e:b=s1.heap.objs.size:=by simpa using hb
  subst e
  exact I1.fpOk (aP _) (I1.hok.fresh (aP _))
theorem Qs7(bs:List Bool):(List.range bs.length).all (fun i=>(bs[i]?).getD false)=bs.all id:=by
 rw[Bool.eq_iff_iff,bM,bM]
 constructor
 ·intro h b hb
  obtain⟨i,hi,e⟩:=List.mem_iff_getElem.mp hb
  have:=h i (aV.mpr hi)
  rw[aS hi,bj,e]at this
  exact this
 ·intro h i hi
  have hi':=aV.mp hi
  rw[aS hi',bj]
  exact h _ (bo hi')
theorem QtU(bs:List Bool):(List.range bs.length).any (fun i=>(bs[i]?).getD false)=bs.any id:=by
 rw[Bool.eq_iff_iff,cY,cY]
 constructor
 ·rintro ⟨i,hi,h⟩
  have hi':=aV.mp hi
  rw[aS hi',bj]at h
  exact⟨_,bo hi',h⟩
 ·rintro ⟨b,hb,h⟩
  obtain⟨i,hi,e⟩:=List.mem_iff_getElem.mp hb
  exact⟨i,aV.mpr hi,by rw[aS hi,bj,e];exact h⟩
theorem Qt4(hc:X.calm=true):CallR X (.builtin "all") (fun xs H Q=>∃(p:Addr)(bs:List Bool),xs=[.ref p]/\SqL X.K H p (bs.map V.bl)/\Q (.bl (bs.all id)) H):=by
 intro pins s σ H xs us Q I r h
 obtain⟨p,bs,rfl,hq,q⟩:=h
 obtain⟨u,rfl,rx⟩:=vals1 r
 cases rx
 obtain⟨its,rv,pl,hz⟩:=I.list hq
 have hlen:=rv.length
 refine call_all_walk ?_
 refine cS pl.isList ?_
 have hp:p<s.heap.objs.size:=by obtain⟨o,n,ho,_⟩:=pl;exact aO ho
 have hne:=af hp
 refine⟨_,_,_,_,_,_,fun i=>(bs[i]?).getD false,rfl,Walks.list (A:=X.A.in1) (I.ok.hd hc) _ p hne its.toArray,⟨⟨_,ag _ rfl,rfl,rfl⟩,pl.isList.at fun o e=>aK _ e⟩,?_,fun h' tk kk=>⟨.bl (bs.all id),H,?_,?_,q⟩⟩
 ·intro i v s2 Q2 E2 hv hQ2
  have hv':its[i]?=some v:=by simpa using hv
  have hi:i<bs.length:=by
   have:=(aU.mp hv').1
   rw[aC]at hlen
   lia
  obtain⟨y,hy,ry⟩:=rv.get (by rw[aM,aS hi];rfl)
  rw[hv']at hy
  cases hy
  cases ry
  have hQ2:Q2 ((bs[i]?).getD false) s2:=hQ2
  rw[aS hi,bj]at hQ2
  exact aY hQ2
 ·exact I.kept fun b o e=>kk b o (by
   intro hb
   have e2:b=s.heap.objs.size:=by simpa using hb
   subst e2
   exact absurd (aO e) (bG _)) (aK _ e)
 ·rw[aW, ← hlen,aC,Qs7];exact rfl
theorem Qtj(hc:X.calm=true):CallR X (.builtin "any") (fun xs H Q=>∃(p:Addr)(bs:List Bool),xs=[.ref p]/\SqL X.K H p (bs.map V.bl)/\Q (.bl (bs.any id)) H):=by
 intro pins s σ H xs us Q I r h
 obtain⟨p,bs,rfl,hq,q⟩:=h
 obtain⟨u,rfl,rx⟩:=vals1 r
 cases rx
 obtain⟨its,rv,pl,hz⟩:=I.list hq
 have hlen:=rv.length
 refine call_any_walk ?_
 refine cS pl.isList ?_
 have hp:p<s.heap.objs.size:=by obtain⟨o,n,ho,_⟩:=pl;exact aO ho
 have hne:=af hp
 refine⟨_,_,_,_,_,_,fun i=>(bs[i]?).getD false,rfl,Walks.list (A:=X.A.in1) (I.ok.hd hc) _ p hne its.toArray,⟨⟨_,ag _ rfl,rfl,rfl⟩,pl.isList.at fun o e=>aK _ e⟩,?_,fun h' tk kk=>⟨.bl (bs.any id),H,?_,?_,q⟩⟩
 ·intro i v s2 Q2 E2 hv hQ2
  have hv':its[i]?=some v:=by simpa using hv
  have hi:i<bs.length:=by
   have:=(aU.mp hv').1
   rw[aC]at hlen
   lia
  obtain⟨y,hy,ry⟩:=rv.get (by rw[aM,aS hi];rfl)
  rw[hv']at hy
  cases hy
  cases ry
  have hQ2:Q2 ((bs[i]?).getD false) s2:=hQ2
  rw[aS hi,bj]at hQ2
  exact aY hQ2
 ·exact I.kept fun b o e=>kk b o (by
   intro hb
   have e2:b=s.heap.objs.size:=by simpa using hb
   subst e2
   exact absurd (aO e) (bG _)) (aK _ e)
 ·rw[aW, ← hlen,aC,QtU];exact rfl
end
end L2
namespace DL
open PySem PySem.Spec PyProof.Rows L2
noncomputable def signs(z:Str):List D:=z.cps.toList.map fun c=>D.str ⟨#[c]⟩
def itS(E:SD->Out D):SD->Out (List D):=fun ς=>E ς>>=fun d=>match d with | .str z=>.ok (signs z) | _=>.stuck
section
theorem Qwo{K:PySem.W.Frag}:DIt K CT G1 (Its z) (signs z) where
 go:=fun G H i d s1 sH hd=>by
  unfold signs at hd
  rw[aM]at hd
  cases hc:z.cps.toList[i]? with
  | none=>rw[hc]at hd;cases hd
  | some c=>
   rw[hc]at hd
   cases hd
   have hi:i<z.cps.size:=by
    have:=(aU.mp hc).1
    simpa using this
   refine⟨hi,fun x H' z0z=>?_⟩
   obtain⟨e,c',h1,h2⟩:=z0z
   subst e h2
   have h1':z.cps.toList[i]?=some c':=by simpa using h1
   rw[hc]at h1'
   cases h1'
   exact⟨G,cf _,cf _,sH,fun b g n=>absurd g n,rfl⟩
 stop:=fun G H s1 sH=>by
  unfold signs
  show z.cps.size<=_
  rw[aC];simp
theorem Qw2(h:DB C iter E):DI C tg iter (itS E):=by
 obtain⟨t,p,q⟩:=h
 refine⟨_,Qx0 p,fun G H σ ς R S k=>?_⟩
 unfold itS at k
 rw[d9]at k
 refine q G H σ ς _ S (dA k fun d k v H1 G1 S1 a1 b1 r1=>?_)
 cases d with
 | str z=>cases r1;exact⟨z,rfl,k _ H1 G1 S1 a1 b1 Qwo⟩
 | _=>exact k.elim
noncomputable def dIn:D->D->Out D
 | .str x,.str y=>.ok (.bl (!(Builtin.Str.occurrences y x 0 y.length 1).isEmpty))
 | _,_=>.stuck
theorem QxC:DRS C (fun x y H Q=>∃ i j,x=.str i/\y=.str j/\Q (.bl (!(Builtin.Str.occurrences j i 0 j.length 1).isEmpty)) H) dIn:=by
 intro G H σ ς Q x y vx vy S hx hy q
 cases x with
 | str x=>
  cases y with
  | str y=>cases hx;cases hy;exact⟨x,y,rfl,rfl,q.2⟩
  | _=>exact q.elim
 | _=>cases y<;>exact q.elim
theorem Qvt:scal2 dIn:=fun x y=>by cases x<;>cases y<;>first | exact rfl | exact True.intro
theorem de_in(ha:DB C a A)(hb:DB C b B)(hm:behindInMarks .In b=false:=by rfl):DE C (.Compare a [.In] [b] pos) (e2 dIn A B):=QkD Qtw QxC Qvt ha hb hm
noncomputable def blsOf:List D->Option (List Bool)
 | []=>some []
 | .bl b::r=>(blsOf r).map (b :: ·)
 | _::_=>none
theorem QhW{K:PySem.W.Frag}:∀{ds:List D}{bs:List Bool}{vs:List V},blsOf ds=some bs->RepL K CT H ds vs->vs=bs.map V.bl
 | [],bs,vs,h,r=>by cases h;exact r
 | d::ds,bs,vs,h,z0z=>by
  obtain⟨v,w,h1,h2,h3⟩:=z0z
  cases d with
  | bl b=>
   cases e:blsOf ds with
   | none=>rw[blsOf,e]at h;cases h
   | some cs=>
    rw[blsOf,e]at h
    cases h
    cases h2
    rw[h1,QhW e h3];rfl
  | _=>cases h
def fAll:D->Out D
 | .lst xs=>match blsOf xs with | some bs=>.ok (.bl (bs.all id)) | none=>.stuck
 | _=>.stuck
def fAny:D->Out D
 | .lst xs=>match blsOf xs with | some bs=>.ok (.bl (bs.any id)) | none=>.stuck
 | _=>.stuck
theorem Qej(hc:C.X.calm=true)(hg:Gl C.X "all")(hm:C.X.mg "all"=none)(ha:DAB C (e::es) AA)
 (he:starEach (e::es) C.X.env=(false,eval e C.X.env)::starEach es C.X.env:=by rfl) (hpl:(backTo pos (starEach es C.X.env)).any (·.1)=false:=by rfl):DE C (.Call (.Name "all" p) (e::es) [] pos) (eA (f1 fAll) AA):=by
 refine Qhg (Qt4 hc) (Qj5 ?_) (QiC ?_) hg hm PyProof.Rows.Boot.«all» ha (by decide) (by decide) he hpl
 ·intro G H σ ς Q x v S r q
  cases x with
  | lst xs=>
   cases eb:blsOf xs with
   | none=>rw[fAll,eb]at q;exact q.elim
   | some bs=>
    rw[fAll,eb]at q
    obtain⟨a,vs,rfl,h2,h3⟩:=r
    rw[QhW eb h3]at h2
    exact⟨a,bs,rfl,h2,q.2⟩
  | _=>exact q.elim
 ·intro x
  cases x with
  | lst xs=>
   rw[fAll]
   cases blsOf xs with
   | none=>exact True.intro
   | some bs=>exact rfl
  | _=>exact True.intro
theorem Qxz(hc:C.X.calm=true)(hg:Gl C.X "any")(hm:C.X.mg "any"=none)(ha:DAB C (e::es) AA)
 (he:starEach (e::es) C.X.env=(false,eval e C.X.env)::starEach es C.X.env:=by rfl) (hpl:(backTo pos (starEach es C.X.env)).any (·.1)=false:=by rfl):DE C (.Call (.Name "any" p) (e::es) [] pos) (eA (f1 fAny) AA):=by
 refine Qhg (Qtj hc) (Qj5 ?_) (QiC ?_) hg hm PyProof.Rows.Boot.«any» ha (by decide) (by decide) he hpl
 ·intro G H σ ς Q x v S r q
  cases x with
  | lst xs=>
   cases eb:blsOf xs with
   | none=>rw[fAny,eb]at q;exact q.elim
   | some bs=>
    rw[fAny,eb]at q
    obtain⟨a,vs,rfl,h2,h3⟩:=r
    rw[QhW eb h3]at h2
    exact⟨a,bs,rfl,h2,q.2⟩
  | _=>exact q.elim
 ·intro x
  cases x with
  | lst xs=>
   rw[fAny]
   cases blsOf xs with
   | none=>exact True.intro
   | some bs=>exact rfl
  | _=>exact True.intro
theorem Quy:PE X (.Dict [] [] pos) (fun _ H Q=>∀ p,H p=none->Q (.ref p) (upd H p (.dK []))):=fun pins s σ H Q I h=>by
 have hb:sysModules<s.heap.objs.size:=Nat.lt_trans (by decide) ((I.mod.glob.keeps I.bk).lt)
 exact wpAny_Dict_empty ⟨.ref s.heap.objs.size,_,I.laid (o:=.dK []) (fun _ _ q=>aK _ q) (aP _)
  ⟨av _,bp.mpr (bV (af hb)),[],.nil,Heap.DictOf.new s.heap⟩,rfl,h _ (I.hok.fresh (aP _))⟩
noncomputable def eDic0:SD->Out D:=fun _=>.ok (.dic [])
theorem Qvy:DF C (.Dict [] [] pos) eDic0:=⟨_,Quy,fun G H σ ς Q S q p hp=>by
 have q:=q
 exact q p _ G (S.allocO hp) (Qt hp) (cf _) hp (S.gnone hp) ⟨[],Qq,rfl⟩⟩
end
end DL
namespace DL
open PySem PySem.Spec PyProof.Rows L2
noncomputable def ctOf(K:PySem.W.Frag):CTab:=fun c=>match PySem.W.nsIn K mainGlobals c with | some (some (.ref a))=>some a | _=>none
theorem ct_of{K:PySem.W.Frag}{c:Str}{a:Addr}(h:PySem.W.nsIn K mainGlobals c=some (some (.ref a))):ctOf K c=some a:=by unfold ctOf;rw[h]
structure Rz(C:Dc)(E:XK):Prop where
 pass:Qc0 (CXR C.X.prog C.X.w) C.X E
 xd:∀ d,C.XD d->∃ c fs Cc,d=.err c fs/\C.CT c=some Cc/\∀ H' dx,(∀ b o,C.H0 b=some o->¬ C.M b->H' b=some o)->PayN C.H0 H' dx fs->E (.ref Cc) dx H'
 madeI:∀(Cc:Addr) pins σ H2 s2 ea t dx,Inv C.X pins σ H2 s2->H2 ea=some (exM ea Cc t dx)->C.X.s₀.heap.get? ea=none->E (.ref Cc) dx (dropH H2 ea)->C.X.xe (.ref ea) s2
 made:∀(Cc:Addr) pins σ H1 s1 ea h' vs,Inv C.X pins σ H1 s1->Heap.MadeExcOf s1.heap h' ea (.ref Cc) vs->E (.ref Cc) none H1->C.X.xe (.ref ea) { s1 with heap:=h' }
 calm:C.X.calm=true
theorem rz0{C:Dc}(hx:∀ d,¬ C.XD d:=by fail"V5")(hc:C.X.calm=true:=by rfl):Rz C E0 where
 pass:=fun pins σ H s e s' I h=>by obtain⟨_,_,_,_,_,_,_,_,_,z⟩:=h;exact z.elim
 xd:=fun d h=>absurd h (hx d)
 made:=fun Cc pins σ H1 s1 ea h' vs I hx hE=>hE.elim
 madeI:=fun Cc pins σ H2 s2 ea t dx I e hn hE=>hE.elim
 calm:=hc
abbrev Dc.nox(C:Dc):Dc:={ C with X:=C.X.nox,XD:=fun _=>False }
noncomputable def noX{α:Type}:Out α->Out α
 | .exc _=>.stuck
 | o=>o
theorem Qxe(a:α):noX (.ok a)=.ok a:=rfl
theorem QoL(h:(noX o).post k x):o.post k (fun _=>False):=by cases o<;>exact h
section
variable       {st:Stmt}
theorem GH.nox(S:GH C G H):GH C.nox G H:=⟨S.sub,S.g0,S.new,S.fr,S.dom,S.bs,S.bh⟩
theorem GH.unnox(S:GH C.nox G H):GH C G H:=⟨S.sub,S.g0,S.new,S.fr,S.dom,S.bs,S.bh⟩
theorem StR.nox(S:StR C G H σ ς):StR C.nox G H σ ς:=⟨S.toGH.nox,S.len,S.fz,S.ow,S.ln,S.inj,S.sf,S.su⟩
theorem StR.unnox(S:StR C.nox G H σ ς):StR C G H σ ς:=⟨S.toGH.unnox,S.len,S.fz,S.ow,S.ln,S.inj,S.sf,S.su⟩
theorem PA.nox'(h:PA X.nox es t):PA X es t:=fun pos pins s σ H Q I q=>PA.nox h I q
theorem DA.lift(h:DA C.nox es A):DA C es (fun ς=>noX (A ς)):=by
 obtain⟨t,p,q⟩:=h
 exact⟨t,PA.nox' p,fun G H σ ς Q S k=>q G H σ ς Q S.nox (dA (QoL k) fun d kd v H' G' S' a b r=>kd v H' G' S'.unnox a b r)⟩
theorem FlK.nox(h:FlK C G W f):FlK C.nox G W f:=by
 cases f with
 | nx ς=>exact fun σ' H' G' S q=>h σ' H' G' S.unnox q
 | bk ς=>exact fun σ' H' G' S q=>h σ' H' G' S.unnox q
 | ct ς=>exact fun σ' H' G' S q=>h σ' H' G' S.unnox q
 | rt b d=>exact fun v H' G' S q r=>h v H' G' S.unnox q r
theorem PS.nox'(h:PS X.nox st t):PS X st t:=fun pins s σ H D I hw=>
 bB (h pins s σ H D (I.wish _) hw) (fun _ _ q=>q.unwish) fun _ _ z=>False.elim z
theorem DS.lift(h:DS C.nox st T):DS C st (fun ς=>noX (T ς)):=by
 obtain⟨t,p,q⟩:=h
 exact⟨t,PS.nox' p,fun G H σ ς W S k=>q G H σ ς W S.nox (dA (QoL k) fun f kf=>kf.nox)⟩
abbrev cz:=@DS.lift
end
end DL
namespace DL
open PySem PySem.Spec PyProof.Rows L2
section
variable   {k:Nat} {fr:Bool} {dd:List D}
variable{T U:SD->Out FX}{TE:SD->Out EX}{st:Stmt}{sts rest:List Stmt}{i:Nat}{px:Pos}
section
end
end
end DL
namespace L2
open PySem PySem.Spec PyProof.Rows
end L2
namespace DL
open PySem PySem.Spec PyProof.Rows L2
section
end
end DL
namespace L2
open PySem PySem.Spec PyProof.Rows
def Itz(K:PySem.W.Frag)(a b:Addr):It:=
 ⟨fun i H=>∃ xs ys x y,SqL K H a xs/\SqL K H b ys/\xs[i]?=some x/\ys[i]?=some y,
  fun i H v H'=>∃ p x y,H p=none/\v=.ref p/\H'=upd H p (.tup [x,y])/\(∀ xs,SqL K H a xs->xs[i]?=some x)/\∀ ys,SqL K H b ys->ys[i]?=some y,
  fun i H=>∃ xs ys,SqL K H a xs/\SqL K H b ys/\(xs.length<=i∨ys.length<=i)⟩
theorem Qva{K:PySem.W.Frag}{z TI TO i1 i2 l1 l2:Addr}(D:ZipApart z TI TO i1 i2 l1 l2):
 Turn P w K (.Tuple elts k1 pos) (Itz K l1 l2) [z,TI,TO,i1,i2] z (fun i h=>IsZip h z TI TO .none/\IsPair h TI (.ref i1) (.ref i2)/\(∃ a b,IsPair h TO a b)/\h.IsListIter i1 l1 i/\h.IsListIter i2 l2 i) where
 mem:=by simp
 obj:=fun i h st b hb=>by
  obtain⟨s1,s2,⟨_,_,s3⟩,⟨o4,e4,c4,d4⟩,⟨o5,e5,c5,d5⟩⟩:=st
  simp only[aF,aT,b6]at hb
  rcases hb with rfl | rfl | rfl | rfl | rfl
  ·exact⟨_,s1,fun v q=>by cases q⟩
  ·exact⟨_,s2,fun v q=>by cases q⟩
  ·exact⟨_,s3,fun v q=>by cases q⟩
  ·exact⟨_,e4,fun v q=>by rw[d4]at q;cases q⟩
  ·exact⟨_,e5,fun v q=>by rw[d5]at q;cases q⟩
 keep:=fun i h h' st k=>by
  obtain⟨s1,s2,⟨a,b,s3⟩,s4,s5⟩:=st
  exact⟨k z (by simp) _ s1,k TI (by simp) _ s2,⟨a,b,k TO (by simp) _ s3⟩,s4.at fun o e=>k i1 (by simp) o e,s5.at fun o e=>k i2 (by simp) o e⟩
 item:=by
  intro X hP hw hK hc i pins s σ H E I hf st hg
  subst hP hw hK
  obtain⟨xs,ys,x,y,q1,q2,hx,hy⟩:=hg
  obtain⟨its1,rv1,p1,hz1⟩:=I.list q1
  obtain⟨its2,rv2,p2,hz2⟩:=I.list q2
  obtain⟨u1,hu1,ru1⟩:=rv1.get hx
  obtain⟨u2,hu2,ru2⟩:=rv2.get hy
  obtain⟨s1,s2,⟨a,b,s3⟩,s4,s5⟩:=st
  refine wpAny_pyNext_zip_item D s1 s2 s3 s4 s5 p1.isList p2.isList (by simpa using hu1) (by simpa using hu2) fun h' a1 a2 a3 a4 a5 a6 hk=>?_
  have hT:=I.hok.fresh (aP _)
  have fp:∀ c∈[z,TO,i1,i2],FpOk X pins H c:=fun c hc=>hf c (by
   simp only[aF,aT,b6]at hc ⊢
   rcases hc with rfl | rfl | rfl | rfl<;>simp)
  have out:∀ c,c∉[z,TO,i1,i2]->∀ o,s.heap.get? c=some o->h'.get? c=some o:=fun c hc o e=>hk c o (fun q=>hc (by simp[q])) (fun q=>hc (by simp[q])) (fun q=>hc (by simp[q])) (fun q=>hc (by simp[q])) e
  have trk:∀ c o,H c=some o->c∉[z,TO,i1,i2]:=fun c o e hc=>by rw[(fp c hc).1]at e;cases e
  have hok:HOk X.prog X.w (upd H s.heap.objs.size (.tup [x,y])) h':=fun c o e=>by
   by_cases hcT:c=s.heap.objs.size
   ·subst hcT
    rw[Qq]at e
    cases e
    exact⟨by show 2<=sizeLine;decide,[u1,u2],.cons ru1 (.cons ru2 .nil),⟨_,a5,rfl,_,rfl⟩⟩
   ·rw[Qi hcT]at e
    refine(I.hok c o e).stay (fun b u hb q=>out b ?_ u q) (fun b q=>?_) fun b ts q=>?_
    ·rcases hb with rfl | hb
     ·exact trk b _ e
     ·exact trk b _ hb
    ·rw[Qi (QH q hT)];exact q
    ·rw[Qi (QH q hT)];exact q
  have I1:Inv X pins σ (upd H s.heap.objs.size (.tup [x,y])) { s with heap:=h',gens:=s.gens,drawn:=s.drawn,toks:=s.toks }:=I.step
   (fun c hc=>⟨(fp c hc).2.2.2.1,(fp c hc).2.1,(fp c hc).2.2.2.2.1,(fp c hc).2.2.2.2.2⟩) (fun c o _ _ hc e _=>out c hc o e) (fun c o _ _ hc e _=>⟨o.slots,out c hc o e⟩)
   (fun c o hc e n=>by rw[Qi (af (aO e))];exact n) (fun c o hc e=>⟨o,out c hc o e⟩)
   (fun c ts e=>by rw[Qi (QH e hT)];exact e) (fun c o u e=>by rw[Qi (QH e hT)];exact e) (fun c ts e=>⟨#[],by rw[Qi (QH e hT),e];simp⟩)
   (fun m hm=>by
    obtain⟨o,es,ep,ho,r⟩:=hm
    exact⟨o,es,ep,out _ (fun hc=>(fp _ hc).2.1 rfl) o ho,r⟩) hok I.bare
  have lt:∀{c o},s.heap.get? c=some o->s.heap.objs.size≠c:=fun e=>cL (aO e)
  refine⟨_,rfl,wpAny_letOwnedTupleGo_zip a1 fun h2 hz2 hs2=>?_⟩
  obtain⟨z0,z1,z2,z3,z4,z5⟩:=hf z (by simp)
  have I2:=Inv.turned (t':=s.toks) I1 (fun b o hb e=>(hs2.2 b hb).trans e) (by rw[Qi (lt s1).symm];exact z0) z1 z3 z4 z5
  refine⟨.ref s.heap.objs.size,_,I2,rfl,⟨_,x,y,hT,rfl,rfl,fun xs' q'=>by rw[I.list_inj q' q1];exact hx,fun ys' q'=>by rw[I.list_inj q' q2];exact hy⟩,
   ⟨hz2,hs2.extBut _ _ D.TIz (out TI (by simp[D.TIz,D.TITO,D.TIi1,D.TIi2]) _ s2),⟨_,_,hs2.extBut _ _ D.TOz a2⟩,a3.extBut hs2.extBut D.i1z,a4.extBut hs2.extBut D.i2z⟩,fun c hc=>?_⟩
  have:=(hf c hc).1
  obtain⟨oc,hoc⟩:∃ o,s.heap.get? c=some o:=by
   simp only[aF,aT,b6]at hc
   rcases hc with rfl | rfl | rfl | rfl | rfl
   ·exact⟨_,s1⟩
   ·exact⟨_,s2⟩
   ·exact⟨_,s3⟩
   ·obtain⟨o,e,_⟩:=s4;exact⟨o,e⟩
   ·obtain⟨o,e,_⟩:=s5;exact⟨o,e⟩
  rw[Qi (lt hoc).symm];exact this
 done:=by
  intro X hP hw hK hc i pins s σ H E I hf st hg
  subst hP hw hK
  obtain⟨xs,ys,q1,q2,hend⟩:=hg
  obtain⟨its1,rv1,p1,hz1⟩:=I.list q1
  obtain⟨its2,rv2,p2,hz2⟩:=I.list q2
  have l1:=rv1.length
  have l2:=rv2.length
  obtain⟨s1,s2,⟨a,b,s3⟩,s4,s5⟩:=st
  have fp:∀ c∈[z,TO,i1,i2],FpOk X pins H c:=fun c hc=>hf c (by
   simp only[aF,aT,b6]at hc ⊢
   rcases hc with rfl | rfl | rfl | rfl<;>simp)
  refine wpAny_pyNext_zip_end (I.ok.hd hc) D s1 s2 s3 s4 s5 p1.isList p2.isList (by simp;lia) fun h' hk=>⟨rfl,?_⟩
  have out:∀ c,c∉[z,TO,i1,i2]->∀ o,s.heap.get? c=some o->h'.get? c=some o:=fun c hc o e=>hk c o (fun q=>hc (by simp[q])) (fun q=>hc (by simp[q])) (fun q=>hc (by simp[q])) (fun q=>hc (by simp[q])) e
  have trk:∀ c o,H c=some o->c∉[z,TO,i1,i2]:=fun c o e hc=>by rw[(fp c hc).1]at e;cases e
  exact I.step (fun c hc=>⟨(fp c hc).2.2.2.1,(fp c hc).2.1,(fp c hc).2.2.2.2.1,(fp c hc).2.2.2.2.2⟩) (fun c o _ _ hc e _=>out c hc o e) (fun c o _ _ hc e _=>⟨o.slots,out c hc o e⟩)
   (fun c o hc e n=>n) (fun c o hc e=>⟨o,out c hc o e⟩) (fun c ts e=>e) (fun c o u e=>e) (fun c ts e=>⟨#[],by rw[e];simp⟩)
   (fun m hm=>by
    obtain⟨o,es,ep,ho,r⟩:=hm
    exact⟨o,es,ep,out _ (fun hc=>(fp _ hc).2.1 rfl) o ho,r⟩)
   (fun c o e=>(I.hok c o e).stay (fun b u hb q=>out b (by
    rcases hb with rfl | hb
    ·exact trk b _ e
    ·exact trk b _ hb) u q) (fun b q=>q) fun b ts q=>q) I.bare
 self:=fun _ _ _ _ _ st h=>wpAny_pyIter_zip st.1 h
section
theorem QtP(n l1 l2:Nat)(h1:l1<n)(h2:l2<n):ZipApart (n+4) (n+2) (n+3) n (n+1) l1 l2:=⟨(by lia),(by lia),(by lia),(by lia),(by lia),(by lia),(by lia),(by lia),(by lia),(by lia),(by lia),(by lia),(by lia),(by lia),(by lia),(by lia),(by lia),(by lia)⟩
def iZip(K:PySem.W.Frag)(ta:TA):TI:=fun σ H R=>ta σ H fun vs H1=>∃ a b,vs=[.ref a,.ref b]/\(∃ xs,SqL K H1 a xs)/\(∃ ys,SqL K H1 b ys)/\R (Itz K a b) H1
theorem Qx6{tpos:Pos}{p pos:Pos}(hg:Gl X "zip")(hm:X.mg "zip"=none)(ha:PA X [a,b] ta)(hs:starEach [a,b] X.env=[(false,eval a X.env),(false,eval b X.env)]:=by rfl)(hs2:starEach [b] X.env=[(false,eval b X.env)]:=by rfl):
 PI X (.Tuple elts k1 tpos) (.Call (.Name "zip" p) [a,b] [] pos) (iZip X.K ta):=by
 intro pins s σ H R I h
 refine Call_ (Qen I hg hm PyProof.Rows.Boot.«zip» (bK (thn (ha pos pins s σ H _ I h) fun us s1 z0z=>?_) (by rw[hs,hs2]) (by rw[hs2];rfl)))
 obtain⟨vs,H1,I1,r1,q1⟩:=z0z
 obtain⟨l1,l2,e,⟨xs,hx⟩,⟨ys,hy⟩,q⟩:=q1
 subst e
 cases r1 with
 | cons r rr=>
  cases rr with
  | cons r' rr=>
   cases rr
   cases r
   cases r'
   obtain⟨its1,rv1,p1,hz1⟩:=I1.list hx
   obtain⟨its2,rv2,p2,hz2⟩:=I1.list hy
   have n1:l1<s1.heap.objs.size:=by obtain⟨o,n,ho,_⟩:=p1;exact aO ho
   have n2:l2<s1.heap.objs.size:=by obtain⟨o,n,ho,_⟩:=p2;exact aO ho
   refine call_zip_2 p1.isList p2.isList fun h' c1 c2 c3 c4 c5 c6 hk=>?_
   refine wpAny_pyIter_zip c1 ?_
   refine⟨_,_,_,Itz X.K l1 l2,H1,rfl,I1.kept fun b o e=>hk b o e,Qva
    (QtP s1.heap.objs.size l1 l2 n1 n2),⟨c1,c2,⟨_,_,c3⟩,c4,c5⟩,fun b hb=>?_,q⟩
   have hb':s1.heap.objs.size<=b:=by
    simp only[aF,aT,b6]at hb
    rcases hb with rfl | rfl | rfl | rfl | rfl<;>lia
   exact I1.fpOk hb' (I1.hok.fresh hb')
end
end L2
namespace DL
open PySem PySem.Spec PyProof.Rows L2
def itZ(A B:SD->Out D):SD->Out (List D):=fun ς=>A ς>>=fun x=>B ς>>=fun y=>match x,y with
 | .lst xs,.lst ys=>.ok (List.zipWith (fun a b=>.tup [a,b]) xs ys)
 | .lst xs,.lln ys=>.ok (List.zipWith (fun a b=>.tup [a,b]) xs ys)
 | .lln xs,.lst ys=>.ok (List.zipWith (fun a b=>.tup [a,b]) xs ys)
 | .lln xs,.lln ys=>.ok (List.zipWith (fun a b=>.tup [a,b]) xs ys)
 | _,_=>.stuck
section
theorem QiM{K:PySem.W.Frag}(h1:SqL K G1 p us)(r1:RepL K CT G1 xs us)(h2:SqL K G1 q vs)(r2:RepL K CT G1 ys vs):DIt K CT G1 (Itz K p q) (List.zipWith (fun a b=>D.tup [a,b]) xs ys) where
 go:=fun G H i d s1 sH hd=>by
  rw[List.getElem?_zipWith]at hd
  cases e1:xs[i]? with
  | none=>rw[e1]at hd;cases hd
  | some x=>
   cases e2:ys[i]? with
   | none=>rw[e1,e2]at hd;cases hd
   | some y=>
    rw[e1,e2]at hd
    cases hd
    obtain⟨u,hu,ru⟩:=r1.get e1
    obtain⟨v,hv,rv⟩:=r2.get e2
    have q1:=sH.seq (s1.seq h1)
    have q2:=sH.seq (s1.seq h2)
    refine⟨⟨us,vs,u,v,q1,q2,hu,hv⟩,fun w H' z0z=>?_⟩
    obtain⟨t,x',y',n,e,e',k1,k2⟩:=z0z
    have z1:=k1 us q1
    have z2:=k2 vs q2
    rw[hu]at z1;cases z1
    rw[hv]at z2;cases z2
    subst e e'
    have gn:=sH.free n
    refine⟨upd G t (.tup [u,v]),Qt gn,Qt n,QhI sH,fun b g g'=>?_,t,[u,v],rfl,SqT.of Qq,⟨u,_,rfl,cg (s1.trans (Qt gn)) x u ru,v,_,rfl,cg (s1.trans (Qt gn)) y v rv,rfl⟩⟩
    by_cases hb:b=t
    ·subst hb;exact n
    ·rw[Qi hb]at g';exact absurd g g'
 stop:=fun G H s1 sH=>by
  refine⟨us,vs,sH.seq (s1.seq h1),sH.seq (s1.seq h2),?_⟩
  have l1:=r1.length
  have l2:=r2.length
  rw[List.length_zipWith]
  lia
theorem QsS(hgl:Gl C.X "zip")(hm:C.X.mg "zip"=none)(ha:DE C a A)(hb:DE C b B)
 (hst:starEach [a,b] C.X.env=(false,eval a C.X.env)::starEach [b] C.X.env:=by rfl) (hst2:starEach [b] C.X.env=(false,eval b C.X.env)::starEach [] C.X.env:=by rfl):DI C (.Tuple elts k1 tpos) (.Call (.Name "zip" p) [a,b] [] pos) (itZ A B):=by
 obtain⟨t0,p0,q0⟩:=ha
 obtain⟨t3,p3,q3⟩:=hb
 refine⟨_,Qx6 hgl hm (Q0 p0 (Q0 p3 QaL hst2) hst) (by rw[hst,hst2];rfl) (by rw[hst2];rfl),fun G H σ ς R S k=>?_⟩
 unfold itZ at k
 rw[d9]at k
 refine q0 G H σ ς _ S (dA k fun d k v H1 G1 S1 a1 b1 r=>?_)
 rw[d9]at k
 refine q3 G1 H1 σ ς _ S1 (dA k fun d2 k v2 H2 G2 S2 a2 b2 r'=>?_)
 cases d with
 | lst xs=>
  cases d2 with
  | lst ys=>
   obtain⟨p1,us,rfl,h1,r1⟩:=cg b2 _ v r
   obtain⟨p2,vs,rfl,h2,r2⟩:=r'
   exact⟨p1,p2,rfl,⟨us,S2.sub.seq h1⟩,⟨vs,S2.sub.seq h2⟩,k _ H2 G2 S2 (a1.trans a2) (b1.trans b2) (QiM h1 r1 h2 r2)⟩
  | lln ys=>
   obtain⟨p1,us,rfl,h1,r1⟩:=cg b2 _ v r
   obtain⟨p2,vs,rfl,h2,r2⟩:=r'
   exact⟨p1,p2,rfl,⟨us,S2.sub.seq h1⟩,⟨vs,S2.sub.seq h2⟩,k _ H2 G2 S2 (a1.trans a2) (b1.trans b2) (QiM h1 r1 h2 r2)⟩
  | _=>exact k.elim
 | lln xs=>
  cases d2 with
  | lst ys=>
   obtain⟨p1,us,rfl,h1,r1⟩:=cg b2 _ v r
   obtain⟨p2,vs,rfl,h2,r2⟩:=r'
   exact⟨p1,p2,rfl,⟨us,S2.sub.seq h1⟩,⟨vs,S2.sub.seq h2⟩,k _ H2 G2 S2 (a1.trans a2) (b1.trans b2) (QiM h1 r1 h2 r2)⟩
  | lln ys=>
   obtain⟨p1,us,rfl,h1,r1⟩:=cg b2 _ v r
   obtain⟨p2,vs,rfl,h2,r2⟩:=r'
   exact⟨p1,p2,rfl,⟨us,S2.sub.seq h1⟩,⟨vs,S2.sub.seq h2⟩,k _ H2 G2 S2 (a1.trans a2) (b1.trans b2) (QiM h1 r1 h2 r2)⟩
  | _=>exact k.elim
 | _=>exact k.elim
end
end DL
namespace DL
open PySem PySem.Spec PyProof.Rows L2
noncomputable def putD(f:Str)(d:D):List (Str×D)->List (Str×D)
 | []=>[(f,d)]
 | (g,x)::r=>if g=f then(g,d)::r else(g,x)::putD f d r
section
variable{K:PySem.W.Frag}
theorem RepF.look:∀{fds:List (Str×D)}{fs:List (Str×V)}{f:Str},RepF K CT H fds fs->(∀ d,fds.lookup f=some d->∃ v,fs.lookup f=some v/\Rep K CT H d v)/\(fds.lookup f=none->fs.lookup f=none)
 | [],_,f,h=>by cases h;exact⟨fun d z=>(by cases z),fun _=>rfl⟩
 | (k,d)::fds,_,f,z0z=>by
  obtain⟨v,r,h1,h2,h3⟩:=z0z
  subst h1
  have ih:=RepF.look (f:=f) h3
  rw[aJ,aJ]
  cases f == k with
  | true=>exact⟨fun d' z=>by cases z;exact⟨v,rfl,h2⟩,fun z=>by cases z⟩
  | false=>exact ih
theorem RepF.len:∀{fds:List (Str×D)}{fs:List (Str×V)},RepF K CT H fds fs->fds.length=fs.length
 | [],_,h=>by cases h;rfl
 | (k,d)::fds,_,z0z=>by obtain⟨v,r,h1,h2,h3⟩:=z0z;subst h1;rw[aR,aR,RepF.len h3]
theorem RepF.put(q:Rep K CT H d v):∀{fds:List (Str×D)}{fs:List (Str×V)},RepF K CT H fds fs->RepF K CT H (putD f d fds) (putF f v fs)
 | [],_,h=>by cases h;exact⟨v,[],rfl,q,rfl⟩
 | (k,x)::fds,_,z0z=>by
  obtain⟨u,r,h1,h2,h3⟩:=z0z
  subst h1
  unfold putD putF
  by_cases hk:k=f
  ·rw[aA hk,aA hk];exact⟨v,r,rfl,q,h3⟩
  ·rw[aD hk,aD hk];exact⟨u,_,rfl,h2,RepF.put q h3⟩
end
def FldOk(K:PySem.W.Frag)(CT:CTab)(cs:List Str)(f:Str):Prop:=∀ c,cs.contains c=true->∀ A,CT c=some A->Cls K A/\Qfu K A f
def dFld(cs:List Str)(f:Str):D->Out D
 | .ins c fs=>if cs.contains c=true then optO (fs.lookup f) else .stuck
 | _=>.stuck
section
theorem Qce(hF:FldOk C.X.K C.CT cs f)(h:DE C e E)(hb:attributeBase e f C.X.env (eval e C.X.env)=eval e C.X.env:=by rfl):DE C (.Attribute e f pos) (e1 (dFld cs f) E):=by
 obtain⟨t,p,q⟩:=h
 refine⟨_,Qxm p hb,fun G H σ ς Q S k=>?_⟩
 unfold e1 at k
 rw[d9]at k
 refine q G H σ ς _ S (dA k fun d k v H1 G1 S1 a1 b1 r=>?_)
 cases d with
 | ins c fds=>
  rcases QF k with⟨hc,k⟩ | ⟨_,k⟩
  ·obtain⟨d,e1',kd⟩:=QcE k
   obtain⟨a,A,dx,fs,rfl,h1,h2,h3⟩:=r
   obtain⟨v,e2',rv⟩:=(RepF.look h3).1 d e1'
   obtain⟨cl,na⟩:=hF c hc A h1
   exact⟨a,A,dx,fs,v,rfl,S1.sub _ _ h2,cl,na,e2',cp (cq kd a1 b1) S1 rv⟩
  ·exact k.elim
 | _=>exact k.elim
theorem StR.writeS(S:StR C G H σ ς)(hi:ς[i]?=some (some (.s,.ins c fds)))(hp:σ[i]?=some (some (.ref p)))(hc:C.CT c=some A)(r:RepF C.X.K C.CT G fds' fs'):
 StR C G (upd H p (.ins A dx fs')) σ (ς.set i (some (.s,.ins c fds'))):=by
 obtain⟨p',e1,hg,h0,⟨hM,hW⟩,hB,ow⟩:=S.sf i _ hi
 rw[hp]at e1;cases e1
 have ne:∀ b o,G b=some o->b≠p:=fun b o e z=>by subst z;rw[hg]at e;cases e
 have S':StR C G (upd H p (.ins A dx fs')) (σ.set i (some (.ref p))) (ς.set i (some (.s,.ins c fds'))):={
  sub:=fun b o e=>by rw[Qi (ne b o e)];exact S.sub b o e
  g0:=S.g0
  new:=S.new
  fr:=fun b o e m=>by
   rw[Qi (by rintro rfl;exact m hM)];exact S.fr b o e m
  dom:=fun b e=>by
   by_cases hb:b=p
   ·subst hb;rw[Qq]at e;cases e
   ·rw[Qi hb]at e;exact S.dom b e
  bs:=fun b o e=>by
   rw[Qi (by rintro rfl;rw[hB]at e;cases e)];exact S.bs b o e
  bh:=S.bh
  len:=by rw[ah,ah];exact S.len
  fz:=fun j d h=>by
   rcases Qr h with⟨rfl,h2,l⟩ | ⟨hne,h2⟩
   ·cases h2
   ·rw[Qj hne];exact S.fz j d h2
  ow:=fun j d h=>by
   rcases Qr h with⟨rfl,h2,l⟩ | ⟨hne,h2⟩
   ·cases h2
   ·rw[Qj hne]
    obtain⟨q,a,b,c',w⟩:=S.ow j d h2
    have qp:q≠p:=by
     rintro rfl
     exact h0 c'
    exact⟨q,a,b,c',w.mono (cf G) fun o z=>by rw[Qi qp];exact z⟩
  ln:=fun j d h=>by
   rcases Qr h with⟨rfl,h2,l⟩ | ⟨hne,h2⟩
   ·cases h2
   ·rw[Qj hne];exact S.ln j d h2
  inj:=fun j k d1 d2 q hjk h1 h2 h3=>by
   rcases Qr h1 with⟨rfl,q1,l⟩ | ⟨n1,q1⟩
   ·cases q1
   ·rcases Qr h2 with⟨rfl,q2,l⟩ | ⟨n2,q2⟩
    ·cases q2
    ·rw[Qj n1]at h3
     rw[Qj n2]
     exact S.inj j k d1 d2 q hjk q1 q2 h3
  sf:=fun j d h=>by
   rcases Qr h with⟨rfl,h2,l⟩ | ⟨hne,h2⟩
   ·cases h2
    exact⟨p,Qdy (by rw[S.len];exact l),hg,h0,⟨hM,hW⟩,hB,⟨A,dx,fs',hc,Qq,r⟩⟩
   ·rw[Qj hne]
    obtain⟨q,a,b,c2,m,z,w⟩:=S.sf j d h2
    have qp:q≠p:=by
     rintro rfl
     exact S.su i j _ _ q hne hi h2 hp a
    exact⟨q,a,b,c2,m,z,w.mono (cf G) fun o z=>by rw[Qi qp];exact z⟩
  su:=fun j k d1 d2 q hjk h1 h2 h3=>by
   have get:∀(j:Nat) d,(ς.set i (some (.s,D.ins c fds')))[j]?=some (some (.s,d))->∃ d',ς[j]?=some (some (.s,d')):=fun j d h=>by
    rcases Qr h with⟨rfl,h2,l⟩ | ⟨hne,h2⟩
    ·exact⟨_,hi⟩
    ·exact⟨_,h2⟩
   obtain⟨d1',g1⟩:=get j d1 h1
   obtain⟨d2',g2⟩:=get k d2 h2
   rw[QdE hp]at h3 ⊢
   exact S.su j k d1' d2' q hjk g1 g2 h3 }
 rw[QdE hp]at S'
 exact S'
def sFldS(cs:List Str)(f:Str)(i:Nat)(E:SD->Out D):SD->Out Fl:=fun ς=>E ς>>=fun d=>match ς[i]? with
 | some (some (.s,.ins c fds))=>if (cs.contains c&&decide (fds.length<1000))=true then .ok (.nx (ς.set i (some (.s,.ins c (putD f d fds))))) else .stuck
 | _=>.stuck
theorem QcL(i:Nat)(hF:FldOk C.X.K C.CT cs f)(h:DE C e E)(hN:C.X.N[i]?=some x:=by rfl)(hv:Vis C.X.env.scope x:=by fail"V1")
 (hd:(x == ("__debug__":Str))=false:=by decide) (hcd:(x == ("__classdict__":Str))=false:=by decide)
 (hs:swapsWith e (some (.Attribute (.Name x px) f pa)) pos.line C.X.env=pure false:=by rfl):DS C (.Assign [.Attribute (.Name x px) f pa] e pos) (sFldS cs f i E):=by
 obtain⟨t,p,q⟩:=h
 refine⟨_,QxG (Qar hN hv hd hcd) p hs,fun G H σ ς W S k=>?_⟩
 unfold sFldS at k
 rw[d9]at k
 refine q G H σ ς _ S (dA k fun d k v H1 G1 S1 a1 b1 r=>?_)
 split at k
 ·rename_i c fds z
  rcases QF k with⟨hc,k⟩ | ⟨_,k⟩
  ·rw[aH]at hc
   obtain⟨pp,e1',hg,h0,hM,hB,A,dx,fs,hA,hH,rf⟩:=S1.sf i _ z
   obtain⟨cl,na⟩:=hF c hc.1 A hA
   refine⟨_,e1',pp,A,dx,fs,rfl,hH,cl,na,by rw[← rf.len];exact aI hc.2,?_⟩
   exact(k) σ _ G1 (S1.writeS z e1' hA (rf.put r)) b1
  ·exact k.elim
 ·exact k.elim
end
end DL
namespace L2
open PySem PySem.Spec PyProof.Rows
section
def MTab(X:Cx)(CX:CXT)(k:Nat)(m:Str)(dvs:List V)(cs:Addr->Sp->Prop):Prop:=
 ∀ C sp,cs C sp->Cls X.K C/\∃ f fd ps ds,Meth X.K C m f/\FnOk X.prog X.w X.K X.mg X.base CX k f fd ps sp/\Binds X.K fd ps ds/\Vals dvs ds
def QsN(m:Str)(dvs:List V)(cs:Addr->Sp->Prop)(E:XK)(ta:TE)(t:TA):TE:=fun σ H Q=>ta σ H fun x H1=>∃ a C dx fs sp,x=.ref a/\H1 a=some (.ins C dx fs)/\cs C sp/\fs.lookup m=none/\t σ H1 fun vs H2=>sp (x::(vs++dvs)) H2 Q E
theorem Qjf(he:PE X o ta)(tab:MTab X CX k m dvs cs)(hr:Room k X.A)(hx:Qc0 CX X E)(ha:PA X (e::es) t)
 (hst:starEach (e::es) X.env=(false,eval e X.env)::starEach es X.env:=by rfl) (hpl:(backTo pos (starEach es X.env)).any (·.1)=false:=by rfl)
 (ht:eval (.Call (.Attribute o m apos) (e::es) [] pos) X.env=(do
  let ov ← eval o X.env
  standAt apos.atName
  let (f,first) ← holding [ov] (getMethod ov m pl)
  callWith pos f first (backTo pos (starEach (e::es) X.env)) (backToKw pos (keywordEach [] X.env))):=by rfl):
 PE X (.Call (.Attribute o m apos) (e::es) [] pos) (QsN m dvs cs E ta t):=by
 intro pins s σ H Q I h
 refine PySem.W.methodCall_KW (thn (he pins s σ H _ I h) fun u s1 z0z=>?_) ht
 obtain⟨x,H1,I1,rx,a,C,dx,fs,sp,ex,ea,hc,l,q⟩:=z0z
 subst ex
 obtain rfl:=rx
 obtain⟨c,f,fd,ps,ds,hm,F,hb,hd⟩:=tab C sp hc
 refine Qky I1 ea c hm l ?_
 refine PySem.W.callWith_K I.ok.mod.kin hm.kp (thn (ha pos pins s1 σ H1 _ I1 q) fun us s2 ⟨vs,H2,I2,r,q2⟩=>⟨I2.kIn,?_⟩) hst hpl
 exact QoC (vs:=.ref a::vs) F hr hb hd hx I2 (.cons rfl r) q2
theorem Qmf(he:PE X o ta)(tab:MTab X CX k m dvs cs)(hr:Room k X.A)(hx:Qc0 CX X E)
 (ht:eval (.Call (.Attribute o m apos) [] [] pos) X.env=(do
  let ov ← eval o X.env
  standAt apos.atName
  let (f,first) ← holding [ov] (getMethod ov m pl)
  callWith pos f first (backTo pos (starEach [] X.env)) (backToKw pos (keywordEach [] X.env))):=by rfl):
 PE X (.Call (.Attribute o m apos) [] [] pos) (QsN m dvs cs E ta tNil):=by
 intro pins s σ H Q I h
 refine PySem.W.methodCall_KW (thn (he pins s σ H _ I h) fun u s1 z0z=>?_) ht
 obtain⟨x,H1,I1,rx,a,C,dx,fs,sp,ex,ea,hc,l,q⟩:=z0z
 subst ex
 obtain rfl:=rx
 obtain⟨c,f,fd,ps,ds,hm,F,hb,hd⟩:=tab C sp hc
 refine Qky I1 ea c hm l ?_
 exact PySem.W.callWith_K0 I1.kIn hm.kp (QoC (vs:=[.ref a]) F hr hb hd hx I1 (.cons rfl .nil) q)
end
end L2
namespace DL
open PySem PySem.Spec PyProof.Rows L2
def XDofI(CT:CTab)(E:XK)(H:Hp)(p:Addr):D->Prop:=fun d=>∃ c fs C,d=.err c fs/\CT c=some C/\∀ H' dx,(∀ b o,H b=some o->b≠p->H' b=some o)->PayN H H' dx fs->E (.ref C) dx H'
def SpI(K:PySem.W.Frag)(CT:CTab)(m:Str->List (Str×D)->List D->Out (List (Str×D))):Sp:=fun vs H Q E=>∃ p c A dx fs fds vs' ds G0,vs=.ref p::vs'/\CT c=some A/\H p=some (.ins A dx fs)/\G0 p=none/\Same G0 H/\RepF K CT G0 fds fs/\RepL K CT G0 ds vs'/\
 (m c fds ds).post (fun fds'=>∀ H' G' fs' dx',Same G0 G'->(∀ b o,H b=some o->b≠p->H' b=some o)->Same G' H'->(∀ b,G0 b=none->G' b≠none->H b=none)->H' p=some (.ins A dx' fs')->RepF K CT G' fds' fs'->Q .non H') (XDofI CT E H p)
noncomputable def Qh8(c:Str)(ς:SD):Out (List (Str×D)):=match (ς[0]?:Option (Option (SM×D))) with
 | some (some (SM.s,D.ins c' fds))=>if c'=c then .ok fds else .stuck
 | _=>.stuck
def QbP(c:Str):Fl->Out (List (Str×D))
 | .nx ς=>Qh8 c ς
 | _=>.stuck
def bodyI(n len:Nat)(T:SD->Out Fl):Str->List (Str×D)->List D->Out (List (Str×D)):=fun c fds ds=>
 if ds.length+1=n then T (some (.s,.ins c fds)::(ds.map (fun d=>some (.k,d))++List.replicate (len - n) none))>>=QbP c else .stuck
abbrev dcI(P:Program)(w:World)(K:PySem.W.Frag)(mg:Str->Option Value)(base:Heap)(CT:CTab)(N:List Str)(qual:Str)(sc:Scope)(f:Addr)(cdv:Value)(A:Around)(outer:List Env)(s:Shared)(H:Hp)(E:XK)(G:Hp)(p:Addr):Dc:=
 { X:=cxOf (CXR P w) P w K mg base N qual sc f cdv A outer s H E,CT:=CT,G0:=G,XD:=XDofI CT E H p,B:=fun b=>if b=p then none else H b,M:=fun b=>b=p,W:=fun _=>some p }
theorem fnI{P:Program}{w:World}{K:PySem.W.Frag}{mg:Str->Option Value}{base:Heap}{CT:CTab}{x qual:Str}{st:Stmt}{f:Addr}{fd:FuncData}{dV:Value}{N ps:List Str}{k:Nat}{T:SD->Out Fl}
 (F:FunV K x qual st f fd dV) (S:Qn N ps (Qd st))
 (hb:∀(cdv:Value)(A:Around)(outer:List Env)(s:Shared)(H:Hp)(E:XK)(G:Hp)(p:Addr),Room k (A.deeper (envOfC qual (Qd st) s.heap.objs.size f cdv))->DSs (dcI P w K mg base CT N qual (Qd st) f cdv A outer s H E G p) (QaT st) T):
 FnOk P w K mg base (CXR P w) (k+1) f fd ps (SpI K CT (bodyI ps.length N.length T)):=by
 obtain⟨oc,od,kV,doc,pm,an,cdv,ct,osl,rfl,lk,hcd⟩:=F.ex
 have len:∀ vs H Q E,SpI K CT (bodyI ps.length N.length T) vs H Q E->vs.length=ps.length:=by
  rintro vs H Q E ⟨p,c,A,dx,fs,fds,vs',ds,G0,e,_,_,_,_,_,r,q⟩
  unfold bodyI at q
  by_cases hl:ds.length+1=ps.length
  ·rw[e,aR, ← r.length];exact hl
  ·rw[aD hl]at q;exact q.elim
 refine fn_of lk hcd S len fun A outer s H vs Q E hr hsp=>?_
 have hlen:=len vs H Q E hsp
 obtain⟨p,c,Ac,dx,fs,fds,vs',ds,G0,rfl,hct,hp,hg,sub,rf,r,q⟩:=hsp
 obtain⟨t,p1,q1⟩:=hb cdv A outer s H E G0 p hr
 have hl:ds.length+1=ps.length:=by rw[r.length];exact hlen
 refine⟨t,p1,?_⟩
 unfold bodyI at q
 rw[aA hl,d9]at q
 have get:∀(i:Nat) x,(some (SM.s,D.ins c fds)::(ds.map (fun d=>some (SM.k,d))++List.replicate (N.length - ps.length) none))[i]?=some (some x)->(i=0/\x=(.s,.ins c fds))∨∃ j d,i=j+1/\ds[j]?=some d/\x=(.k,d):=fun i x h=>by
  cases i with
  | zero=>exact .inl ⟨rfl,by simpa using h.symm⟩
  | succ j=>
   rw[bC]at h
   obtain⟨d,e1,e2⟩:=Qal h
   exact .inr ⟨j,d,rfl,e1,e2⟩
 have S0:StR (dcI P w K mg base CT N qual (Qd st) f cdv A outer s H E G0 p) G0 H (L2.start N (.ref p::vs')) (some (.s,.ins c fds)::(ds.map (fun d=>some (.k,d))++List.replicate (N.length - ps.length) none)):={
  sub:=sub
  g0:=cf _
  new:=fun b h1 h2=>absurd h1 h2
  fr:=fun b o e _=>e
  dom:=fun b e=>e
  bs:=fun b o e=>by
   have e':(if b=p then none else H b)=some o:=e
   by_cases hb:b=p
   ·rw[aA hb]at e';cases e'
   ·rw[aD hb]at e';exact e'
  bh:=fun b e=>by
   show(if b=p then none else H b)=none
   by_cases hb:b=p
   ·rw[aA hb]
   ·rw[aD hb];exact e
  len:=by unfold L2.start;simp;have:=r.length;simp at hlen;lia
  fz:=fun i d e=>by
   rcases get i _ e with⟨_,z⟩ | ⟨j,d',rfl,e1,z⟩
   ·cases z
   ·cases z
    obtain⟨v,e3,rv⟩:=r.get e1
    exact⟨v,Qfw (by simpa using e3),rv⟩
  ow:=fun i d e=>by
   rcases get i _ e with⟨_,z⟩ | ⟨j,d',rfl,e1,z⟩<;>cases z
  ln:=fun i d e=>by
   rcases get i _ e with⟨_,z⟩ | ⟨j,d',rfl,e1,z⟩<;>cases z
  inj:=fun i j d e p _ h=>by
   rcases get i _ h with⟨_,z⟩ | ⟨j,d',rfl,e1,z⟩<;>cases z
  sf:=fun i d e=>by
   rcases get i _ e with⟨rfl,z⟩ | ⟨j,d',rfl,e1,z⟩
   ·cases z
    exact⟨p,Qfw rfl,hg,(by show H p≠none;rw[hp];simp),⟨rfl,rfl⟩,aA rfl,⟨Ac,dx,fs,hct,hp,rf⟩⟩
   ·cases z
  su:=fun i j d e q hij h1 h2=>by
   rcases get i _ h1 with⟨rfl,z⟩ | ⟨j,d',rfl,e1,z⟩
   ·rcases get j _ h2 with⟨rfl,z⟩ | ⟨j,d',rfl,e1,z⟩
    ·exact absurd rfl hij
    ·cases z
   ·cases z }
 refine q1 G0 H (L2.start N (.ref p::vs')) _ _ S0 (dA q fun fl kk=>?_)
 cases fl with
 | nx ς'=>
  intro σ' H' G' S' s'
  have kk:(Qh8 c ς').post _ _:=kk
  unfold Qh8 at kk
  split at kk
  ·rename_i c' fds' z
   rcases QF kk with⟨rfl,k2⟩ | ⟨_,k2⟩
   ·obtain⟨p',e1,hg',h0,⟨hM,_⟩,hB,A',dx',fs',hA',hH',rf'⟩:=S'.sf 0 _ z
    have hM:=hM
    subst hM
    have hA':CT c'=some A':=hA'
    rw[hct]at hA'
    cases hA'
    exact k2 H' G' fs' dx' s' (fun b o e hb=>S'.fr b o e hb) S'.sub S'.new hH' rf'
   ·exact k2.elim
  ·exact kk.elim
 | bk ς'=>exact kk.elim
 | ct ς'=>exact kk.elim
 | rt b d=>exact kk.elim
end DL
namespace DL
open PySem PySem.Spec PyProof.Rows L2
theorem Qka{K:PySem.W.Frag}:
 Rz (dcI P w K mg base CT N qual sc f cdv A outer s H E G p) E where
 pass:=passR
 xd:=fun d ⟨c,fs,Cc,h1,h2,h3⟩=>⟨c,fs,Cc,h1,h2,fun H' dx k n=>h3 H' dx (fun b o e hb=>k b o e hb) n⟩
 madeI:=fun Cc pins σ H2 s2 ea t dx I e hn hE=>QqJ I rfl rfl rfl e hn hE
 made:=fun Cc pins σ H1 s1 ea h' vs I hx hE=>Qsl I rfl rfl rfl hx hE
 calm:=rfl
section
def eMake(c:Str)(m:Str->List (Str×D)->List D->Out (List (Str×D)))(a:SD->Out (List D)):SD->Out D:=fun ς=>a ς>>=fun xs=>m c [] xs>>=fun fds=>.ok (.ins c fds)
def MkOk(P:Program)(w:World)(K:PySem.W.Frag)(mg:Str->Option Value)(base:Heap)(CT:CTab)(c:Str)(k:Nat)(m:Str->List (Str×D)->List D->Out (List (Str×D))):Prop:=
 ∃ A f fd ps,CT c=some A/\mg c=some (.ref A)/\Mk K A f/\FnOk P w K mg base (CXR P w) k f fd ps (SpI K CT m)/\Binds K fd ps []
theorem QgD(rz:Rz C E)(h:MkOk C.X.prog C.X.w C.X.K C.X.mg C.X.base C.CT c k m)(hr:Room (k+1) C.X.A)(ha:DA C (e::es) AA)(hg:Gl C.X c)
 (hdb:(c == ("__debug__":Str))=false:=by decide) (he:starEach (e::es) C.X.env=(false,eval e C.X.env)::starEach es C.X.env:=by rfl) (hpl:(backTo pos (starEach es C.X.env)).any (·.1)=false:=by rfl):
 DF C (.Call (.Name c p) (e::es) [] pos) (eMake c m AA):=by
 obtain⟨A,f,fd,ps,hct,hm,M,F,hb⟩:=h
 obtain⟨t,p1,q1⟩:=ha
 refine⟨_,Qvv M F hr hg hm hb .nil rz.pass p1 hdb he hpl,fun G H σ ς Q S q=>?_⟩
 unfold eMake at q
 rw[d9]at q
 refine q1 G H σ ς _ S (dA q fun xs kk vs H1 G1 S1 a1 b1 r1=>?_)
 intro x dx nx ndx ne
 rw[d9]at kk
 have keep:∀ b o,H1 b=some o->upd (upd H1 dx (.own x)) x (.ins A dx []) b=some o:=fun b o e=>by
  rw[Qi (QH e nx),Qi (QH e ndx)];exact e
 have back:∀ b,upd (upd H1 dx (.own x)) x (.ins A dx []) b=none->H1 b=none:=fun b e=>by
  by_cases hx:b=x
  ·subst hx;exact nx
  ·rw[Qi hx]at e
   by_cases hd:b=dx
   ·subst hd;exact ndx
   ·rw[Qi hd]at e;exact e
 refine⟨x,c,A,dx,[],[],vs++[],xs,G1,rfl,hct,Qq,S1.sub.free nx,fun b o e=>keep b o (S1.sub b o e),rfl,by rw[aj];exact r1,?_⟩
 cases z:m c [] xs with
 | stuck=>rw[z]at kk;exact kk.elim
 | exc y=>
  rw[z]at kk
  obtain⟨c',gs,Cc,e1',e2',e3'⟩:=rz.xd y kk
  exact⟨c',gs,Cc,e1',e2',fun H' dx2 s' n=>e3' H' dx2 (fun b o q m'=>s' b o (keep b o (S1.fr b o q m')) (QH (S1.fr b o q m') nx)) (n.back fun b q=>S1.dom b (back b q))⟩
 | ok fds=>
  rw[z]at kk
  intro H' G' fs' dx' g1 h1 s1 n1 hp rf
  have hh:=fun b o e=>h1 b o (keep b o e) (QH e nx)
  have hgp:G' x=none:=by
   cases zz:G' x with
   | none=>rfl
   | some o=>have:=n1 x (S1.sub.free nx) (by rw[zz];simp);rw[Qq]at this;cases this
  exact⟨rfl,(kk) x H' G' (S1.grow hh g1 s1 fun b g g'=>back b (n1 b g g')) (a1.trans hh) (b1.trans g1) (a1.free nx) hgp ⟨A,dx',fs',hct,hp,rf⟩⟩
end
def MtOk(P:Program)(w:World)(K:PySem.W.Frag)(mg:Str->Option Value)(base:Heap)(CT:CTab)(CX:CXT)(name:Str)(k:Nat)(cs:List Str)(sp:Str->Sp):Prop:=
 ∀ c,cs.contains c=true->∃ A f fd ps,CT c=some A/\Cls K A/\Meth K A name f/\FnOk P w K mg base CX k f fd ps (sp c)/\Binds K fd ps []
def csOf(CT:CTab)(cs:List Str)(sp:Str->Sp):Addr->Sp->Prop:=fun A s=>∃ c,cs.contains c=true/\CT c=some A/\s=sp c
theorem mtab(h:MtOk X.prog X.w X.K X.mg X.base CT CX name k cs sp):MTab X CX k name [] (csOf CT cs sp):=by
 rintro A s ⟨c,hc,hA,rfl⟩
 obtain⟨A',f,fd,ps,h1,h2,h3,h4,h5⟩:=h c hc
 rw[hA]at h1;cases h1
 exact⟨h2,f,fd,ps,[],h3,h4,h5,.nil⟩
section
variable      {mt:Str->List D->Out D}    {AA:SD->Out (List D)}
def eMeth(cs:List Str)(name:Str)(mt:Str->List D->Out D)(O:SD->Out D)(A:SD->Out (List D)):SD->Out D:=fun ς=>O ς>>=fun d=>match d with
 | .ins c fds=>if (cs.contains c&&(fds.lookup name).isNone)=true then A ς>>=fun xs=>mt c (.ins c fds::xs) else .stuck
 | _=>.stuck
theorem QiD{t:TA}(S1:StR C G1 H1 σ ς)(a1:Same H H1)(b1:Same G G1)(r1:Rep C.X.K C.CT G1 (.ins c fds) v1)
 (tk:MtOk C.X.prog C.X.w C.X.K C.X.mg C.X.base C.CT CX0 name k cs (fun c=>SpD C.X.K C.CT fr (mt c))) (hx:∀ x,¬ C.XD x)
 (hq:∀ G H σ ς Q,StR C G H σ ς->(AA ς).post (fun ds=>∀ vs H' G',StR C G' H' σ ς->Same H H'->Same G G'->RepL C.X.K C.CT G' ds vs->Q vs H') C.XD->t σ H Q)
 (hK:∀ d v H2 G2 H' G',StR C G2 H2 σ ς->Same H H2->Same G G2->K' d->Same G2 G'->Same H2 H'->Same G' H'->(∀ b,G2 b=none->G' b≠none->H2 b=none)->RetG C.X.K C.CT fr H2 G' H' d v->Q v H')
 (kk:(if (cs.contains c&&(fds.lookup name).isNone)=true then AA ς>>=fun xs=>mt c (.ins c fds::xs) else .stuck).post K' C.XD):
 ∃ a Cc dx fs sp,v1=.ref a/\H1 a=some (.ins Cc dx fs)/\csOf C.CT cs (fun c=>SpD C.X.K C.CT fr (mt c)) Cc sp/\fs.lookup name=none/\t σ H1 fun vs H2=>sp (v1::(vs++[])) H2 Q E0:=by
 rcases QF kk with⟨hc,kk⟩ | ⟨_,kk⟩
 ·rw[aH]at hc
  obtain⟨a,Cc,dx,fs,rfl,hct,hh,rf⟩:=r1
  refine⟨a,Cc,dx,fs,_,rfl,S1.sub _ _ hh,⟨c,hc.1,hct,rfl⟩,(RepF.look rf).2 (by simpa using hc.2),?_⟩
  rw[d9]at kk
  refine hq G1 H1 σ ς _ S1 (dA kk fun xs k2 vs H2 G2 S2 a2 b2 r2=>?_)
  refine⟨.ins c fds::xs,G2,S2.sub,⟨_,_,rfl,cg b2 (.ins c fds) (.ref a) ⟨a,Cc,dx,fs,rfl,hct,hh,rf⟩,by rw[aj];exact r2⟩,?_⟩
  cases z:mt c (.ins c fds::xs) with
  | stuck=>rw[z]at k2;exact k2.elim
  | exc y=>rw[z]at k2;exact absurd k2 (hx y)
  | ok d=>
   rw[z]at k2
   intro v H' G' g1 h1 s1 n1 ret
   exact hK d v H2 G2 H' G' S2 (a1.trans a2) (b1.trans b2) k2 g1 h1 s1 n1 ret
 ·exact kk.elim
theorem retKD:∀ d v H2 G2 H' G',StR C G2 H2 σ ς->Same H H2->Same G G2->KD C G H σ ς Q d->Same G2 G'->Same H2 H'->Same G' H'->(∀ b,G2 b=none->G' b≠none->H2 b=none)->RetG C.X.K C.CT fr H2 G' H' d v->Q v H':=by
 intro d v H2 G2 H' G' S2 a b kd g1 h1 s1 n1 ret
 unfold RetG at ret
 by_cases hc:(fr && !d.scal)=true
 ·rw[aA hc]at ret
  obtain⟨pp,rfl,h0,hg',ow⟩:=ret
  obtain⟨o,ho⟩:=ow.there
  have S3:=(S2.grow h1 g1 s1 n1).freeze ho hg' (S2.h0none h0) (fun i d' z1 z2=>by
   obtain⟨o',ho'⟩:=S2.own_ne z1 z2
   rw[h0]at ho';cases ho')
  exact kd _ _ _ S3 (a.trans h1) ((b.trans g1).trans (Qt hg')) (ow.known hg' ho)
 ·rw[aD hc]at ret
  exact kd v H' G' (S2.grow h1 g1 s1 n1) (a.trans h1) (b.trans g1) ret
theorem QqS{pl:Sem Bool}(tk:MtOk C.X.prog C.X.w C.X.K C.X.mg C.X.base C.CT CX0 name k cs (fun c=>SpD C.X.K C.CT fr (mt c)))(hr:Room k C.X.A)(ho:DE C o O)(ha:DA C (e::es) AA)(hx:∀ x,¬ C.XD x:=by fail"V5")
 (hst:starEach (e::es) C.X.env=(false,eval e C.X.env)::starEach es C.X.env:=by rfl) (hpl:(backTo pos (starEach es C.X.env)).any (·.1)=false:=by rfl)
 (ht:eval (.Call (.Attribute o name apos) (e::es) [] pos) C.X.env=(do
  let ov ← eval o C.X.env
  standAt apos.atName
  let (f,first) ← holding [ov] (getMethod ov name pl)
  callWith pos f first (backTo pos (starEach (e::es) C.X.env)) (backToKw pos (keywordEach [] C.X.env))):=by rfl):
 DE C (.Call (.Attribute o name apos) (e::es) [] pos) (eMeth cs name mt O AA):=by
 obtain⟨t1,p1,q1⟩:=ho
 obtain⟨t2,p2,q2⟩:=ha
 refine⟨_,Qjf p1 (mtab tk) hr pass0 p2 hst hpl ht,fun G H σ ς Q S q=>?_⟩
 unfold eMeth at q
 rw[d9]at q
 refine q1 G H σ ς _ S (dA q fun d kk v1 H1 G1 S1 a1 b1 r1=>?_)
 cases d with
 | ins c fds=>exact QiD S1 a1 b1 r1 tk hx q2 retKD kk
 | _=>exact kk.elim
theorem Qay{pl:Sem Bool}(tk:MtOk C.X.prog C.X.w C.X.K C.X.mg C.X.base C.CT CX0 name k cs (fun c=>SpD C.X.K C.CT fr (mt c)))(hr:Room k C.X.A)(ho:DE C o O)(hx:∀ x,¬ C.XD x:=by fail"V5")
 (ht:eval (.Call (.Attribute o name apos) [] [] pos) C.X.env=(do
  let ov ← eval o C.X.env
  standAt apos.atName
  let (f,first) ← holding [ov] (getMethod ov name pl)
  callWith pos f first (backTo pos (starEach [] C.X.env)) (backToKw pos (keywordEach [] C.X.env))):=by rfl):
 DE C (.Call (.Attribute o name apos) [] [] pos) (eMeth cs name mt O aNil):=by
 obtain⟨t1,p1,q1⟩:=ho
 refine⟨_,Qmf p1 (mtab tk) hr pass0 ht,fun G H σ ς Q S q=>?_⟩
 unfold eMeth at q
 rw[d9]at q
 refine q1 G H σ ς _ S (dA q fun d kk v1 H1 G1 S1 a1 b1 r1=>?_)
 cases d with
 | ins c fds=>exact QiD (AA:=aNil) S1 a1 b1 r1 tk hx (fun G H σ ς Q S q=>q [] H G S (cf H) (cf G) rfl) retKD kk
 | _=>exact kk.elim
end
end DL
namespace DL
open PySem PySem.Spec PyProof.Rows L2
section
variable     {mt:Str->List D->Out D}
theorem QhM(h:(QaS x).post K' X'):x.post (fun d=>d.scal=false/\K' d) X':=by
 unfold QaS at h
 rw[d9]at h
 refine dA h fun d k=>?_
 rcases QF (k) with⟨_,k⟩ | ⟨hc,k⟩
 ·exact k.elim
 ·exact⟨by cases hh:d.scal with | true=>exact absurd hh hc | false=>rfl,k⟩
theorem retKF:∀ d v H2 G2 H' G',StR C G2 H2 σ ς->Same H H2->Same G G2->(d.scal=false/\KF C G H σ ς Q d)->Same G2 G'->Same H2 H'->Same G' H'->(∀ b,G2 b=none->G' b≠none->H2 b=none)->RetG C.X.K C.CT true H2 G' H' d v->Q v H':=by
 rintro d v H2 G2 H' G' S2 a b ⟨hs,kd⟩ g1 h1 s1 n1 ret
 unfold RetG at ret
 rw[aA (by rw[hs];rfl)]at ret
 obtain⟨pp,rfl,h0,hg',ow⟩:=ret
 exact kd pp H' G' (S2.grow h1 g1 s1 n1) (a.trans h1) (b.trans g1) (a.free h0) hg' ow
theorem QvB(tk:MtOk C.X.prog C.X.w C.X.K C.X.mg C.X.base C.CT CX0 name k cs (fun c=>SpD C.X.K C.CT true (mt c)))(hr:Room k C.X.A)(ho:DE C o O)(ha:DA C (e::es) AA)(hx:∀ x,¬ C.XD x:=by fail"V5")
 (hst:starEach (e::es) C.X.env=(false,eval e C.X.env)::starEach es C.X.env:=by rfl) (hpl:(backTo pos (starEach es C.X.env)).any (·.1)=false:=by rfl)
 (ht:eval (.Call (.Attribute o name apos) (e::es) [] pos) C.X.env=(do
  let ov ← eval o C.X.env
  standAt apos.atName
  let (f,first) ← holding [ov] (getMethod ov name pl)
  callWith pos f first (backTo pos (starEach (e::es) C.X.env)) (backToKw pos (keywordEach [] C.X.env))):=by rfl):
 DF C (.Call (.Attribute o name apos) (e::es) [] pos) (fun ς=>QaS (eMeth cs name mt O AA ς)):=by
 obtain⟨t1,p1,q1⟩:=ho
 obtain⟨t2,p2,q2⟩:=ha
 refine⟨_,Qjf p1 (mtab tk) hr pass0 p2 hst hpl ht,fun G H σ ς Q S q=>?_⟩
 have q:=QhM q
 unfold eMeth at q
 rw[d9]at q
 refine q1 G H σ ς _ S (dA q fun d kk v1 H1 G1 S1 a1 b1 r1=>?_)
 cases d with
 | ins c fds=>exact QiD S1 a1 b1 r1 tk hx q2 retKF kk
 | _=>exact kk.elim
theorem Qhh(tk:MtOk C.X.prog C.X.w C.X.K C.X.mg C.X.base C.CT CX0 name k cs (fun c=>SpD C.X.K C.CT true (mt c)))(hr:Room k C.X.A)(ho:DE C o O)(hx:∀ x,¬ C.XD x:=by fail"V5")
 (ht:eval (.Call (.Attribute o name apos) [] [] pos) C.X.env=(do
  let ov ← eval o C.X.env
  standAt apos.atName
  let (f,first) ← holding [ov] (getMethod ov name pl)
  callWith pos f first (backTo pos (starEach [] C.X.env)) (backToKw pos (keywordEach [] C.X.env))):=by rfl):
 DF C (.Call (.Attribute o name apos) [] [] pos) (fun ς=>QaS (eMeth cs name mt O aNil ς)):=by
 obtain⟨t1,p1,q1⟩:=ho
 refine⟨_,Qmf p1 (mtab tk) hr pass0 ht,fun G H σ ς Q S q=>?_⟩
 have q:=QhM q
 unfold eMeth at q
 rw[d9]at q
 refine q1 G H σ ς _ S (dA q fun d kk v1 H1 G1 S1 a1 b1 r1=>?_)
 cases d with
 | ins c fds=>exact QiD (AA:=aNil) S1 a1 b1 r1 tk hx (fun G H σ ς Q S q=>q [] H G S (cf H) (cf G) rfl) retKF kk
 | _=>exact kk.elim
def Qek(cs:List Str)(name:Str)(m:Str->List (Str×D)->List D->Out (List (Str×D)))(i:Nat)(A:SD->Out (List D)):SD->Out Fl:=fun ς=>match (ς[i]?:Option (Option (SM×D))) with
 | some (some (SM.s,D.ins c fds))=>if (cs.contains c&&(fds.lookup name).isNone)=true then A ς>>=fun xs=>m c fds xs>>=fun fds'=>.ok (.nx (ς.set i (some (.s,.ins c fds')))) else .stuck
 | _=>.stuck
theorem Qhi(i:Nat)(rz:Rz C E)(tk:MtOk C.X.prog C.X.w C.X.K C.X.mg C.X.base C.CT (CXR C.X.prog C.X.w) name k cs (fun _=>SpI C.X.K C.CT m))(hr:Room k C.X.A)(ha:DA C (e::es) AA)
 (hN:C.X.N[i]?=some x:=by rfl) (hv:Vis C.X.env.scope x:=by fail"V1")
 (hd:(x == ("__debug__":Str))=false:=by decide) (hcd:(x == ("__classdict__":Str))=false:=by decide)
 (hst:starEach (e::es) C.X.env=(false,eval e C.X.env)::starEach es C.X.env:=by rfl) (hpl:(backTo pos (starEach es C.X.env)).any (·.1)=false:=by rfl)
 (ht:eval (.Call (.Attribute (.Name x px) name apos) (e::es) [] pos) C.X.env=(do
  let ov ← eval (.Name x px) C.X.env
  standAt apos.atName
  let (f,first) ← holding [ov] (getMethod ov name pl)
  callWith pos f first (backTo pos (starEach (e::es) C.X.env)) (backToKw pos (keywordEach [] C.X.env))):=by rfl)
 (hsw:swapsWith (.Call (.Attribute (.Name x px) name apos) (e::es) [] pos) none spos.line C.X.env=pure false:=by rfl):
 DS C (.Expr (.Call (.Attribute (.Name x px) name apos) (e::es) [] pos) spos) (Qek cs name m i AA):=by
 obtain⟨t2,p2,q2⟩:=ha
 refine⟨_,Qdv (Qjf (Qar hN hv hd hcd) (mtab tk) hr rz.pass p2 hst hpl ht) hsw,fun G H σ ς W S kk=>?_⟩
 unfold Qek at kk
 split at kk
 ·rename_i c fds z
  rcases QF kk with⟨hc,kk⟩ | ⟨_,kk⟩
  ·rw[aH]at hc
   obtain⟨p,e1',hg,h0,⟨hM,_⟩,hB,A,dx,fs,hct,hh,rf⟩:=S.sf i _ z
   refine⟨_,e1',p,A,dx,fs,_,rfl,hh,⟨c,hc.1,hct,rfl⟩,(RepF.look rf).2 (by simpa using hc.2),?_⟩
   rw[d9]at kk
   refine q2 G H σ ς _ S (dA kk fun xs k2 vs H2 G2 S2 a2 b2 r2=>?_)
   obtain⟨p',e2',hg2,_,_,_,A2,dx2,fs2,hct2,hh2,rf2⟩:=S2.sf i _ z
   rw[e1']at e2';cases e2'
   rw[d9]at k2
   refine⟨p,c,A2,dx2,fs2,fds,vs++[],xs,G2,rfl,hct2,hh2,hg2,S2.sub,rf2,by rw[aj];exact r2,?_⟩
   cases zz:m c fds xs with
   | stuck=>rw[zz]at k2;exact k2.elim
   | exc y=>
    rw[zz]at k2
    obtain⟨c',gs,Cc,f1,f2,f3⟩:=rz.xd y k2
    exact⟨c',gs,Cc,f1,f2,fun H' dx3 s' n=>f3 H' dx3 (fun b o q mm=>s' b o (S2.fr b o q mm) (by rintro rfl;exact mm hM)) (n.back S2.dom)⟩
   | ok fds'=>
    rw[zz]at k2
    intro H' G' fs' dx' g1 h1 s1 n1 hp rf'
    have gp:G' p=none:=by
     cases y:G' p with
     | none=>rfl
     | some o=>have:=n1 p hg2 (by rw[y];simp);rw[hh2]at this;cases this
    have S3:StR C G' (upd H' p (.ins A2 dx2 fs2)) σ ς:=S2.grow (fun b o e=>by
     by_cases hb:b=p
     ·subst hb;rw[Qq];rw[hh2]at e;exact e
     ·rw[Qi hb];exact h1 b o e hb) g1 (fun b o e=>by
     rw[Qi (by rintro rfl;rw[gp]at e;cases e)];exact s1 b o e) n1
    have S4:=S3.writeS (dx:=dx') z e1' hct2 rf'
    have eq:upd (upd H' p (.ins A2 dx2 fs2)) p (.ins A2 dx' fs')=H':=by
     rw[Qv6]
     funext b
     by_cases hb:b=p
     ·subst hb;rw[Qq,hp]
     ·rw[Qi hb]
    rw[eq]at S4
    exact(k2) σ H' G' S4 (b2.trans g1)
  ·exact kk.elim
 ·exact kk.elim
end
end DL
namespace DL
open PySem PySem.Spec PyProof.Rows L2
noncomputable def inCls(s:Stmt)(j:Nat):Stmt:=match s with
 | .ClassDef _ _ _ b _ _ _ _ _ _ _=>b.getD j (.Pass ⟨0,0,0,0⟩)
 | _=>.Pass ⟨0,0,0,0⟩
def KitI(K:PySem.W.Frag)(CT:CTab)(uc:Value)(tbl:List (Str×Bool)):Prop:=∀ c b,tbl.lookup c=some b->∀ A,CT c=some A->ClsD K A/\PySem.W.kitOne K (.ref A) uc=some b
theorem Qg4{K:PySem.W.Frag}:KitI K CT uc []:=fun _ _ h=>nomatch h
theorem QP{K:PySem.W.Frag}(hc:CT c=some A)(hx:ClsD K A)(hk:PySem.W.kitOne K (.ref A) uc=some b)(r:KitI K CT uc tbl):KitI K CT uc ((c,b)::tbl):=by
 intro c' b' h A' hA
 rw[aJ]at h
 cases e:c' == c with
 | true=>
  rw[e]at h
  cases h
  rw[bc.mp e,hc]at hA
  cases hA
  exact⟨hx,hk⟩
 | false=>
  rw[e]at h
  exact r c' b' h A' hA
section
end
def eIxO(i:Nat)(b:SD->Out D):SD->Out D:=fun ς=>match (ς[i]?:Option (Option (SM×D))) with
 | some (some (SM.o,D.lst xs))=>b ς>>=fun k=>match k with | .int k=>optO (atI xs k) | _=>.stuck
 | _=>.stuck
section
theorem Qxi(i:Nat)(hb:DB C b B)(hN:C.X.N[i]?=some x:=by rfl)(hv:Vis C.X.env.scope x:=by fail"V1")
 (hd:(x == ("__debug__":Str))=false:=by decide) (hcd:(x == ("__classdict__":Str))=false:=by decide) (hs:Qiz b:=by fail"V4"):DE C (.Subscript (.Name x px) b pos) (eIxO i B):=by
 obtain⟨tb,p2,q2⟩:=hb
 refine⟨_,pe_ix QoT (Qar hN hv hd hcd) p2 hs,fun G H σ ς Q S q=>?_⟩
 unfold eIxO at q
 split at q
 ·rename_i xs z
  obtain⟨p,e1',hg,h0,ow⟩:=S.ow i _ z
  rw[d9]at q
  refine⟨_,e1',q2 G H σ ς _ S (dA q fun y k2 v2 H2 G2 S2 a2 b2 r2=>?_)⟩
  cases y with
  | int k=>
   cases r2
   obtain⟨d,e2',kd⟩:=QcE k2
   obtain⟨p',e3',hg',h0',vs,hv1,hv2⟩:=S2.ow i _ z
   rw[e1']at e3';cases e3'
   obtain⟨v,e4',rv⟩:=QiI hv2 e2'
   exact .inl ⟨p,vs,k,v,rfl,rfl,cb hv1,e4',cp (cq kd a2 b2) S2 rv⟩
  | _=>exact k2.elim
 ·exact q.elim
end
end DL
namespace L2
open PySem PySem.Spec PyProof.Rows
def Ite(K:PySem.W.Frag)(a:Addr):It:=
 ⟨fun i H=>∃ xs x,SqL K H a xs/\xs[i]?=some x,
  fun i H v H'=>∃ p x,H p=none/\v=.ref p/\H'=upd H p (.tup [.int i,x])/\(∀ xs,SqL K H a xs->xs[i]?=some x),
  fun i H=>∃ xs,SqL K H a xs/\xs.length<=i⟩
theorem Qts{K:PySem.W.Frag}(D1:e≠it):
 Turn P w K (.Tuple elts k1 pos) (Ite K l) [e,it] e (fun i h=>(∃ old,IsEnum h e it (i:Int) old)/\h.IsListIter it l i) where
 mem:=by simp
 obj:=fun i h st b hb=>by
  obtain⟨⟨old,s1⟩,⟨o4,e4,c4,d4⟩⟩:=st
  simp only[aF,aT,b6]at hb
  rcases hb with rfl | rfl
  ·exact⟨_,s1,fun v q=>by cases q⟩
  ·exact⟨_,e4,fun v q=>by rw[d4]at q;cases q⟩
 keep:=fun i h h' st k=>by
  obtain⟨⟨old,s1⟩,s4⟩:=st
  exact⟨⟨old,k e (by simp) _ s1⟩,s4.at fun o q=>k it (by simp) o q⟩
 item:=by
  intro X hP hw hK hc i pins s σ H E I hf st hg
  subst hP hw hK
  obtain⟨xs,x,q1,hx⟩:=hg
  obtain⟨its1,rv1,p1,hz1⟩:=I.list q1
  obtain⟨u1,hu1,ru1⟩:=rv1.get hx
  obtain⟨⟨old,s1⟩,s4⟩:=st
  refine wpAny_pyNext_enum_item s1 s4 p1.isList (by simpa using hu1) D1 fun h' a1 a3 a5 a6 hk=>?_
  have hT:=I.hok.fresh (aP _)
  have fp:=hf
  have out:∀ c,c∉[e,it]->∀ o,s.heap.get? c=some o->h'.get? c=some o:=fun c hc o q=>hk c o (fun q=>hc (by simp[q])) (fun q=>hc (by simp[q])) q
  have trk:∀ c o,H c=some o->c∉[e,it]:=fun c o q hc=>by rw[(fp c hc).1]at q;cases q
  have hok:HOk X.prog X.w (upd H s.heap.objs.size (.tup [.int i,x])) h':=fun c o q=>by
   by_cases hcT:c=s.heap.objs.size
   ·subst hcT
    rw[Qq]at q
    cases q
    exact⟨by show 2<=sizeLine;decide,[.int i s.toks,u1],.cons ⟨_,rfl⟩ (.cons ru1 .nil),⟨_,a5,rfl,_,rfl⟩⟩
   ·rw[Qi hcT]at q
    refine(I.hok c o q).stay (fun b u hb q'=>out b ?_ u q') (fun b q'=>?_) fun b ts q'=>?_
    ·rcases hb with rfl | hb
     ·exact trk b _ q
     ·exact trk b _ hb
    ·rw[Qi (QH q' hT)];exact q'
    ·rw[Qi (QH q' hT)];exact q'
  have I1:Inv X pins σ (upd H s.heap.objs.size (.tup [.int i,x])) { s with heap:=h',gens:=s.gens,drawn:=s.drawn,toks:=s.toks+1 }:=I.step
   (fun c hc=>⟨(fp c hc).2.2.2.1,(fp c hc).2.1,(fp c hc).2.2.2.2.1,(fp c hc).2.2.2.2.2⟩) (fun c o _ _ hc q _=>out c hc o q) (fun c o _ _ hc q _=>⟨o.slots,out c hc o q⟩)
   (fun c o hc q n=>by rw[Qi (af (aO q))];exact n) (fun c o hc q=>⟨o,out c hc o q⟩)
   (fun c ts q=>by rw[Qi (QH q hT)];exact q) (fun c o u q=>by rw[Qi (QH q hT)];exact q) (fun c ts q=>⟨#[],by rw[Qi (QH q hT),q];simp⟩)
   (fun m hm=>by
    obtain⟨o,es,ep,ho,r⟩:=hm
    exact⟨o,es,ep,out _ (fun hc=>(fp _ hc).2.1 rfl) o ho,r⟩) hok I.bare
  have lt:∀{c o},s.heap.get? c=some o->s.heap.objs.size≠c:=fun q=>cL (aO q)
  refine⟨_,rfl,wpAny_letOwnedTupleGo_enum a1 fun h2 hz2 hs2=>?_⟩
  obtain⟨z0,z1,z2,z3,z4,z5⟩:=hf e (by simp)
  have I2:=Inv.turned (t':=s.toks+1) I1 (fun b o hb q=>(hs2.2 b hb).trans q) (by rw[Qi (lt s1).symm];exact z0) z1 z3 z4 z5
  refine⟨.ref s.heap.objs.size,_,I2,rfl,⟨_,x,hT,rfl,rfl,fun xs' q'=>by rw[I.list_inj q' q1];exact hx⟩,
   ⟨⟨_,by have:(i+1:Nat)=i+1:=by push_cast;rfl
          rw[this];exact hz2⟩,a3.extBut hs2.extBut D1.symm⟩,fun c hc=>?_⟩
  have:=(hf c hc).1
  obtain⟨oc,hoc⟩:∃ o,s.heap.get? c=some o:=by
   simp only[aF,aT,b6]at hc
   rcases hc with rfl | rfl
   ·exact⟨_,s1⟩
   ·obtain⟨o,q,_⟩:=s4;exact⟨o,q⟩
  rw[Qi (lt hoc).symm];exact this
 done:=by
  intro X hP hw hK hc i pins s σ H E I hf st hg
  subst hP hw hK
  obtain⟨xs,q1,hend⟩:=hg
  obtain⟨its1,rv1,p1,hz1⟩:=I.list q1
  have l1:=rv1.length
  obtain⟨⟨old,s1⟩,s4⟩:=st
  obtain⟨z0,z1,z2,z3,z4,z5⟩:=hf it (by simp)
  refine wpAny_pyNext_enum_end (I.ok.hd hc) s1 s4 p1.isList (by simp;lia) fun h' hk=>⟨rfl,?_⟩
  have fp:∀ c∈[it],FpOk X pins H c:=fun c hc=>hf c (by simp only[aF,aT,b6]at hc ⊢;exact Or.inr hc)
  have out:∀ c,c∉[it]->∀ o,s.heap.get? c=some o->h'.get? c=some o:=fun c hc o q=>hk c o (fun q=>hc (by simp[q])) q
  have trk:∀ c o,H c=some o->c∉[it]:=fun c o q hc=>by rw[(fp c hc).1]at q;cases q
  exact I.step (fun c hc=>⟨(fp c hc).2.2.2.1,(fp c hc).2.1,(fp c hc).2.2.2.2.1,(fp c hc).2.2.2.2.2⟩) (fun c o _ _ hc q _=>out c hc o q) (fun c o _ _ hc q _=>⟨o.slots,out c hc o q⟩)
   (fun c o hc q n=>n) (fun c o hc q=>⟨o,out c hc o q⟩) (fun c ts q=>q) (fun c o u q=>q) (fun c ts q=>⟨#[],by rw[q];simp⟩)
   (fun m hm=>by
    obtain⟨o,es,ep,ho,r⟩:=hm
    exact⟨o,es,ep,out _ (fun hc=>(fp _ hc).2.1 rfl) o ho,r⟩)
   (fun c o q=>(I.hok c o q).stay (fun b u hb q'=>out b (by
    rcases hb with rfl | hb
    ·exact trk b _ q
    ·exact trk b _ hb) u q') (fun b q'=>q') fun b ts q'=>q') I.bare
 self:=fun _ _ _ _ _ st h=>wpAny_pyIter_enum st.1.choose_spec h
section
def iEnum(K:PySem.W.Frag)(ta:TA):TI:=fun σ H R=>ta σ H fun vs H1=>∃ a,vs=[.ref a]/\(∃ xs,SqL K H1 a xs)/\R (Ite K a) H1
theorem QwJ{tpos:Pos}(hg:Gl X "enumerate")(hm:X.mg "enumerate"=none)(ha:PA X [a] ta)(hs:starEach [a] X.env=[(false,eval a X.env)]:=by rfl):
 PI X (.Tuple elts k1 tpos) (.Call (.Name "enumerate" p) [a] [] pos) (iEnum X.K ta):=by
 intro pins s σ H R I h
 refine Call_ (Qen I hg hm PyProof.Rows.Boot.«enumerate» (bK (thn (ha pos pins s σ H _ I h) fun us s1 z0z=>?_) (by rw[hs];rfl) (by rfl)))
 obtain⟨vs,H1,I1,r1,q1⟩:=z0z
 obtain⟨l1,e,⟨xs,hx⟩,q⟩:=q1
 subst e
 cases r1 with
 | cons r rr=>
  cases rr
  cases r
  obtain⟨its1,rv1,p1,hz1⟩:=I1.list hx
  refine call_enumerate_list p1.isList fun h' c1 c4 c6 hk=>?_
  refine wpAny_pyIter_enum c1 ?_
  refine⟨_,_,_,Ite X.K l1,H1,rfl,I1.kept fun b o e=>hk b o e,Qts (by lia),
   ⟨⟨_,c1⟩,c4⟩,fun b hb=>?_,q⟩
  have hb':s1.heap.objs.size<=b:=by
   simp only[aF,aT,b6]at hb
   rcases hb with rfl | rfl<;>lia
  exact I1.fpOk hb' (I1.hok.fresh hb')
end
end L2
namespace DL
open PySem PySem.Spec PyProof.Rows L2
noncomputable def enumD(i:Nat):List D->List D
 | []=>[]
 | x::xs=>.tup [.int i,x]::enumD (i+1) xs
theorem Qms:∀(xs:List D)(i:Nat),(enumD i xs).length=xs.length
 | [],_=>rfl
 | x::xs,i=>by simp[enumD,Qms xs]
theorem Qh4:∀(xs:List D)(n i:Nat),(enumD n xs)[i]?=xs[i]?.map fun x=>.tup [.int (n+i:Nat),x]
 | [],_,_=>rfl
 | x::xs,n,0=>rfl
 | x::xs,n,i+1=>by
  show(enumD (n+1) xs)[i]?=_
  rw[Qh4 xs (n+1) i,show n+1+i=n+(i+1) by lia]
  rfl
def itE(A:SD->Out D):SD->Out (List D):=fun ς=>A ς>>=fun x=>match x with
 | .lst xs=>.ok (enumD 0 xs)
 | .lln xs=>.ok (enumD 0 xs)
 | _=>.stuck
section
theorem QnN{K:PySem.W.Frag}(h1:SqL K G1 p us)(r1:RepL K CT G1 xs us):DIt K CT G1 (Ite K p) (enumD 0 xs) where
 go:=fun G H i d s1 sH hd=>by
  rw[Qh4,cB]at hd
  cases e1':xs[i]? with
  | none=>rw[e1']at hd;cases hd
  | some x=>
   rw[e1']at hd
   cases hd
   obtain⟨u,hu,ru⟩:=r1.get e1'
   have q1:=sH.seq (s1.seq h1)
   refine⟨⟨us,u,q1,hu⟩,fun w H' z0z=>?_⟩
   obtain⟨t,x',n,e,e',k1⟩:=z0z
   have z1:=k1 us q1
   rw[hu]at z1;cases z1
   subst e e'
   have gn:=sH.free n
   refine⟨upd G t (.tup [.int i,u]),Qt gn,Qt n,QhI sH,fun b g g'=>?_,t,[.int i,u],rfl,SqT.of Qq,⟨.int i,_,rfl,rfl,u,_,rfl,cg (s1.trans (Qt gn)) x u ru,rfl⟩⟩
   by_cases hb:b=t
   ·subst hb;exact n
   ·rw[Qi hb]at g';exact absurd g g'
 stop:=fun G H s1 sH=>by
  refine⟨us,sH.seq (s1.seq h1),?_⟩
  have l1:=r1.length
  rw[Qms]
  lia
theorem Qrc(hgl:Gl C.X "enumerate")(hm:C.X.mg "enumerate"=none)(ha:DE C a A)
 (hst:starEach [a] C.X.env=(false,eval a C.X.env)::starEach [] C.X.env:=by rfl):DI C (.Tuple elts k1 tpos) (.Call (.Name "enumerate" p) [a] [] pos) (itE A):=by
 obtain⟨t0,p0,q0⟩:=ha
 refine⟨_,QwJ hgl hm (Q0 p0 QaL hst) (by rw[hst];rfl),fun G H σ ς R S k=>?_⟩
 unfold itE at k
 rw[d9]at k
 refine q0 G H σ ς _ S (dA k fun d k v H1 G1 S1 a1 b1 r=>?_)
 cases d with
 | lst xs=>
  obtain⟨p1,us,rfl,h1,r1⟩:=r
  exact⟨p1,rfl,⟨us,S1.sub.seq h1⟩,k _ H1 G1 S1 a1 b1 (QnN h1 r1)⟩
 | lln xs=>
  obtain⟨p1,us,rfl,h1,r1⟩:=r
  exact⟨p1,rfl,⟨us,S1.sub.seq h1⟩,k _ H1 G1 S1 a1 b1 (QnN h1 r1)⟩
 | _=>exact k.elim
end
end DL
namespace L2
open PySem PySem.Spec PyProof.Rows
section
end
end L2
namespace DL
open PySem PySem.Spec PyProof.Rows L2
section
end
end DL
namespace L2
open PySem PySem.Spec PyProof.Rows
section
end
end L2
namespace DL
open PySem PySem.Spec PyProof.Rows L2
section
variable{C:Dc}
end
end DL
namespace L2
open PySem PySem.Spec PyProof.Rows
section
end
end L2
namespace DL
open PySem PySem.Spec PyProof.Rows L2
section
noncomputable def frz(j:Nat)(ς:SD):SD:=match (ς[j]?:Option (Option (SM×D))) with
 | some (some (SM.o,d))=>ς.set j (some (.k,d))
 | _=>ς
theorem StR.frz(S:StR C G H σ ς)(z:ς[j]?=some (some (.o,d))):∃ G',Same G G'/\StR C G' H σ (ς.set j (some (.k,d))):=by
 obtain⟨p,e,hg,h0,ow⟩:=S.ow j d z
 obtain⟨o,ho⟩:=ow.there
 have hj:j<ς.length:=(aU.mp z).1
 have get:∀(i:Nat) x,(ς.set j (some (.k,d)))[i]?=some (some x)->(i=j/\x=(.k,d))∨(i≠j/\ς[i]?=some (some x)):=fun i x h=>by
  rw[bE]at h
  by_cases q:j=i
  ·rw[aA q,aA (by lia)]at h
   cases h
   exact .inl ⟨q.symm,rfl⟩
  ·rw[aD q]at h
   exact .inr ⟨fun w=>q w.symm,h⟩
 refine⟨upd G p o,Qt hg,?_⟩
 have hn:=fun i d' hi q w=>S.inj i j d' d p hi q z w e
 exact {
  toGH:=GH.freezeR S.toGH ho hg h0
  len:=by rw[ah];exact S.len
  fz:=fun i d' q=>by
   rcases get i _ q with⟨rfl,w⟩ | ⟨_,w⟩
   ·cases w
    exact⟨_,e,ow.known hg ho⟩
   ·obtain⟨v,a,b⟩:=S.fz i d' w
    exact⟨v,a,cg (Qt hg) d' v b⟩
  ow:=fun i d' q=>by
   rcases get i _ q with⟨rfl,w⟩ | ⟨hi,w⟩
   ·cases w
   ·obtain⟨r,a,b,c,w'⟩:=S.ow i d' w
    refine⟨r,a,?_,c,w'.mono (Qt hg) fun _ z=>z⟩
    rw[Qi (by rintro rfl;exact hn i d' hi w a)];exact b
  ln:=fun i d' q=>by
   rcases get i _ q with⟨rfl,w⟩ | ⟨_,w⟩
   ·cases w
   ·exact S.ln i d' w
  inj:=fun i k d1 d2 q hne h1 h2=>by
   rcases get i _ h1 with⟨rfl,w⟩ | ⟨_,w⟩
   ·cases w
   ·rcases get k _ h2 with⟨rfl,w2⟩ | ⟨_,w2⟩
    ·cases w2
    ·exact S.inj i k d1 d2 q hne w w2
  sf:=fun i d' q=>by
   rcases get i _ q with⟨rfl,w⟩ | ⟨_,w⟩
   ·cases w
   ·obtain⟨r,a,b,c,m,z',w'⟩:=S.sf i d' w
    refine⟨r,a,?_,c,m,z',w'.mono (Qt hg) fun _ z=>z⟩
    rw[Qi (by rintro rfl;exact c h0)];exact b
  su:=fun i k d1 d2 q hne h1 h2=>by
   rcases get i _ h1 with⟨rfl,w⟩ | ⟨_,w⟩
   ·cases w
   ·rcases get k _ h2 with⟨rfl,w2⟩ | ⟨_,w2⟩
    ·cases w2
    ·exact S.su i k d1 d2 q hne w w2 }
theorem Qij(j:Nat){st:Stmt}(h:DS C st T):DS C st (fun ς=>T (frz j ς)):=by
 obtain⟨t,p1,q⟩:=h
 refine⟨t,p1,fun G H σ ς W S k=>?_⟩
 have k:(T (frz j ς)).post (FlK C G W) C.XD:=k
 by_cases z:∃ d,ς[j]?=some (some (SM.o,d))
 ·obtain⟨d,z⟩:=z
  have e:frz j ς=ς.set j (some (.k,d)):=by unfold frz;rw[z]
  rw[e]at k
  obtain⟨G',sG,S'⟩:=S.frz z
  exact q G' H σ _ W S' (dA k fun f kf=>cw kf sG)
 ·have e:frz j ς=ς:=by
   unfold frz
   split
   ·rename_i d w;exact absurd ⟨d,w⟩ z
   ·rfl
  rw[e]at k
  exact q G H σ ς W S k
end
end DL
namespace LS
open PySem PySem.Spec PyProof.Rows
noncomputable def met(f:Nat->Str):Nat->List Str
 | 0=>[]
 | i+1=>if f i∈met f i then met f i else met f i++[f i]
theorem met_le(f:Nat->Str):∀ i,(met f i).length<=i
 | 0=>aP _
 | i+1=>by
  have h:=met_le f i
  show(if _ then _ else _:List Str).length<=_
  split
  ·omega
  ·rw[ae,cA];omega
abbrev isIn(f:Nat->Str)(i:Nat):Str->Bool:=fun y=>decide (y∈met f i)
theorem Quh(f:Nat->Str)(i:Nat)(y:Str):(isIn f i y||decide (y=f i))=isIn f (i+1) y:=by
 show _=decide (y∈(if _ then _ else _:List Str))
 by_cases h:f i∈met f i
 ·rw[aA h]
  by_cases e:y=f i
  ·subst e;simp[isIn,h]
  ·simp[isIn,e]
 ·rw[aD h]
  simp[isIn,Bool.decide_or]
theorem Qup(f:Nat->Str)(i:Nat):(if isIn f i (f i)=true then(met f i).length else(met f i).length+1)=(met f (i+1)).length:=by
 show _=(if _ then _ else _:List Str).length
 by_cases h:f i∈met f i
 ·rw[aA h,aA (aG h)]
 ·rw[aD h,aD (by simpa [isIn] using h),ae];rfl
section
variable{pg:Program}{wd:World}
theorem Quf{hp:Heap}{p:Addr}{f g:Str->Bool}{m n:Nat}(h:hp.SetOf (strKind pg wd) p f m)(hf:f=g)(hn:m=n):hp.SetOf (strKind pg wd) p g n:=hn ▸ hf ▸ h
variable{ar:Around}{Res:Result->Shared->Prop}{it:Addr}{ff wt:List Addr}{Gn:Array GenState->Array GenState->Prop}{n:Nat}{Pv:Nat->Value->Prop}{Sv:Nat->Shared->Prop}
theorem fill(Wk:WalksS pg wd ar.in1 it ff wt Gn n Pv Sv){p:Addr}(off:p∉ff){f:Nat->Str}(txt:∀ i v,Pv i v->∃ t,v=.str (f i) t)(few:n+1<scanBound):
 ∀(m i:Nat)(st:Shared),i+m=n->Sv i st->st.heap.SetOf (strKind pg wd) p (isIn f i) (met f i).length->
  (∀ st',Moved (p::wt) Gn st st'->st'.heap.SetOf (strKind pg wd) p (isIn f n) (met f n).length->Res (.ok (.ret .none)) st')->
  codeAny (model pg wd) ar (.builtin "set.update.loop" ⟨[.ref p,.ref it],[]⟩) Res st:=by
 have off':p∉wt:=fun z=>off (Wk.sub _ z)
 have more:∀ b,b∈wt->b∈p::wt:=fun b hb=>aE p hb
 have stays:∀{s s':Shared}{i:Nat},Moved wt Gn s s'->s.heap.SetOf (strKind pg wd) p (isIn f i) (met f i).length->s'.heap.SetOf (strKind pg wd) p (isIn f i) (met f i).length:=
  fun mv z0z=>by obtain⟨o,es,ep,tb,ho,rest⟩:=z0z;exact⟨o,es,ep,tb,mv.heap p o off' ho,rest⟩
 intro m
 induction m with
 | zero=>
  intro i st him hs hset fin
  obtain rfl:i=n:=by omega
  refine codeAny_builtin PyProof.Rows.F.entry_set_update_loop ?_
  rw[Around.under_plainId bU _]
  exact aN (m:=pyNext (.ref it)) (Wk.done st _ _ hs fun st' mv=>aY (fin st' (mv.mono more) (stays mv hset)))
 | succ m next=>
  intro i st him hs hset fin
  refine codeAny_builtin PyProof.Rows.F.entry_set_update_loop ?_
  rw[Around.under_plainId bU _]
  refine aN (m:=pyNext (.ref it)) (Wk.item i st _ _ (by omega) hs fun v st' hv hs' mv=>?_)
  obtain⟨t,rfl⟩:=txt i v hv
  have key:=strKind_is pg wd (f i) t
  have hset1:=stays mv hset
  refine aN (m:=holding [.str (f i) t] (setAdd p (.str (f i) t))) (cF ?_)
  unfold setAdd
  refine cF (aN ((strKind pg wd).pyHash (k:=f i) key ?_))
  refine wpAny_setAddHashed_of (knd:=strKind pg wd) key rfl hset1 (by have:=met_le f i;omega) fun hp' same hset'=>?_
  have now:=Quf hset' (g:=isIn f (i+1)) (funext fun y=>Quh f i y) (Qup f i)
  have tt:st'.toks<=st'.toks+1:=Nat.le_succ _
  refine aY ⟨plainId_quiet bU _,next (i+1) _ (by omega) (Wk.frame _ st' _ _ hs' tt fun b hb o e=>?_) now fun st2 mv2 hset2=>fin st2 (Moved.trans Wk.gtrans ((mv.mono more).then_heap tt fun b o hb e=>?_) mv2) hset2⟩
  ·rw[same.2 b fun z=>off (z ▸ hb)];exact e
  ·rw[same.2 b fun z=>hb (z ▸ aL)];exact e
end
abbrev Qbq(led:Bool):Obj:={ cls:=.type "set",dict:=none,data:=.set #[] 0 (.fresh 0 0 led) }
section
variable{pg:Program}{wd:World}{ar:Around}{Ex:Value->Shared->Prop}{st:Shared}
set_option maxHeartbeats 4000000 in
theorem of_list{l:Addr}{vs:Array Value}{f:Nat->Str}{Q:Value->Shared->Prop}(nh:ar.handled=none)(isl:st.heap.IsList l vs)(txt:∀ i v,vs[i]?=some v->∃ t,v=Value.str (f i) t)(few:vs.size+1<scanBound)
 (goal:∀(hp:Heap)(tk:Nat),hp.SetOf (strKind pg wd) st.heap.objs.size (isIn f vs.size) (met f vs.size).length->(∀ b o,b<st.heap.objs.size->st.heap.get? b=some o->hp.get? b=some o)->Q (.ref st.heap.objs.size) { st with heap:=hp,toks:=tk }):
 wpAny (model pg wd) ar (call (.type "set") [.ref l]) Q Ex st:=by
 have made:=bI.made
 have sub:=bI.sub
 have nt:=bI.notType
 have cc:=bI.canCreate
 have tc:=PySem.F.typeCall_set_1 (.ref l)
 obtain⟨c1,c2,mro⟩:=bI.mro
 refine wpAny_call (codeAny_of_tree ?_)
 show wpAny (model pg wd) _ (callAny (.type "set") ⟨[.ref l],[]⟩) _ _ st
 refine aY ⟨Code.quiet_builtin _ (dk),codeAny_builtin F.entry_type_call ?_⟩
 rw[Around.under_plain (weight_type_call_type "set" [.ref l] []) rfl]
 repeat (any_goals (first | assumption | wp_step))
 let mid:Shared->Prop:=fun s2=>∃ hp tk,s2={ st with heap:=hp,toks:=tk }/\hp.SetOf (strKind pg wd) st.heap.objs.size (isIn f vs.size) (met f vs.size).length/\∀ b o,b<st.heap.objs.size->st.heap.get? b=some o->hp.get? b=some o
 refine cM (code_set_new_1 (.ref l) (E:=Ex) (Q₁:=fun v s1=>∃ led,v=.ref st.heap.objs.size/\s1={ st with heap:=st.heap.push (Qbq led) }) fun led=>⟨led,rfl,rfl⟩) fun r1 s1 h1=>?_
 cases r1 with
 | error _=>exact h1
 | ok fl1=>
  cases fl1 with
  | ret v1=>
   obtain⟨led,rfl,rfl⟩:=h1
   have at1:(st.heap.push (Qbq led)).get? st.heap.objs.size=some (Qbq led):=ag _ rfl
   have ty1:Shared.TypeIs { st with heap:=st.heap.push (Qbq led) } (.ref st.heap.objs.size) "set":=⟨_,at1,rfl⟩
   have lk:=bI.init.lookup
   have bd:=bI.init.bind (.ref st.heap.objs.size)
   repeat (any_goals (first | assumption | wp_step))
   refine cM (codeAny_call_builtin (R:=wants (fun v s2=>v=.none/\mid s2) Ex) bI.init.plain F.entry_set_init (check_set_init_1 ty1 ?_)) fun r2 s2 h2=>?_
   ·obtain⟨⟨oc,od,dt,os⟩,hol,e1,nl,e2⟩:=isl
    obtain rfl:oc=.type "list":=e1
    obtain rfl:dt=.seq vs nl:=e2
    have hol1:(st.heap.push (Qbq led)).get? l=some ⟨.type "list",od,.seq vs nl,os⟩:=aK _ hol
    have isl1:(st.heap.push (Qbq led)).IsList l vs:=⟨_,hol1,rfl,nl,rfl⟩
    have n1:=PySem.F.sub_list_set
    have n2:=PySem.F.sub_list_frozenset
    have n3:(Value.type "list" == Value.type "dict")=false:=by decide
    have lt : @LT.lt Nat _ l st.heap.objs.size:=aO hol
    have sz:=bf st.heap (Qbq led)
    unfold Builtin.«set.__init__» noKeywords Builtin.Frozenset.updateFrom
    generalize keep:pyIter=ITER
    wp_walk
    subst keep
    refine cS isl1 (aN (wpAny_runValue ?_))
    have off:st.heap.objs.size∉[(st.heap.push (Qbq led)).objs.size,l]:=by
     rw[sz]
     intro z
     rcases aF.mp z with z | z
     ·exact af (cW _) z
     ·exact cL lt (bx.mp z)
    have off2:l≠(st.heap.push (Qbq led)).objs.size:=by rw[sz];exact af (c8 lt)
    refine fill ((Walks.list (by simp[nh]) _ l off2 vs).toS) off txt few vs.size 0 _ (cB _) ⟨⟨_,ag _ rfl,rfl,rfl⟩,isl1.push _⟩ ?_ fun s3 mv hs3=>?_
    ·exact Quf ((setObjOf_fresh (knd:=strKind pg wd) led).setOf (aK _ at1) (by unfold scanBound;omega)) (funext fun y=>by simp[isIn,met]) rfl
    ·obtain⟨hp3,g3,d3,tk3,os3⟩:=s3
     obtain rfl:g3=st.gens:=mv.gens
     obtain rfl:d3=st.drawn:=mv.drawn
     obtain rfl:os3=st.os:=mv.os
     refine aY (aY ⟨rfl,hp3,tk3,rfl,hs3,fun b o hb e=>?_⟩)
     refine mv.heap b o (fun z=>?_) (aK _ (aK _ e))
     rw[sz]at z
     rcases aF.mp z with z | z
     ·exact af hb z
     ·rcases aF.mp z with z | z
      ·exact af (c8 hb) z
      ·exact absurd z aT
   ·cases r2 with
    | error _=>exact h2
    | ok fl2=>
     cases fl2 with
     | ret v2=>
      obtain⟨rfl,hp,tk,rfl,hs2,kp⟩:=h2
      repeat (any_goals (first | assumption | wp_step))
      exact goal hp tk hs2 kp
     | _=>exact h2.elim
  | _=>exact h1.elim
end
end LS
namespace DL
open PySem PySem.Spec PyProof.Rows L2
noncomputable def dkey:D->Option Key
 | .int i=>some (.inl i)
 | .str x=>some (.inr x)
 | _=>none
noncomputable def valD(kds:List (Key×D))(k:Key):Option D:=(kds.find? fun kv=>decide (kv.1=k)).map (·.2)
noncomputable def putKD(kds:List (Key×D))(k:Key)(d:D):List (Key×D):=
 if (kds.any fun kv=>decide (kv.1=k))=true then kds.map (fun kv=>if kv.1=k then(kv.1,d) else kv) else kds++[(k,d)]
section
variable{K:PySem.W.Frag}
theorem Qji(h:dkey d=some k)(r:Rep K CT H d v):v=kV k:=by
 cases d with
 | int i=>cases h;exact r
 | str x=>cases h;exact r
 | _=>cases h
theorem RepK.len:∀{ds:List (Key×D)}{vs:List (Key×V)},RepK K CT H ds vs->ds.length=vs.length
 | [],_,h=>by cases h;rfl
 | (k,d)::ds,_,z0z=>by obtain⟨v,r,h1,h2,h3⟩:=z0z;rw[h1,aR,aR,RepK.len h3]
theorem RepK.val(k:Key):∀{ds:List (Key×D)}{vs:List (Key×V)},RepK K CT H ds vs->(valD ds k=none/\valV vs k=none)∨∃ d v,valD ds k=some d/\valV vs k=some v/\Rep K CT H d v
 | [],_,h=>by cases h;exact .inl ⟨rfl,rfl⟩
 | (k',d)::ds,_,z0z=>by
  obtain⟨v,r,h1,h2,h3⟩:=z0z
  subst h1
  by_cases e:k'=k
  ·subst e
   exact .inr ⟨d,v,by simp[valD],by simp[valV],h2⟩
  ·have a:valD ((k',d)::ds) k=valD ds k:=by simp[valD,b9,e]
   have b:valV ((k',v)::r) k=valV r k:=by simp[valV,b9,e]
   rw[a,b];exact RepK.val k h3
theorem RepK.any(k:Key):∀{ds:List (Key×D)}{vs:List (Key×V)},RepK K CT H ds vs->(ds.any fun kv=>decide (kv.1=k))=vs.any fun kv=>decide (kv.1=k)
 | [],_,h=>by cases h;rfl
 | (k',d)::ds,_,z0z=>by
  obtain⟨v,r,h1,h2,h3⟩:=z0z
  subst h1
  rw[bt,bt,RepK.any k h3]
theorem RepK.repl(k:Key)(hd:Rep K CT H d v):∀{ds:List (Key×D)}{vs:List (Key×V)},RepK K CT H ds vs->RepK K CT H (ds.map fun kv=>if kv.1=k then(kv.1,d) else kv) (vs.map fun kv=>if kv.1=k then(kv.1,v) else kv)
 | [],_,h=>by cases h;rfl
 | (k',d')::ds,_,z0z=>by
  obtain⟨v',r,h1,h2,h3⟩:=z0z
  subst h1
  rw[au,au]
  by_cases e:k'=k
  ·rw[aA (e),aA (e)]
   exact⟨v,_,rfl,hd,RepK.repl k hd h3⟩
  ·rw[aD (e),aD (e)]
   exact⟨v',_,rfl,h2,RepK.repl k hd h3⟩
theorem RepK.snoc(k:Key)(hd:Rep K CT H d v):∀{ds:List (Key×D)}{vs:List (Key×V)},RepK K CT H ds vs->RepK K CT H (ds++[(k,d)]) (vs++[(k,v)])
 | [],_,h=>by cases h;exact⟨v,[],rfl,hd,rfl⟩
 | (k',d')::ds,_,z0z=>by
  obtain⟨v',r,h1,h2,h3⟩:=z0z
  subst h1
  exact⟨v',_,rfl,h2,RepK.snoc k hd h3⟩
theorem RepK.put(k:Key)(hd:Rep K CT H d v)(h:RepK K CT H ds vs):RepK K CT H (putKD ds k d) (putK vs k v):=by
 unfold putKD putK
 rw[RepK.any k h]
 split
 ·exact RepK.repl k hd h
 ·exact RepK.snoc k hd h
end
def eDix(A B:SD->Out D):SD->Out D:=fun ς=>A ς>>=fun x=>match x with
 | .dic kds=>B ς>>=fun y=>match dkey y with | some k=>optO (valD kds k) | none=>.stuck
 | _=>.stuck
def eDget(A B:SD->Out D):SD->Out D:=fun ς=>A ς>>=fun x=>match x with
 | .dic kds=>B ς>>=fun y=>match dkey y with | some k=>.ok ((valD kds k).getD .non) | none=>.stuck
 | _=>.stuck
def sPutD(i:Nat)(I E:SD->Out D):SD->Out Fl:=fun ς=>E ς>>=fun d=>match ς[i]? with
 | some (some (.o,.dic kds))=>I ς>>=fun y=>match dkey y with
  | some k=>if decide (kds.length<sizeLine)=true then .ok (.nx (ς.set i (some (.o,.dic (putKD kds k d))))) else .stuck
  | none=>.stuck
 | _=>.stuck
section
theorem QxB(hu:C.X.A.units+64<cLine)(ha:DE C a A)(hb:DB C b B)(hs:NoSl b:=by fail"V4"):DE C (.Subscript a b pos) (eDix A B):=by
 obtain⟨ta,p1,q1⟩:=ha
 obtain⟨tb,p2,q2⟩:=hb
 refine⟨_,Qwa (by omega) p1 p2 hs,fun G H σ ς Q S q=>?_⟩
 unfold eDix at q
 rw[d9]at q
 refine q1 G H σ ς _ S (dA q fun x k v1 H1 G1 S1 a1 b1 r1=>?_)
 cases x with
 | dic kds=>
  have k:=k
  rw[d9]at k
  refine q2 G1 H1 σ ς _ S1 (dA k fun y k2 v2 H2 G2 S2 a2 b2 r2=>?_)
  cases e:dkey y with
  | none=>rw[e]at k2;exact k2.elim
  | some kk=>
   rw[e]at k2
   obtain⟨d,ed,kd⟩:=QcE k2
   obtain⟨p,kvs,rfl,h2,h3⟩:=cg b2 _ v1 r1
   rcases RepK.val kk h3 with⟨n1,n2⟩ | ⟨d',v,n1,n2,r⟩
   ·rw[n1]at ed;cases ed
   ·rw[n1]at ed;cases ed
    exact⟨p,v,rfl,.inl ⟨kvs,kk,Same.rd S2.sub h2,Qji e r2,n2.symm⟩,cp (cq kd (a1.trans a2) (b1.trans b2)) S2 r⟩
 | _=>exact k.elim
theorem Qv9{K:PySem.W.Frag}:Rep K CT H .non .non:=rfl
theorem Qvz(hu:C.X.A.units+64<cLine)(ha:DE C a A)(hb:DB C b B)
 (hbase:attributeBase a "get" C.X.env (eval a C.X.env)=eval a C.X.env:=by rfl)
 (hfew:((backTo pos (starEach [b] C.X.env)).all (fun x => !x.1)&&(backToKw pos (keywordEach [] C.X.env)).all (fun x=>x.1.isSome)
  && decide (([b]:List Expr).length+([]:List Keyword).length+(if ([]:List Keyword).isEmpty then 0 else 1)<30))=true:=by rfl)
 (hline:(apos.endLine == pos.line)=true:=by rfl) (htr:backTo pos (starEach [b] C.X.env)=[(false,eval b C.X.env)]:=by rfl):DE C (.Call (.Attribute a "get" apos) [b] [] pos) (eDget A B):=by
 obtain⟨ta,p1,q1⟩:=ha
 obtain⟨tb,p2,q2⟩:=hb
 refine⟨_,Qux (by omega) p1 p2 ⟨hbase,hfew,hline,htr⟩,fun G H σ ς Q S q=>?_⟩
 unfold eDget at q
 rw[d9]at q
 refine q1 G H σ ς _ S (dA q fun x k v1 H1 G1 S1 a1 b1 r1=>?_)
 cases x with
 | dic kds=>
  have k:=k
  rw[d9]at k
  obtain⟨p,kvs,rfl,h2,h3⟩:=r1
  refine⟨p,rfl,.inl ⟨kvs,Same.rd S1.sub h2⟩,q2 G1 H1 σ ς _ S1 (dA k fun y k2 v2 H2 G2 S2 a2 b2 r2=>?_)⟩
  cases e:dkey y with
  | none=>rw[e]at k2;exact k2.elim
  | some kk=>
   rw[e]at k2
   have kd:KD C G H σ ς Q ((valD kds kk).getD .non):=k2
   refine⟨valV kvs kk,.inl ⟨kvs,kk,Same.rd (S1.sub.trans a2) h2,Qji e r2,rfl⟩,?_⟩
   rcases RepK.val kk (RepK.mono b2 kds kvs h3) with⟨n1,n2⟩ | ⟨d',v,n1,n2,r⟩
   ·rw[n1]at kd;rw[n2];exact cp (cq kd (a1.trans a2) (b1.trans b2)) S2 Qv9
   ·rw[n1]at kd;rw[n2];exact cp (cq kd (a1.trans a2) (b1.trans b2)) S2 r
 | _=>exact k.elim
theorem StR.writeD(S:StR C G H σ ς)(hi:ς[i]?=some (some (.o,.dic xs)))(hp:σ[i]?=some (some (.ref p)))(hH:H p=some (.dK vs))(r:RepK C.X.K C.CT G ys ws):
 StR C G (upd H p (.dK ws)) σ (ς.set i (some (.o,.dic ys))):=by
 obtain⟨p',e1,hg,h0,ow⟩:=S.ow i _ hi
 rw[hp]at e1;cases e1
 have ne:∀ b o,G b=some o->b≠p:=fun b o e z=>by subst z;rw[hg]at e;cases e
 have S':StR C G (upd H p (.dK ws)) (σ.set i (some (.ref p))) (ς.set i (some (.o,.dic ys))):={
  sub:=fun b o e=>by rw[Qi (ne b o e)];exact S.sub b o e
  g0:=S.g0
  new:=S.new
  fr:=fun b o e m=>by
   rw[Qi (by rintro rfl;rw[h0]at e;cases e)];exact S.fr b o e m
  dom:=fun b e=>by
   by_cases hb:b=p
   ·subst hb;exact h0
   ·rw[Qi hb]at e;exact S.dom b e
  bs:=fun b o e=>by
   rw[Qi (by rintro rfl;rw[S.bh _ h0]at e;cases e)];exact S.bs b o e
  bh:=S.bh
  len:=by rw[ah,ah];exact S.len
  fz:=fun j d h=>by
   rcases Qr h with⟨rfl,h2,l⟩ | ⟨hne,h2⟩
   ·cases h2
   ·rw[Qj hne];exact S.fz j d h2
  ow:=fun j d h=>by
   rcases Qr h with⟨rfl,h2,l⟩ | ⟨hne,h2⟩
   ·cases h2
    exact⟨p,Qdy (by rw[S.len];exact l),hg,h0,⟨ws,Qq,r⟩⟩
   ·rw[Qj hne]
    obtain⟨q,a,b,c,w⟩:=S.ow j d h2
    have qp:q≠p:=by
     rintro rfl
     exact S.inj i j _ _ q hne hi h2 hp a
    exact⟨q,a,b,c,w.mono (cf G) fun o z=>by rw[Qi qp];exact z⟩
  ln:=fun j d h=>by
   rcases Qr h with⟨rfl,h2,l⟩ | ⟨hne,h2⟩
   ·cases h2
   ·rw[Qj hne];exact S.ln j d h2
  inj:=fun j k d1 d2 q hjk h1 h2 h3=>by
   have get:∀(j:Nat) d,(ς.set i (some (.o,D.dic ys)))[j]?=some (some (.o,d))->∃ d',ς[j]?=some (some (.o,d')):=fun j d h=>by
    rcases Qr h with⟨rfl,h2,l⟩ | ⟨hne,h2⟩
    ·exact⟨_,hi⟩
    ·exact⟨_,h2⟩
   obtain⟨d1',g1⟩:=get j d1 h1
   obtain⟨d2',g2⟩:=get k d2 h2
   rw[QdE hp]at h3 ⊢
   exact S.inj j k d1' d2' q hjk g1 g2 h3
  sf:=fun j d h=>by
   rcases Qr h with⟨rfl,h2,l⟩ | ⟨hne,h2⟩
   ·cases h2
   ·rw[Qj hne]
    obtain⟨q,a,b,c,m,z,w⟩:=S.sf j d h2
    have qp:q≠p:=by
     rintro rfl
     exact c h0
    exact⟨q,a,b,c,m,z,w.mono (cf G) fun o z=>by rw[Qi qp];exact z⟩
  su:=fun j k d1 d2 q hjk h1 h2 h3=>by
   rcases Qr h1 with⟨rfl,q1,l⟩ | ⟨n1,q1⟩
   ·cases q1
   ·rcases Qr h2 with⟨rfl,q2,l⟩ | ⟨n2,q2⟩
    ·cases q2
    ·rw[Qj n1]at h3
     rw[Qj n2];exact S.su j k d1 d2 q hjk q1 q2 h3 }
 rw[QdE hp]at S'
 exact S'
theorem QqU(hu:C.X.A.units+64<cLine)(i:Nat)(hi:DB C a A)(he:DE C e E)(hN:C.X.N[i]?=some x:=by rfl)(hv:Vis C.X.env.scope x:=by fail"V1")
 (hd:(x == ("__debug__":Str))=false:=by decide) (hcd:(x == ("__classdict__":Str))=false:=by decide)
 (hs:swapsWith e (some (.Subscript (.Name x p1) a p2)) pos.line C.X.env=pure false:=by rfl):DS C (.Assign [.Subscript (.Name x p1) a p2] e pos) (sPutD i A E):=by
 obtain⟨t,p,q⟩:=he
 obtain⟨t2,p2',q2⟩:=hi
 refine⟨_,QvY (by omega) (Qar hN hv hd hcd) p2' p hs,fun G H σ ς W S k=>?_⟩
 unfold sPutD at k
 rw[d9]at k
 refine q G H σ ς _ S (dA k fun d k v H1 G1 S1 a1 b1 r1=>?_)
 split at k
 ·rename_i kds z
  obtain⟨pp,e1,hg,h0,ow⟩:=S1.ow i _ z
  rw[d9]at k
  refine⟨_,e1,q2 G1 H1 σ ς _ S1 (dA k fun y k2 w H2 G2 S2 a2 b2 r2=>?_)⟩
  cases ey:dkey y with
  | none=>rw[ey]at k2;exact k2.elim
  | some kk=>
   rw[ey]at k2
   obtain⟨pp',e1',hg',h0',kvs,hv1,hv2⟩:=S2.ow i _ z
   rw[e1]at e1';cases e1'
   rcases QF k2 with⟨hc,k3⟩ | ⟨_,k3⟩
   ·refine⟨pp,_,rfl,.inl ⟨kvs,kk,hv1,Qji ey r2,by rw[← hv2.len];exact aI hc,rfl⟩,?_⟩
    exact k3 σ _ G2 (S2.writeD z e1 hv1 (RepK.put kk (cg b2 d v r1) hv2)) (b1.trans b2)
   ·exact k3.elim
 ·exact k.elim
end
end DL
namespace DL
open PySem PySem.Spec PyProof.Rows L2
def QaK(xs:List Str):Nat:=(LS.met (fun i=>xs.getD i "") xs.length).length
def QvX(K:PySem.W.Frag)(te:TA):TE:=fun σ H Q=>te σ H fun vs H1=>∃ p xs,vs=[V.ref p]/\SqL K H1 p (xs.map V.str)/\xs.length<4000/\Q (.int (QaK xs)) H1
section
theorem Qof:∀{xs:List Str}{us:List Value},Vals (xs.map V.str) us->∀(i:Nat) v,us[i]?=some v->∃ t,v=.str (xs.getD i "") t
 | [],_,h,i,v,hv=>by cases h;simp at hv
 | x::xs,_,h,i,v,hv=>by
  cases h with
  | cons hx hr=>
   cases i with
   | zero=>
    obtain⟨t,ht⟩:=hx
    refine⟨t,?_⟩
    simp at hv
    rw[← hv,ht];rfl
   | succ i=>
    have:=Qof hr i v (by simpa using hv)
    simpa using this
theorem QtE(hh:X.A.handled=none)(gl:Gl X "len")(ml:X.mg "len"=none)(gs:Gl X "set")(ms:X.mg "set"=none)(he:PA X [e] te)
 (h1:starEach [e] X.env=(false,eval e X.env)::starEach [] X.env:=by rfl)
 (h2:starEach [.Call (.Name "set" p2) [e] [] p3] X.env=(false,eval (.Call (.Name "set" p2) [e] [] p3) X.env)::starEach [] X.env:=by rfl)
 (h3:backTo pos (starEach [.Call (.Name "set" p2) [e] [] p3] X.env)=[(false,eval (.Call (.Name "set" p2) [e] [] p3) X.env)]:=by rfl):
 PE X (.Call (.Name "len" p1) [.Call (.Name "set" p2) [e] [] p3] [] pos) (QvX X.K te):=by
 intro pins s σ H Q I h
 have inner:wpAny (model X.prog X.w) X.A (eval (.Call (.Name "set" p2) [e] [] p3) X.env) (fun u s'=>∃ D H1 xs,u=.ref D/\Inv X pins σ H1 s'/\s'.heap.SetOf (strKind X.prog X.w) D (LS.isIn (fun i=>xs.getD i "") xs.length) (QaK xs)/\QaK xs<4000/\Q (.int (QaK xs)) H1) X.xe s:=by
  refine bT (Qen I gs ms PyProof.Rows.Boot.«set» ?_ (by decide) (by decide))
  refine bK (thn (he p3 pins s σ H _ I h) fun us s1 z0z=>?_) h1 rfl
  obtain⟨vs,H1,I1,r1,p,xs,ev,sq,few,q⟩:=z0z
  ·subst ev
   obtain⟨u,rfl,rx⟩:=vals1 r1
   cases rx
   obtain⟨its,rv,pl,hz⟩:=I1.list sq
   have hl:=rv.length
   rw[aC]at hl
   have le:=LS.met_le (fun i=>xs.getD i "") xs.length
   refine LS.of_list hh pl.isList (fun i v hv=>Qof rv i v (by simpa using hv)) (by rw[aW, ← hl];unfold scanBound;lia) fun hp tk hs kp=>?_
   have sz:its.toArray.size=xs.length:=by rw[aW];lia
   rw[sz]at hs
   exact⟨_,H1,xs,rfl,I1.kept fun b o eb=>kp b o (aO eb) eb,hs,by unfold QaK;lia,q⟩
 refine bT (Qen I gl ml PySem.boot_len ?_ (by decide) (by decide))
 refine PyProof.Rows.callWith_builtin1 ?_ h2 rfl
 rw[h3]
 refine Calls.spliced_cons (thn inner fun u s1 ⟨D,H1,xs,eu,I1,hs,few,q⟩=>Calls.spliced_nil ?_)
 subst eu
 obtain⟨o,es,ep,t,ho,hex,hd,hel,hmem,hb,hf,hn⟩:=hs
 refine call_len_set ho hex hd hf (by rw[hn];lia) ?_
 rw[hn]
 exact⟨.int (QaK xs),H1,(I1.tok _).tok _,⟨_,rfl⟩,q⟩
end
noncomputable def strsD:List D->Option (List Str)
 | []=>some []
 | .str x::ds=>(strsD ds).map (x :: ·)
 | _::_=>none
theorem Qjl{K:PySem.W.Frag}:∀{ds:List D}{vs:List V}{xs:List Str},strsD ds=some xs->RepL K CT H ds vs->vs=xs.map V.str
 | [],_,_,h,r=>by cases h;cases r;rfl
 | d::ds,_,xs,h,z0z=>by
  obtain⟨v,r,h1,h2,h3⟩:=z0z
  cases d with
  | str x=>
   obtain⟨ys,hy,rfl⟩:=Option.map_eq_some_iff.mp (h)
   rw[h1,Qjl hy h3,h2];rfl
  | _=>cases h
def Qit:D->Out D
 | .lst ds=>match strsD ds with
  | some xs=>if decide (xs.length<4000)=true then .ok (.int (QaK xs)) else .stuck
  | none=>.stuck
 | .lln ds=>match strsD ds with
  | some xs=>if decide (xs.length<4000)=true then .ok (.int (QaK xs)) else .stuck
  | none=>.stuck
 | _=>.stuck
section
theorem QsH(hh:C.X.A.handled=none)(gl:Gl C.X "len")(ml:C.X.mg "len"=none)(gs:Gl C.X "set")(ms:C.X.mg "set"=none)(ha:DB C a A)
 (h1:starEach [a] C.X.env=(false,eval a C.X.env)::starEach [] C.X.env:=by rfl)
 (h2:starEach [.Call (.Name "set" p2) [a] [] p3] C.X.env=(false,eval (.Call (.Name "set" p2) [a] [] p3) C.X.env)::starEach [] C.X.env:=by rfl)
 (h3:backTo pos (starEach [.Call (.Name "set" p2) [a] [] p3] C.X.env)=[(false,eval (.Call (.Name "set" p2) [a] [] p3) C.X.env)]:=by rfl):
 DE C (.Call (.Name "len" p1) [.Call (.Name "set" p2) [a] [] p3] [] pos) (e1 Qit A):=by
 obtain⟨ta,q1,q2⟩:=ha
 refine⟨_,QtE hh gl ml gs ms (Q0 q1 QaL h1) h1 h2 h3,fun G H σ ς Q S q=>?_⟩
 unfold e1 at q
 rw[d9]at q
 refine q2 G H σ ς _ S (dA q fun x k v1 H1 G1 S1 a1 b1 r1=>?_)
 cases x with
 | lst ds=>
  obtain⟨p,vs,rfl,sq,r⟩:=r1
  have k:(match strsD ds with | some xs=>if decide (xs.length<4000)=true then Out.ok (D.int (QaK xs)) else .stuck | none=>.stuck).post (KD C G H σ ς Q) C.XD:=k
  cases es:strsD ds with
  | none=>rw[es]at k;exact k.elim
  | some xs=>
   rw[es]at k
   have ev:=Qjl es r
   subst ev
   rcases QF k with⟨hc,kd⟩ | ⟨_,kd⟩
   ·exact⟨p,xs,rfl,sq,aI hc,cp (cq (kd) a1 b1) S1 rfl⟩
   ·exact kd.elim
 | lln ds=>
  obtain⟨p,vs,rfl,sq,r⟩:=r1
  have k:(match strsD ds with | some xs=>if decide (xs.length<4000)=true then Out.ok (D.int (QaK xs)) else .stuck | none=>.stuck).post (KD C G H σ ς Q) C.XD:=k
  cases es:strsD ds with
  | none=>rw[es]at k;exact k.elim
  | some xs=>
   rw[es]at k
   have ev:=Qjl es r
   subst ev
   rcases QF k with⟨hc,kd⟩ | ⟨_,kd⟩
   ·exact⟨p,xs,rfl,sq,aI hc,cp (cq (kd) a1 b1) S1 rfl⟩
   ·exact kd.elim
 | _=>exact k.elim
end
end DL
namespace DL
open PySem PySem.Spec PyProof.Rows L2
def tVs(vs:List V):TA:=fun _ H Q=>Q vs H
noncomputable def anyT:List (List (Str×Bool))->Str->Option Bool
 | [],_=>some false
 | t::ts,c=>match t.lookup c with
  | some true=>some true
  | some false=>anyT ts c
  | none=>none
def KitsT(K:PySem.W.Frag)(CT:CTab):List Value->List (List (Str×Bool))->Prop
 | [],[]=>True
 | u::us,t::ts=>KitI K CT u t/\KitsT K CT us ts
 | _,_=>False
theorem Qns{K:PySem.W.Frag}(hA:CT c=some A):∀{us:List Value}{ts:List (List (Str×Bool))}{b:Bool},KitsT K CT us ts->anyT ts c=some b->PySem.W.kitAny K (.ref A) us=some b
 | [],[],b,_,h=>h
 | u::us,t::ts,b,⟨h1,h2⟩,h=>by
  unfold anyT at h
  unfold PySem.W.kitAny
  cases e:t.lookup c with
  | none=>rw[e]at h;cases h
  | some z=>
   rw[(h1 c z e A hA).2]
   rw[e]at h
   cases z with
   | true=>exact h
   | false=>exact Qns hA h2 h
theorem QuK{K:PySem.W.Frag}(hA:CT c=some A)(h:KitsT K CT (u::us) (t::ts))(e:anyT (t::ts) c=some b):ClsD K A:=by
 unfold anyT at e
 cases q:t.lookup c with
 | none=>rw[q]at e;cases e
 | some z=>exact(h.1 c z q A hA).1
def isaTs(ts:List (List (Str×Bool))):D->Out Bool
 | .ins c _=>match anyT ts c with | some b=>.ok b | none=>.stuck
 | _=>.stuck
section
theorem QvG:PA X [] (tVs []):=QaL
theorem Qhf(h:PE X e (tC v))(r:PA X es (tVs vs))(he:starEach (e::es) X.env=(false,eval e X.env)::starEach es X.env:=by rfl):PA X (e::es) (tVs (v::vs)):=Q0 h r he
theorem Qog:∀{as:List Addr}{us:List Value},Vals (as.map V.ref) us->us=as.map Value.ref
 | [],_,h=>by cases h;rfl
 | a::as,_,h=>by
  cases h with
  | cons h1 h2=>rw[Qog h2,h1];rfl
theorem QvK(hc:PA C.X cs (tVs ((a::as).map V.ref)))(hk:KitsT C.X.K C.CT ((a::as).map Value.ref) (t::ts))(hz:(a::as).length<=20)(hg:Gl C.X "isinstance")(hm:C.X.mg "isinstance"=none)(h:DB C e E)
 (he:starEach (e::[.Tuple cs x1 tp1]) C.X.env=(false,eval e C.X.env)::starEach [.Tuple cs x1 tp1] C.X.env:=by rfl) (he2:starEach (.Tuple cs x1 tp1::[]) C.X.env=(false,eval (.Tuple cs x1 tp1) C.X.env)::starEach [] C.X.env:=by rfl)
 (hpl:(backTo pos (starEach [.Tuple cs x1 tp1] C.X.env)).any (·.1)=false:=by rfl):DE C (.Call (.Name "isinstance" p) [e,.Tuple cs x1 tp1] [] pos) (eIsa (isaTs (t::ts)) E):=by
 obtain⟨te,p1,q1⟩:=h
 have hR:CallR C.X (.builtin "isinstance") (fun xs H Q=>∃ c fs x tp b,xs=[x,V.ref tp]/\Rep C.X.K C.CT H (.ins c fs) x/\H tp=some (.tup ((a::as).map V.ref))/\anyT (t::ts) c=some b/\Q (.bl b) H):=by
  intro pins s σ H xs us Q I r hq
  obtain⟨c,fs,x,tp,b,rfl,h1,h2,h3,q⟩:=hq
  obtain⟨u,w,rfl,r1,r2⟩:=vals2 r
  obtain rfl:=r2
  obtain⟨p',A',dx,fs',rfl,g1,g2,_⟩:=h1
  obtain rfl:=r1
  have cd:=QuK g1 hk h3
  obtain⟨mA,O,_⟩:=QgL I.hok g2
  obtain⟨od,J,_⟩:=O.look
  obtain⟨_,its,rv,pt⟩:=(I.hok tp _ h2)
  obtain⟨⟨oc,odd,odt,osl⟩,ho,hcl,nn,hd⟩:=pt
  obtain rfl:=hcl
  obtain rfl:=hd
  obtain rfl:=Qog rv
  exact PySem.W.kia_tup (PySem.W.kitx_own (cd.cl.get _) cd.cl.hd cd.ha cd.hn cd.htk cd.hm) I.kIn J ho (Qns g1 hk h3) (fun z=>nomatch z) fun tk=>⟨.bl b,H,I.tok _,rfl,q⟩
 refine⟨_,QjN hR hg hm PyProof.Rows.Boot.«isinstance» (Q0 p1 (Q0 (QnW hc) QaL he2) he) (by decide) (by decide) he hpl,fun G H σ ς Q S q=>?_⟩
 unfold eIsa at q
 rw[d9]at q
 refine q1 G H σ ς _ S (dA q fun d k v1 H1 G1 S1 a1 b1 r1=>?_)
 rw[d9]at k
 cases d with
 | ins c fs=>
  cases ea:anyT (t::ts) c with
  | none=>
   have hs:isaTs (t::ts) (D.ins c fs)=.stuck:=by show(match anyT (t::ts) c with | some b=>Out.ok b | none=>Out.stuck)=_;rw[ea]
   rw[hs]at k;exact k.elim
  | some b=>
   have hs:isaTs (t::ts) (D.ins c fs)=.ok b:=by show(match anyT (t::ts) c with | some b=>Out.ok b | none=>Out.stuck)=_;rw[ea]
   rw[hs]at k
   refine⟨by rw[aC];exact aq hz (by decide),fun tp htp=>?_⟩
   have S2:=S1.allocO (o:=.tup ((a::as).map V.ref)) htp
   exact⟨c,fs,v1,tp,b,rfl,cg (Qt htp) _ v1 r1,Qq,ea,cp (cq (k) (a1.trans (Qt htp)) b1) S2 rfl⟩
 | _=>exact k.elim
end
end DL
namespace DL
open PySem PySem.Spec PyProof.Rows L2
theorem QoV{K:PySem.W.Frag}(h:d.scal=true)(r:Rep K CT H d v):v=toV d:=by
 cases d with
 | non=>exact r
 | bl b=>exact r
 | int i=>exact r
 | str x=>exact r
 | _=>cases h
theorem Qmh{K:PySem.W.Frag}:∀{ds:List D}{vs:List V},ds.all D.scal=true->RepL K CT H ds vs->vs=ds.map toV
 | [],_,_,r=>by cases r;rfl
 | d::ds,_,h,z0z=>by
  obtain⟨v,r,h1,h2,h3⟩:=z0z
  rw[bJ,aH]at h
  rw[h1,QoV h.1 h2,Qmh h.2 h3];rfl
theorem Qmj(h:d.scal=true):flatV (toV d)=true:=by
 cases d with
 | non=>rfl
 | bl b=>rfl
 | int i=>rfl
 | str x=>rfl
 | _=>cases h
theorem QjV:∀{ds:List D},ds.all D.scal=true->(ds.map toV).all flatV=true
 | [],_=>rfl
 | d::ds,h=>by
  rw[bJ,aH]at h
  rw[au,bJ,Qmj h.1,QjV h.2];rfl
def dInL:D->D->Out D
 | x,.lst ds=>if (x.scal&&ds.all D.scal)=true then .ok (.bl (inV (toV x) (ds.map toV))) else .stuck
 | _,_=>.stuck
section
theorem QvA:DRS C (rIn C.X.K false) dInL:=by
 intro G H σ ς Q x y vx vy S hx hy q
 cases y with
 | lst ds=>
  have q:=q
  rcases QF q with⟨hc,q⟩ | ⟨_,q⟩
  ·rw[aH]at hc
   obtain⟨p,vs,rfl,h2,h3⟩:=hy
   have e1:=QoV hc.1 hx
   have e2:=Qmh hc.2 h3
   subst e1;subst e2
   exact⟨p,_,rfl,.inl h2,Qmj hc.1,QjV hc.2,q.2⟩
  ·exact q.elim
 | _=>exact q.elim
theorem QuU:scal2 dInL:=fun x y=>by
 cases y with
 | lst ds=>
  show match (if (x.scal&&ds.all D.scal)=true then Out.ok (D.bl (inV (toV x) (ds.map toV))) else .stuck) with | .ok d=>d.scal=true | .exc _=>False | .stuck=>True
  split<;>rename_i h<;>(split at h<;>cases h)<;>first | rfl | trivial
 | _=>exact True.intro
theorem QtD(ha:DB C a A)(hb:DB C b B)(hm:behindInMarks .In b=false:=by rfl):DE C (.Compare a [.In] [b] pos) (e2 dInL A B):=QkD QsM QvA QuU ha hb hm
end
end DL
namespace DL
open PySem PySem.Spec PyProof.Rows L2
section
end
end DL
namespace DL
open PySem PySem.Spec PyProof.Rows L2
section
end
end DL
namespace DL
open PySem PySem.Spec PyProof.Rows L2
section
variable{K:PySem.W.Frag}
end
section
end
end DL
namespace DL
open PySem PySem.Spec PyProof.Rows L2
def frzs:List Nat->SD->SD
 | [],ς=>ς
 | i::is,ς=>frzs is (frz i ς)
section
end
section
end
end DL
namespace DL
open PySem PySem.Spec PyProof.Rows L2
def gLst(K:PySem.W.Frag)(n:Nat)(t:TGs):TG:=fun v σ H Q=>∃ a xs,v=.ref a/\SqL K H a xs/\xs.length=n/\t xs σ H Q
theorem Qx3(hc:X.calm=true)(h:PGs X es t)
 (hn:(assignEach es X.env).length=n:=by rfl) (hst:(assignEach es X.env).findIdx? (·.1)=none:=by rfl):PG X (.Tuple es k pos) (gLst X.K n t):=by
 intro pins s σ H v u Q I r hw
 obtain⟨a,xs,rfl,hq,hl,hw⟩:=hw
 cases r
 obtain⟨its,rv,ht,hz⟩:=I.list hq
 have hlen:its.length=n:=by rw[← rv.length];exact hl
 rw[assign_Tuple]
 refine aN (wpAny_standAt (?_))
 unfold unpack
 rw[hst,hn,show n=its.toArray.size by simp[hlen]]
 refine aN (cF (PySem.W.kun_itemsOf (I.ok.hd hc) ht.isList fun g hg=>?_))
 exact h pins { s with heap:=g } σ H xs its Q (I.kept fun b o e=>hg b o (af (aO e)) e) rv hw
def sUnpL(is:List Nat)(E:SD->Out D):SD->Out Fl:=fun ς=>E ς>>=fun d=>match d with
 | .lst ds=>Q6 is ds ς>>=fun ς'=>.ok (.nx ς')
 | _=>.stuck
section
theorem Qlc(hc:C.X.calm=true)(he:DE C e E)(hg:DGs C es is)(hn:(assignEach es C.X.env).length=is.length:=by rfl)(hst:(assignEach es C.X.env).findIdx? (·.1)=none:=by rfl)
 (hs:swapsWithSole [.Tuple es k pt] e pos.line C.X.env=pure false:=by rfl) (hw:swappedStores [.Tuple es k pt] e C.X.env=pure none:=by rfl)
 (h1:(assignEach [.Tuple es k pt] C.X.env).map (·.2)=[assign (.Tuple es k pt) C.X.env]:=by rfl):DS C (.Assign [.Tuple es k pt] e pos) (sUnpL is E):=by
 obtain⟨t,p,q⟩:=he
 obtain⟨t2,p2,q2⟩:=hg
 refine⟨_,QxY p (Qx3 hc p2 hn hst) hs hw h1,fun G H σ ς W S k=>?_⟩
 unfold sUnpL at k
 rw[d9]at k
 refine q G H σ ς _ S (dA k fun d k v H1 G1 S1 a1 b1 r1=>?_)
 cases d with
 | lst ds=>
  obtain⟨a,vs,rfl,h2,h3⟩:=r1
  have k':=k
  rw[d9]at k'
  cases z:Q6 is ds ς with
  | exc _=>exact absurd z (Qie is ds ς _)
  | stuck=>rw[z]at k';exact k'.elim
  | ok ς'=>
   rw[z]at k'
   refine⟨a,vs,rfl,S1.sub.seq h2,by rw[← h3.length];exact Qg9 z,?_⟩
   exact q2 G1 H1 σ ς ds vs ς' _ S1 h3 z fun σ' S'=>k' σ' H1 G1 S' b1
 | _=>exact k.elim
end
end DL
namespace DL
open PySem PySem.Spec PyProof.Rows L2
def eSm(f:D->List D->Out D)(O:SD->Out D)(A:SD->Out (List D)):SD->Out D:=fun ς=>O ς>>=fun x=>match x with
 | .str z=>A ς>>=fun ys=>f (.str z) ys
 | _=>.stuck
section
variable        {id:String}
theorem de_sm(slot:Slot "str" m id)(hty:typeOf (.builtin id)=pure (.type "method_descriptor"))(hm:MtR C.X id r)(ho:DB C o O)(ha:DA C (e::es) A)
 (hr:∀ G H σ ς (Q:VK) z ys vs,StR C G H σ ς->RepL C.X.K C.CT G ys vs->(f (.str z) ys).post (KD C G H σ ς Q) C.XD->r (.str z) vs H Q)
 (hbase:attributeBase o m C.X.env (eval o C.X.env)=eval o C.X.env:=by rfl)
 (hfew:((backTo cpos (starEach (e::es) C.X.env)).all (fun x => !x.1)&&(backToKw cpos (keywordEach [] C.X.env)).all (fun x=>x.1.isSome)
  && decide ((e::es).length+([]:List Keyword).length+(if ([]:List Keyword).isEmpty then 0 else 1)<30))=true:=by rfl)
 (hline:(apos.endLine == cpos.line)=true:=by rfl) (hs:starEach (e::es) C.X.env=(false,eval e C.X.env)::starEach es C.X.env:=by rfl) (hplain:(backTo cpos (starEach es C.X.env)).any (·.1)=false:=by rfl):
 DE C (.Call (.Attribute o m apos) (e::es) [] cpos) (eSm f O A):=by
 obtain⟨t0,p0,q0⟩:=ho
 obtain⟨t1,p1,q1⟩:=ha
 refine⟨_,pe_bm PySem.F.plainAttrs_str slot hty hm p0 p1 hbase hfew hline hs hplain,fun G H σ ς Q S k=>?_⟩
 unfold eSm at k
 rw[d9]at k
 refine q0 G H σ ς _ S (dA k fun x k v H1 G1 S1 a1 b1 r1=>?_)
 cases x with
 | str z=>
  cases r1
  refine⟨rfl,?_⟩
  have k:=k
  rw[d9]at k
  refine q1 G1 H1 σ ς _ S1 (dA k fun ys k vs H2 G2 S2 a2 b2 r2=>?_)
  exact hr G2 H2 σ ς Q z ys vs S2 r2 (dA k fun d k=>cq k (a1.trans a2) (b1.trans b2))
 | _=>exact k.elim
theorem rep1{K:PySem.W.Frag}(h:RepL K CT G [d] vs):∃ v,vs=[v]/\Rep K CT G d v:=by
 obtain⟨v,r,h1,h2,h3⟩:=h
 have h3:=h3
 exact⟨v,by rw[h1,h3],h2⟩
end
end DL
namespace L2
open PySem PySem.Spec PyProof.Rows
section
end
end L2
namespace DL
open PySem PySem.Spec PyProof.Rows L2
section
end
end DL
namespace DL
open PySem PySem.Spec PyProof.Rows L2
section
end
end DL
namespace DL
open PySem PySem.Spec PyProof.Rows L2
section
end
def ArgW(K:PySem.W.Frag)(CT:CTab)(G H:Hp):List Bool->List D->List V->List Addr->Prop
 | [],[],[],ps=>ps=[]
 | true::bs,d::ds,v::vs,ps=>∃ p ps',v=.ref p/\ps=p::ps'/\p∉ps'/\G p=none/\Own K CT G H p d/\ArgW K CT G H bs ds vs ps'
 | false::bs,d::ds,v::vs,ps=>Rep K CT G d v/\ArgW K CT G H bs ds vs ps
 | _,_,_,_=>False
section
variable{K:PySem.W.Frag}
theorem ArgW.len:∀{bs:List Bool}{ds:List D}{vs:List V}{ps:List Addr},ArgW K CT G H bs ds vs ps->bs.length=vs.length/\ds.length=vs.length
 | [],[],[],_,_=>⟨rfl,rfl⟩
 | true::bs,d::ds,v::vs,ps,z0z=>by obtain⟨_,_,_,_,_,_,_,h⟩:=z0z;have:=ArgW.len h;simp[this.1,this.2]
 | false::bs,d::ds,v::vs,ps,z0z=>by obtain⟨_,h⟩:=z0z;have:=ArgW.len h;simp[this.1,this.2]
theorem ArgW.mem:∀{bs:List Bool}{ds:List D}{vs:List V}{ps:List Addr}{i:Nat}{v:V},ArgW K CT G H bs ds vs ps->bs[i]?=some true->vs[i]?=some v->∃ p,v=.ref p/\p∈ps
 | true::bs,d::ds,v::vs,ps,0,w,z0z,_,h=>by
  obtain⟨p,ps',e,e2,_,_,_,_⟩:=z0z
  cases h;exact⟨p,e,by rw[e2];exact aL ..⟩
 | true::bs,d::ds,v::vs,ps,i+1,w,z0z,h1,h2=>by
  obtain⟨p,ps',e,e2,_,_,_,hh⟩:=z0z
  obtain⟨q,a,b⟩:=ArgW.mem hh (by simpa using h1) (by simpa using h2)
  exact⟨q,a,by rw[e2];exact aE _ b⟩
 | false::bs,d::ds,v::vs,ps,0,w,_,h,_=>by cases h
 | false::bs,d::ds,v::vs,ps,i+1,w,z0z,h1,h2=>by obtain⟨_,hh⟩:=z0z;exact ArgW.mem hh (by simpa using h1) (by simpa using h2)
end
end DL
namespace DL
open PySem PySem.Spec PyProof.Rows L2
end DL
namespace DL
open PySem PySem.Spec PyProof.Rows L2
section
end
end DL
namespace DL
open PySem PySem.Spec PyProof.Rows L2
section
end
end DL
namespace L2
open PySem PySem.Spec PyProof.Rows
section
end
end L2
namespace DL
open PySem PySem.Spec PyProof.Rows L2
section
end
end DL
namespace DL
open PySem PySem.Spec PyProof.Rows L2
section
end
end DL
namespace L2
open PySem PySem.Spec PyProof.Rows
section
end
section
end
section
end
section
end
end L2
namespace DL
open PySem PySem.Spec PyProof.Rows L2
section
end
end DL
namespace DL
open PySem PySem.Spec PyProof.Rows L2
def OwnAs(K:PySem.W.Frag)(CT:CTab)(H0 G H:Hp):List (List D)->List Addr->Prop
 | [],[]=>True
 | xs::r,a::as=>(H0 a=none/\G a=none/\Own K CT G H a (.lst xs))/\a∉as/\OwnAs K CT H0 G H r as
 | _,_=>False
theorem OwnAs.mono{K:PySem.W.Frag}{CT:CTab}{H0 G G' H H':Hp}(g:Same G G')(h:Same H H'):∀{xss:List (List D)}{as:List Addr},(∀ a∈as,G' a=none)->OwnAs K CT H0 G H xss as->OwnAs K CT H0 G' H' xss as
 | [],[],_,_=>trivial
 | xs::r,a::as,n,z0z=>by obtain⟨⟨h0,_,o⟩,na,ho⟩:=z0z;exact⟨⟨h0,n a (aL ..),o.mono g fun o e=>h _ _ e⟩,na,ho.mono g h fun b hb=>n b (aE _ hb)⟩
theorem OwnAs.mem{K:PySem.W.Frag}:∀{xss:List (List D)}{as:List Addr}{a:Addr},OwnAs K CT H0 G H xss as->a∈as->H0 a=none/\G a=none/\∃ vs,H a=some (.lst vs)
 | [],[],_,_,hm=>(nomatch hm)
 | [],_::_,_,h,_=>h.elim
 | _::_,[],_,h,_=>h.elim
 | xs::r,b::as,a,z0z,hm=>by
  obtain⟨⟨h0,hg,vs,hv,_⟩,_,ho⟩:=z0z
  rcases aF.mp hm with rfl | hm
  ·exact⟨h0,hg,vs,hv⟩
  ·exact ho.mem hm
section
theorem StR.hide(S:StR C G H σ ς)(i:Nat)(w:Option V):StR C G H (σ.set i w) (ς.set i none) where
 toGH:=S.toGH
 len:=by rw[ah,ah];exact S.len
 fz:=fun j e h=>by
  rcases Qr h with⟨rfl,h2,l⟩ | ⟨ne,h2⟩
  ·cases h2
  ·rw[Qj ne];exact S.fz j e h2
 ow:=fun j e h=>by
  rcases Qr h with⟨rfl,h2,l⟩ | ⟨ne,h2⟩
  ·cases h2
  ·rw[Qj ne];exact S.ow j e h2
 ln:=fun j e h=>by
  rcases Qr h with⟨rfl,h2,l⟩ | ⟨ne,h2⟩
  ·cases h2
  ·rw[Qj ne];exact S.ln j e h2
 inj:=fun j k d1 d2 p hjk h1 h2 h3=>by
  rcases Qr h1 with⟨rfl,q1,l⟩ | ⟨n1,q1⟩
  ·cases q1
  ·rcases Qr h2 with⟨rfl,q2,l⟩ | ⟨n2,q2⟩
   ·cases q2
   ·rw[Qj n1]at h3
    rw[Qj n2]
    exact S.inj j k d1 d2 p hjk q1 q2 h3
 sf:=fun j e h=>by
  rcases Qr h with⟨rfl,h2,l⟩ | ⟨ne,h2⟩
  ·cases h2
  ·rw[Qj ne];exact S.sf j e h2
 su:=fun j k d1 d2 p hjk h1 h2 h3=>by
  rcases Qr h1 with⟨rfl,q1,l⟩ | ⟨n1,q1⟩
  ·cases q1
  ·rcases Qr h2 with⟨rfl,q2,l⟩ | ⟨n2,q2⟩
   ·cases q2
   ·rw[Qj n1]at h3
    rw[Qj n2];exact S.su j k d1 d2 p hjk q1 q2 h3
end
def tSeq(T:SD->Out Fl)(U:SD->Out D):SD->Out D:=fun ς=>T ς>>=fun f=>match f with
 | .nx ς'=>U ς'
 | _=>.stuck
def AtO(σ:St)(ς:SD):List Nat->List (List D)->List Addr->Prop
 | [],[],[]=>True
 | i::is,xs::r,a::as=>ς[i]?=some (some (.o,.lst xs))/\σ[i]?=some (some (.ref a))/\AtO σ ς is r as
 | _,_,_=>False
section
theorem AtO.mem:∀{is:List Nat}{xss:List (List D)}{as:List Addr}{a:Addr},AtO σ ς is xss as->a∈as->∃ j xs,j∈is/\ς[j]?=some (some (.o,.lst xs))/\σ[j]?=some (some (.ref a))
 | [],[],[],_,_,hm=>(nomatch hm)
 | i::is,xs::r,b::as,a,z0z,hm=>by
  obtain⟨h1,h2,h3⟩:=z0z
  rcases aF.mp hm with rfl | hm
  ·exact⟨i,xs,aL ..,h1,h2⟩
  ·obtain⟨j,ys,q1,q2,q3⟩:=h3.mem hm
   exact⟨j,ys,aE _ q1,q2,q3⟩
theorem AtO.len:∀{is:List Nat}{xss:List (List D)}{as:List Addr},AtO σ ς is xss as->as.length=is.length
 | [],[],[],_=>rfl
 | i::is,xs::r,a::as,z0z=>by obtain⟨_,_,h⟩:=z0z;rw[aR,aR,h.len]
end
section
variable  {st:Stmt} {rest:List Stmt}
end
noncomputable def bodyT(n len:Nat)(T:SD->Out D):List D->Out D:=fun ds=>if ds.length=n then T (ds.map (fun d=>some (SM.k,d))++List.replicate (len - n) none) else .stuck
section
variable    {ς:SD}
end
noncomputable def lstsD:List D->Option (List (List D))
 | []=>some []
 | .lst xs::r=>(lstsD r).map (xs :: ·)
 | _=>none
theorem Qh5:∀ xss:List (List D),lstsD (xss.map .lst)=some xss
 | []=>rfl
 | xs::r=>by show(lstsD (r.map .lst)).map (xs :: ·)=_;rw[Qh5 r];rfl
section
end
section
end
theorem OwnAs.h0{K:PySem.W.Frag}{CT:CTab}{H0 H0' G H:Hp}:∀{xss:List (List D)}{as:List Addr},(∀ a,H0 a=none->H0' a=none)->OwnAs K CT H0 G H xss as->OwnAs K CT H0' G H xss as
 | [],[],_,_=>trivial
 | xs::r,a::as,n,z0z=>by obtain⟨⟨h0,hg,o⟩,na,ho⟩:=z0z;exact⟨⟨n a h0,hg,o⟩,na,ho.h0 n⟩
section
variable             {rest:List Stmt}
end
section
variable{C:Dc}
end
end DL
namespace DL
open PySem PySem.Spec PyProof.Rows L2
theorem OwnAs.go{K:PySem.W.Frag}(g:Same G G'):∀{xss:List (List D)}{as:List Addr},(∀ a∈as,G' a=none)->(∀ a∈as,∀ o,H a=some o->H' a=some o)->OwnAs K CT H0 G H xss as->OwnAs K CT H0 G' H' xss as
 | [],[],_,_,_=>trivial
 | xs::r,a::as,n,h,z0z=>by obtain⟨⟨h0,_,o⟩,na,ho⟩:=z0z;exact⟨⟨h0,n a (aL ..),o.mono g fun o e=>h a (aL ..) _ e⟩,na,ho.go g (fun b hb=>n b (aE _ hb)) fun b hb=>h b (aE _ hb)⟩
theorem OwnAs.len{K:PySem.W.Frag}:∀{xss:List (List D)}{as:List Addr},OwnAs K CT H0 G H xss as->as.length=xss.length
 | [],[],_=>rfl
 | [],_::_,h=>h.elim
 | _::_,[],h=>h.elim
 | xs::r,a::as,z0z=>by obtain⟨_,_,h⟩:=z0z;rw[aR,aR,h.len]
theorem keepN{G G' H:Hp}(n:∀ b,G b=none->G' b≠none->H b=none)(hg:G a=none)(hh:H a=some o):G' a=none:=by
 cases z:G' a with
 | none=>rfl
 | some u=>
  have:=n a hg (by rw[z];simp)
  rw[hh]at this;cases this
def LstA(K:PySem.W.Frag)(CT:CTab)(H0 G H:Hp)(d:D)(p:Addr)(as:List Addr):Prop:=
 ∃ xss:List (List D),d=.lst (xss.map D.lst)/\H0 p=none/\G p=none/\H p=some (.lst (as.map V.ref))/\OwnAs K CT H0 G H xss as/\p∉as
theorem LstA.go{K:PySem.W.Frag}(g:Same G G')(n:∀ a∈p::as,G' a=none)(h:∀ a∈p::as,∀ o,H a=some o->H' a=some o)(l:LstA K CT H0 G H d p as):LstA K CT H0 G' H' d p as:=by
 obtain⟨xss,e,h0,hg,hp,ho,np⟩:=l
 exact⟨xss,e,h0,n p (aL ..),h p (aL ..) _ hp,ho.go g (fun a ha=>n a (aE _ ha)) fun a ha=>h a (aE _ ha),np⟩
theorem LstA.mem{K:PySem.W.Frag}(l:LstA K CT H0 G H d p as):∀ a∈p::as,H0 a=none/\G a=none/\∃ vs,H a=some (.lst vs):=by
 obtain⟨xss,e,h0,hg,hp,ho,np⟩:=l
 intro a ha
 rcases aF.mp ha with rfl | ha
 ·exact⟨h0,hg,_,hp⟩
 ·exact ho.mem ha
section
end
def DAV(C:Dc)(es:List Expr)(A:SD->Out (List D)):Prop:=∃ t,PA C.X es t/\∀ G H σ ς Q,StR C G H σ ς->(A ς).post (fun ds=>∀ vs,RepL C.X.K C.CT G ds vs->Q vs H) C.XD->t σ H Q
section
theorem Qra:DAV C [] aNil:=⟨_,QaL,fun G H σ ς Q S q=>q [] rfl⟩
theorem dav_v(i:Nat)(hr:DAV C es A)(hN:C.X.N[i]?=some x:=by rfl)(hv:Vis C.X.env.scope x:=by fail"V1")
 (hd:(x == ("__debug__":Str))=false:=by decide) (hcd:(x == ("__classdict__":Str))=false:=by decide) (hs:starEach (.Name x px::es) C.X.env=(false,eval (.Name x px) C.X.env)::starEach es C.X.env:=by rfl):DAV C (.Name x px::es) (aCons (eVar i) A):=by
 obtain⟨t2,p2,q2⟩:=hr
 refine⟨_,Q0 (Qar hN hv hd hcd) p2 hs,fun G H σ ς Q S q=>?_⟩
 unfold aCons at q
 rw[d9]at q
 obtain⟨d,z,k⟩:=Qjg q
 obtain⟨v,a,r⟩:=S.fz i d z
 rw[d9]at k
 exact⟨v,a,q2 G H σ ς _ S (dA k fun xs k2 vs w2=>k2 (v::vs) ⟨v,vs,rfl,r,w2⟩)⟩
end
section
end
section
variable  {st:Stmt} {rest:List Stmt}
end
section
end
section
end
section
variable{C:Dc}
end
section
variable             {rest:List Stmt}
end
end DL
namespace DL
open PySem PySem.Spec PyProof.Rows L2
theorem Qsb:∀{us:List Value},Vals (ns.map V.str) us->StrsAre us ns:=by
 induction ns with
 | nil=>intro us r;rw[List.map_nil]at r;cases r;exact .nil
 | cons n ns ih=>
  intro us r
  rw[au]at r
  cases r with
  | cons h r=>
   obtain⟨t,rfl⟩:=h
   exact .cons n t (ih r)
def rJoin(K:PySem.W.Frag):V->List V->Hp->VK->Prop:=fun v vs H Q=>∃ x a ys,v=.str x/\vs=[.ref a]/\SqL K H a (ys.map V.str)/\(ys.map fun y=>y.length).sum+ys.length * x.length<=16777216/\Q (.str (Txt.join x ys)) H
theorem QvM:MtR X "str.join" (rJoin X.K):=by
 intro pins s σ H x xs v us Q I rx rv h
 obtain⟨z,a,ys,rfl,rfl,hq,hb,q⟩:=h
 obtain⟨t,rfl⟩:=rx
 cases rv with
 | cons r rr=>
  cases rr
  cases r
  obtain⟨its,rv,p,hz⟩:=I.list hq
  exact join_list p.isList (by simpa using Qsb rv) hb fun t' k=>⟨.str _,H,I.kept fun b o e=>e,⟨t',rfl⟩,q⟩
noncomputable def strsJ:List D->Option (List Str)
 | []=>some []
 | .str x::r=>(strsJ r).map (x :: ·)
 | _=>none
theorem Qmu:∀ ys:List Str,strsJ (ys.map D.str)=some ys
 | []=>rfl
 | y::r=>by show(strsJ (r.map D.str)).map (y :: ·)=_;rw[Qmu r];rfl
theorem Qmo{K:PySem.W.Frag}:∀{ds:List D}{ys:List Str}{vs:List V},strsJ ds=some ys->RepL K CT G ds vs->vs=ys.map V.str
 | [],ys,vs,h,r=>by cases h;exact r
 | .str x::ds,ys,vs,h,z0z=>by
  obtain⟨v,vs',e,r1,r2⟩:=z0z
  have h:(strsJ ds).map (x :: ·)=some ys:=h
  cases z:strsJ ds with
  | none=>rw[z]at h;cases h
  | some zs=>
   rw[z]at h
   cases h
   cases r1
   rw[e,Qmo z r2];rfl
 | .non::_,_,_,h,_=>by cases h
 | .bl _::_,_,_,h,_=>by cases h
 | .int _::_,_,_,h,_=>by cases h
 | .lst _::_,_,_,h,_=>by cases h
 | .tup _::_,_,_,h,_=>by cases h
 | .dic _::_,_,_,h,_=>by cases h
 | .ins _ _::_,_,_,h,_=>by cases h
def fJoin:D->List D->Out D
 | .str x,[.lst ds]=>match strsJ ds with
  | some ys=>if decide ((ys.map fun y=>y.length).sum+ys.length * x.length<=16777216)=true then .ok (.str (Txt.join x ys)) else .stuck
  | none=>.stuck
 | _,_=>.stuck
theorem QxR{C:Dc}:∀ G H σ ς (Q:VK) z ys vs,StR C G H σ ς->RepL C.X.K C.CT G ys vs->(fJoin (.str z) ys).post (KD C G H σ ς Q) C.XD->rJoin C.X.K (.str z) vs H Q:=by
 intro G H σ ς Q z ys vs S hr k
 unfold fJoin at k
 split at k
 ·rename_i x ds e
  cases e
  obtain⟨v,rfl,h2⟩:=rep1 hr
  obtain⟨p,us,rfl,h3,h4⟩:=h2
  cases zz:strsJ ds with
  | none=>rw[zz]at k;exact k.elim
  | some ys=>
   rw[zz]at k
   rcases QF (k) with⟨hc,k⟩ | ⟨_,k⟩
   ·have e:=Qmo zz h4
    subst e
    exact⟨z,p,ys,rfl,rfl,S.sub.seq h3,aI hc,cp (k) S rfl⟩
   ·exact k.elim
 ·exact k.elim
section
theorem QiG(ho:DB C o O)(he:DE C e E)
 (hbase:attributeBase o "join" C.X.env (eval o C.X.env)=eval o C.X.env:=by rfl)
 (hfew:((backTo cpos (starEach (e::[]) C.X.env)).all (fun x => !x.1)&&(backToKw cpos (keywordEach [] C.X.env)).all (fun x=>x.1.isSome)
  && decide ((e::[]).length+([]:List Keyword).length+(if ([]:List Keyword).isEmpty then 0 else 1)<30))=true:=by rfl)
 (hline:(apos.endLine == cpos.line)=true:=by rfl) (hs:starEach (e::[]) C.X.env=(false,eval e C.X.env)::starEach [] C.X.env:=by rfl):
 DE C (.Call (.Attribute o "join" apos) [e] [] cpos) (eSm fJoin O (aCons E aNil)):=
 de_sm PySem.F.slot_str_join PySem.F.type_str_join QvM ho (Qc he Qk hs) QxR hbase hfew hline hs rfl
end
end DL
namespace DL
open PySem PySem.Spec PyProof.Rows L2
section
end
section
end
def rSlS:V->Option Int->Option Int->Hp->VK->Prop:=fun x lo hi H Q=>∃ z,x=.str z/\z.length<=sizeLine/\Q (.str (Txt.slice z lo hi)) H
theorem QxZ:SlR X rSlS:=by
 intro pins s σ H x v vl vu lo hi sl Q I rx hs pl pu h
 obtain⟨z,rfl,hz,q⟩:=h
 obtain⟨t,rfl⟩:=rx
 refine⟨"str",_,F.slot_str_getitem.lookup,typeIs_str _ _ _,?_⟩
 have fin:∀ t' k,EP X pins σ Q (.str (Txt.slice z lo hi) t') { s with toks:=k }:=fun t' k=>⟨.str _,H,I.kept fun b o e=>e,⟨t',rfl⟩,q⟩
 cases pl with
 | none=>
  cases pu with
  | none=>exact br (l:=none) (u:=none) (st:=none) hs rfl (post_val_or_str ⟨aq (Txt.slice_le z _ _) hz,fin⟩)
  | int j uj=>exact br (l:=none) (u:=some (j,uj)) (st:=none) hs rfl (post_val_or_str ⟨aq (Txt.slice_le z _ _) hz,fin⟩)
 | int i ui=>
  cases pu with
  | none=>exact br (l:=some (i,ui)) (u:=none) (st:=none) hs rfl (post_val_or_str ⟨aq (Txt.slice_le z _ _) hz,fin⟩)
  | int j uj=>exact br (l:=some (i,ui)) (u:=some (j,uj)) (st:=none) hs rfl (post_val_or_str ⟨aq (Txt.slice_le z _ _) hz,fin⟩)
def eSlS(a:SD->Out D)(l u:SD->Out (Option Int)):SD->Out D:=fun ς=>a ς>>=fun x=>l ς>>=fun i=>u ς>>=fun j=>match x with
 | .str z=>if decide (z.length<=sizeLine)=true then .ok (.str (Txt.slice z i j)) else .stuck
 | _=>.stuck
section
theorem QwZ{lo hi:Option Expr}(ha:DB C a A)(hl:DO C lo L)(hu:DO C hi U):DE C (.Subscript a (.Slice lo hi none p2) pos) (eSlS A L U):=by
 obtain⟨ta,p1,q1⟩:=ha
 obtain⟨tl,p3,q3⟩:=hl
 obtain⟨tu,p4,q4⟩:=hu
 refine⟨_,Qot QxZ p1 p3 p4,fun G H σ ς Q S q=>?_⟩
 unfold eSlS at q
 rw[d9]at q
 refine q1 G H σ ς _ S (dA q fun x k v1 H1 G1 S1 a1 b1 r1=>?_)
 rw[d9]at k
 refine q3 G1 H1 σ ς _ S1 (dA k fun i k2 H2 G2 S2 a2 b2=>?_)
 rw[d9]at k2
 refine q4 G2 H2 σ ς _ S2 (dA k2 fun j k3 H3 G3 S3 a3 b3=>?_)
 cases x with
 | str z=>
  rcases QF k3 with⟨hc,k3⟩ | ⟨_,k3⟩
  ·cases r1
   exact⟨z,rfl,aI hc,cp (cq (k3) ((a1.trans a2).trans a3) ((b1.trans b2).trans b3)) S3 rfl⟩
  ·exact k3.elim
 | _=>exact k3.elim
end
end DL
namespace DL
open PySem PySem.Spec PyProof.Rows L2
abbrev rx(C:Dc)(g B1 H1:Hp)(w:Nat->Option Addr):Dc:={ C with G0:=g,B:=B1,H0:=H1,W:=w }
noncomputable def ovl(L:List Addr)(H G X:Hp):Hp:=fun b=>if b∈L then H b else match G b with | some o=>some o | none=>X b
section
theorem QjX(h:b∈L):ovl L H G X b=H b:=by unfold ovl;rw[aA h]
theorem ovl_g(h:b∉L)(e:G b=some o):ovl L H G X b=some o:=by unfold ovl;rw[aD h,e]
theorem ovl_x(h:b∉L)(e:G b=none):ovl L H G X b=X b:=by unfold ovl;rw[aD h,e]
theorem QuB(h:b∉L)(e:ovl L H G X b=some o):G b=some o∨(G b=none/\X b=some o):=by
 cases z:G b with
 | none=>rw[ovl_x h z]at e;exact .inr ⟨rfl,e⟩
 | some u=>rw[ovl_g h z]at e;exact .inl e
end
noncomputable def okS(i:Nat)(ς:SD):Bool:=(List.range ς.length).all fun j=>j == i||match ς[j]? with
 | some (some (.l,_))=>false
 | some (some (.s,_))=>false
 | _=>true
theorem QnP(h:okS i ς=true)(e:ς[j]?=some (some (m,d)))(hj:j≠i):m=.k∨m=.o:=by
 obtain⟨hl,_⟩:=aU.mp e
 have:=bM.mp h j (aV.mpr hl)
 rw[e]at this
 cases m with
 | k=>exact .inl rfl
 | o=>exact .inr rfl
 | l=>simp at this;exact absurd this hj
 | s=>simp at this;exact absurd this hj
section
end
structure NI(C:Dc)(p:Addr)(as:List Addr)(G H:Hp)(xss:List (List D)):Prop where
 gh:GH C G H
 la:LstA C.X.K C.CT C.H0 G H (.lst (xss.map D.lst)) p as
theorem LstA.xs{K:PySem.W.Frag}(l:LstA K CT H0 G H (.lst (xss.map D.lst)) p as):H p=some (.lst (as.map V.ref))/\OwnAs K CT H0 G H xss as/\p∉as:=by
 obtain⟨yss,e,_,_,hp,ho,np⟩:=l
 have e':lstsD (xss.map D.lst)=lstsD (yss.map D.lst):=by injection e with e;rw[e]
 rw[Qh5,Qh5]at e'
 cases e'
 exact⟨hp,ho,np⟩
section
theorem NI.at(N:NI C p as G H xss):∀ b∈p::as,C.H0 b=none/\G b=none/\H b≠none:=fun b hb=>by
 obtain⟨h1,h2,vs,h3⟩:=N.la.mem b hb
 exact⟨h1,h2,by rw[h3];simp⟩
theorem OwnAs.at{K:PySem.W.Frag}{CT:CTab}{H0:Hp}{xs:List D}:∀{n:Nat}{xss:List (List D)}{as:List Addr},xss[n]?=some xs->OwnAs K CT H0 G H xss as->∃ q vs,as[n]?=some q/\H q=some (.lst vs)/\RepL K CT G xs vs
 | _,[],_,e,_=>by simp at e
 | _,_::_,[],_,h=>h.elim
 | 0,xs::r,a::as,e,z0z=>by
  obtain⟨⟨h1,h2,vs,h3,h4⟩,na,ho⟩:=z0z
  simp at e
  subst e
  exact⟨a,vs,rfl,h3,h4⟩
 | n+1,xs::r,a::as,e,z0z=>by
  obtain⟨_,na,ho⟩:=z0z
  simp at e
  obtain⟨q,vs,h⟩:=OwnAs.at e ho
  exact⟨q,vs,by simpa using h⟩
end
end DL
namespace DL
open PySem PySem.Spec PyProof.Rows L2
section
variable   {st:Stmt} {rest:List Stmt}
theorem Qbb{_:Decidable c}{o:Out α}(h:(if c then o else .stuck).post k x):c/\o.post k x:=by
 by_cases hc:c
 ·rw[aA hc]at h;exact⟨hc,h⟩
 ·rw[aD hc]at h;exact h.elim
end
section
end
end DL
namespace DL
open PySem PySem.Spec PyProof.Rows L2
section
end
section
variable             {rest:List Stmt}
end
end DL
namespace DL
open PySem PySem.Spec PyProof.Rows L2
end DL
namespace PySem
namespace SeqAt
open Builtin
end SeqAt
end PySem
namespace DL
open PySem PySem.Spec PyProof.Rows L2
section
end
end DL
namespace DL
open PySem PySem.Spec PyProof.Rows L2
section
variable{K:PySem.W.Frag}{st:Stmt}
abbrev bFn(x qual:Str)(st:Stmt)(kV doc pm:Value)(an:Option Addr)(cdv ct:Value):FuncData:=PySem.W.fnOf x qual (QcK st) (QaT st) (Qd st) .none kV doc pm an cdv ct
theorem FunV.b1(F:FunV K x qual st f fd .none)(h:∀ kV doc pm an cdv ct u,bindArgs (bFn x qual st kV doc pm an cdv ct) ⟨[u],[]⟩=pure [(a,u)]):Binds K fd [a] []:=
 F.binds fun kV doc pm an cdv ct us hl=>by rcases us with _ | ⟨u,_ | _⟩<;>first | (cases hl;done) | exact h ..
theorem FunV.b2(F:FunV K x qual st f fd .none)(h:∀ kV doc pm an cdv ct u v,bindArgs (bFn x qual st kV doc pm an cdv ct) ⟨[u,v],[]⟩=pure [(a,u),(b,v)]):Binds K fd [a,b] []:=
 F.binds fun kV doc pm an cdv ct us hl=>by rcases us with _ | ⟨u,_ | ⟨v,_ | _⟩⟩<;>first | (cases hl;done) | exact h ..
theorem FunV.b3(F:FunV K x qual st f fd .none)(h:∀ kV doc pm an cdv ct u v w,bindArgs (bFn x qual st kV doc pm an cdv ct) ⟨[u,v,w],[]⟩=pure [(a,u),(b,v),(c,w)]):Binds K fd [a,b,c] []:=
 F.binds fun kV doc pm an cdv ct us hl=>by rcases us with _ | ⟨u,_ | ⟨v,_ | ⟨w,_ | _⟩⟩⟩<;>first | (cases hl;done) | exact h ..
theorem FunV.b4(F:FunV K x qual st f fd .none)(h:∀ kV doc pm an cdv ct u v w y,bindArgs (bFn x qual st kV doc pm an cdv ct) ⟨[u,v,w,y],[]⟩=pure [(a,u),(b,v),(c,w),(d,y)]):Binds K fd [a,b,c,d] []:=
 F.binds fun kV doc pm an cdv ct us hl=>by rcases us with _ | ⟨u,_ | ⟨v,_ | ⟨w,_ | ⟨y,_ | _⟩⟩⟩⟩<;>first | (cases hl;done) | exact h ..
end
end DL
namespace DL
open PySem PySem.Spec PyProof.Rows L2
def OwnK(K:PySem.W.Frag)(CT:CTab)(H0 G H:Hp):List (Key×D)->List (Key×V)->List Addr->Prop
 | [],kvs,as=>kvs=[]/\as=[]
 | (k,.lst xs)::r,kvs,as=>∃ a s as',kvs=(k,.ref a)::s/\as=a::as'/\H0 a=none/\G a=none/\(∃ vs,H a=some (.lst vs)/\RepL K CT G xs vs)/\a∉as'/\OwnK K CT H0 G H r s as'
 | (k,d)::r,kvs,as=>∃ v s,kvs=(k,v)::s/\Rep K CT G d v/\OwnK K CT H0 G H r s as
noncomputable def setK:List (Key×D)->Key->D->List (Key×D)
 | [],_,_=>[]
 | (k,d)::r,q,e=>if k=q then(k,e)::r else(k,d)::setK r q e
section
variable{K:PySem.W.Frag}
theorem OwnK.cases(h:OwnK K CT H0 G H ((k,d)::r) kvs as):
 (∃ xs a s as',d=.lst xs/\kvs=(k,.ref a)::s/\as=a::as'/\H0 a=none/\G a=none/\(∃ vs,H a=some (.lst vs)/\RepL K CT G xs vs)/\a∉as'/\OwnK K CT H0 G H r s as')∨
 ((∀ xs,d≠.lst xs)/\∃ v s,kvs=(k,v)::s/\Rep K CT G d v/\OwnK K CT H0 G H r s as):=by
 cases d with
 | lst xs=>obtain⟨a,s,as',h⟩:=h;exact .inl ⟨xs,a,s,as',rfl,h⟩
 | _=>exact .inr ⟨fun _ e=>D.noConfusion e,h⟩
theorem OwnK.kn(hd:∀ xs,d≠.lst xs)(h:Rep K CT G d v/\OwnK K CT H0 G H r s as):OwnK K CT H0 G H ((k,d)::r) ((k,v)::s) as:=by
 cases d with
 | lst xs=>exact absurd rfl (hd xs)
 | _=>exact⟨v,s,rfl,h⟩
theorem OwnK.mem:∀{kds:List (Key×D)}{kvs:List (Key×V)}{as:List Addr},OwnK K CT H0 G H kds kvs as->b∈as->H0 b=none/\G b=none/\H b≠none
 | [],_,_,⟨_,e⟩,h=>by subst e;cases h
 | (k,d)::r,kvs,as,ho,h=>by
  rcases ho.cases with⟨xs,a,s,as',rfl,rfl,rfl,h0,hg,⟨vs,hv,_⟩,na,hr⟩ | ⟨_,v,s,rfl,_,hr⟩
  ·rcases aF.mp h with rfl | h
   ·exact⟨h0,hg,by rw[hv];simp⟩
   ·exact hr.mem h
  ·exact hr.mem h
theorem OwnK.go:∀{kds:List (Key×D)}{kvs:List (Key×V)}{as:List Addr},OwnK K CT H0 G H kds kvs as->Same G G'->(∀ a∈as,G' a=none)->(∀ a∈as,∀ o,H a=some o->H' a=some o)->OwnK K CT H0 G' H' kds kvs as
 | [],_,_,h,_,_,_=>h
 | (k,d)::r,kvs,as,ho,g,n,m=>by
  rcases ho.cases with⟨xs,a,s,as',rfl,rfl,rfl,h0,hg,⟨vs,hv,rv⟩,na,hr⟩ | ⟨hd,v,s,rfl,rp,hr⟩
  ·exact⟨a,s,as',rfl,rfl,h0,n a (aL ..),⟨vs,m a (aL ..) _ hv,cj g xs vs rv⟩,na,hr.go g (fun b hb=>n b (aE _ hb)) fun b hb=>m b (aE _ hb)⟩
  ·exact OwnK.kn hd ⟨cg g _ _ rp,hr.go g n m⟩
theorem OwnK.at{q:Key}{xs:List D}:∀{kds:List (Key×D)}{kvs:List (Key×V)}{as:List Addr},valD kds q=some (.lst xs)->OwnK K CT H0 G H kds kvs as->∃ a vs,valV kvs q=some (.ref a)/\a∈as/\H a=some (.lst vs)/\RepL K CT G xs vs/\
 ∀{ys:List D}{us:List V},RepL K CT G ys us->OwnK K CT H0 G (upd H a (.lst us)) (setK kds q (.lst ys)) kvs as
 | [],_,_,e,_=>by cases e
 | (k,d)::r,kvs,as,e,ho=>by
  by_cases hk:k=q
  ·subst hk
   have e:some d=some (.lst xs):=by
    have:valD ((k,d)::r) k=some d:=by simp[valD,b9]
    rw[this]at e;exact e
   cases e
   rcases ho.cases with⟨xs',a,s,as',e,rfl,rfl,h0,hg,⟨vs,hv,rv⟩,na,hr⟩ | ⟨hd,_⟩
   ·cases e
    refine⟨a,vs,by simp[valV,b9],aL ..,hv,rv,fun {ys us} ru=>?_⟩
    have es:setK ((k,.lst xs)::r) k (.lst ys)=(k,.lst ys)::r:=by unfold setK;rw[aA rfl]
    rw[es]
    exact⟨a,s,as',rfl,rfl,h0,hg,⟨us,Qq,ru⟩,na,hr.go (cf _) (fun b hb=>(hr.mem hb).2.1) fun b hb o z=>by rw[Qi (by rintro rfl;exact na hb)];exact z⟩
   ·exact absurd rfl (hd xs)
  ·have er:valD r q=some (.lst xs):=by
    have:valD ((k,d)::r) q=valD r q:=by simp[valD,b9,hk]
    rw[← this];exact e
   have es:∀ y,setK ((k,d)::r) q y=(k,d)::setK r q y:=fun y=>by show(if k=q then _ else _)=_;rw[aD hk]
   have ev:∀(v:V)(s:List (Key×V)),valV ((k,v)::s) q=valV s q:=fun v s=>by simp[valV,b9,hk]
   rcases ho.cases with⟨xs',a,s,as',rfl,rfl,rfl,h0,hg,⟨vs,hv,rv⟩,na,hr⟩ | ⟨hd,v,s,rfl,rp,hr⟩
   ·obtain⟨b,ws,h1,h2,h3,h4,h5⟩:=OwnK.at er hr
    refine⟨b,ws,by rw[ev];exact h1,aE _ h2,h3,h4,fun {ys us} ru=>?_⟩
    rw[es]
    exact⟨a,s,as',rfl,rfl,h0,hg,⟨vs,by rw[Qi (by rintro rfl;exact na h2)];exact hv,rv⟩,na,h5 ru⟩
   ·obtain⟨b,ws,h1,h2,h3,h4,h5⟩:=OwnK.at er hr
    refine⟨b,ws,by rw[ev];exact h1,h2,h3,h4,fun {ys us} ru=>?_⟩
    rw[es]
    exact OwnK.kn hd ⟨rp,h5 ru⟩
end
structure ND(C:Dc)(p:Addr)(as:List Addr)(G H:Hp)(kds:List (Key×D)):Prop where
 gh:GH C G H
 h0:C.H0 p=none
 hg:G p=none
 np:p∉as
 ow:∃ kvs,H p=some (.dK kvs)/\OwnK C.X.K C.CT C.H0 G H kds kvs as
section
theorem ND.at(N:ND C p as G H kds):∀ b∈p::as,C.H0 b=none/\G b=none/\H b≠none:=fun b hb=>by
 obtain⟨kvs,hp,ho⟩:=N.ow
 rcases aF.mp hb with rfl | hb
 ·exact⟨N.h0,N.hg,by rw[hp];simp⟩
 ·exact ho.mem hb
end
section
variable   {st:Stmt} {rest:List Stmt}  {U V:SD->Out SD}
end
section
end
section
end
end DL
namespace DL
open PySem PySem.Spec PyProof.Rows L2
theorem OwnK.h0{K:PySem.W.Frag}(n:∀ b,H1 b=none->H0 b=none):∀{kds:List (Key×D)}{kvs:List (Key×V)}{as:List Addr},OwnK K CT H1 G H kds kvs as->OwnK K CT H0 G H kds kvs as
 | [],_,_,h=>h
 | (k,d)::r,kvs,as,ho=>by
  rcases ho.cases with⟨xs,a,s,as',rfl,rfl,rfl,h0,hg,hv,na,hr⟩ | ⟨hd,v,s,rfl,rp,hr⟩
  ·exact⟨a,s,as',rfl,rfl,n a h0,hg,hv,na,hr.h0 n⟩
  ·exact OwnK.kn hd ⟨rp,hr.h0 n⟩
section
variable         {rest:List Stmt}
end
end DL
namespace DL
open PySem PySem.Spec PyProof.Rows L2
section
variable{C:Dc}{i:Nat}{st:Stmt}{rest:List Stmt}{T:SD->Out Fl}{U:SD->Out (D×SD)}{pos:Pos}
end
section
variable{C:Dc}{e:Expr}{es:List Expr}{ms:List (Option Nat)}{A:SD->Out (List D)}
end
end DL
namespace DL
open PySem PySem.Spec PyProof.Rows L2
section
variable{C:Dc}
end
end DL
namespace DL
open PySem PySem.Spec PyProof.Rows L2
section
variable   {st:Stmt} {rest:List Stmt}  {U V:SD->Out SD}
end
section
end
section
end
section
end
section
end
section
end
end DL
namespace L2
open PySem PySem.Spec PyProof.Rows
section
variable{prog:Program}{w:World}{A:Around}{E:Value->Shared->Prop}{s:Shared}
end
section
variable{X:Cx}
end
end L2
namespace DL
open PySem PySem.Spec PyProof.Rows L2
section
variable{C:Dc}{a b:Expr}{A B:SD->Out D}
end
section
variable{C:Dc}{a:Expr}{A:SD->Out D}{lo hi:Option Expr}{L U:SD->Out (Option Int)}{p2 pos:Pos}
variable{o e e':Expr}{O E E':SD->Out D}{apos cpos:Pos}
end
end DL
namespace L2
open PySem PySem.Spec PyProof.Rows
section
variable{M:Model}{A:Around}{E:Value->Shared->Prop}{s:Shared}
end
end L2
namespace L2
open PySem PySem.Spec PyProof.Rows
section
variable{X:Cx}{N':List Str}{js:List (Option Nat)}{scope:Scope}{tg iter elt:Expr}{ifs:List Expr}{wi:TI}{pos:Pos}
end
end L2
namespace DL
open PySem PySem.Spec PyProof.Rows L2
section
variable{C:Dc}{G H:Hp}{σ:St}{ς:SD}
variable{N':List Str}{js:List (Option Nat)}{scope:Scope}{tg iter elt:Expr}{ifs:List Expr}{its:SD->Out (List D)}{g:D->SD->Out SD}{c:SD->Out Bool}{e:SD->Out D}{pos:Pos}
end
end DL
namespace L2
open PySem PySem.Spec PyProof.Rows
end L2
namespace DL
open PySem PySem.Spec PyProof.Rows L2
section
variable{C:Dc}{a b:Expr}{A B:SD->Out D}{pos:Pos}
end
end DL
namespace DL
open PySem PySem.Spec PyProof.Rows L2
section
variable{C:Dc}{e:Expr}{es:List Expr}{EE:SD->Out D}{A:SD->Out (List D)}{E:XK}{f:Str}{cs:List Str}{pos:Pos}{k:Nat}{fd:FuncData}{ps:List Str}{fI:Addr}
end
end DL
namespace DL
open PySem PySem.Spec PyProof.Rows L2
section
variable{C:Dc}{e:Expr}{E:SD->Out D}{p pos tp1:Pos}{cs:List Expr}
end
end DL
namespace L2
open PySem PySem.Spec PyProof.Rows PySem.W
end L2
namespace DL
open PySem PySem.Spec PyProof.Rows L2
end DL
namespace DL
open PySem PySem.Spec PyProof.Rows L2
abbrev Dn(K:PySem.W.Frag)(x:Str)(st:Stmt):Prop:=∃ f fd,PySem.W.nsIn K mainGlobals x=some (some (.ref f))/\FunV K x x st f fd .none
theorem dn_e{P:Program}{w:World}{K:PySem.W.Frag}{h:Heap}{mg:Str->Option Value}{base:Heap}{CT:CTab}(X:K.In h)(G:h.Ns mainGlobals mg){x:Str}{st:Stmt}{k:Nat}{fr:Bool}{m:List D->Out D}{ps:List Str}
 (D:Dn K x st) (hd:∀{f fd},FunV K x x st f fd .none->FnOk P w K mg base CX0 k f fd ps (SpD K CT fr m)) (hb:∀{f fd},FunV K x x st f fd .none->Binds K fd ps []):DefOk P w K mg base CT x k fr [] m:=
 let ⟨_,_,ha,F⟩:=D
 ⟨_,_,_,_,hd F,PySem.W.mg_of X G ha,F.kp,hb F,.nil⟩
section
variable{K:PySem.W.Frag}{q n:Str}{v:Option Value}{C:Addr}{Cs:List Addr}{ns:List Str}
def Vf(K:PySem.W.Frag)(q:Str)(v:Option Value):List Addr->Prop
 | []=>True
 | C::r=>PySem.W.findIn K (.ref C) q=some v/\Vf K q v r
theorem vf_nil:Vf K q v []:=True.intro
theorem vf_cons(a:PySem.W.findIn K (.ref C) q=some v)(b:Vf K q v Cs):Vf K q v (C::Cs):=⟨a,b⟩
def Ks(K:PySem.W.Frag):List Str->List Addr->Prop
 | n::ns,C::Cs=>(ctOf K n=some C/\Cls K C)/\Ks K ns Cs
 | [],_=>True
 | _,_=>False
theorem QoS:Ks K [] []:=True.intro
theorem QbA(a:ctOf K n=some C)(b:Cls K C)(h:Ks K ns Cs):Ks K (n::ns) (C::Cs):=⟨⟨a,b⟩,h⟩
theorem ks_at{c:Str}:∀{ns:List Str}{Cs:List Addr},Ks K ns Cs->Vf K q v Cs->ns.contains c=true->∃ C,ctOf K c=some C/\Cls K C/\PySem.W.findIn K (.ref C) q=some v
 | n::ns,C::Cs,h,f,m=>by
  rw[List.contains_cons,Bool.or_eq_true]at m
  rcases m with m | m
  ·exact⟨C,eq_of_beq m ▸ h.1.1,h.1.2,f.1⟩
  ·exact ks_at h.2 f.2 m
theorem fo_of(h:Ks K ns Cs)(f:Vf K q none Cs):FldOk K (ctOf K) ns q:=fun c hc A hA=>by
 obtain⟨C,h1,h2,h3⟩:=ks_at h f hc
 rw[h1]at hA;cases hA
 exact⟨h2,h3⟩
theorem mt_of{P:Program}{w:World}{mg:Str->Option Value}{base:Heap}{CX:CXT}{k:Nat}{f:Addr}{fd:FuncData}{ps:List Str}{sp:Sp}(h:Ks K ns Cs)(g:Vf K q (some (.ref f)) Cs)(a:PySem.W.isFn K (.ref f)=true)(b:PySem.W.keepIn K (.ref f)=true)(hf:FnOk P w K mg base CX k f fd ps sp)(hb:Binds K fd ps []):
 MtOk P w K mg base (ctOf K) CX q k ns fun _=>sp:=fun c hc=>by
 obtain⟨C,h1,h2,h3⟩:=ks_at h g hc
 exact⟨C,f,fd,ps,h1,h2,⟨h3,a,b⟩,hf,hb⟩
theorem mt_d{P:Program}{w:World}{K:PySem.W.Frag}{mg:Str->Option Value}{base:Heap}{q x qual:Str}{st:Stmt}{Cs:List Addr}{ns:List Str}{k:Nat}{f:Addr}{fd:FuncData}{ps:List Str}{fr:Bool}{m:List D->Out D}(h:Ks K ns Cs)(g:Vf K q (some (.ref f)) Cs)(a:PySem.W.isFn K (.ref f)=true)(F:FunV K x qual st f fd .none)(hf:FnOk P w K mg base CX0 k f fd ps (SpD K (ctOf K) fr m))(hb:Binds K fd ps []):
 MtOk P w K mg base (ctOf K) CX0 q k ns fun _=>SpD K (ctOf K) fr m:=mt_of h g a F.kp hf hb
abbrev Mn(K:PySem.W.Frag)(x q:Str)(st:Stmt)(f:Addr):Prop:=PySem.W.isFn K (.ref f)=true/\∃ fd,FunV K x q st f fd .none
end
end DL
namespace DL
open PySem PySem.Spec PyProof.Rows L2
section
end
end DL
namespace DL
open PySem PySem.Spec PyProof.Rows L2
theorem Qjt(h:0<j):dMod (.int i) (.int j)=.ok (.int (i % j)):=by
 show(if decide (j≠0)=true then Out.ok (D.int (i.fmod j)) else Out.stuck)=_
 rw[aA (aG (by lia)),Int.fmod_eq_emod_of_nonneg i (by lia)]
theorem Qvg(h:j≠0)(hb:big j=true):dFdiv (.int i) (.int j)=.ok (.int (i.fdiv j)):=by
 show(if (decide (j≠0)&&big j)=true then Out.ok (D.int (i.fdiv j)) else Out.stuck)=_
 rw[aA (by rw[hb,aG h];rfl)]
theorem QtA(h:0<j)(hb:big j=true):dFdiv (.int i) (.int j)=.ok (.int (i / j)):=by
 rw[Qvg (by lia) hb,Int.fdiv_eq_ediv_of_nonneg i (by lia)]
theorem Qrb(h:i.natAbs<2 ^ n):bitsI i<=n:=PySem.intBits_le_iff.mpr h
theorem Qwq(h:bitsI i+bitsI j<=134217728):dMul (.int i) (.int j)=.ok (.int (i * j)):=by
 show(if decide (bitsI i+bitsI j<=134217728)=true then Out.ok (D.int (i * j)) else Out.stuck)=_
 rw[aA (aG h)]
theorem Qwl(hi:bitsI i<=m)(hj:bitsI j<=n)(h:m+n<=134217728):dMul (.int i) (.int j)=.ok (.int (i * j)):=Qwq (by lia)
theorem Qbo(i j:Int):dAdd (.int i) (.int j)=.ok (.int (i+j)):=rfl
theorem Qbr(i j:Int):dSub (.int i) (.int j)=.ok (.int (i - j)):=rfl
theorem Qbp(i:Int):dNeg (.int i)=.ok (.int (-i)):=rfl
theorem Qcz(i:Int):dAbs (.int i)=.ok (.int (i.natAbs:Int)):=by
 show Out.ok (D.int (if i<0 then -i else i))=_
 congr 2;split<;>lia
theorem QaB(i j:Int):dLt (.int i) (.int j)=.ok (.bl (decide (i<j))):=rfl
theorem QcM(i j:Int):dLe (.int i) (.int j)=.ok (.bl (decide (i<=j))):=rfl
theorem QdO(i j:Int):dGt (.int i) (.int j)=.ok (.bl (decide (j<i))):=rfl
theorem QdH(i j:Int):dGe (.int i) (.int j)=.ok (.bl (decide (j<=i))):=rfl
mutual
def layD:D->Bool
 | .non=>true
 | .bl _=>true
 | .int _=>true
 | .str x=>PyData.strOk x
 | .lst xs=>layDs xs
 | .tup xs=>layDs xs
 | _=>false
def layDs:List D->Bool
 | []=>true
 | x::xs=>layD x&&layDs xs
end
mutual
def dep:D->Nat
 | .lst xs=>deps xs+1
 | .tup xs=>deps xs+1
 | _=>0
def deps:List D->Nat
 | []=>0
 | x::xs=>max (dep x) (deps xs)
end
mutual
theorem Qol:∀ d:D,layD d=true->d.py.canLay0=true
 | .non,_=>rfl
 | .bl _,_=>rfl
 | .int _,_=>rfl
 | .str x,h=>h
 | .lst xs,h=>QlY xs h
 | .tup xs,h=>QlY xs h
theorem QlY:∀ ds:List D,layDs ds=true->PyData.canLayAll0 (D.pys ds)=true
 | [],_=>rfl
 | x::xs,h=>by
  rw[layDs,aH]at h
  rw[D.pys,PyData.canLayAll0,aH]
  exact⟨Qol x h.1,QlY xs h.2⟩
end
mutual
theorem QsI:∀ d:D,layD d=true->d.py.depth=dep d
 | .non,_=>rfl
 | .bl _,_=>rfl
 | .int _,_=>rfl
 | .str x,h=>rfl
 | .lst xs,h=>by rw[D.py,PyData.depth,dep,QkW xs h]
 | .tup xs,h=>by rw[D.py,PyData.depth,dep,QkW xs h]
theorem QkW:∀ ds:List D,layDs ds=true->PyData.depthAll (D.pys ds)=deps ds
 | [],_=>rfl
 | x::xs,h=>by
  rw[layDs,aH]at h
  rw[D.pys,PyData.depthAll,deps,QsI x h.1,QkW xs h.2]
end
theorem QjZ(h:layD d=true)(hd:dep d<=64):shp d=true:=by
 unfold shp SeqAt.shaped
 rw[Qol d h,QsI d h]
 simpa using hd
theorem QiB(i:Int):shp (.int i)=true:=QjZ rfl (av _)
theorem Qxt(hx:shp x=true)(hy:shp y=true):dEq x y=.ok (.bl (PyData.eqv x.py y.py)):=by
 unfold dEq;rw[hx,hy];rfl
theorem QoM(hx:shp x=true)(hy:shp y=true):dNe x y=.ok (.bl (!PyData.eqv x.py y.py)):=by
 unfold dNe;rw[hx,hy];rfl
theorem Qre(i j:Int):(i == j)=decide (i=j):=by
 by_cases h:i=j
 ·subst h;simp
 ·simp[h]
theorem Qag(i j:Int):dEq (.int i) (.int j)=.ok (.bl (decide (i=j))):=by
 rw[Qxt (QiB i) (QiB j), ← Qre]
 rfl
theorem QbC(i j:Int):dNe (.int i) (.int j)=.ok (.bl (!decide (i=j))):=by
 rw[QoM (QiB i) (QiB j), ← Qre]
 rfl
theorem Qao(h:n<=1000:=by decide):fits n=true:=aG (aq h (by decide))
theorem ixL(k:Nat)(h:xs[k]?=some x):dIx (.lst xs) (.int (k:Int))=.ok x:=by
 show optO (atI xs (k:Int))=_
 rw[QgB h];rfl
theorem Qx7(xs:List α)(k:Nat):cutD xs none (some (k:Int))=xs.take k:=by
 unfold cutD
 rw[HT.sIx_none,HT.sIx_nat,List.drop_zero,Nat.sub_zero]
 by_cases h:k<=xs.length
 ·rw[Nat.min_eq_left h]
 ·rw[Nat.min_eq_right (by lia),c7 (aP _),c7 (by lia)]
theorem QxM(xs:List α)(i k:Nat):cutD xs (some (i:Int)) (some (k:Int))=(xs.drop i).take (k - i):=by
 unfold cutD
 rw[HT.sIx_nat,HT.sIx_nat]
 by_cases h:i<=xs.length
 ·rw[Nat.min_eq_left h]
  by_cases h2:k<=xs.length
  ·rw[Nat.min_eq_left h2]
  ·rw[Nat.min_eq_right (by lia),c7 (by rw[cE];exact aP _),c7 (by rw[cE];lia)]
 ·rw[show min i xs.length=xs.length by lia,cX,List.drop_eq_nil_of_le (by lia)];simp
theorem QlF(h:xs.length+ys.length<=1000):dCat (.lst xs) (.lst ys)=.ok (.lst (xs++ys)):=by
 show(if fits _=true then _ else _)=_
 rw[aA (Qao h)]
theorem Qbn(h:its ς=.ok xs)(hL:loopD (fun x ς=>g x ς>>=fun ς'=>T ς') xs ς=r):sFor g its T ς=r:=by
 unfold sFor
 rw[h];exact hL
theorem Qbj(m:Nat)(h:A ς=.ok (.int (m:Int)))(hm:m<=1000000):itR1 A ς=.ok (Qa4 0 m):=by
 have hs:QgJ m=true:=by
  unfold QgJ
  rw[aH]
  exact⟨aG (by lia),aG (by lia)⟩
 unfold itR1
 rw[h,d8]
 simp only[hs,cQ,Int.toNat_natCast]
end DL
namespace DL
open PySem PySem.Spec PyProof.Rows L2
theorem QdZ{P:Nat->SD->Prop}(h:∀ k:Nat,k<n->∀ ς,P k ς->∃ ς',body (.int (k:Int)) ς=.ok (.nx ς')/\P (k+1) ς'):∀ ς,P 0 ς->∃ ς',loopD body (Qa4 0 n) ς=.ok (.nx ς')/\P n ς':=by
 have key:∀ j k,k+j=n->∀ ς,P k ς->∃ ς',loopD body ((List.range' k j).map fun(i:Nat)=>D.int (0+i)) ς=.ok (.nx ς')/\P n ς':=by
  intro j
  induction j with
  | zero=>
   intro k hk ς p
   have:k=n:=by lia
   subst this
   exact⟨ς,rfl,p⟩
  | succ j ih=>
   intro k hk ς p
   obtain⟨ς1,e1,p1⟩:=h k (by lia) ς p
   obtain⟨ς2,e2,p2⟩:=ih (k+1) (by lia) ς1 p1
   refine⟨ς2,?_,p2⟩
   rw[List.range'_succ,au,loopD,cP,e1]
   exact e2
 intro ς p
 have:=key n 0 (by lia) ς p
 unfold Qa4
 rw[List.range_eq_range']
 exact this
theorem Qjv:∀{xs:List D},(∀ x∈xs,f x=.ok (h x))->compM f xs=.ok (xs.filterMap h)
 | [],_=>rfl
 | x::xs,hf=>by
  rw[compM,hf x aL,d8,Qjv (fun y hy=>hf y (aE _ hy)),d8,cH]
  cases h x<;>rfl
theorem QhL(f:α->Bool):∀ xs:List α,blsOf (xs.map fun x=>D.bl (f x))=some (xs.map f)
 | []=>rfl
 | x::xs=>by rw[au,blsOf,QhL f xs];rfl
theorem QdA(f:α->Bool)(xs:List α):fAll (.lst (xs.map fun x=>D.bl (f x)))=.ok (.bl (xs.all f)):=by
 rw[fAll,QhL]
 show Out.ok (D.bl ((xs.map f).all id))=_
 rw[List.all_map];rfl
theorem Quj(f:α->Bool)(xs:List α):fAny (.lst (xs.map fun x=>D.bl (f x)))=.ok (.bl (xs.any f)):=by
 rw[fAny,QhL]
 show Out.ok (D.bl ((xs.map f).any id))=_
 rw[List.any_map];rfl
theorem Qds(h:n<=1000):fits n=true:=Qao h
theorem Qq3(z:Str):z.cps.toList.length=z.length:=by simp[Str.length]
end DL
namespace DL
open PySem PySem.Spec L2
section
variable     {E A B:SD->Out D}  {f:D->Out D}  {h:List D->Out D}   {T U:SD->Out Fl}
theorem r_var(e:ς[i]?=some (some (.k,d))):eVar i ς=.ok d:=by unfold eVar;rw[e]
theorem QsC(e:ς[i]?=some (some (m,d))):eVarB i ς=.ok d:=by unfold eVarB;rw[e]
theorem r_C:eC d ς=.ok d:=rfl
theorem r_e1(a:A ς=.ok x)(k:f x=r):e1 f A ς=r:=by unfold e1;rw[a];exact k
theorem r_e2(a:A ς=.ok x)(a':B ς=.ok y)(k:g x y=r):e2 g A B ς=r:=by unfold e2;rw[a,d8,a'];exact k
theorem r_eA(a:AA ς=.ok xs)(k:h xs=r):eA h AA ς=r:=by unfold eA;rw[a];exact k
theorem Qan(a:AA ς=.ok xs)(e:xs++dd=ys)(k:h ys=r):eA (fun xs=>h (xs++dd)) AA ς=r:=by unfold eA;rw[a];show h (xs++dd)=r;rw[e];exact k
theorem r_nil:aNil ς=.ok []:=rfl
theorem Qf(a:A ς=.ok x)(k:AA ς=.ok xs):aCons A AA ς=.ok (x::xs):=by unfold aCons;rw[a,d8,k];rfl
theorem r_tup(a:AA ς=.ok xs)(k:xs.length<=1000):eTup AA ς=.ok (.tup xs):=by unfold eTup;rw[a,d8,aA (Qds k)]
theorem r_lst(a:AA ς=.ok xs)(k:xs.length<=1000):eLst AA ς=.ok (.lst xs):=by unfold eLst;rw[a,d8,aA (Qds k)]
theorem QY(a:A ς=.ok (.bl b)):tVal A ς=.ok b:=by unfold tVal;rw[a];rfl
theorem Qdg(a:P ς=.ok b):tNot' P ς=.ok (!b):=by unfold tNot';rw[a];rfl
theorem r_or'(a:P ς=.ok b)(k:(if b=true then .ok true else Q ς)=rb):tOr' P Q ς=rb:=by unfold tOr';rw[a];exact k
theorem Qx9(a:A ς=.ok (.bl b))(k:(if b=true then B ς else .ok (.bl false))=r):eAnd A B ς=r:=by unfold eAnd;rw[a];cases b<;>exact k
theorem r_eIf(a:P ς=.ok b)(k:(if b=true then A ς else B ς)=r):eIf P A B ς=r:=by unfold eIf;rw[a];exact k
theorem r_isa(a:A ς=.ok x)(k:F x=.ok b):eIsa F A ς=.ok (.bl b):=by unfold eIsa;rw[a,d8,k];rfl
theorem QvJ(a:A ς=.ok x)(a':B ς=.ok y)(k:g x y=.ok (.bl b))(k':(if b=true then E' ς>>=fun w=>g' y w else .ok (.bl false))=r):Qa6 g g' A B E' ς=r:=by unfold Qa6;rw[a,d8,a',d8,k];cases b<;>exact k'
theorem QxE(a:E ς=.ok z)(k:f z=r):(E ς>>=fun w=>f w)=r:=by rw[a];exact k
theorem r_set(a:E ς=.ok d)(k:ς.set i (some (.k,d))=ς'):sSet i E ς=.ok (.nx ς'):=by unfold sSet;rw[a,d8,k]
theorem Qeo(a:E ς=.ok d)(k:ς.set i (some (.o,d))=ς'):sSetO i E ς=.ok (.nx ς'):=by unfold sSetO;rw[a,d8,k]
theorem r_seq(a:T ς=.ok fl)(k:thenF U fl=rf):sSeq T U ς=rf:=by unfold sSeq;rw[a];exact k
theorem Qw(k:U ς=rf):thenF U (.nx ς)=rf:=k
theorem Qg2:thenF U (.rt z d)=.ok (.rt z d):=rfl
theorem r_if(a:P ς=.ok b)(k:(if b=true then T ς else U ς)=rf):sIf P T U ς=rf:=by unfold sIf;rw[a];exact k
theorem Qki(a:b=true)(k:u=w):(if b=true then u else v)=w:=by rw[aA a];exact k
theorem Qkr(a:b=false)(k:v=w):(if b=true then u else v)=w:=by subst a;exact k
theorem r_ret(a:E ς=.ok d):sRet E ς=.ok (.rt false d):=by unfold sRet;rw[a];rfl
theorem Qcj(a:E ς=.ok d):sRetF E ς=.ok (.rt true d):=by unfold sRetF;rw[a];rfl
theorem QtJ(e:ς[i]?=some (some (.o,d))):sRetO i ς=.ok (.rt true d):=by unfold sRetO;rw[e]
theorem Qak:sNil ς=.ok (.nx ς):=rfl
theorem Qq0(k:n<=1000):decide (n<sizeLine)=true:=aG (Nat.lt_of_le_of_lt k (by decide))
theorem r_app(e:ς[i]?=some (some (.o,.lst xs)))(a:E ς=.ok d)(k:xs.length<=1000)(l:ς.set i (some (.o,.lst (xs++[d])))=ς'):QaP i E ς=.ok (.nx ς'):=by
 unfold QaP;rw[e];show(E ς>>=fun d=>if decide (xs.length<sizeLine)=true then _ else _)=_;rw[a,d8,aA (Qq0 k),l]
theorem QoH(a:o=.ok d)(k:d.scal=true):Qh7 o=.ok d:=by unfold Qh7;rw[a,d8,aA k]
theorem Qme(a:o=.ok d)(k:d.scal=false):QaS o=.ok d:=by unfold QaS;rw[a,d8,k];rfl
theorem r_noX(k:o=.ok a):noX o=.ok a:=by rw[k];rfl
theorem r_sl(a:A ς=.ok (.lst xs))(k1:l ς=.ok p)(k2:u ς=.ok q)(e:cutD xs p q=ys):eSl A l u ς=.ok (.lst ys):=by unfold eSl;rw[a,d8,k1,d8,k2,d8];show Out.ok (D.lst _)=_;rw[e]
theorem r_oNo:oNo ς=.ok none:=rfl
theorem QiF(a:E ς=.ok (.int k)):oSome E ς=.ok (some k):=by unfold oSome;rw[a];rfl
theorem Qmr:Q6 [] [] ς=.ok ς:=rfl
theorem Qml(a:ς.set i (some (.k,d))=ς1)(k:Q6 is ys ς1=rs):Q6 (i::is) (d::ys) ς=rs:=by show Q6 is ys (ς.set i (some (.k,d)))=rs;rw[a];exact k
theorem Qad(a:T ς=.ok fl)(k:retF fr fl=r):(T ς>>=retF fr)=r:=by rw[a];exact k
theorem r_rt:retF false (.rt z d)=.ok d:=by unfold retF;simp
theorem r_rtT:retF true (.rt true d)=.ok d:=by unfold retF;simp
theorem r_gN{L:SD->Out Fl}(a:ς.set i (some (.k,d))=ς1)(k:L ς1=rf):(gN i d ς>>=fun ς'=>L ς')=rf:=by unfold gN;rw[a];exact k
theorem r_gT{L:SD->Out Fl}(a:Q6 is ys ς=.ok ς1)(k:L ς1=rf):(gT is (.tup ys) ς>>=fun ς'=>L ς')=rf:=by unfold gT;show(Q6 is ys ς>>=fun ς'=>L ς')=rf;rw[a];exact k
theorem Qgv(a:AA ς=.ok xs)(k:mk cl [] xs=.ok fds):eMake cl mk AA ς=.ok (.ins cl fds):=by unfold eMake;rw[a,d8,k];rfl
theorem Qwd(e:ς[i]?=some (some (.s,.ins cl fds)))(k1:cs.contains cl=true)(k2:fds.lookup n=none)(a:AA ς=.ok xs)(k:mk cl fds xs=.ok fds')(l:ς.set i (some (.s,.ins cl fds'))=ς'):Qek cs n mk i AA ς=.ok (.nx ς'):=by
 unfold Qek;rw[e]
 show(if (cs.contains cl&&(fds.lookup n).isNone)=true then _ else _)=_
 rw[k1,k2]
 show(AA ς>>=_)=_
 rw[a,d8,k,d8,l]
theorem r_itL(a:E ς=.ok (.lst xs)):itL E ς=.ok xs:=by unfold itL;rw[a];rfl
end
theorem Qxq{T:SD->Out Fl}(a:T ς=.ok (.nx (some (.s,.ins c fds)::τ))):(T ς>>=QbP c)=.ok fds:=by
 rw[a];simp[QbP,Qh8]
theorem c_nil:captD [] ς=[]:=rfl
theorem Qem(k:captD js ς=τ):captD (none::js) ς=none::τ:=by rw[← k];rfl
theorem c_k(e:ς[j]?=some (some (.k,d)))(k:captD js ς=τ):captD (some j::js) ς=some (.k,d)::τ:=by
 rw[← k];show captS ς j::_=_;unfold captS;rw[e];rfl
theorem QN(c:captD js ς=τ0)(a:τ0.set i (some (.k,x))=τ)(k:e τ=.ok d):turnC js (gN i) cTrue e ς x=.ok (some d):=by
 unfold turnC gN cTrue
 rw[c,a,d8,d8,aA rfl,k];rfl
theorem Qq2(c:captD js ς=τ0)(a:Q6 is xs τ0=.ok τ)(k:e τ=.ok d):turnC js (gT is) cTrue e ς (.tup xs)=.ok (some d):=by
 unfold turnC gT cTrue
 show((Q6 is xs (captD js ς))>>=_)=_
 rw[c,a,d8,d8,aA rfl,k];rfl
theorem QK{l:List α}(f:α->D)(h:α->D)(hi:its ς=.ok (l.map f))(ht:∀ x∈l,turnC js g cTrue e ς (f x)=.ok (some (h x)))(hl:l.length<=1000):
 eComp js its g cTrue e ς=.ok (.lst (l.map h)):=by
 have go:∀ l:List α,(∀ x∈l,turnC js g cTrue e ς (f x)=.ok (some (h x)))->compM (turnC js g cTrue e ς) (l.map f)=.ok (l.map h):=by
  intro l
  induction l with
  | nil=>intro _;rfl
  | cons x xs ih=>
   intro H
   have h1:=H x (aL ..)
   have h2:=ih fun y hy=>H y (aE _ hy)
   show compM (turnC js g cTrue e ς) (f x::xs.map f)=_
   unfold compM
   rw[h1,d8,h2];rfl
 unfold eComp
 rw[hi,d8,go l ht,d8,aA (Qds (by rw[aC];exact hl))]
theorem Qjr{n:Nat}(h:Nat->D)(hi:its ς=.ok (Qa4 0 n))(ht:∀ k:Nat,k<n->turnC js g cTrue e ς (.int (k:Int))=.ok (some (h k)))(hl:n<=1000):
 eComp js its g cTrue e ς=.ok (.lst ((List.range n).map h)):=by
 refine QK (fun i:Nat=>D.int (0+i)) h hi (fun k hk=>?_) (by rw[aB];exact hl)
 rw[cP]
 exact ht k (aV.mp hk)
theorem Qvu(ha:PyData.strOk a=true)(hb:PyData.strOk b=true):dNe (.str a) (.str b)=.ok (.bl (!(a == b))):=by
 rw[QoM (QjZ (d:=.str a) ha (av _)) (QjZ (d:=.str b) hb (av _))];rfl
theorem r_get{ς:SD}{i:Nat}(h:ς[i]?=some (some (m,d))):ς[i]?=some (some (m,d)):=h
theorem r_len(h:n<=1000):n<=1000:=h
theorem r_id(h:a=b):a=b:=h
theorem QwH:List.lookup n ([]:List (Str×D))=none:=rfl
theorem Qw1:(x::xs)[0]?=some x:=rfl
theorem Qx5(h:xs[n]?=r):(x::xs)[n+1]?=r:=by rw[bC];exact h
theorem QsF:(x::xs).set 0 y=y::xs:=rfl
theorem Qtv(h:xs.set n y=ys):(x::xs).set (n+1) y=x::ys:=by rw[List.set_cons_succ,h]
theorem Qw6:[]++ys=ys:=rfl
theorem QxD(h:xs++ys=zs):x::xs++ys=x::zs:=by rw[cZ,h]
end DL
namespace L2
open PySem PySem.Spec PyProof.Rows
theorem Inv.ghost{X:Cx}{pins:List (Addr×Obj)}{σ:List (Option V)}{H H':Hp}{s:Shared}{L:List Addr}(I:Inv X pins σ H s)(h0:∀ b∈L,X.H₀ b=none)(hL:∀ b∈L,(∃ vs,H b=some (.lst vs))∨∃ o vs,H b=some (.frz o (.lst vs)))
 (hH:∀ b,b∉L->H' b=H b) (hok:∀ b∈L,∃ u,H' b=some u/\ObjOk X.prog X.w H' s.heap b u):Inv X pins σ H' s:=by
 have nL:∀ b u,H b=some u->(∀ vs,u≠.lst vs)->(∀ o vs,u≠.frz o (.lst vs))->H' b=some u:=fun b u e n1 n2=>by
  rw[hH b fun hb=>?_];exact e
  rcases hL b hb with⟨vs,z⟩ | ⟨o,vs,z⟩<;>rw[e]at z<;>cases z
  ·exact n1 _ rfl
  ·exact n2 _ _ rfl
 have nn:∀ b,H b=none->H' b=none:=fun b e=>by
  rw[hH b fun hb=>?_];exact e
  rcases hL b hb with⟨vs,z⟩ | ⟨o,vs,z⟩<;>rw[e]at z<;>cases z
 have n0:∀ b u,X.H₀ b=some u->b∉L:=fun b u e hb=>by rw[h0 b hb]at e;cases e
 exact {
  ok:=I.ok
  os:=I.os
  bare:=I.bare
  base:=⟨I.base.keep,I.base.slot,fun b o e n hx=>nn b (I.base.free b o e n hx),I.base.there,fun b xs e=>by rw[hH b (n0 b _ e)];exact I.base.tups b xs e,fun b o u e=>by rw[hH b (n0 b _ e)];exact I.base.frzs b o u e,fun b ps e=>by rw[hH b (n0 b _ e)];exact I.base.tbls b ps e⟩
  loc:=I.loc
  cell:=I.cell
  free:=nn _ I.free
  freeC:=fun x c e=>nn _ (I.freeC x c e)
  pin:=fun p hp=>let ⟨a,b,c⟩:=I.pin p hp;⟨a,nn _ b,c⟩
  hok:=fun b u e=>by
   by_cases hb:b∈L
   ·obtain⟨u',e',k⟩:=hok b hb
    rw[e]at e';cases e';exact k
   ·rw[hH b hb]at e
    exact(I.hok b u e).stay (fun c v _ r=>r) (fun c r=>nL c _ r (fun _ z=>nomatch z) fun _ _ z=>nomatch z) fun c xs r=>nL c _ r (fun _ z=>nomatch z) fun _ _ z=>nomatch z
  len:=I.len }
def Mx(X:Cx)(sts:List Stmt):TS:=fun W σ H=>∃ t,PSs X sts t/\t W σ H
theorem QgQ{X:Cx}{sts:List Stmt}:PSs X sts (Mx X sts):=fun pins s σ H D I ⟨t,p,h⟩=>p pins s σ H D I h
theorem Qvw{X:Cx}{sts:List Stmt}{t:TS}(h:PSs X sts t):PSs X sts (fun W σ H=>∃ L:List Addr,(∀ b∈L,X.H₀ b=none/\∃ vs,H b=some (.lst vs))/\∀ H':Hp,(∀ b,b∉L->H' b=H b)->(∀ b∈L,∀ vs,H b=some (.lst vs)->∃ o,H' b=some (.frz o (.lst vs)))->t W σ H'):=by
 intro pins s σ H D I ⟨L,hL,k⟩
 let H':Hp:=fun b=>if b∈L then(match H b,s.heap.get? b with | some (.lst vs),some o=>some (.frz o (.lst vs)) | x,_=>x) else H b
 have e1:∀ b,b∉L->H' b=H b:=fun b hb=>by show(if b∈L then _ else H b)=_;rw[aD hb]
 have e2:∀ b∈L,∀ vs,H b=some (.lst vs)->∃ o,s.heap.get? b=some o/\H' b=some (.frz o (.lst vs)):=fun b hb vs e=>by
  obtain⟨_,its,n,_,ho⟩:=(show ObjOk X.prog X.w H s.heap b (.lst vs) from I.hok b _ e)
  refine⟨_,ho,?_⟩
  show(if b∈L then(match H b,s.heap.get? b with | some (.lst vs),some o=>some (HO.frz o (.lst vs)) | x,_=>x) else H b)=_
  rw[aA hb,e,ho]
 refine h pins s σ H' D (I.ghost (L:=L) (fun b hb=>(hL b hb).1) (fun b hb=>.inl (hL b hb).2) e1 fun b hb=>?_) (k H' e1 fun b hb vs e=>let ⟨o,_,z⟩:=e2 b hb vs e;⟨o,z⟩)
 obtain⟨_,vs,e⟩:=hL b hb
 obtain⟨o,ho,z⟩:=e2 b hb vs e
 obtain⟨q1,its,n,q2,q3⟩:=(show ObjOk X.prog X.w H s.heap b (.lst vs) from I.hok b _ e)
 exact⟨_,z,ho,q1,its,n,q2,q3⟩
end L2
namespace DL
open PySem PySem.Spec PyProof.Rows L2
mutual
def noL:D->Bool
 | .lln _=>false
 | .lst xs=>noLs xs
 | .tup xs=>noLs xs
 | .dic kvs=>noLk kvs
 | .ins _ fs=>noLf fs
 | _=>true
def noLs:List D->Bool
 | []=>true
 | x::xs=>noL x&&noLs xs
def noLk:List (Key×D)->Bool
 | []=>true
 | (_,x)::xs=>noL x&&noLk xs
def noLf:List (Str×D)->Bool
 | []=>true
 | (_,x)::xs=>noL x&&noLf xs
end
noncomputable def cutH(L:List Addr)(G:Hp):Hp:=fun b=>if b∈L then none else G b
section
variable{K:PySem.W.Frag}{CT:CTab}{G:Hp}{L:List Addr}(hL:∀ b∈L,∃ o vs,G b=some (.frz o (.lst vs)))
theorem QaE{b:Addr}(hb:b∉L):cutH L G b=G b:=by unfold cutH;rw[aD hb]
include hL
theorem QtH{a:Addr}{u:HO}(hu:∀ vs,u≠.lst vs)(hf:∀ o v,u≠.frz o v)(h:Rd G a u):Rd (cutH L G) a u:=by
 have hb:a∉L:=fun hb=>by
  obtain⟨o,vs,e⟩:=hL a hb
  rcases h with h | ⟨o',h⟩
  ·rw[e]at h;cases h;exact hf _ _ rfl
  ·rw[e]at h;cases h;exact hu _ rfl
 rcases h with h | ⟨o',h⟩
 ·exact .inl (by rw[QaE hb];exact h)
 ·exact .inr ⟨o',by rw[QaE hb];exact h⟩
mutual
theorem Rep.cut:∀(d:D)(v:V),noL d=true->Rep K CT G d v->Rep K CT (cutH L G) d v
 | .non,_,_,h=>h
 | .bl _,_,_,h=>h
 | .int _,_,_,h=>h
 | .str _,_,_,h=>h
 | .lst ds,_,n,⟨a,vs,h1,h2,h3⟩=>⟨a,vs,h1,by
  have hb:a∉L:=fun hb=>by
   obtain⟨o,us,e⟩:=hL a hb
   have h2:G a=some (.lst vs):=h2
   rw[e]at h2;cases h2
  show cutH L G a=some (.lst vs)
  rw[QaE hb];exact h2,RepL.cut ds vs n h3⟩
 | .lln _,_,n,_=>by cases n
 | .tup ds,_,n,⟨a,vs,h1,h2,h3⟩=>⟨a,vs,h1,by
  rcases h2 with h2 | h2
  ·exact .inl (QtH hL (fun _ z=>nomatch z) (fun _ _ z=>nomatch z) h2)
  ·exact .inr h2,RepL.cut ds vs n h3⟩
 | .dic ds,_,n,⟨a,vs,h1,h2,h3⟩=>⟨a,vs,h1,QtH hL (fun _ z=>nomatch z) (fun _ _ z=>nomatch z) h2,RepK.cut ds vs n h3⟩
 | .ins c ds,_,n,⟨a,C,dx,fs,h1,h2,h3,h4⟩=>⟨a,C,dx,fs,h1,h2,(QaE (fun hb=>by
  obtain⟨o,us,e⟩:=hL a hb
  rw[e]at h3;exact nomatch h3)).trans h3,RepF.cut ds fs n h4⟩
 | .err c fs,_,n,⟨a,C,dx,h1,h2,h3,h4⟩=>⟨a,C,dx,h1,h2,(QaE (fun hb=>by
  obtain⟨o,us,e⟩:=hL a hb
  rw[e]at h3;exact nomatch h3)).trans h3,by
  rcases h4 with h4 | ⟨b,h4,h5⟩
  ·exact .inl h4
  ·refine .inr ⟨b,h4,?_⟩
   rw[QaE fun hb=>?_];exact h5
   obtain⟨o,us,e⟩:=hL b hb
   rw[e]at h5;cases h5⟩
theorem RepL.cut:∀(ds:List D)(vs:List V),noLs ds=true->RepL K CT G ds vs->RepL K CT (cutH L G) ds vs
 | [],_,_,h=>h
 | d::ds,_,n,⟨v,r,h1,h2,h3⟩=>by
  have n:(noL d&&noLs ds)=true:=n
  rw[aH]at n
  exact⟨v,r,h1,Rep.cut d v n.1 h2,RepL.cut ds r n.2 h3⟩
theorem RepK.cut:∀(ds:List (Key×D))(vs:List (Key×V)),noLk ds=true->RepK K CT G ds vs->RepK K CT (cutH L G) ds vs
 | [],_,_,h=>h
 | (k,d)::ds,_,n,⟨v,r,h1,h2,h3⟩=>by
  have n:(noL d&&noLk ds)=true:=n
  rw[aH]at n
  exact⟨v,r,h1,Rep.cut d v n.1 h2,RepK.cut ds r n.2 h3⟩
theorem RepF.cut:∀(ds:List (Str×D))(vs:List (Str×V)),noLf ds=true->RepF K CT G ds vs->RepF K CT (cutH L G) ds vs
 | [],_,_,h=>h
 | (k,d)::ds,_,n,⟨v,r,h1,h2,h3⟩=>by
  have n:(noL d&&noLf ds)=true:=n
  rw[aH]at n
  exact⟨v,r,h1,Rep.cut d v n.1 h2,RepF.cut ds r n.2 h3⟩
end
end
end DL
namespace DL
open PySem PySem.Spec PyProof.Rows L2
mutual
def RepX(K:PySem.W.Frag)(CT:CTab)(G H:Hp):D->V->List Addr->Prop
 | .lln ds,v,L=>∃ a vs L',v=.ref a/\L=a::L'/\H a=some (.lst vs)/\RepXL K CT G H ds vs L'
 | .tup ds,v,L=>∃ a vs,v=.ref a/\SqT K G a vs/\RepXL K CT G H ds vs L
 | .non,v,L=>Rep K CT G .non v/\L=[]
 | .bl b,v,L=>Rep K CT G (.bl b) v/\L=[]
 | .int b,v,L=>Rep K CT G (.int b) v/\L=[]
 | .str b,v,L=>Rep K CT G (.str b) v/\L=[]
 | .lst b,v,L=>Rep K CT G (.lst b) v/\noLs b=true/\L=[]
 | .dic b,v,L=>Rep K CT G (.dic b) v/\noLk b=true/\L=[]
 | .ins c b,v,L=>Rep K CT G (.ins c b) v/\noLf b=true/\L=[]
 | .err c b,v,L=>Rep K CT G (.err c b) v/\L=[]
def RepXL(K:PySem.W.Frag)(CT:CTab)(G H:Hp):List D->List V->List Addr->Prop
 | [],vs,L=>vs=[]/\L=[]
 | d::ds,vs,L=>∃ v r L1 L2,vs=v::r/\L=L1++L2/\RepX K CT G H d v L1/\RepXL K CT G H ds r L2
end
section
variable{K:PySem.W.Frag}{CT:CTab}{G H G' H':Hp}
mutual
theorem RepX.mono(g:Same G G'):∀(d:D)(v:V)(L:List Addr),(∀ b∈L,∀ o,H b=some o->H' b=some o)->RepX K CT G H d v L->RepX K CT G' H' d v L
 | .lln ds,_,_,h,⟨a,vs,L',h1,h2,h3,h4⟩=>by
  subst h2
  exact⟨a,vs,L',h1,rfl,h a (aL ..) _ h3,RepXL.mono g ds vs L' (fun b hb=>h b (aE _ hb)) h4⟩
 | .tup ds,_,L,h,⟨a,vs,h1,h2,h3⟩=>⟨a,vs,h1,Same.sqT g h2,RepXL.mono g ds vs L h h3⟩
 | .non,v,_,_,h=>⟨cg g _ v h.1,h.2⟩
 | .bl _,v,_,_,h=>⟨cg g _ v h.1,h.2⟩
 | .int _,v,_,_,h=>⟨cg g _ v h.1,h.2⟩
 | .str _,v,_,_,h=>⟨cg g _ v h.1,h.2⟩
 | .lst _,v,_,_,h=>⟨cg g _ v h.1,h.2⟩
 | .dic _,v,_,_,h=>⟨cg g _ v h.1,h.2⟩
 | .ins _ _,v,_,_,h=>⟨cg g _ v h.1,h.2⟩
 | .err _ _,v,_,_,h=>⟨cg g _ v h.1,h.2⟩
theorem RepXL.mono(g:Same G G'):∀(d:List D)(v:List V)(L:List Addr),(∀ b∈L,∀ o,H b=some o->H' b=some o)->RepXL K CT G H d v L->RepXL K CT G' H' d v L
 | [],_,_,_,h=>h
 | d::ds,_,_,h,⟨v,r,L1,L2,h1,h2,h3,h4⟩=>by
  subst h2
  exact⟨v,r,L1,L2,h1,rfl,RepX.mono g d v L1 (fun b hb=>h b (bN _ hb)) h3,RepXL.mono g ds r L2 (fun b hb=>h b (aZ _ hb)) h4⟩
end
abbrev d7:=@RepXL.mono
mutual
theorem Rep.x:∀(d:D)(v:V),noL d=true->Rep K CT G d v->RepX K CT G H d v []
 | .lln _,_,n,_=>by cases n
 | .tup ds,_,n,⟨a,vs,h1,h2,h3⟩=>⟨a,vs,h1,h2,RepL.x ds vs n h3⟩
 | .non,v,_,h=>⟨h,rfl⟩
 | .bl _,v,_,h=>⟨h,rfl⟩
 | .int _,v,_,h=>⟨h,rfl⟩
 | .str _,v,_,h=>⟨h,rfl⟩
 | .lst _,v,n,h=>⟨h,n,rfl⟩
 | .dic _,v,n,h=>⟨h,n,rfl⟩
 | .ins _ _,v,n,h=>⟨h,n,rfl⟩
 | .err _ _,v,_,h=>⟨h,rfl⟩
theorem RepL.x:∀(d:List D)(v:List V),noLs d=true->RepL K CT G d v->RepXL K CT G H d v []
 | [],_,_,h=>⟨h,rfl⟩
 | d::ds,_,n,⟨v,r,h1,h2,h3⟩=>by
  have n:(noL d&&noLs ds)=true:=n
  rw[aH]at n
  exact⟨v,r,[],[],h1,rfl,Rep.x d v n.1 h2,RepL.x ds r n.2 h3⟩
end
mutual
theorem RepX.rep{B:Hp}(g:Same G B):∀(d:D)(v:V)(L:List Addr),(∀ b∈L,∀ vs,H b=some (.lst vs)->SqL K B b vs)->RepX K CT G H d v L->Rep K CT B d v
 | .lln ds,_,_,h,⟨a,vs,L',h1,h2,h3,h4⟩=>by
  subst h2
  exact⟨a,vs,h1,h a (aL ..) _ h3,RepXL.rep g ds vs L' (fun b hb=>h b (aE _ hb)) h4⟩
 | .tup ds,_,L,h,⟨a,vs,h1,h2,h3⟩=>⟨a,vs,h1,Same.sqT g h2,RepXL.rep g ds vs L h h3⟩
 | .non,v,_,_,h=>cg g _ v h.1
 | .bl _,v,_,_,h=>cg g _ v h.1
 | .int _,v,_,_,h=>cg g _ v h.1
 | .str _,v,_,_,h=>cg g _ v h.1
 | .lst _,v,_,_,h=>cg g _ v h.1
 | .dic _,v,_,_,h=>cg g _ v h.1
 | .ins _ _,v,_,_,h=>cg g _ v h.1
 | .err _ _,v,_,_,h=>cg g _ v h.1
theorem RepXL.rep{B:Hp}(g:Same G B):∀(d:List D)(v:List V)(L:List Addr),(∀ b∈L,∀ vs,H b=some (.lst vs)->SqL K B b vs)->RepXL K CT G H d v L->RepL K CT B d v
 | [],_,_,_,h=>h.1
 | d::ds,_,_,h,⟨v,r,L1,L2,h1,h2,h3,h4⟩=>by
  subst h2
  exact⟨v,r,h1,RepX.rep g d v L1 (fun b hb=>h b (bN _ hb)) h3,RepXL.rep g ds r L2 (fun b hb=>h b (aZ _ hb)) h4⟩
end
theorem RepXL.length:∀{ds:List D}{vs:List V}{L:List Addr},RepXL K CT G H ds vs L->ds.length=vs.length
 | [],_,_,h=>by rw[h.1];rfl
 | d::ds,_,_,⟨v,r,L1,L2,h1,h2,h3,h4⟩=>by rw[h1,aR,aR,h4.length]
theorem RepXL.append:∀{ds es:List D}{vs us:List V}{L M:List Addr},RepXL K CT G H ds vs L->RepXL K CT G H es us M->RepXL K CT G H (ds++es) (vs++us) (L++M)
 | [],_,_,_,_,_,⟨h1,h2⟩,k=>by rw[h1,h2];exact k
 | d::ds,_,_,_,_,_,⟨v,r,L1,L2,h1,h2,h3,h4⟩,k=>by
  rw[h1,h2,List.append_assoc]
  exact⟨v,_,L1,_,rfl,rfl,h3,h4.append k⟩
theorem RepXL.one{d:D}{v:V}{L:List Addr}(h:RepX K CT G H d v L):RepXL K CT G H [d] [v] L:=⟨v,[],L,[],rfl,(aj _).symm,h,rfl,rfl⟩
end
def NewL(H G' H':Hp)(L:List Addr):Prop:=L.Nodup/\∀ b∈L,H b=none/\G' b=none/\∃ vs,H' b=some (.lst vs)
def Fresh(G G' H:Hp):Prop:=∀ b,G b=none->G' b≠none->H b=none
theorem Fresh.refl{G H:Hp}:Fresh G G H:=fun b h1 h2=>absurd h1 h2
theorem Fresh.trans{G G1 G2 H H1:Hp}(f1:Fresh G G1 H)(a:Same H H1)(f2:Fresh G1 G2 H1):Fresh G G2 H:=fun b h1 h2=>by
 cases z:G1 b with
 | none=>exact a.free (f2 b z h2)
 | some o=>exact f1 b h1 (by rw[z];simp)
theorem NewL.nil{H G H':Hp}:NewL H G H' []:=⟨List.nodup_nil,fun b hb=>nomatch hb⟩
theorem NewL.later{H G1 G2 H1 H2:Hp}{L:List Addr}(n:NewL H G1 H1 L)(a:Same H1 H2)(f:Fresh G1 G2 H1):NewL H G2 H2 L:=⟨n.1,fun b hb=>by
 obtain⟨h1,h2,vs,h3⟩:=n.2 b hb
 exact⟨h1,keepN f h2 h3,vs,a b _ h3⟩⟩
theorem NewL.app{H H1 G2 H2:Hp}{L M:List Addr}(n:NewL H G2 H2 L)(hl:∀ b∈L,H1 b≠none)(a:∀ b,H1 b=none->H b=none)(m:NewL H1 G2 H2 M):NewL H G2 H2 (L++M):=⟨List.nodup_append.mpr ⟨n.1,m.1,fun b hb c hc e=>hl b hb (by rw[e];exact(m.2 c hc).1)⟩,fun b hb=>by
 rcases bW.mp hb with hb | hb
 ·exact n.2 b hb
 ·obtain⟨h1,h2⟩:=m.2 b hb
  exact⟨a b h1,h2⟩⟩
def NY(C:Dc)(G H:Hp)(σ:St)(ς:SD)(Q:VK)(d:D):Prop:=∀ v H' G' L,StR C G' H' σ ς->Same H H'->Same G G'->Fresh G G' H->NewL H G' H' L->RepX C.X.K C.CT G' H' d v L->Q v H'
def DY(C:Dc)(e:Expr)(E:SD->Out D):Prop:=∃ t,PE C.X e t/\∀ G H σ ς Q,StR C G H σ ς->(E ς).post (NY C G H σ ς Q) C.XD->t σ H Q
def DYA(C:Dc)(es:List Expr)(A:SD->Out (List D)):Prop:=∃ t,PA C.X es t/\∀ G H σ ς Q,StR C G H σ ς->
 (A ς).post (fun ds=>∀ vs H' G' L,StR C G' H' σ ς->Same H H'->Same G G'->Fresh G G' H->NewL H G' H' L->RepXL C.X.K C.CT G' H' ds vs L->Q vs H') C.XD->t σ H Q
def noLO(o:Out D):Out D:=o>>=fun d=>if noL d=true then .ok d else .stuck
def lnO(o:Out D):Out D:=o>>=fun d=>match d with
 | .lst xs=>if noLs xs=true then .ok (.lln xs) else .stuck
 | _=>.stuck
abbrev nwC(C:Dc)(g h:Hp):Dc:=rx C g C.B h C.W
open Classical in
noncomputable def ownH(H:Hp)(σ:St)(ς:SD):Hp:=fun b=>if ∃(i:Nat)(d:D),ς[i]?=some (some (.o,d))/\σ[i]?=some (some (.ref b)) then none else H b
section
variable{C:Dc}{G H G' H':Hp}{σ:St}{ς:SD}{e:Expr}{es:List Expr}{E:SD->Out D}{A:SD->Out (List D)}
theorem QqZ{b:Addr}(h:∃(i:Nat)(d:D),ς[i]?=some (some (.o,d))/\σ[i]?=some (some (.ref b))):ownH H σ ς b=none:=by unfold ownH;rw[aA h]
theorem Qiu{b:Addr}(h:¬ ∃(i:Nat)(d:D),ς[i]?=some (some (.o,d))/\σ[i]?=some (some (.ref b))):ownH H σ ς b=H b:=by unfold ownH;rw[aD h]
theorem Qmv{b:Addr}{o:HO}(e:ownH H σ ς b=some o):H b=some o:=by
 by_cases h:∃(i:Nat)(d:D),ς[i]?=some (some (.o,d))/\σ[i]?=some (some (.ref b))
 ·rw[QqZ h]at e;cases e
 ·rw[Qiu h]at e;exact e
theorem Que{b:Addr}(e:H b=none):ownH H σ ς b=none:=by
 cases z:ownH H σ ς b with
 | none=>rfl
 | some o=>rw[Qmv z]at e;cases e
theorem StR.nwC(S:StR C G H σ ς):StR (nwC C G (ownH H σ ς)) G H σ ς:={
 sub:=S.sub
 g0:=cf _
 new:=fun b h1 h2=>absurd h1 h2
 fr:=fun b o e _=>Qmv e
 dom:=fun b e=>Que e
 bs:=S.bs
 bh:=fun b e=>by
  have e:ownH H σ ς b=none:=e
  by_cases h:∃(i:Nat)(d:D),ς[i]?=some (some (.o,d))/\σ[i]?=some (some (.ref b))
  ·obtain⟨i,d,h1,h2⟩:=h
   obtain⟨p,e1,_,e3,_⟩:=S.ow i d h1
   rw[h2]at e1;cases e1
   exact S.bh b e3
  ·rw[Qiu h]at e
   exact S.bh b (S.dom b e)
 len:=S.len
 fz:=S.fz
 ow:=fun i d h=>by
  obtain⟨p,e1,e2,_,o⟩:=S.ow i d h
  exact⟨p,e1,e2,QqZ ⟨i,d,h,e1⟩,o⟩
 ln:=S.ln
 inj:=S.inj
 sf:=fun i d h=>by
  obtain⟨p,e1,e2,e3,e4,e5,o⟩:=S.sf i d h
  refine⟨p,e1,e2,?_,e4,e5,o⟩
  show ownH H σ ς p≠none
  rw[Qiu ?_]
  ·obtain⟨u,hu⟩:=o.there
   rw[hu];simp
  ·rintro ⟨j,d',h1,h2⟩
   obtain⟨q,z1,_,z3,_⟩:=S.ow j d' h1
   rw[h2]at z1;cases z1
   exact e3 z3
 su:=S.su }
theorem StR.fresh(S:StR C G H σ ς)(S':StR (DL.nwC C G (ownH H σ ς)) G' H' σ ς):Fresh G G' H:=fun b h1 h2=>by
 have e:ownH H σ ς b=none:=S'.new b h1 h2
 by_cases h:∃(i:Nat)(d:D),ς[i]?=some (some (.o,d))/\σ[i]?=some (some (.ref b))
 ·obtain⟨i,d,z1,z2⟩:=h
  obtain⟨p,e1,e2,_,_⟩:=S'.ow i d z1
  rw[z2]at e1;cases e1
  exact absurd e2 h2
 ·rw[Qiu h]at e;exact e
theorem dy_de(h:∀ g k,DE (nwC C g k) e E):DY C e (fun ς=>noLO (E ς)):=by
 refine⟨eMax C.X e,Qn4,fun G H σ ς Q S q=>?_⟩
 obtain⟨t,p,k⟩:=h G (ownH H σ ς)
 refine⟨t,p,k G H σ ς Q S.nwC ?_⟩
 unfold noLO at q
 rw[d9]at q
 refine dA q fun d kd v H' G' S' a b r=>?_
 obtain⟨hn,kd⟩:=Qbb kd
 have f:=S.fresh S'
 exact kd v H' G' [] (S.grow a b S'.sub f) a b f .nil (Rep.x d v hn r)
theorem dy_df(h:∀ g k,DF (nwC C g k) e E):DY C e (fun ς=>lnO (E ς)):=by
 refine⟨eMax C.X e,Qn4,fun G H σ ς Q S q=>?_⟩
 obtain⟨t,p,k⟩:=h G (ownH H σ ς)
 refine⟨t,p,k G H σ ς Q S.nwC ?_⟩
 unfold lnO at q
 rw[d9]at q
 refine dA q fun d kd p H' G' S' a b hp hg ow=>?_
 have f:=S.fresh S'
 cases d with
 | lst xs=>
  obtain⟨hn,kd⟩:=Qbb (show(if noLs xs=true then Out.ok (D.lln xs) else .stuck).post _ _ from kd)
  obtain⟨vs,z1,z2⟩:=ow
  exact kd (.ref p) H' G' [p] (S.grow a b S'.sub f) a b f ⟨by simp,fun c hc=>by rw[bx.mp hc];exact⟨hp,hg,vs,z1⟩⟩ ⟨p,vs,[],rfl,rfl,z1,RepL.x xs vs hn z2⟩
 | _=>exact kd.elim
theorem Qly:DYA C [] aNil:=⟨_,QaL,fun G H σ ς Q S q=>q [] H G [] S (cf _) (cf _) .refl .nil ⟨rfl,rfl⟩⟩
theorem Qa0(h1:DY C e E)(h2:DYA C es A)(hs:starEach (e::es) C.X.env=(false,eval e C.X.env)::starEach es C.X.env:=by rfl):DYA C (e::es) (aCons E A):=by
 obtain⟨t1,p1,q1⟩:=h1
 obtain⟨t2,p2,q2⟩:=h2
 refine⟨_,Q0 p1 p2 hs,fun G H σ ς Q S q=>?_⟩
 unfold aCons at q
 rw[d9]at q
 refine q1 G H σ ς _ S (dA q fun d k v H1 G1 L S1 a1 b1 f1 n1 r1=>?_)
 rw[d9]at k
 refine q2 G1 H1 σ ς _ S1 (dA k fun ds k2 vs H2 G2 M S2 a2 b2 f2 n2 r2=>?_)
 refine(show ∀ vs H' G' L,_ from k2) (v::vs) H2 G2 (L++M) S2 (a1.trans a2) (b1.trans b2) (f1.trans a1 f2) ((n1.later a2 f2).app (fun b hb=>?_) (fun b z=>a1.free z) n2) ⟨v,vs,L,M,rfl,rfl,RepX.mono b2 d v L (fun b _ o z=>a2 b o z) r1,r2⟩
 obtain⟨_,_,us,z⟩:=n1.2 b hb
 rw[z];simp
theorem QxW(h:DYA C es A){x1:Nat}{pos:Pos}:DY C (.Tuple es x1 pos) (eTup A):=by
 obtain⟨t,p,q⟩:=h
 refine⟨_,QnW p,fun G H σ ς Q S k=>?_⟩
 unfold eTup at k
 rw[d9]at k
 refine q G H σ ς _ S (dA k fun xs k2 vs H1 G1 L S1 a1 b1 f1 n1 r1=>?_)
 obtain⟨hc,k3⟩:=Qbb k2
 refine⟨by rw[← r1.length];exact aI hc,fun t ht=>?_⟩
 have f2:Fresh G1 (upd G1 t (.tup vs)) H1:=fun b h1 h2=>by
  by_cases hb:b=t
  ·subst hb;exact ht
  ·rw[Qi hb]at h2;exact absurd h1 h2
 refine(show NY C G H σ ς Q (.tup xs) from k3) (.ref t) _ _ L (S1.alloc ht) (a1.trans (Qt ht)) (b1.trans (Qt (S1.gnone ht))) (f1.trans a1 f2) (n1.later (Qt ht) f2) ⟨t,vs,rfl,SqT.of Qq,d7 (Qt (S1.gnone ht)) xs vs L (fun b _ o z=>Qt ht b o z) r1⟩
end
end DL
namespace DL
open PySem PySem.Spec PyProof.Rows L2
def QgC(js:List (Option Nat))(its:SD->Out (List D))(g:D->SD->Out SD)(e:SD->Out D):SD->Out D:=fun ς=>its ς>>=fun xs=>compM (turnC js g cTrue e ς) xs>>=fun ys=>if fits ys.length=true then .ok (.lln ys) else .stuck
section
variable{C:Dc}{G H:Hp}{σ:St}{ς:SD}{js:List (Option Nat)}{N':List Str}{scope:Scope}{tg elt iter:Expr}{its:SD->Out (List D)}{g:D->SD->Out SD}{e:SD->Out D}{J:It}{xs:List D}{fp:List Addr}{s:Shared}{p:Addr}{Q:VK}{pos:Pos}
theorem Qu4(S:StR C G H σ ς)(hp:H p=none)(dit:DItB C.X.K C.CT H G J xs)(hx:∀ x,¬ C.XD x)(hk:gKeep g (captD js ς))(hne:noExc g)
 (hin:DG (ccOf C N' scope fp s H G p) tg g/\DY (ccOf C N' scope fp s H G p) elt e)
 (q:(compM (turnC js g cTrue e ς) xs>>=fun ys=>if fits ys.length=true then Out.ok (D.lln ys) else .stuck).post (NY C G H σ ς Q) C.XD):
 CompW (cxC C.X N' scope fp s (upd H p (.lst []))) js tg elt [] σ H J p Q:=by
 obtain⟨⟨tt,pg,hg⟩,⟨te,pe,he⟩⟩:=hin
 generalize hτ:captD js ς=τ0 at hk
 have S0:StR (ccOf C N' scope fp s H G p) G (upd H p (.lst [])) (capt js σ) τ0:=by rw[← hτ];exact S.comp hp
 let I:=fun i τ H'=>∃ G' acc vs L,StR (ccOf C N' scope fp s H G p) G' H' τ τ0/\H' p=some (.lst vs)/\RepXL C.X.K C.CT G' H' acc vs L/\NewL (upd H p (.lst [])) G' H' L/\G' p=none/\
  (compM (turnC js g cTrue e ς) (xs.drop i)).post (fun ys=>(if fits (acc++ys).length=true then Out.ok (D.lln (acc++ys)) else .stuck).post (NY C G H σ ς Q) C.XD) C.XD
 have hnp:∀{G' H':Hp}{L:List Addr},NewL (upd H p (.lst [])) G' H' L->∀ a∈L,a≠p:=fun ho a ha e=>by
  have:=(ho.2 a ha).1
  rw[e,Qq]at this;cases this
 refine⟨fun i m τ H'=>m=xs.length - i/\i<=xs.length/\I i τ H',⟨xs.length,by simp,av _,G,[],[],[],S0,Qq,⟨rfl,rfl⟩,.nil,S.sub.free hp,by rw[d9]at q;simpa using q⟩,?_⟩
 rintro i m τ H' ⟨rfl,hle,G',acc,vs,L,S',hp',r',ho,hg',q'⟩
 have hH0:(ccOf C N' scope fp s H G p).H0 p≠none:=by
  show upd H p (.lst []) p≠none
  rw[Qq];simp
 by_cases hlt:i<xs.length
 ·have hd:xs[i]?=some xs[i]:=by simp[hlt]
  obtain⟨hgo,hy⟩:=dit.go G' H' i _ S'.g0 S'.sub S'.bs hd
  refine .inr ⟨hgo,fun τ2 H2=>i+1<=xs.length/\I (i+1) τ2 H2,fun τ2 H2 h2=>⟨xs.length - (i+1),by omega,rfl,h2⟩,fun x H'' y=>?_⟩
  obtain⟨G'',g1,h1,s1,n1,r⟩:=hy x H'' y
  have S'':=S'.grow h1 g1 s1 n1
  have hpp:=h1 _ _ hp'
  have ho1:=ho.later h1 n1
  have r1:=d7 g1 acc vs L (fun b _ o z=>h1 b o z) r'
  rw[Qh1 hd,compM,d9]at q'
  have tu:turnC js g cTrue e ς xs[i]=(g xs[i] τ0>>=fun τ=>e τ>>=fun y=>Out.ok (some y)):=by unfold turnC;rw[hτ];rfl
  rw[tu,d9]at q'
  cases z:g xs[i] τ0 with
  | exc w=>exact absurd z (hne _ _ _)
  | stuck=>rw[z]at q';exact q'.elim
  | ok τ1=>
   rw[z]at q'
   obtain⟨hl1,hk1⟩:=hk _ _ z
   refine⟨tt,pg,hg G'' H'' τ τ0 xs[i] x τ1 _ S'' r z fun τ2 S2=>⟨_,Qq8,iteT ?_⟩⟩
   have q2:(e τ1>>=fun y=>Out.ok (some y)).post (fun o=>(compM (turnC js g cTrue e ς) (xs.drop (i+1))>>=fun ys=>Out.ok (o.toList++ys)).post (fun ys=>(if fits (acc++ys).length=true then Out.ok (D.lln (acc++ys)) else .stuck).post (NY C G H σ ς Q) C.XD) C.XD) C.XD:=q'
   rw[d9]at q2
   have q3:(e τ1).post (fun y=>(compM (turnC js g cTrue e ς) (xs.drop (i+1))>>=fun ys=>Out.ok ((some y).toList++ys)).post (fun ys=>(if fits (acc++ys).length=true then Out.ok (D.lln (acc++ys)) else .stuck).post (NY C G H σ ς Q) C.XD) C.XD) (fun _=>False):=by
    cases w:e τ1 with
    | ok b=>rw[w]at q2;exact q2
    | exc w'=>rw[w]at q2;exact absurd q2 (hx _)
    | stuck=>rw[w]at q2;exact q2.elim
   refine⟨te,pe,he G'' H'' τ2 τ1 _ S2 (dA q3 fun y ky v4 H4 G4 M S4 a4 b4 f4 n4 ry=>?_)⟩
   rw[d9]at ky
   have hp4:=a4 _ _ hpp
   have hg4:G4 p=none:=keepN f4 (keepN n1 hg' hp') hpp
   have hLp:∀ a∈L++M,a≠p:=fun a ha=>by
    rcases bW.mp ha with ha | ha
    ·exact hnp ho1 a ha
    ·intro e0
     have:=(n4.2 a ha).1
     rw[e0,hpp]at this;cases this
   have n5:NewL (upd H p (.lst [])) G4 H4 (L++M):=(ho1.later a4 f4).app (fun b hb=>by
    obtain⟨_,_,us,z⟩:=ho1.2 b hb
    rw[z];simp) (fun b z=>S''.dom b z) n4
   refine⟨vs,hp4,?_,hlt,G4,acc++[y],vs++[v4],L++M,(S4.weak (by rw[hl1]) hk1).updM rfl hH0 (fun i d z=>by rw[← hτ]at z;exact Qha z) hp hg4,Qq,?_,?_,hg4,?_⟩
   ·cases w:compM (turnC js g cTrue e ς) (xs.drop (i+1)) with
    | stuck=>rw[w]at ky;exact ky.elim
    | exc w'=>rw[w]at ky;exact absurd ky (hx _)
    | ok ys=>
     rw[w]at ky
     rcases QF (ky) with⟨hc,_⟩ | ⟨_,k⟩
     ·have hc':=aI hc
      rw[ae,ae]at hc'
      have:(some y:Option D).toList.length=1:=rfl
      have hl:=r'.length
      omega
     ·exact k.elim
   ·have ra:=(d7 b4 acc vs L (fun b _ o z=>a4 b o z) r1).append (RepXL.one ry)
    exact d7 (cf _) _ _ _ (fun b hb o z=>by rw[Qi (hLp b hb)];exact z) ra
   ·exact⟨n5.1,fun b hb=>by rw[Qi (o:=.lst (vs++[v4])) (hLp b hb)];exact n5.2 b hb⟩
   ·exact dA ky fun ys k=>by
     have e5:acc++[y]++ys=acc++((some y).toList++ys):=by simp
     rw[e5];exact k
 ·have ei:i=xs.length:=by omega
  subst ei
  rw[cX]at q'
  refine .inl ⟨dit.stop G' H' S'.g0 S'.sub S'.bs,?_⟩
  have q2:=q'
  rcases QF q2 with⟨_,k⟩ | ⟨_,k⟩
  ·rw[aj]at k
   have hHH:Same H H':=fun b o eb=>S'.fr b o (by
    show upd H p (.lst []) b=some o
    rw[Qi (QH eb hp)];exact eb) (QH eb hp)
   have hz:∀ b,upd H p (.lst []) b=none->H b=none:=fun b e=>by
    by_cases hb:b=p
    ·subst hb;exact hp
    ·rw[Qi hb]at e;exact e
   have f:Fresh G G' H:=fun b h1 h2=>hz b (S'.new b h1 h2)
   have SG:=S.grow hHH S'.g0 S'.sub f
   exact(show NY C G H σ ς Q (.lln acc) from k) (.ref p) H' G' (p::L) SG hHH S'.g0 f ⟨bX.mpr ⟨fun hm=>hnp ho p hm rfl,ho.1⟩,fun b hb=>by
    rcases aF.mp hb with rfl | hb
    ·exact⟨hp,hg',vs,hp'⟩
    ·obtain⟨z1,z2⟩:=ho.2 b hb
     exact⟨hz b z1,z2⟩⟩ ⟨p,vs,L,rfl,rfl,hp',r'⟩
  ·exact k.elim
end
end DL
namespace DL
open PySem PySem.Spec PyProof.Rows L2
theorem NY.later{C:Dc}{G H G1 H1:Hp}{σ:St}{ς:SD}{Q:VK}{d:D}(k:NY C G H σ ς Q d)(a:Same H H1)(b:Same G G1)(f:Fresh G G1 H):NY C G1 H1 σ ς Q d:=fun v H' G' L S a' b' f' n r=>k v H' G' L S (a.trans a') (b.trans b') (f.trans a f') ⟨n.1,fun c hc=>by
 obtain⟨z1,z2⟩:=n.2 c hc
 exact⟨a.free z1,z2⟩⟩ r
section
variable{C:Dc}{js:List (Option Nat)}{N':List Str}{scope:Scope}{tg elt iter:Expr}{its:SD->Out (List D)}{g:D->SD->Out SD}{e:SD->Out D}{pos:Pos}
theorem QwU(hi:∀ g k,DIB (nwC C g k) tg iter its)(hx:∀ x,¬ C.XD x)(hk:∀ ς,gKeep g (captD js ς))(hne:noExc g)
 (hin:∀ fp s H G p,DG (ccOf C N' scope fp s H G p) tg g/\DY (ccOf C N' scope fp s H G p) elt e) (G H:Hp) (σ:St) (ς:SD) (Q:VK) (S:StR C G H σ ς) (k:(QgC js its g e ς).post (NY C G H σ ς Q) C.XD):
 ∃ wi,PI C.X tg iter wi/\tComp C.X N' js scope tg elt [] wi σ H Q:=by
 obtain⟨wi,pi,hq⟩:=hi G (ownH H σ ς)
 refine⟨wi,pi,?_⟩
 unfold QgC at k
 rw[d9]at k
 refine hq G H σ ς _ S.nwC (dA k fun xs k J H1 G1 S1 a1 b1 dit p hp fp s=>?_)
 have f:=S.fresh S1
 refine Qu4 (S.grow a1 b1 S1.sub f) hp dit hx (hk ς) hne (hin fp s H1 G1 p) (dA k fun d kd=>NY.later kd a1 b1 f)
end
def DHs(C:Dc)(sts:List Stmt)(T:SD->Out D):Prop:=∀ G H σ ς W,StR C G H σ ς->(T ς).post (fun d=>∀ v H' G' L,GH C G' H'->Same G G'->NewL C.H0 G' H' L->RepX C.X.K C.CT G' H' d v L->W.rt v H') C.XD->Mx C.X sts W σ H
def yEnd(i:Nat)(E:SD->Out D)(A:SD->Out (List D)):SD->Out D:=fun ς=>E ς>>=fun d=>A (ς.set i none)>>=fun ds=>if (fits (ds.length+1)&&decide (i<ς.length))=true then .ok (.lln (d::ds)) else .stuck
section
variable{C:Dc}{js:List (Option Nat)}{N':List Str}{scope:Scope}{tg elt iter:Expr}{its:SD->Out (List D)}{g:D->SD->Out SD}{e:SD->Out D}{i:Nat}{x:Str}{es:List Expr}{A:SD->Out (List D)}{st:Stmt}{rest:List Stmt}{T:SD->Out Fl}{U:SD->Out D}{pos px spos p2 p3 p4:Pos}
theorem Qos(h1:DS C st T)(h2:DHs C rest U):DHs C (st::rest) (tSeq T U):=by
 obtain⟨t1,p1,q1⟩:=h1
 intro G H σ ς W S q
 refine⟨_,QaI p1 QgQ,?_⟩
 unfold tSeq at q
 rw[d9]at q
 refine q1 G H σ ς _ S (dA q fun f k=>?_)
 cases f with
 | nx ς'=>exact fun σ' H' G' S' s'=>h2 G' H' σ' ς' W S' (dA k fun d kd v H'' G'' L gh s'' n r=>kd v H'' G'' L gh (s'.trans s'') n r)
 | bk ς'=>exact k.elim
 | ct ς'=>exact k.elim
 | rt b d=>exact k.elim
theorem QvN(hc:C.X.calm=true)(SC:Qz N' js scope C.X.env.scope C.X.N)(hi:∀ g k,DIB (nwC C g k) tg iter its)(hk:∀ ς,gKeep g (captD js ς))(hne:noExc g)
 (hin:∀ fp s H G p,DG (ccOf C N' scope fp s H G p) tg g/\DY (ccOf C N' scope fp s H G p) elt e)
 (hN:C.X.N.Nodup) (hxN:C.X.N[i]?=some x) (hl:Loc C.X.env.scope x) (ha:DYA C es A)
 (hv:Vis C.X.env.scope x:=by fail"V1") (hd:(x == ("__debug__":Str))=false:=by decide) (hcd:(x == ("__classdict__":Str))=false:=by decide)
 (hs2:starEach (.Name x p2::es) C.X.env=(false,eval (.Name x p2) C.X.env)::starEach es C.X.env:=by rfl)
 (hsw:swapsWith (.ListComp elt [⟨tg,iter,[],0⟩] scope pos) (some (.Name x px)) spos.line C.X.env=pure true:=by rfl)
 (hf:C.X.fn x=true∨C.X.env.scope.names.lookup x=some .local:=by fail"V2")
 (hx:∀ x,¬ C.XD x:=by fail"V5") (hs:∀ x,foldedSetIterable iter C.X.env x=pure x:=by fail"V3"):
 DHs C [.Assign [.Name x px] (.ListComp elt [⟨tg,iter,[],0⟩] scope pos) spos,.Return (some (.List (.Name x p2::es) p3)) p4] (yEnd i (QgC js its g e) A):=by
 intro G H σ ς W S q
 obtain⟨ta,pa,qa⟩:=ha
 unfold yEnd at q
 rw[d9]at q
 have key:∀ v H1 G1 L d,StR C G1 H1 σ ς->Same H H1->Same G G1->NewL H G1 H1 L->RepX C.X.K C.CT G1 H1 d v L->
  (A (ς.set i none)>>=fun ds=>if (fits (ds.length+1)&&decide (i<ς.length))=true then Out.ok (D.lln (d::ds)) else .stuck).post (fun d=>∀ v H' G' L,GH C G' H'->Same G G'->NewL C.H0 G' H' L->RepX C.X.K C.CT G' H' d v L->W.rt v H') C.XD->
  (L2.tRet (tLst (tCons (tVar i) ta))) W (σ.set i (some v)) H1:=by
  intro v H1 G1 L d S1 a1 b1 n1 r1 kk
  rw[d9]at kk
  have hil:i<σ.length:=by
   cases z:A (ς.set i none) with
   | stuck=>rw[z]at kk;exact kk.elim
   | exc y=>rw[z]at kk;exact absurd kk (hx y)
   | ok ds=>
    rw[z]at kk
    obtain⟨hcc,_⟩:=Qbb (show(if (fits (ds.length+1)&&decide (i<ς.length))=true then Out.ok (D.lln (d::ds)) else .stuck).post _ _ from kk)
    rw[aH]at hcc
    rw[S.len];exact aI hcc.2
  refine⟨v,by rw[bE];simp[hil],?_⟩
  refine qa G1 H1 _ _ _ (S1.hide i (some v)) (dA kk fun ds k2 vs H2 G2 M S2 a2 b2 f2 n2 r2=>?_)
  obtain⟨hcc,k3⟩:=Qbb k2
  rw[aH]at hcc
  refine⟨by rw[aR, ← r2.length];exact aI hcc.1,fun p hp=>?_⟩
  have hLp:∀ b∈L++M,b≠p:=fun b hb e0=>by
   subst e0
   rcases bW.mp hb with hb | hb
   ·obtain⟨_,_,us,z⟩:=n1.2 b hb
    rw[a2 b _ z]at hp;cases hp
   ·obtain⟨_,_,us,z⟩:=n2.2 b hb
    rw[z]at hp;cases hp
  have nn:NewL H G2 H2 (L++M):=(n1.later a2 f2).app (fun b hb=>by
   obtain⟨_,_,us,z⟩:=n1.2 b hb
   rw[z];simp) (fun b z=>a1.free z) n2
  refine(show ∀ v H' G' L,_ from k3) (.ref p) _ G2 (p::(L++M)) (S2.allocO hp).toGH (b1.trans b2) ⟨bX.mpr ⟨fun hm=>hLp p hm rfl,nn.1⟩,fun b hb=>?_⟩ ⟨p,v::vs,L++M,rfl,rfl,Qq,v,vs,L,M,rfl,rfl,RepX.mono b2 d v L (fun b hb o z=>by rw[Qi (hLp b (bN _ hb))];exact a2 b o z) r1,d7 (cf _) ds vs M (fun b hb o z=>by rw[Qi (hLp b (aZ _ hb))];exact z) r2⟩
  rcases aF.mp hb with rfl | hb
  ·exact⟨S2.h0none hp,S2.gnone hp,_,Qq⟩
  ·obtain⟨z1,z2,z3⟩:=nn.2 b hb
   exact⟨S.h0none z1,z2,by rw[Qi (hLp b hb)];exact z3⟩
 obtain⟨wi,pi,h⟩:=QwU hi hx hk hne hin G H σ ς (fun v H1=>(L2.tRet (tLst (tCons (tVar i) ta))) W (σ.set i (some v)) H1) S (dA q fun d kd v H' G' L S' a b f n r=>key v H' G' L d S' a b n r kd)
 exact⟨_,QaI (Qlx hc SC pi hN hxN hl hsw hf hs) (Qle (Qkm (QoR (Q0 (Qar hxN hv hd hcd) pa hs2)))),h⟩
end
def SpH(K:PySem.W.Frag)(CT:CTab)(m:List D->Out D):Sp:=fun vs H Q _=>∃ ds G0,Same G0 H/\RepL K CT G0 ds vs/\
 (m ds).post (fun d=>∀ v H' G' L,Same G0 G'->Same H H'->Same G' H'->Fresh G0 G' H->NewL H G' H' L->RepX K CT G' H' d v L->Q v H') (fun _=>False)
def DefH(P:Program)(w:World)(K:PySem.W.Frag)(mg:Str->Option Value)(base:Heap)(CT:CTab)(x:Str)(k:Nat)(m:List D->Out D):Prop:=
 ∃ f fd ps,FnOk P w K mg base CX0 k f fd ps (SpH K CT m)/\mg x=some (.ref f)/\PySem.W.keepIn K (.ref f)=true/\Binds K fd ps []
theorem fnH{P:Program}{w:World}{K:PySem.W.Frag}{mg:Str->Option Value}{base:Heap}{CT:CTab}{x qual:Str}{st:Stmt}{f:Addr}{fd:FuncData}{dV:Value}{N ps:List Str}{k:Nat}{T:SD->Out D}
 (F:FunV K x qual st f fd dV) (S:Qn N ps (Qd st))
 (hb:∀(cdv:Value)(A:Around)(outer:List Env)(s:Shared)(H:Hp)(E:XK)(G:Hp),Room k (A.deeper (envOfC qual (Qd st) s.heap.objs.size f cdv))->DHs (dcOf P w K mg base CT N qual (Qd st) f cdv A outer s H E G) (QaT st) T):
 FnOk P w K mg base CX0 (k+1) f fd ps (SpH K CT (bodyT ps.length N.length T)):=by
 obtain⟨oc,od,kV,doc,pm,an,cdv,ct,osl,rfl,lk,hcd⟩:=F.ex
 have hpl:ps.length<=N.length:=by have:=bg List.length S.pre;rw[bF]at this;omega
 have len:∀ vs H Q E,SpH K CT (bodyT ps.length N.length T) vs H Q E->vs.length=ps.length:=by
  intro vs H Q E ⟨ds,G0,sub,r,q⟩
  unfold bodyT at q
  by_cases hl:ds.length=ps.length
  ·rw[← r.length];exact hl
  ·rw[aD hl]at q;exact q.elim
 refine fn_of lk hcd S len fun A outer s H vs Q E hr hsp=>?_
 have hlen:=len vs H Q E hsp
 obtain⟨ds,G0,sub,r,q⟩:=hsp
 have hl:ds.length=ps.length:=by rw[r.length];exact hlen
 refine⟨Mx _ _,(QgQ).nox,?_⟩
 unfold bodyT at q
 rw[aA hl]at q
 have S0:StR (dcOf P w K mg base CT N qual (Qd st) f cdv A outer s H E G0) G0 H (L2.start N vs) (ds.map (fun d=>some (.k,d))++List.replicate (N.length - ps.length) none):={
  sub:=sub
  g0:=cf _
  new:=fun b h1 h2=>absurd h1 h2
  fr:=fun b o e _=>e
  dom:=fun b e=>e
  bs:=cf _
  bh:=fun b e=>e
  len:=by unfold L2.start;simp;omega
  fz:=fun i d e=>by
   obtain⟨d',e1,e2⟩:=Qal e
   cases e2
   obtain⟨v,e3,rv⟩:=r.get e1
   exact⟨v,Qfw e3,rv⟩
  ow:=fun i d e=>by obtain⟨d',e1,e2⟩:=Qal e;cases e2
  ln:=fun i d e=>by obtain⟨d',e1,e2⟩:=Qal e;cases e2
  inj:=fun i j d e p _ h=>by obtain⟨d',e1,e2⟩:=Qal h;cases e2
  sf:=fun i d e=>by obtain⟨d',e1,e2⟩:=Qal e;cases e2
  su:=fun i j d e p _ h=>by obtain⟨d',e1,e2⟩:=Qal h;cases e2 }
 exact hb cdv A outer s H E G0 hr G0 H (L2.start N vs) _ _ S0 (dA q fun d kk v H' G' L gh s' n tu=>kk v H' G' L s' (fun b o e=>gh.fr b o e id) gh.sub gh.new n tu)
section
variable{C:Dc}{e:Expr}{es:List Expr}{A:SD->Out (List D)}{x:Str}{k:Nat}{m:List D->Out D}{p pos:Pos}
theorem de_fH(h:DefH C.X.prog C.X.w C.X.K C.X.mg C.X.base C.CT x k m)(hr:Room k C.X.A)(ha:DAV C (e::es) A)(hg:Gl C.X x)(hx:∀ x,¬ C.XD x:=by fail"V5")
 (hdb:(x == ("__debug__":Str))=false:=by decide) (he:starEach (e::es) C.X.env=(false,eval e C.X.env)::starEach es C.X.env:=by rfl) (hpl:(backTo pos (starEach es C.X.env)).any (·.1)=false:=by rfl):
 DE C (.Call (.Name x p) (e::es) [] pos) (eA m A):=by
 obtain⟨f,fd,ps,F,hm,hk,hb⟩:=h
 obtain⟨t,p1,q1⟩:=ha
 refine⟨_,QgG F hr hg hm hk hb .nil pass0 p1 hdb he hpl,fun G H σ ς Q S q=>?_⟩
 unfold eA at q
 rw[d9]at q
 refine q1 G H σ ς _ S (dA q fun xs kk vs r1=>⟨xs,G,S.sub,by rw[aj];exact r1,?_⟩)
 cases z:m xs with
 | stuck=>rw[z]at kk;exact kk.elim
 | exc y=>rw[z]at kk;exact absurd kk (hx y)
 | ok d=>
  rw[z]at kk
  intro v H' G' L g1 h1 s1 n1 nl r
  have gg:Same G' (ovl L H' G' fun _=>none):=fun b o e=>ovl_g (fun hb=>by rw[(nl.2 b hb).2.1]at e;cases e) e
  refine(show KD C G H σ ς Q d from kk) v H' (ovl L H' G' fun _=>none) (S.grow h1 (g1.trans gg) (fun b o e=>?_) fun b e1 e2=>?_) h1 (g1.trans gg) (RepX.rep gg d v L (fun b hb us z=>cb (by rw[QjX hb];exact z)) r)
  ·by_cases hb:b∈L
   ·rw[QjX hb]at e;exact e
   ·rcases QuB hb e with e | ⟨_,e⟩
    ·exact s1 b o e
    ·cases e
  ·by_cases hb:b∈L
   ·exact(nl.2 b hb).1
   ·cases z2:G' b with
    | none=>rw[ovl_x hb z2]at e2;exact absurd rfl e2
    | some o=>exact n1 b e1 (by rw[z2];simp)
end
end DL
namespace DL
open PySem PySem.Spec PyProof.Rows L2
noncomputable def nilH:Hp:=fun _=>none
noncomputable def orH(g h:Hp):Hp:=fun b=>match g b with | some o=>some o | none=>h b
theorem orH_g{g h:Hp}{b:Addr}{o:HO}(e:g b=some o):orH g h b=some o:=by unfold orH;rw[e]
theorem orH_h{g h:Hp}{b:Addr}(e:g b=none):orH g h b=h b:=by unfold orH;rw[e]
theorem Qhb{g h:Hp}{b:Addr}(e:orH g h b=none):g b=none/\h b=none:=by
 cases z:g b with
 | none=>rw[orH_h z]at e;exact⟨rfl,e⟩
 | some o=>rw[orH_g z]at e;cases e
abbrev lkC(C:Dc)(i:Nat)(w:Option Addr)(g:Hp):Dc:=rx C g g (orH g C.H0) (fun j=>if j=i then w else C.W j)
def thawH(L:List Addr)(H:Hp):Hp:=fun b=>if b∈L then(match H b with | some (.frz _ (.lst vs))=>some (.lst vs) | x=>x) else H b
theorem QlC{L:List Addr}{H:Hp}{b:Addr}(h:b∉L):thawH L H b=H b:=by unfold thawH;rw[aD h]
theorem QgZ{L:List Addr}{H:Hp}{b:Addr}{o:Obj}{vs:List V}(h:b∈L)(e:H b=some (.frz o (.lst vs))):thawH L H b=some (.lst vs):=by unfold thawH;rw[aA h,e]
structure LJ(C:Dc)(L:List Addr)(d:D)(p:Addr)(g:Hp):Prop where
 nd:L.Nodup
 at':∀ b∈L,C.H0 b=none/\C.G0 b=none/\∃ o vs,g b=some (.frz o (.lst vs))
 g0g:Same C.G0 g
 gnew:∀ b,C.G0 b=none->g b≠none->C.H0 b=none
 gfr:∀ b o u,C.H0 b=some o->g b=some u->u=o
 gbs:∀ b o,C.B b=some o->C.H0 b=some o
 bh:∀ b,C.H0 b=none->C.B b=none
 nm:∀ b,¬ C.M b
 rx:RepX C.X.K C.CT (cutH L g) (thawH L g) d (.ref p) L
section
variable{C:Dc}{L:List Addr}{d:D}{p:Addr}{g G H H3:Hp}{i:Nat}{w:Option Addr}{σ:St}{ς:SD}
theorem LJ.fr(N:LJ C L d p g)(S:GH (lkC C i w g) G H):∀ b o,C.H0 b=some o->H b=some o:=fun b o e=>by
 cases z:g b with
 | none=>exact S.fr b o (by show orH g C.H0 b=_;rw[orH_h z];exact e) (N.nm b)
 | some u=>
  rw[← N.gfr b o u e z]
  exact S.sub b u (S.g0 b u z)
theorem LJ.out(N:LJ C L d p g)(S:GH (lkC C i w g) G H):GH C G H where
 sub:=S.sub
 g0:=N.g0g.trans S.g0
 new:=fun b h1 h2=>by
  cases z:g b with
  | none=>exact(Qhb (S.new b z h2)).2
  | some u=>exact N.gnew b h1 (by rw[z];simp)
 fr:=fun b o e _=>N.fr S b o e
 dom:=fun b e=>(Qhb (S.dom b e)).2
 bs:=fun b o e=>N.fr S b o (N.gbs b o e)
 bh:=N.bh
theorem LJ.frz(N:LJ C L d p g)(S:GH (lkC C i w g) G H):∀ b∈L,C.H0 b=none/\∃ o vs,G b=some (.frz o (.lst vs))/\H b=some (.frz o (.lst vs)):=fun b hb=>by
 obtain⟨h1,_,o,vs,h3⟩:=N.at' b hb
 exact⟨h1,o,vs,S.g0 b _ h3,S.sub b _ (S.g0 b _ h3)⟩
theorem GH.cut(S:GH C G H)(hL:∀ b∈L,C.H0 b=none/\C.G0 b=none)(hH:∀ b,b∉L->∀ o,H b=some o->H3 b=some o)(hd:∀ b,H3 b=none->H b=none):GH C (cutH L G) H3 where
 sub:=fun b o e=>by
  have hb:b∉L:=fun hb=>by unfold cutH at e;rw[aA hb]at e;cases e
  rw[QaE hb]at e
  exact hH b hb o (S.sub b o e)
 g0:=fun b o e=>by
  rw[QaE fun hb=>by rw[(hL b hb).2]at e;cases e]
  exact S.g0 b o e
 new:=fun b h1 h2=>by
  have hb:b∉L:=fun hb=>by unfold cutH at h2;rw[aA hb]at h2;exact h2 rfl
  rw[QaE hb]at h2
  exact S.new b h1 h2
 fr:=fun b o e m=>hH b (fun hb=>by rw[(hL b hb).1]at e;cases e) o (S.fr b o e m)
 dom:=fun b e=>S.dom b (hd b e)
 bs:=fun b o e=>hH b (fun hb=>by rw[S.bh b (hL b hb).1]at e;cases e) o (S.bs b o e)
 bh:=S.bh
def dropS:Option (SM×D)->Option (SM×D)
 | some (.k,d)=>if noL d=true then some (.k,d) else none
 | some (.o,.lst ds)=>if noLs ds=true then some (.o,.lst ds) else none
 | _=>none
def dropL(ς:SD):SD:=ς.map dropS
theorem Qh6{j:Nat}{m:SM}{e:D}(h:(dropL ς)[j]?=some (some (m,e))):ς[j]?=some (some (m,e))/\((m=.k/\noL e=true)∨(m=.o/\∃ ds,e=.lst ds/\noLs ds=true)):=by
 unfold dropL at h
 rw[aM]at h
 cases z:ς[j]? with
 | none=>rw[z]at h;cases h
 | some o=>
  rw[z]at h
  have h:dropS o=some (m,e):=by simpa using h
  match o,h with
  | some (.k,d),h=>
   have h:(if noL d=true then some (SM.k,d) else none)=some (m,e):=h
   by_cases hn:noL d=true
   ·rw[aA hn]at h;cases h;exact⟨rfl,.inl ⟨rfl,hn⟩⟩
   ·rw[aD hn]at h;cases h
  | some (.o,.lst ds),h=>
   have h:(if noLs ds=true then some (SM.o,D.lst ds) else none)=some (m,e):=h
   by_cases hn:noLs ds=true
   ·rw[aA hn]at h;cases h;exact⟨rfl,.inr ⟨rfl,ds,rfl,hn⟩⟩
   ·rw[aD hn]at h;cases h
theorem Qwe{j:Nat}{e:D}(h:(dropL ς)[j]?=some (some (.k,e))):ς[j]?=some (some (.k,e))/\noL e=true:=by
 obtain⟨h1,⟨_,h2⟩ | ⟨h2,_⟩⟩:=Qh6 h
 ·exact⟨h1,h2⟩
 ·cases h2
theorem Qix{j:Nat}{e:D}(h:(dropL ς)[j]?=some (some (.o,e))):ς[j]?=some (some (.o,e))/\∃ ds,e=.lst ds/\noLs ds=true:=by
 obtain⟨h1,⟨h2,_⟩ | ⟨_,h2⟩⟩:=Qh6 h
 ·cases h2
 ·exact⟨h1,h2⟩
theorem QlV{j:Nat}{m:SM}{e:D}(h:(dropL ς)[j]?=some (some (m,e))):m=.k∨m=.o:=by
 obtain⟨h1,⟨h2,_⟩ | ⟨h2,_⟩⟩:=Qh6 h
 ·exact .inl h2
 ·exact .inr h2
theorem StR.cut(N:LJ C L d p g)(S:StR (lkC C i w g) G H σ ς)(hH:∀ b,b∉L->∀ o,H b=some o->H3 b=some o)(hd:∀ b,H3 b=none->H b=none):StR C (cutH L G) H3 σ (dropL ς):=by
 have hf:∀ b∈L,∃ o vs,G b=some (.frz o (.lst vs)):=fun b hb=>let ⟨_,o,vs,z,_⟩:=N.frz S.toGH b hb;⟨o,vs,z⟩
 have own:∀(j:Nat) e q,ς[j]?=some (some (.o,e))->σ[j]?=some (some (.ref q))->q∉L:=fun j e q h1 h2 hb=>by
  obtain⟨q',e1,e2,_,_⟩:=S.ow j e h1
  rw[h2]at e1;cases e1
  obtain⟨o,vs,z⟩:=hf q hb
  rw[z]at e2;cases e2
 exact {
  toGH:=(N.out S.toGH).cut (fun b hb=>⟨(N.at' b hb).1,(N.at' b hb).2.1⟩) hH hd
  len:=by unfold dropL;rw[aC];exact S.len
  fz:=fun j e h=>by
   obtain⟨h1,h2⟩:=Qwe h
   obtain⟨v,a,r⟩:=S.fz j e h1
   exact⟨v,a,Rep.cut hf e v h2 r⟩
  ow:=fun j e h=>by
   obtain⟨h1,ds,rfl,h2⟩:=Qix h
   obtain⟨q,a,b,c,vs,o1,o2⟩:=S.ow j _ h1
   have hq:=own j _ q h1 a
   refine⟨q,a,by rw[QaE hq];exact b,(Qhb c).2,vs,hH q hq _ o1,RepL.cut hf ds vs h2 o2⟩
  ln:=fun j e h=>by rcases QlV h with z | z<;>cases z
  inj:=fun j k e e' q hjk h1 h2 h3=>S.inj j k e e' q hjk (Qix h1).1 (Qix h2).1 h3
  sf:=fun j e h=>by rcases QlV h with z | z<;>cases z
  su:=fun j k e e' q hjk h1 h2 h3=>by rcases QlV h1 with z | z<;>cases z }
end
def DM(C:Dc)(i:Nat)(sts:List Stmt)(Z:SD->Out Fl):Prop:=∀ L d p g G H σ ς W,LJ C L d p g->StR (lkC C i (some p) g) G H σ ς->ς[i]?=some (some (.l,d))->(Z ς).post (FlK C (cutH L g) W) C.XD->Mx C.X sts W σ H
def sLend(i:Nat)(m:List D->Out D)(A:SD->Out (List D))(Z:SD->Out Fl):SD->Out Fl:=fun ς=>A ς>>=fun ds=>m ds>>=fun d=>match d with
 | .lln xs=>if (okS i ς&&decide (i<ς.length))=true then Z (ς.set i (some (.l,.lln xs))) else .stuck
 | _=>.stuck
open Classical in
noncomputable def mSeq(i:Nat)(T Z:SD->Out Fl):SD->Out Fl:=fun ς=>T ς>>=fun f=>match f with
 | .nx ς'=>if ς'[i]?=ς[i]? then Z ς' else .stuck
 | .rt false d=>.ok (.rt false d)
 | _=>.stuck
noncomputable def eVarL(i:Nat):SD->Out D:=fun ς=>match ς[i]? with
 | some (some (.k,d))=>.ok d
 | some (some (.l,d))=>.ok d
 | _=>.stuck
section
variable{C:Dc}{i k:Nat}{x fn:Str}{m:List D->Out D}{e:Expr}{es:List Expr}{A:SD->Out (List D)}{rest:List Stmt}{Z T:SD->Out Fl}{st:Stmt}{p1 p2 p3 p4:Pos}
theorem Qg1(j:Nat){w:Option Addr}{g:Hp}{y:Str}{px:Pos}(hN:C.X.N[j]?=some y:=by rfl)(hv:Vis C.X.env.scope y:=by fail"V1")
 (hd:(y == ("__debug__":Str))=false:=by decide) (hcd:(y == ("__classdict__":Str))=false:=by decide):DE (lkC C i w g) (.Name y px) (eVarL j):=by
 refine⟨_,Qar (i:=j) hN hv hd hcd,fun G H σ ς Q S q=>?_⟩
 unfold eVarL at q
 cases z:ς[j]? with
 | none=>rw[z]at q;exact q.elim
 | some o=>
  rw[z]at q
  match o,q with
  | none,q=>exact q.elim
  | some (.o,d),q=>exact q.elim
  | some (.s,d),q=>exact q.elim
  | some (.k,d),q=>
   obtain⟨v,a,r⟩:=S.fz j d z
   exact⟨v,a,cp q S r⟩
  | some (.l,d),q=>
   obtain⟨v,a,r,_⟩:=S.ln j d z
   exact⟨v,a,cp q S (cg S.g0 d v r)⟩
theorem Qt3(h:DefH C.X.prog C.X.w C.X.K C.X.mg C.X.base C.CT fn k m)(hr:Room k C.X.A)(ha:DAV C (e::es) A)(hg:Gl C.X fn)(hN:C.X.N.Nodup)(hi:C.X.N[i]?=some x)(hx:Loc C.X.env.scope x)(hrest:DM C i rest Z)
 (hH0:∀ b,C.H0 b=none->C.X.H₀ b=none:=by fail"V5") (hM:∀ b,¬ C.M b:=by fail"V5") (hxd:∀ x,¬ C.XD x:=by fail"V5")
 (hs:swapsWith (.Call (.Name fn p3) (e::es) [] p4) (some (.Name x p2)) p1.line C.X.env=pure false:=by rfl)
 (hf:C.X.fn x=true∨C.X.env.scope.names.lookup x=some .local:=by fail"V2")
 (hdb:(fn == ("__debug__":Str))=false:=by decide) (he:starEach (e::es) C.X.env=(false,eval e C.X.env)::starEach es C.X.env:=by rfl) (hpl:(backTo p4 (starEach es C.X.env)).any (·.1)=false:=by rfl):
 DSs C (.Assign [.Name x p2] (.Call (.Name fn p3) (e::es) [] p4) p1::rest) (sLend i m A Z):=by
 obtain⟨f,fd,pn,F,hm,hk,hb⟩:=h
 obtain⟨ta,pa,qa⟩:=ha
 refine⟨_,QaI (Qn9 hN hi hx (QgG F hr hg hm hk hb .nil pass0 pa hdb he hpl) hs hf) (Qvw QgQ),fun G H σ ς W S q=>?_⟩
 unfold sLend at q
 rw[d9]at q
 refine qa G H σ ς _ S (dA q fun ds kk vs r1=>⟨ds,G,S.sub,by rw[aj];exact r1,?_⟩)
 rw[d9]at kk
 cases zm:m ds with
 | stuck=>rw[zm]at kk;exact kk.elim
 | exc y=>rw[zm]at kk;exact absurd kk (hxd y)
 | ok d=>
  rw[zm]at kk
  intro v H1 G1 L g1 h1 s1 n1 nl r
  cases d with
  | lln xs=>
   obtain⟨hc,kk⟩:=Qbb (show(if (okS i ς&&decide (i<ς.length))=true then Z (ς.set i (some (.l,.lln xs))) else .stuck).post _ _ from kk)
   rw[aH]at hc
   have hil:=aI hc.2
   have S1:StR C G1 H1 σ ς:=S.grow h1 g1 s1 n1
   refine⟨L,fun b hb=>⟨hH0 b (S.h0none (nl.2 b hb).1),(nl.2 b hb).2.2⟩,fun H2 e1 e2=>?_⟩
   obtain⟨p,vs',L',ev,eL,hp,rl⟩:=(show ∃ a vs L',v=.ref a/\L=a::L'/\H1 a=some (.lst vs)/\RepXL C.X.K C.CT G1 H1 xs vs L' from r)
   subst ev
   let g:=ovl L H2 G1 nilH
   have hfz:∀ b∈L,∀ vs,H1 b=some (.lst vs)->∃ o,g b=some (.frz o (.lst vs)):=fun b hb vs z=>by
    obtain⟨o,z4⟩:=e2 b hb vs z
    exact⟨o,(QjX hb).trans z4⟩
   have hgn:∀ b,b∉L->g b=G1 b:=fun b hb=>by
    cases z:G1 b with
    | none=>exact ovl_x hb z
    | some o=>exact ovl_g hb z
   have gg:Same G1 g:=fun b o z=>ovl_g (fun hb=>by rw[(nl.2 b hb).2.1]at z;cases z) z
   have gc:Same G1 (cutH L g):=fun b o z=>by
    rw[QaE fun hb=>by rw[(nl.2 b hb).2.1]at z;cases z]
    exact gg b o z
   have gH:Same g H2:=fun b o z=>by
    by_cases hb:b∈L
    ·have z:ovl L H2 G1 nilH b=some o:=z
     rw[QjX hb]at z;exact z
    ·rw[hgn b hb]at z
     rw[e1 b hb];exact S1.sub b o z
   have N1:LJ C L (.lln xs) p g:={
    nd:=nl.1
    at':=fun b hb=>by
     obtain⟨z1,z2,vs,z3⟩:=nl.2 b hb
     obtain⟨o,z4⟩:=hfz b hb vs z3
     refine⟨S.h0none z1,?_,o,vs,z4⟩
     cases z5:C.G0 b with
     | none=>rfl
     | some u=>rw[S1.g0 b u z5]at z2;cases z2
    g0g:=S1.g0.trans gg
    gnew:=fun b z1 z2=>by
     by_cases hb:b∈L
     ·exact S.h0none (nl.2 b hb).1
     ·rw[hgn b hb]at z2;exact S1.new b z1 z2
    gfr:=fun b o u z1 z2=>by
     have hb:b∉L:=fun hb=>by rw[S.h0none (nl.2 b hb).1]at z1;cases z1
     rw[hgn b hb]at z2
     have z3:=S1.fr b o z1 (hM b)
     rw[S1.sub b u z2]at z3;cases z3;rfl
    gbs:=fun b o z1=>by
     cases z:C.H0 b with
     | none=>rw[S1.bh b z]at z1;cases z1
     | some u=>
      have z3:=S1.fr b u z (hM b)
      rw[S1.bs b o z1]at z3;exact z3.symm
    bh:=S1.bh
    nm:=hM
    rx:=RepX.mono gc _ _ L (fun b hb o z=>by
     obtain⟨_,_,vs,z3⟩:=nl.2 b hb
     rw[z3]at z;cases z
     obtain⟨o,z4⟩:=hfz b hb vs z3
     exact QgZ hb z4) r }
   have rg:Rep C.X.K C.CT g (.lln xs) (.ref p):=RepX.rep gg _ _ L (fun b hb vs z=>by
    obtain⟨o,z4⟩:=hfz b hb vs z
    exact .inl (.inr ⟨o,z4⟩)) r
   have own:∀(j:Nat) e q,ς[j]?=some (some (.o,e))->σ[j]?=some (some (.ref q))->q∉L:=fun j e q z1 z2 hb=>by
    obtain⟨o,ho'⟩:=S.own_ne z1 z2
    rw[(nl.2 q hb).1]at ho';cases ho'
   have S2:StR (lkC C i (some p) g) g H2 (σ.set i (some (.ref p))) (ς.set i (some (.l,.lln xs))):={
    sub:=gH
    g0:=cf _
    new:=fun b z1 z2=>absurd z1 z2
    fr:=fun b o z mm=>by
     have z:orH g C.H0 b=some o:=z
     cases zg:g b with
     | some u=>rw[orH_g zg]at z;cases z;exact gH b _ zg
     | none=>
      rw[orH_h zg]at z
      have hb:b∉L:=fun hb=>by rw[S.h0none (nl.2 b hb).1]at z;cases z
      rw[e1 b hb];exact S1.fr b o z (hM b)
    dom:=fun b z=>by
     show orH g C.H0 b=none
     have hb:b∉L:=fun hb=>by
      obtain⟨_,_,vs,z3⟩:=nl.2 b hb
      obtain⟨o,z4⟩:=e2 b hb vs z3
      rw[z]at z4;cases z4
     rw[e1 b hb]at z
     rw[orH_h ((hgn b hb).trans (S1.gnone z))]
     exact S1.dom b z
    bs:=gH
    bh:=fun b z=>(Qhb z).1
    len:=by rw[ah,ah];exact S1.len
    fz:=fun j e z=>by
     rcases Qr z with⟨rfl,h2,l⟩ | ⟨ne,h2⟩
     ·cases h2
     ·obtain⟨u,z1,z2⟩:=S1.fz j e h2
      exact⟨u,by rw[Qj ne];exact z1,cg gg e u z2⟩
    ow:=fun j e z=>by
     rcases Qr z with⟨rfl,h2,l⟩ | ⟨ne,h2⟩
     ·cases h2
     ·obtain⟨q,z1,z2,z3,o⟩:=S1.ow j e h2
      have hq:=own j e q h2 z1
      have zg:g q=none:=(hgn q hq).trans z2
      exact⟨q,by rw[Qj ne];exact z1,zg,(orH_h zg).trans z3,o.mono gg fun u z=>by rw[e1 q hq];exact z⟩
    ln:=fun j e z=>by
     rcases Qr z with⟨rfl,h2,l⟩ | ⟨ne,h2⟩
     ·cases h2
      refine⟨.ref p,by rw[bE];simp;rw[S1.len];exact hil,rg,fun q hq=>?_⟩
      have hq:(if i=i then some p else C.W i)=some q:=hq
      rw[aA rfl]at hq;cases hq;rfl
     ·rcases QnP hc.1 h2 (bV ne) with z | z<;>cases z
    inj:=fun j k d1 d2 q hjk z1 z2 z3=>by
     rcases Qr z1 with⟨rfl,q1,l⟩ | ⟨n1,q1⟩
     ·cases q1
     ·rcases Qr z2 with⟨rfl,q2,l⟩ | ⟨n2,q2⟩
      ·cases q2
      ·rw[Qj n1]at z3
       rw[Qj n2]
       exact S1.inj j k d1 d2 q hjk q1 q2 z3
    sf:=fun j e z=>by
     rcases Qr z with⟨rfl,h2,l⟩ | ⟨ne,h2⟩
     ·cases h2
     ·rcases QnP hc.1 h2 (bV ne) with z | z<;>cases z
    su:=fun j k d1 d2 q hjk z1 z2 z3=>by
     rcases Qr z1 with⟨rfl,q1,l⟩ | ⟨n1,q1⟩
     ·cases q1
     ·rcases QnP hc.1 q1 (bV n1) with z | z<;>cases z }
   exact hrest L (.lln xs) p g g H2 _ _ W N1 S2 (by rw[bE];simp;exact hil) (dA kk fun f k=>cw k (g1.trans gc))
  | _=>exact kk.elim
theorem QiL(h1:∀ w g,DS (lkC C i w g) st T)(h2:DM C i rest Z):DM C i (st::rest) (mSeq i T Z):=by
 intro L d p g G H σ ς W N S hd q
 obtain⟨t1,p1,q1⟩:=h1 (some p) g
 unfold mSeq at q
 rw[d9]at q
 refine⟨_,QaI p1 QgQ,q1 G H σ ς _ S (dA q fun f k=>?_)⟩
 cases f with
 | nx ς'=>
  obtain⟨he,k⟩:=Qbb k
  exact fun σ2 H2 G2 S2 s2=>h2 L d p g G2 H2 σ2 ς' W N S2 (he.trans hd) k
 | bk ς'=>exact k.elim
 | ct ς'=>exact k.elim
 | rt b d'=>
  cases b with
  | true=>exact k.elim
  | false=>
   refine fun v H2 G2 gh s2 r=>(show FlK C (cutH L g) W (.rt false d') from k) v H2 G2 (N.out gh) (fun b o e=>?_) r
   have hb:b∉L:=fun hb=>by unfold cutH at e;rw[aA hb]at e;cases e
   rw[QaE hb]at e
   exact gh.g0 b o e
end
end DL
namespace DL
open PySem PySem.Spec PyProof.Rows L2
structure Kp(rs:List Nat)(L:List Addr)(σ:St)(H:Hp)(σ':St)(H':Hp)(n:Nat):Prop where
 st:∀ j,j∉rs->σ'[j]?=σ[j]?
 len:σ'.length=σ.length
 kp:∀ b,b∉L->∀ o,H b=some o->H' b=some o
 dm:∀ b,H' b=none->H b=none
 ls:∀ b∈L,∃ vs,H' b=some (.lst vs)/\vs.length<=10000+n
theorem Qhk{K:PySem.W.Frag}{g:TG}{tb:TS}{D:Ends}{rs:List Nat}{L:List Addr}{σ:St}{H:Hp}{a:Addr}{xs:List V}(ha:SqL K H a xs)(hp:∀ H',(∀ b,b∉L->∀ o,H b=some o->H' b=some o)->SqL K H' a xs)(hl:∀ b∈L,∃ vs,H b=some (.lst vs)/\vs.length<=10000)(hx:xs.length<=10000)
 (turn:∀ x∈xs,∀ σ' H' n (W:Ends),n<=10000->Kp rs L σ H σ' H' n->(∀ σ2 H2,Kp rs L σ H σ2 H2 (n+1)->W.nx σ2 H2)->g x σ' H' fun σ2 H2=>tb W σ2 H2) (hd:∀ σ' H',Kp rs L σ H σ' H' xs.length->D.nx σ' H'):
 ∃ W:Nat->Nat->St->Hp->Prop,(∃ m,W 0 m σ H)/\∀ i m σ H,W i m σ H->
  ((Itl K a).stop i H/\D.nx σ H)∨((Itl K a).go i H/\∃ N:St->Hp->Prop,(∀ σ' H',N σ' H'->∃ m',m'<m/\W (i+1) m' σ' H')/\∀ x H',(Itl K a).yld i H x H'->g x σ H' fun σ2 H2=>tb { D with nx:=N,ct:=N,bk:=D.nx } σ2 H2):=
 QuE (fun i σ' H'=>Kp rs L σ H σ' H' i) ⟨fun _ _=>rfl,rfl,fun _ _ _ e=>e,fun _ e=>e,fun b hb=>let ⟨vs,h1,h2⟩:=hl b hb;⟨vs,h1,h2⟩⟩ (fun i σ' H' _ k=>hp H' k.kp)
  (fun i x σ' H' e k=>turn x (cD e) σ' H' i _ (by have:=(aU.mp e).1;omega) k fun σ2 H2 k2=>k2) hd
section
variable{K:PySem.W.Frag}{rs:List Nat}{L:List Addr}{σ σ':St}{H H':Hp}{n:Nat}{W:Ends}
theorem Kp.put(k:Kp rs L σ H σ' H' n){b:Addr}{us:List V}(hb:b∈L)(hu:us.length<=10000+(n+1)):Kp rs L σ H σ' (upd H' b (.lst us)) (n+1) where
 st:=k.st
 len:=k.len
 kp:=fun c hc o e=>by rw[Qi (fun z=>hc (by rw[z];exact hb))];exact k.kp c hc o e
 dm:=fun c e=>by
  by_cases hc:c=b
  ·subst hc;rw[Qq]at e;cases e
  ·rw[Qi hc]at e;exact k.dm c e
 ls:=fun c hc=>by
  by_cases hcb:c=b
  ·subst hcb;exact⟨us,Qq,hu⟩
  ·obtain⟨vs,h1,h2⟩:=k.ls c hc
   exact⟨vs,by rw[Qi hcb];exact h1,by omega⟩
theorem Kp.set(k:Kp rs L σ H σ' H' n){r:Nat}(hr:r∈rs)(v:V):Kp rs L σ H (σ'.set r (some v)) H' n where
 st:=fun j hj=>by rw[cC (fun z=>hj (by rw[← z];exact hr))];exact k.st j hj
 len:=by rw[ah];exact k.len
 kp:=k.kp
 dm:=k.dm
 ls:=k.ls
theorem bigL:21000<=sizeLine:=by decide
theorem QvV{r:Nat}{c:V}{b:Addr}(k:Kp rs L σ H σ' H' n)(hn:n<=10000)(hb:b∈L)(hr:r∈rs)(hrl:r<σ.length)(hW:∀ σ2 H2,Kp rs L σ H σ2 H2 (n+1)->W.nx σ2 H2):
 gName r (.ref b) σ' H' fun σ2 H2=>L2.tSeq (L2.tDrop (tBM K "list" QgI (tVar r) (tCons (tC c) tNil))) (L2.tSeq (L2.tDrop (tBM0 K "list" QjM (tVar r))) tNext) W σ2 H2:=by
 have k1:=k.set hr (.ref b)
 obtain⟨vs,h1,h2⟩:=k.ls b hb
 have hg:(σ'.set r (some (V.ref b)))[r]?=some (some (.ref b)):=by rw[bE];simp;rw[k.len];exact hrl
 have hbig:=bigL
 refine⟨_,hg,.inl ⟨rfl,vs,cb h1⟩,b,vs,c,rfl,rfl,h1,by omega,?_⟩
 refine⟨_,hg,.inl ⟨rfl,_,cb Qq⟩,b,_,rfl,rfl,Qq,hW _ _ ?_⟩
 have k2:=k1.put (us:=(vs++[c]).reverse) hb (by rw[List.length_reverse,ae,cA];omega)
 have e:upd (upd H' b (.lst (vs++[c]))) b (.lst (vs++[c]).reverse)=upd H' b (.lst (vs++[c]).reverse):=by
  funext z
  by_cases hz:z=b
  ·subst hz;rw[Qq,Qq]
  ·rw[Qi hz,Qi hz,Qi hz]
 rw[e];exact k2
theorem Qwg{r1 r2 r r4:Nat}{c:V}{t b:Addr}{v1 v2 v4:V}(k:Kp rs L σ H σ' H' n)(hn:n<=10000)(hb:b∈L)(ht:SqT K H' t [v1,v2,.ref b,v4])(h1:r1∈rs)(h2:r2∈rs)(hr:r∈rs)(h4:r4∈rs)(hne:r4≠r)(hrl:r<σ.length)(hW:∀ σ2 H2,Kp rs L σ H σ2 H2 (n+1)->W.nx σ2 H2):
 gTup K 4 (gCons (gName r1) (gCons (gName r2) (gCons (gName r) (gCons (gName r4) gNil)))) (.ref t) σ' H' fun σ2 H2=>L2.tSeq (L2.tDrop (tBM K "list" QgI (tVar r) (tCons (tC c) tNil))) tNext W σ2 H2:=by
 refine⟨t,_,rfl,ht,rfl,_,_,rfl,_,_,rfl,_,_,rfl,_,_,rfl,rfl,?_⟩
 have k1:=(((k.set h1 v1).set h2 v2).set hr (.ref b)).set h4 v4
 obtain⟨vs,z1,z2⟩:=k.ls b hb
 have hbig:=bigL
 have hg:((((σ'.set r1 (some v1)).set r2 (some v2)).set r (some (V.ref b))).set r4 (some v4))[r]?=some (some (.ref b)):=by
  rw[cC hne,bE]
  simp
  rw[k.len];exact hrl
 exact⟨_,hg,.inl ⟨rfl,vs,cb z1⟩,b,vs,c,rfl,rfl,z1,by omega,hW _ _ (k1.put hb (by rw[ae,cA];omega))⟩
theorem Qx2{r:Nat}{b:Addr}(k:Kp rs L σ H σ' H' n)(hb:b∈L)(hr:r∈rs)(hrl:r<σ.length)(hW:∀ σ2 H2,Kp rs L σ H σ2 H2 (n+1)->W.nx σ2 H2):
 gName r (.ref b) σ' H' fun σ2 H2=>L2.tSeq (L2.tDrop (tBM0 K "list" QoU (tVar r))) tNext W σ2 H2:=by
 have k1:=k.set hr (.ref b)
 obtain⟨vs,h1,h2⟩:=k.ls b hb
 have hg:(σ'.set r (some (V.ref b)))[r]?=some (some (.ref b)):=by rw[bE];simp;rw[k.len];exact hrl
 exact⟨_,hg,.inl ⟨rfl,vs,cb h1⟩,b,vs,rfl,rfl,h1,hW _ _ (k1.put hb (av _))⟩
end
noncomputable def okLn:D->Bool
 | .lln xs=>decide (xs.length<=10000)
 | _=>false
noncomputable def okSt:D->Bool
 | .tup [a,b,.lln xs,c]=>decide (xs.length<=10000)
 | _=>false
def okHd:D->Bool
 | .lln [.lln ss,.lln es,.lln ds]=>ss.all okSt&&decide (ss.length<=10000)&&decide (es.length<=10000)&&decide (ds.length<=10000)
 | _=>false
section
variable{K:PySem.W.Frag}{CT:CTab}{G H:Hp}
theorem Qub:∀{ds:List D}{vs:List V}{L:List Addr},RepXL K CT G H ds vs L->ds.all okLn=true->∃ M:List Addr,(∀ b∈M,b∈L/\∃ us,H b=some (.lst us)/\us.length<=10000)/\∀ v∈vs,∃ b∈M,v=.ref b
 | [],_,_,⟨h1,_⟩,_=>⟨[],fun _ h=>(nomatch h),fun v hv=>by rw[h1]at hv;cases hv⟩
 | d::ds,_,_,⟨v,r,L1,L2,h1,h2,h3,h4⟩,hk=>by
  subst h1 h2
  rw[bJ,aH]at hk
  obtain⟨M,m1,m2⟩:=Qub h4 hk.2
  match d,hk.1,h3 with
  | .lln xs,hx,⟨a,us,L',e1,e2,e3,e4⟩=>
   have hx:=aI hx
   subst e2
   refine⟨a::M,fun b hb=>?_,fun w hw=>?_⟩
   ·rcases aF.mp hb with rfl | hb
    ·exact⟨bN _ (aL ..),us,e3,by rw[← e4.length];exact hx⟩
    ·obtain⟨z1,z2⟩:=m1 b hb
     exact⟨aZ _ z1,z2⟩
   ·rcases aF.mp hw with rfl | hw
    ·exact⟨a,aL ..,e1⟩
    ·obtain⟨b,z1,z2⟩:=m2 w hw
     exact⟨b,aE _ z1,z2⟩
theorem QtF:∀{ds:List D}{vs:List V}{L:List Addr},RepXL K CT G H ds vs L->ds.all okSt=true->∃ M:List Addr,(∀ b∈M,b∈L/\∃ us,H b=some (.lst us)/\us.length<=10000)/\∀ v∈vs,∃ b∈M,∃ t v1 v2 v4,v=.ref t/\SqT K G t [v1,v2,.ref b,v4]
 | [],_,_,⟨h1,_⟩,_=>⟨[],fun _ h=>(nomatch h),fun v hv=>by rw[h1]at hv;cases hv⟩
 | d::ds,_,_,⟨v,r,L1,L2,h1,h2,h3,h4⟩,hk=>by
  subst h1 h2
  rw[bJ,aH]at hk
  obtain⟨M,m1,m2⟩:=QtF h4 hk.2
  match d,hk.1,h3 with
  | .tup [x,y,.lln xs,z],hx,⟨t,us,e1,e2,w1,r1,M1,N1,f1,f2,_,w2,r2,M2,N2,f3,f4,_,w3,r3,M3,N3,f5,f6,⟨a,us3,M3',c1,c2,c3,c4⟩,w4,r4,M4,N4,f7,f8,_,f9,f10⟩=>
   subst f9 f10 f7 f8 f5 f6 f3 f4 f1 f2
   have hx:=aI hx
   subst c1 c2
   refine⟨a::M,fun b hb=>?_,fun w hw=>?_⟩
   ·rcases aF.mp hb with rfl | hb
    ·exact⟨by simp,us3,c3,by rw[← c4.length];exact hx⟩
    ·obtain⟨z1,z2⟩:=m1 b hb
     exact⟨aZ _ z1,z2⟩
   ·rcases aF.mp hw with rfl | hw
    ·exact⟨a,aL ..,t,w1,w2,w4,e1,e2⟩
    ·obtain⟨b,z1,z2⟩:=m2 w hw
     exact⟨b,aE _ z1,z2⟩
theorem Quq{d:D}(h:okHd d=true):∃ ss es ds,d=.lln [.lln ss,.lln es,.lln ds]/\ss.all okSt=true/\ss.length<=10000/\es.length<=10000/\ds.length<=10000:=by
 match d,h with
 | .lln [.lln ss,.lln es,.lln ds],h=>
  have h:(ss.all okSt&&decide (ss.length<=10000)&&decide (es.length<=10000)&&decide (ds.length<=10000))=true:=h
  rw[aH,aH,aH]at h
  exact⟨ss,es,ds,rfl,h.1.1.1,aI h.1.1.2,aI h.1.2,aI h.2⟩
end
end DL
namespace DL
open PySem PySem.Spec PyProof.Rows L2
abbrev tb1(K:PySem.W.Frag)(r:Nat):TS:=L2.tSeq (L2.tDrop (tBM K "list" QgI (tVar r) (tCons (tC .non) tNil))) (L2.tSeq (L2.tDrop (tBM0 K "list" QjM (tVar r))) tNext)
abbrev tb2(K:PySem.W.Frag)(r:Nat)(c:Str):TS:=L2.tSeq (L2.tDrop (tBM K "list" QgI (tVar r) (tCons (tC (.str c)) tNil))) tNext
abbrev tb3(K:PySem.W.Frag)(r:Nat):TS:=L2.tSeq (L2.tDrop (tBM0 K "list" QoU (tVar r))) tNext
theorem QuT{C:Dc}{es:List Expr}{A:SD->Out (List D)}{S1 S2 S3:Stmt}{i r r1 r2 rl r4 r3:Nat}{c:Str}(ha:DYA C es A)(h1:∀ ta,PA C.X es ta->PS C.X S1 (tFor (iList C.X.K (tLst ta)) (gName r) (tb1 C.X.K r)))
 (h2:PS C.X S2 (tFor (iList C.X.K (tOp (rIx C.X.K) (tVar i) (tC (.int 0)))) (gTup C.X.K 4 (gCons (gName r1) (gCons (gName r2) (gCons (gName rl) (gCons (gName r4) gNil))))) (tb2 C.X.K rl c)))
 (h3:PS C.X S3 (tFor (iList C.X.K (tVar i)) (gName r3) (tb3 C.X.K r3))) (hi:i∉[r,r1,r2,rl,r4,r3]) (hne:r4≠rl)
 {G H:Hp} {σ:St} {ς:SD} {W:Ends} {L:List Addr} {d:D} {p:Addr} (S:StR C G H σ ς) (hσ:σ[i]?=some (some (.ref p))) (hr:∀ n∈[r,rl,r3],n<σ.length) (rx:RepX C.X.K C.CT G H d (.ref p) L) (nd:L.Nodup) (hG:∀ b∈L,G b=none) (hd:okHd d=true)
 (q:(A ς).post (fun ds=>ds.all okLn=true/\ds.length<=10000/\∀ σ' H',(∀ b,b∉L->∀ o,H b=some o->H' b=some o)->(∀ b,H' b=none->H b=none)->W.nx σ' H') C.XD):Mx C.X [S1,S2,S3] W σ H:=by
 obtain⟨ta,pa,qa⟩:=ha
 refine⟨_,QaI (h1 ta pa) (QaI h2 (Qle h3)),?_⟩
 obtain⟨ss,en,dn,rfl,hss,ls,le,ld⟩:=Quq hd
 obtain⟨a,vs0,L',e1,e2,e3,v0,x0,La,Lb,f1,f2,⟨p0,us0,L0,g1,g2,g3,g4⟩,v1,x1,Lc,Ld,f3,f4,⟨p1,us1,L1,g5,g6,g7,g8⟩,v2,x2,Le,Lf,f5,f6,⟨p2,us2,L2',g9,g10,g11,g12⟩,f7,f8⟩:=rx
 cases e1
 subst f7 f8 f5 f6 f3 f4 f1 f2 e2 g1 g2 g5 g6 g9 g10
 have hpn:p≠p0/\p≠p1/\p≠p2/\p∉L0/\p0∉L0/\p1∉L0/\p2∉L0:=by
  simp only[bX,List.nodup_append,aF,bW,cZ,aj,not_or]at nd
  obtain⟨⟨a1,a2,a3,a4,a5,a6⟩,⟨b1,b2,b3,b4,b5⟩,c0,c1,c2⟩:=nd
  refine⟨a1,a3,a5,a2,b1,?_,?_⟩
  ·intro hm;exact c2 p1 hm p1 (.inl rfl) rfl
  ·intro hm;exact c2 p2 hm p2 (.inr (.inr (.inl rfl))) rfl
 obtain⟨n0,n1,n2,m0,m1,m2,m3⟩:=hpn
 have hin:∀ b∈L0,b∈p::((p0::L0)++((p1::L1)++((p2::L2')++[]))):=fun b hb=>by simp[hb]
 have hp':∀ b∈[p0,p1,p2],b∈p::((p0::L0)++((p1::L1)++((p2::L2')++[]))):=fun b hb=>by
  simp only[aF,aT,b6]at hb
  rcases hb with rfl | rfl | rfl<;>simp
 refine qa G H σ ς _ S (dA q fun ds k vs H1 G1 M S1' a1 b1 fr1 nl r1'=>?_)
 obtain⟨k1,k2,k3⟩:=k
 have hl1:vs.length<=10000:=by rw[← r1'.length];exact k2
 have hbig:=bigL
 refine⟨by omega,fun pr hpr=>⟨pr,rfl,⟨vs,cb Qq⟩,?_⟩⟩
 obtain⟨Mq,mq1,mq2⟩:=Qub r1' k1
 have hprM:pr∉Mq:=fun hb=>by
  obtain⟨_,us,z,_⟩:=mq1 pr hb
  rw[hpr]at z;cases z
 refine Qhk (rs:=[r]) (L:=Mq) (cb Qq) (fun H' hk=>cb (hk pr hprM _ Qq)) (fun b hb=>?_) hl1 (fun x hx σ' H' n W hn kp hW=>?_) (fun σ1 H2 kp1=>?_)
 ·obtain⟨_,us,z,zl⟩:=mq1 b hb
  exact⟨us,by rw[Qi (fun e=>hprM (by rw[← e];exact hb))];exact z,zl⟩
 ·obtain⟨b,hb,rfl⟩:=mq2 x hx
  exact QvV kp hn hb (bx.mpr rfl) (hr r (by simp)) hW
 have A1:∀ b o,H b=some o->H2 b=some o:=fun b o e=>by
  have hbM:b∉Mq:=fun hb=>by rw[(nl.2 b (mq1 b hb).1).1]at e;cases e
  refine kp1.kp b hbM o ?_
  have:=a1 b o e
  rw[Qi (fun z=>by rw[z,hpr]at this;cases this)];exact this
 have D1:∀ b,H2 b=none->H b=none:=fun b e=>by
  have:=kp1.dm b e
  by_cases hb:b=pr
  ·subst hb;exact a1.free hpr
  ·rw[Qi hb]at this;exact a1.free this
 have hσ1:σ1[i]?=some (some (.ref p)):=by
  rw[kp1.st i (fun hm=>hi (by rw[bx.mp hm];simp))];exact hσ
 obtain⟨Mt,mt1,mt2⟩:=QtF g4 hss
 have hnM:∀ b,b∉L0->b∉Mt:=fun b hb hm=>hb (mt1 b hm).1
 refine⟨_,hσ1,.inl ⟨p,_,0,.ref p0,rfl,rfl,cb (A1 _ _ e3),(show atI _ ((0:Nat):Int)=_ from QgB rfl),p0,rfl,⟨us0,cb (A1 _ _ g3)⟩,?_⟩⟩
 refine Qhk (rs:=[r1,r2,rl,r4]) (L:=Mt) (cb (A1 _ _ g3)) (fun H' hk=>cb (hk p0 (hnM p0 m1) _ (A1 _ _ g3))) (fun b hb=>?_) (by rw[← g4.length];exact ls) (fun x hx σ' H' n W hn kp hW=>?_) (fun σ2 H3 kp2=>?_)
 ·obtain⟨_,us,z,zl⟩:=mt1 b hb
  exact⟨us,A1 _ _ z,zl⟩
 ·obtain⟨b,hb,t,w1,w2,w4,rfl,ht⟩:=mt2 x hx
  have sg:Same G H':=fun b' o e=>kp.kp b' (fun hm=>by rw[hG b' (hin b' (mt1 b' hm).1)]at e;cases e) o (A1 _ _ (S.sub b' o e))
  exact Qwg kp hn hb (Same.sqT sg ht) (by simp) (by simp) (by simp) (by simp) hne (by rw[kp1.len];exact hr rl (by simp)) hW
 have A2:∀ b,b∉L0->∀ o,H b=some o->H3 b=some o:=fun b hb o e=>kp2.kp b (hnM b hb) o (A1 b o e)
 have hσ2:σ2[i]?=some (some (.ref p)):=by
  rw[kp2.st i (fun hm=>hi ?_)]
  ·exact hσ1
  ·simp only[aF,aT,b6]at hm ⊢
   rcases hm with h | h | h | h<;>simp[h]
 refine⟨_,hσ2,p,rfl,⟨_,cb (A2 p m0 _ e3)⟩,?_⟩
 refine Qhk (rs:=[r3]) (L:=[p0,p1,p2]) (cb (A2 p m0 _ e3)) (fun H' hk=>cb (hk p (by simp[n0,n1,n2]) _ (A2 p m0 _ e3))) (fun b hb=>?_) (by simp) (fun x hx σ' H' n W hn kp hW=>?_) (fun σ3 H4 kp3=>?_)
 ·simp only[aF,aT,b6]at hb
  rcases hb with rfl | rfl | rfl
  ·exact⟨us0,A2 _ m1 _ g3,by rw[← g4.length];exact ls⟩
  ·exact⟨us1,A2 _ m2 _ g7,by rw[← g8.length];exact le⟩
  ·exact⟨us2,A2 _ m3 _ g11,by rw[← g12.length];exact ld⟩
 ·have hb:∃ b∈[p0,p1,p2],x=.ref b:=by
   simp only[aF,aT,b6]at hx
   rcases hx with rfl | rfl | rfl
   ·exact⟨p0,by simp,rfl⟩
   ·exact⟨p1,by simp,rfl⟩
   ·exact⟨p2,by simp,rfl⟩
  obtain⟨b,hb,rfl⟩:=hb
  exact Qx2 kp hb (by simp) (by rw[kp2.len,kp1.len];exact hr r3 (by simp)) hW
 exact k3 σ3 H4 (fun b hb o e=>kp3.kp b (fun hm=>hb (hp' b hm)) o (A2 b (fun hm=>hb (hin b hm)) o e)) (fun b e=>D1 b (kp2.dm b (kp3.dm b e)))
end DL
namespace DL
open PySem PySem.Spec PyProof.Rows L2
section
variable{C:Dc}{x z1 z2 z4 y:Str}{es:List Expr}{ta:TA}{i r r1 r2 rl r4:Nat}{c:Str}{j:Nat}{x1:Nat}{p0 p1 p2 p3 p4 p5 p6 p7 p8 p9:Pos}{n1:Nat}
theorem Qvc(hp:PassesOwn (model C.X.prog C.X.w) C.X.A C.X.env C.X.xe)(hc:C.X.calm=true)(hN:C.X.N.Nodup)(hx:C.X.N[r]?=some x)(hl:Loc C.X.env.scope x)(ha:PA C.X es ta)
 (hv:Vis C.X.env.scope x:=by fail"V1") (hd:(x == ("__debug__":Str))=false:=by decide) (hcd:(x == ("__classdict__":Str))=false:=by decide)
 (hf:C.X.fn x=true∨C.X.env.scope.names.lookup x=some .local:=by fail"V2")
 (hb1:attributeBase (.Name x p1) "append" C.X.env (eval (.Name x p1) C.X.env)=eval (.Name x p1) C.X.env:=by rfl)
 (hfew:((backTo p4 (starEach (.Constant .none j p3::[]) C.X.env)).all (fun x => !x.1)&&(backToKw p4 (keywordEach [] C.X.env)).all (fun x=>x.1.isSome)
  && decide ((Expr.Constant .none j p3::[]).length+([]:List Keyword).length+(if ([]:List Keyword).isEmpty then 0 else 1)<30))=true:=by rfl)
 (hline:(p2.endLine == p4.line)=true:=by rfl) (hs:starEach (.Constant .none j p3::[]) C.X.env=(false,eval (.Constant .none j p3) C.X.env)::starEach [] C.X.env:=by rfl)
 (hsw:swapsWith (.Call (.Attribute (.Name x p1) "append" p2) [.Constant .none j p3] [] p4) none p5.line C.X.env=pure false:=by rfl)
 (hb2:attributeBase (.Name x p6) "reverse" C.X.env (eval (.Name x p6) C.X.env)=eval (.Name x p6) C.X.env:=by rfl) (hline2:(p7.endLine == p8.line)=true:=by rfl)
 (hsw2:swapsWith (.Call (.Attribute (.Name x p6) "reverse" p7) [] [] p8) none p9.line C.X.env=pure false:=by rfl)
 {pn pl pf:Pos} (hfs:∀ z,foldedSetIterable (.List es pl) C.X.env z=pure z:=by fail"V3"):
 PS C.X (.For (.Name x pn) (.List es pl) [.Expr (.Call (.Attribute (.Name x p1) "append" p2) [.Constant .none j p3] [] p4) p5,.Expr (.Call (.Attribute (.Name x p6) "reverse" p7) [] [] p8) p9] [] pf) (tFor (iList C.X.K (tLst ta)) (gName r) (tb1 C.X.K r)):=
 QjW hp hc (Qiw (QoR ha)) (QcJ hN hx hl hf) (QaI (Qdv (pe_bm bQ cN cO Qfx (Qar hx hv hd hcd) (Q0 QtL QaL hs) hb1 hfew hline hs rfl) hsw)
  (QaI (Qdv (Qs5 bQ PySem.F.slot_list_reverse PySem.F.type_list_reverse QrV (Qar hx hv hd hcd) hb2 hline2) hsw2) QiE)) hfs
theorem Qvj(hp:PassesOwn (model C.X.prog C.X.w) C.X.A C.X.env C.X.xe)(hc:C.X.calm=true)(hN:C.X.N.Nodup)(hy:C.X.N[i]?=some y)(hx1:C.X.N[r1]?=some z1)(hl1:Loc C.X.env.scope z1)(hx2:C.X.N[r2]?=some z2)(hl2:Loc C.X.env.scope z2)(hx:C.X.N[rl]?=some x)(hl:Loc C.X.env.scope x)(hx4:C.X.N[r4]?=some z4)(hl4:Loc C.X.env.scope z4)
 {pn pl pf q1 q2 q3 q4 q5 q6:Pos} (hs0:Qiz (.Constant (.int 0) n1 q6):=by fail"V4")
 (hvy:Vis C.X.env.scope y:=by fail"V1") (hdy:(y == ("__debug__":Str))=false:=by decide) (hcdy:(y == ("__classdict__":Str))=false:=by decide)
 (hv:Vis C.X.env.scope x:=by fail"V1") (hd:(x == ("__debug__":Str))=false:=by decide) (hcd:(x == ("__classdict__":Str))=false:=by decide)
 (hf1:C.X.fn z1=true∨C.X.env.scope.names.lookup z1=some .local:=by fail"V2") (hf2:C.X.fn z2=true∨C.X.env.scope.names.lookup z2=some .local:=by fail"V2")
 (hf:C.X.fn x=true∨C.X.env.scope.names.lookup x=some .local:=by fail"V2") (hf4:C.X.fn z4=true∨C.X.env.scope.names.lookup z4=some .local:=by fail"V2")
 (hb1:attributeBase (.Name x p1) "append" C.X.env (eval (.Name x p1) C.X.env)=eval (.Name x p1) C.X.env:=by rfl)
 (hfew:((backTo p4 (starEach (.Constant (.str c) j p3::[]) C.X.env)).all (fun x => !x.1)&&(backToKw p4 (keywordEach [] C.X.env)).all (fun x=>x.1.isSome)
  && decide ((Expr.Constant (.str c) j p3::[]).length+([]:List Keyword).length+(if ([]:List Keyword).isEmpty then 0 else 1)<30))=true:=by rfl)
 (hline:(p2.endLine == p4.line)=true:=by rfl) (hs:starEach (.Constant (.str c) j p3::[]) C.X.env=(false,eval (.Constant (.str c) j p3) C.X.env)::starEach [] C.X.env:=by rfl)
 (hsw:swapsWith (.Call (.Attribute (.Name x p1) "append" p2) [.Constant (.str c) j p3] [] p4) none p5.line C.X.env=pure false:=by rfl)
 (hg1:(assignEach [.Name z1 q1,.Name z2 q2,.Name x q3,.Name z4 q4] C.X.env).map (·.2)=assign (.Name z1 q1) C.X.env::(assignEach [.Name z2 q2,.Name x q3,.Name z4 q4] C.X.env).map (·.2):=by rfl)
 (hg2:(assignEach [.Name z2 q2,.Name x q3,.Name z4 q4] C.X.env).map (·.2)=assign (.Name z2 q2) C.X.env::(assignEach [.Name x q3,.Name z4 q4] C.X.env).map (·.2):=by rfl)
 (hg3:(assignEach [.Name x q3,.Name z4 q4] C.X.env).map (·.2)=assign (.Name x q3) C.X.env::(assignEach [.Name z4 q4] C.X.env).map (·.2):=by rfl)
 (hg4:(assignEach [.Name z4 q4] C.X.env).map (·.2)=assign (.Name z4 q4) C.X.env::(assignEach [] C.X.env).map (·.2):=by rfl)
 (hn:(assignEach [.Name z1 q1,.Name z2 q2,.Name x q3,.Name z4 q4] C.X.env).length=4:=by rfl) (hst:(assignEach [.Name z1 q1,.Name z2 q2,.Name x q3,.Name z4 q4] C.X.env).findIdx? (·.1)=none:=by rfl)
 (hfs:∀ z,foldedSetIterable (.Subscript (.Name y q5) (.Constant (.int 0) n1 q6) pl) C.X.env z=pure z:=by fail"V3"):
 PS C.X (.For (.Tuple [.Name z1 q1,.Name z2 q2,.Name x q3,.Name z4 q4] x1 pn) (.Subscript (.Name y q5) (.Constant (.int 0) n1 q6) pl) [.Expr (.Call (.Attribute (.Name x p1) "append" p2) [.Constant (.str c) j p3] [] p4) p5] [] pf)
  (tFor (iList C.X.K (tOp (rIx C.X.K) (tVar i) (tC (.int 0)))) (gTup C.X.K 4 (gCons (gName r1) (gCons (gName r2) (gCons (gName rl) (gCons (gName r4) gNil))))) (tb2 C.X.K rl c)):=
 QjW hp hc (Qiw (pe_ix QoT (Qar hy hvy hdy hcdy) QsA hs0)) (QsT hc (Qfa (QcJ hN hx1 hl1 hf1) (Qfa (QcJ hN hx2 hl2 hf2) (Qfa (QcJ hN hx hl hf) (Qfa (QcJ hN hx4 hl4 hf4) Qrj hg4) hg3) hg2) hg1) hn hst)
  (QaI (Qdv (pe_bm bQ cN cO Qfx (Qar hx hv hd hcd) (Q0 Qt1 QaL hs) hb1 hfew hline hs rfl) hsw) QiE) hfs
theorem QuN(hp:PassesOwn (model C.X.prog C.X.w) C.X.A C.X.env C.X.xe)(hc:C.X.calm=true)(hN:C.X.N.Nodup)(hy:C.X.N[i]?=some y)(hx:C.X.N[r]?=some x)(hl:Loc C.X.env.scope x)
 (hvy:Vis C.X.env.scope y:=by fail"V1") (hdy:(y == ("__debug__":Str))=false:=by decide) (hcdy:(y == ("__classdict__":Str))=false:=by decide)
 (hv:Vis C.X.env.scope x:=by fail"V1") (hd:(x == ("__debug__":Str))=false:=by decide) (hcd:(x == ("__classdict__":Str))=false:=by decide)
 (hf:C.X.fn x=true∨C.X.env.scope.names.lookup x=some .local:=by fail"V2")
 (hb2:attributeBase (.Name x p6) "clear" C.X.env (eval (.Name x p6) C.X.env)=eval (.Name x p6) C.X.env:=by rfl) (hline2:(p7.endLine == p8.line)=true:=by rfl)
 (hsw2:swapsWith (.Call (.Attribute (.Name x p6) "clear" p7) [] [] p8) none p9.line C.X.env=pure false:=by rfl)
 {pn pl pf:Pos} (hfs:∀ z,foldedSetIterable (.Name y pl) C.X.env z=pure z:=by fail"V3"):
 PS C.X (.For (.Name x pn) (.Name y pl) [.Expr (.Call (.Attribute (.Name x p6) "clear" p7) [] [] p8) p9] [] pf) (tFor (iList C.X.K (tVar i)) (gName r) (tb3 C.X.K r)):=
 QjW hp hc (Qiw (Qar hy hvy hdy hcdy)) (QcJ hN hx hl hf) (QaI (Qdv (Qs5 bQ PySem.F.slot_list_clear PySem.F.type_list_clear Qvb (Qar hx hv hd hcd) hb2 hline2) hsw2) QiE) hfs
end
def SpS(K:PySem.W.Frag)(CT:CTab)(ms:D->D->Out (List D)):Sp:=fun vs H Q _=>∃ dO ov dk kv p d G L,vs=[ov,.ref p,kv]/\Same G H/\Rep K CT G dO ov/\Rep K CT G dk kv/\RepX K CT G H d (.ref p) L/\L.Nodup/\(∀ b∈L,G b=none)/\okHd d=true/\
 (ms dO dk).post (fun ds=>ds.all okLn=true/\ds.length<=10000/\∀ H',(∀ b,b∉L->∀ o,H b=some o->H' b=some o)->(∀ b,H' b=none->H b=none)->Q .non H') (fun _=>False)
def DefS(P:Program)(w:World)(K:PySem.W.Frag)(mg:Str->Option Value)(base:Heap)(CT:CTab)(x:Str)(k:Nat)(ms:D->D->Out (List D)):Prop:=
 ∃ f fd ps,FnOk P w K mg base CX0 k f fd ps (SpS K CT ms)/\mg x=some (.ref f)/\PySem.W.keepIn K (.ref f)=true/\Binds K fd ps []
def DSp(C:Dc)(n:Nat)(sts:List Stmt)(A:SD->Out (List D)):Prop:=∀ G H σ ς W L d p,StR C G H σ ς->σ[1]?=some (some (.ref p))->σ.length=n->RepX C.X.K C.CT G H d (.ref p) L->L.Nodup->(∀ b∈L,G b=none)->okHd d=true->
 (A ς).post (fun ds=>ds.all okLn=true/\ds.length<=10000/\∀ σ' H',(∀ b,b∉L->∀ o,H b=some o->H' b=some o)->(∀ b,H' b=none->H b=none)->W.nx σ' H') C.XD->Mx C.X sts W σ H
noncomputable def bodyS(n:Nat)(A:SD->Out (List D)):D->D->Out (List D):=fun dO dk=>A (some (.k,dO)::none::some (.k,dk)::List.replicate (n - 3) none)
theorem fnS{P:Program}{w:World}{K:PySem.W.Frag}{mg:Str->Option Value}{base:Heap}{CT:CTab}{x qual:Str}{st:Stmt}{f:Addr}{fd:FuncData}{dV:Value}{N:List Str}{n1 n2 n3:Str}{k:Nat}{A0:SD->Out (List D)}
 (F:FunV K x qual st f fd dV) (S:Qn N [n1,n2,n3] (Qd st))
 (hb:∀(cdv:Value)(A:Around)(outer:List Env)(s:Shared)(H:Hp)(E:XK)(G:Hp),Room k (A.deeper (envOfC qual (Qd st) s.heap.objs.size f cdv))->DSp (dcOf P w K mg base CT N qual (Qd st) f cdv A outer s H E G) N.length (QaT st) A0):
 FnOk P w K mg base CX0 (k+1) f fd [n1,n2,n3] (SpS K CT (bodyS N.length A0)):=by
 obtain⟨oc,od,kV,doc,pm,an,cdv,ct,osl,rfl,lk,hcd⟩:=F.ex
 have hpl:3<=N.length:=by have:=bg List.length S.pre;rw[bF]at this;simp at this;omega
 have len:∀ vs H Q E,SpS K CT (bodyS N.length A0) vs H Q E->vs.length=[n1,n2,n3].length:=by
  rintro vs H Q E ⟨dO,ov,dk,kv,p,d,G,L,rfl,_⟩
  rfl
 refine fn_of lk hcd S len fun A outer s H vs Q E hr hsp=>?_
 obtain⟨dO,ov,dk,kv,p,d,G0,L,rfl,sub,ro,rk,rx,nd,hG,hd,q⟩:=hsp
 refine⟨Mx _ _,(QgQ).nox,?_⟩
 have slot:∀(i:Nat)(e:SM×D),(some (SM.k,dO)::none::some (SM.k,dk)::List.replicate (N.length - 3) none:SD)[i]?=some (some e)->(i=0/\e=(.k,dO))∨(i=2/\e=(.k,dk)):=by
  intro i e h
  match i,h with
  | 0,h=>left;simp at h;exact⟨rfl,h.symm⟩
  | 1,h=>simp at h
  | 2,h=>right;simp at h;exact⟨rfl,h.symm⟩
  | n+3,h=>
   simp[bq]at h
 have hst:L2.start N [ov,.ref p,kv]=some ov::some (.ref p)::some kv::List.replicate (N.length - 3) none:=by unfold L2.start;rfl
 have S0:StR (dcOf P w K mg base CT N qual (Qd st) f cdv A outer s H E G0) G0 H (L2.start N [ov,.ref p,kv]) (some (.k,dO)::none::some (.k,dk)::List.replicate (N.length - 3) none):={
  sub:=sub
  g0:=cf _
  new:=fun b h1 h2=>absurd h1 h2
  fr:=fun b o e _=>e
  dom:=fun b e=>e
  bs:=cf _
  bh:=fun b e=>e
  len:=by rw[hst];simp
  fz:=fun i d e=>by
   rw[hst]
   rcases slot i _ e with⟨rfl,z⟩ | ⟨rfl,z⟩
   ·cases z;exact⟨ov,rfl,ro⟩
   ·cases z;exact⟨kv,rfl,rk⟩
  ow:=fun i d e=>by rcases slot i _ e with⟨_,z⟩ | ⟨_,z⟩<;>cases z
  ln:=fun i d e=>by rcases slot i _ e with⟨_,z⟩ | ⟨_,z⟩<;>cases z
  inj:=fun i j d e p _ h=>by rcases slot i _ h with⟨_,z⟩ | ⟨_,z⟩<;>cases z
  sf:=fun i d e=>by rcases slot i _ e with⟨_,z⟩ | ⟨_,z⟩<;>cases z
  su:=fun i j d e p _ h=>by rcases slot i _ h with⟨_,z⟩ | ⟨_,z⟩<;>cases z }
 exact hb cdv A outer s H E G0 hr G0 H _ _ _ L d p S0 (by rw[hst];rfl) (by rw[hst];simp;omega) rx nd hG hd (dA q fun ds k=>⟨k.1,k.2.1,fun σ' H' a b=>k.2.2 H' a b⟩)
theorem Qw4{X:Cx}{es:List Expr}{t:TA}(h:PA X es t):PA X es (fun σ H Q=>t σ H fun vs H1=>∃(L:List Addr)(H':Hp),(∀ b∈L,X.H₀ b=none/\∃ o us,H1 b=some (.frz o (.lst us))/\H' b=some (.lst us))/\(∀ b,b∉L->H' b=H1 b)/\Q vs H'):=by
 intro pos pins s σ H Q I k
 refine thn (h pos pins s σ H _ I k) fun us s1 z0z=>?_
 obtain⟨vs,H1,I1,r,L,H',hL,e1,q⟩:=z0z
 refine⟨vs,H',I1.ghost (L:=L) (fun b hb=>(hL b hb).1) (fun b hb=>.inr (let ⟨_,o,us,e,_⟩:=hL b hb;⟨o,us,e⟩)) e1 fun b hb=>?_,r,q⟩
 obtain⟨_,o,us,e,e'⟩:=hL b hb
 obtain⟨_,q1,its,n,q2,q3⟩:=(show ObjOk X.prog X.w H1 s1.heap b (.frz o (.lst us)) from I1.hok b _ e)
 exact⟨_,e',q1,its,n,q2,q3⟩
def mSp(i jo:Nat)(EK:SD->Out D)(ms:D->D->Out (List D))(T:SD->Out Fl):SD->Out Fl:=fun ς=>match ς[i]? with
 | some (some (.l,d))=>if okHd d=true then eVar jo ς>>=fun dO=>EK ς>>=fun dk=>if (noL dO&&noL dk)=true then ms dO dk>>=fun ds=>if (ds.all okLn&&decide (ds.length<=10000))=true then T (dropL ς) else .stuck else .stuck else .stuck
 | _=>.stuck
theorem StR.reL{C:Dc}{G H H':Hp}{σ:St}{ς:SD}{L:List Addr}(S:StR C G H σ ς)(hL:∀ b∈L,C.H0 b=none/\G b=none)(own:∀(j:Nat) e q,ς[j]?=some (some (.o,e))->σ[j]?=some (some (.ref q))->q∉L)(kp:∀ b,b∉L->∀ o,H b=some o->H' b=some o)(dm:∀ b,H' b=none->H b=none):StR C G H' σ ς where
 sub:=fun b o e=>kp b (fun hb=>by rw[(hL b hb).2]at e;cases e) o (S.sub b o e)
 g0:=S.g0
 new:=S.new
 fr:=fun b o e m=>kp b (fun hb=>by rw[(hL b hb).1]at e;cases e) o (S.fr b o e m)
 dom:=fun b e=>S.dom b (dm b e)
 bs:=fun b o e=>kp b (fun hb=>by rw[S.bh b (hL b hb).1]at e;cases e) o (S.bs b o e)
 bh:=S.bh
 len:=S.len
 fz:=S.fz
 ow:=fun j e h=>by
  obtain⟨q,a,b,c,o⟩:=S.ow j e h
  exact⟨q,a,b,c,o.mono (cf G) fun u z=>kp q (own j e q h a) u z⟩
 ln:=S.ln
 inj:=S.inj
 sf:=fun j e h=>by
  obtain⟨q,a,b,c,m,z,o⟩:=S.sf j e h
  exact⟨q,a,b,c,m,z,o.mono (cf G) fun u z=>kp q (fun hb=>c (hL q hb).1) u z⟩
 su:=S.su
section
variable{C:Dc}{i jo k:Nat}{fn x y:Str}{ms:D->D->Out (List D)}{ek:Expr}{EK:SD->Out D}{fin:List Stmt}{T:SD->Out Fl}{p1 p2 p3 p4 p5:Pos}
theorem QuJ(h:DefS C.X.prog C.X.w C.X.K C.X.mg C.X.base C.CT fn k ms)(hr:Room k C.X.A)(hg:Gl C.X fn)(hjo:C.X.N[jo]?=some y)(hxi:C.X.N[i]?=some x)(hk:∀ w g,DE (lkC C i w g) ek EK)(hfin:DSs C fin T)
 (hvy:Vis C.X.env.scope y:=by fail"V1") (hdy:(y == ("__debug__":Str))=false:=by decide) (hcdy:(y == ("__classdict__":Str))=false:=by decide)
 (hv:Vis C.X.env.scope x:=by fail"V1") (hd:(x == ("__debug__":Str))=false:=by decide) (hcd:(x == ("__classdict__":Str))=false:=by decide)
 (hH0:∀ b,C.H0 b=none->C.X.H₀ b=none:=by fail"V5") (hxd:∀ x,¬ C.XD x:=by fail"V5")
 (hdb:(fn == ("__debug__":Str))=false:=by decide) (he:starEach (.Name y p1::[.Name x p2,ek]) C.X.env=(false,eval (.Name y p1) C.X.env)::starEach [.Name x p2,ek] C.X.env:=by rfl)
 (he2:starEach (.Name x p2::[ek]) C.X.env=(false,eval (.Name x p2) C.X.env)::starEach [ek] C.X.env:=by rfl) (he3:starEach (ek::[]) C.X.env=(false,eval ek C.X.env)::starEach [] C.X.env:=by rfl)
 (hpl:(backTo p4 (starEach [.Name x p2,ek] C.X.env)).any (·.1)=false:=by rfl)
 (hsw:swapsWith (.Call (.Name fn p3) [.Name y p1,.Name x p2,ek] [] p4) none p5.line C.X.env=pure false:=by rfl):
 DM C i (.Expr (.Call (.Name fn p3) [.Name y p1,.Name x p2,ek] [] p4) p5::fin) (mSp i jo EK ms T):=by
 intro L d p g G H σ ς W N S hd' q
 obtain⟨f,fd,pn,F,hm,hkk,hb⟩:=h
 obtain⟨uf,pf,kf⟩:=hfin
 obtain⟨tk,pk,qk⟩:=hk (some p) g
 refine⟨_,QaI (Qdv (QgG F hr hg hm hkk hb .nil pass0 (Qw4 (Q0 (Qar hjo hvy hdy hcdy) (Q0 (Qar hxi hv hd hcd) (Q0 pk QaL he3) he2) he)) hdb he hpl) hsw) pf,?_⟩
 obtain⟨v,hσ,_,hW⟩:=S.ln i d hd'
 have hv':v=.ref p:=hW p (by show(if i=i then some p else C.W i)=some p;rw[aA rfl])
 subst hv'
 unfold mSp at q
 rw[hd']at q
 obtain⟨hok,q⟩:=Qbb (show(if okHd d=true then eVar jo ς>>=fun dO=>EK ς>>=fun dk=>if (noL dO&&noL dk)=true then ms dO dk>>=fun ds=>if (ds.all okLn&&decide (ds.length<=10000))=true then T (dropL ς) else .stuck else .stuck else .stuck).post _ _ from q)
 rw[d9]at q
 obtain⟨dO,zO,q⟩:=Qjg q
 obtain⟨ov,hov,rO⟩:=S.fz jo dO zO
 refine⟨ov,hov,_,hσ,?_⟩
 rw[d9]at q
 refine qk G H σ ς _ S (dA q fun dk q kv H1 G1 S1 a1 b1 rk=>?_)
 obtain⟨hn,q⟩:=Qbb q
 rw[aH]at hn
 have cut:=N.frz S1.toGH
 have hfz:∀ b∈L,∃ o vs,G1 b=some (.frz o (.lst vs)):=fun b hb=>let ⟨_,o,vs,z,_⟩:=cut b hb;⟨o,vs,z⟩
 have S0:StR C (cutH L G1) (thawH L H1) σ (dropL ς):=StR.cut N S1 (fun b hb o e=>by rw[QlC hb];exact e) (fun b e=>by
  by_cases hb:b∈L
  ·obtain⟨_,o,vs,_,z⟩:=cut b hb
   rw[QgZ hb z]at e;cases e
  ·rw[QlC hb]at e;exact e)
 have own:∀(j:Nat) e q,(dropL ς)[j]?=some (some (.o,e))->σ[j]?=some (some (.ref q))->q∉L:=fun j e q h1 h2 hb=>by
  obtain⟨q',e1,e2,_,_⟩:=S1.ow j e (Qix h1).1
  rw[h2]at e1;cases e1
  obtain⟨_,o,vs,z,_⟩:=cut q hb
  rw[z]at e2;cases e2
 refine⟨L,thawH L H1,fun b hb=>?_,fun b hb=>QlC hb,?_⟩
 ·obtain⟨z0,o,vs,_,z⟩:=cut b hb
  exact⟨hH0 b z0,o,vs,z,QgZ hb z⟩
 have rx:RepX C.X.K C.CT (cutH L G1) (thawH L H1) d (.ref p) L:=RepX.mono (fun b o e=>by
  have hb:b∉L:=fun hb=>by unfold cutH at e;rw[aA hb]at e;cases e
  rw[QaE hb]at e ⊢
  exact S1.g0 b o e) d _ L (fun b hb o e=>by
  obtain⟨_,_,o',vs,z⟩:=N.at' b hb
  rw[QgZ hb z]at e;cases e
  exact QgZ hb (S1.sub b _ (S1.g0 b _ z))) N.rx
 have hG1:∀ b∈L,cutH L G1 b=none:=fun b hb=>by unfold cutH;rw[aA hb]
 refine⟨dO,ov,dk,kv,p,d,cutH L G1,L,rfl,S0.sub,Rep.cut hfz dO ov hn.1 (cg b1 dO ov rO),Rep.cut hfz dk kv hn.2 rk,rx,N.nd,hG1,hok,?_⟩
 rw[d9]at q
 cases zm:ms dO dk with
 | stuck=>rw[zm]at q;exact q.elim
 | exc z=>rw[zm]at q;exact absurd q (hxd z)
 | ok ds=>
  rw[zm]at q
  obtain⟨hc,q⟩:=Qbb (show(if (ds.all okLn&&decide (ds.length<=10000))=true then T (dropL ς) else .stuck).post _ _ from q)
  rw[aH]at hc
  refine⟨hc.1,aI hc.2,fun H' kp dm=>?_⟩
  refine kf (cutH L G1) H' σ (dropL ς) W (S0.reL (fun b hb=>⟨(cut b hb).1,hG1 b hb⟩) own kp dm) (dA q fun f k=>cw k fun b o e=>?_)
  have hb:b∉L:=fun hb=>by unfold cutH at e;rw[aA hb]at e;cases e
  rw[QaE hb]at e ⊢
  exact S1.g0 b o e
end
end DL
set_option maxHeartbeats 4000000
namespace My
open PySem PySem.Spec L2 DL
set_option hygiene false
local macro_rules
 | `("e"^$q $s $k $b) => `(DefOk P w K mg base CT $s $k $b [] $q)
 | `("f"^$k $l $b $q) => `(FnOk P w K mg base CX0 $k f fd $l (SpD K CT $b $q))
set_option hygiene true
theorem gr{X:Cx}{x:Str}(h:Gl X x:=by rfl):Gl X x:=h
theorem Rm{k k1:Nat}{A:Around}(h:Room k1 A)(e:k<=k1:=by decide):Room k A:=h.mono e
noncomputable def top(i:Nat):Stmt:=PySem.Challenge.pw_dockethall_k22_an_office_tells.main.body.getD i (.Pass ⟨0,0,0,0⟩)
noncomputable def Ql:List Str:=["Deal","Bundle","Copy","Rows","Office"]
noncomputable def Qb:List Str:=["Deal","Bundle","Copy","Rows"]
noncomputable def Qm:List Str:=["Office"]
section
variable{P:Program}{w:World}{K:PySem.W.Frag}{mg:Str->Option Value}{base:Heap}{CT:CTab}{f:Addr}{fd:FuncData}{dV:Value}
abbrev Qgb:Stmt:=top 45
theorem QnX:Qn ["_law_cell_here","_law_k"] ["_law_cell_here","_law_k"] (Qd Qgb):=⟨rfl,rfl,rfl,dk,rfl,dk,dk⟩
def QdX:SD->Out Fl:=(sRet (e2 dMod (e2 dMul (e2 dAdd (e2 dMod (eVar 0) (eC (.int 2147483647))) (eC (.int 11))) (e2 dAdd (eC (.int 48271)) (e2 dMul (e2 dMul (eC (.int 2)) (eVar 1)) (eVar 1)))) (eC (.int 2147483629))))
def QZ:List D->Out D:=bodyF false 2 2 QdX
theorem QpJ(d0 d1:D):QZ [d0,d1]=(QdX [some (.k,d0),some (.k,d1)]>>=retF false):=rfl
theorem QqP(F:FunV K "_law_mixed" "_law_mixed" Qgb f fd dV)  : "f"^1 ["_law_cell_here","_law_k"] false QZ:=
 (@fnV P w K mg base CT false _ _ _ f fd dV _ _ 0 QdX F QnX fun cdv A outer s H E G hr=>
  (Qg (Qy (QV (cn (QbN (cn (QQ (cn (QV (cn (Qa 0)) (cn Qe))) (cn Qe))) (cn (QQ (cn Qe) (cn (QbN (cn (QbN (cn Qe) (cn (Qa 1)))) (cn (Qa 1)))))))) (cn Qe)))) :)
abbrev Qf3:Stmt:=top 47
theorem Qap:Qn ["_law_many","_law_seed","_law_letters","_law_words","_law_names_here","_law_k","_law_other","_law_name"] ["_law_many","_law_seed"] (Qd Qf3):=⟨rfl,rfl,rfl,dk,rfl,dk,dk⟩
def Qcq:SD->Out Fl:=(sSeq (sSet 6 (e2 dIx (eVar 2) (e2 dMod (e2 dAdd (e2 dFdiv (eVar 1) (eC (.int 26))) (e2 dFdiv (eVar 5) (eC (.int 26)))) (eC (.int 26))))) (sSeq (sSet 7 (e2 dAdd (e2 dAdd (e2 dIx (eVar 2) (e2 dMod (e2 dAdd (eVar 1) (eVar 5)) (eC (.int 26)))) (eVar 6)) (eSlS (eC (.str "qqq")) oNo (oSome (e2 dMod (e2 dFdiv (eVar 1) (eC (.int 676))) (eC (.int 4))))))) (sSeq (sIf (tVal (e2 dEq (e2 dMod (e2 dFdiv (eVar 1) (eC (.int 2704))) (eC (.int 3))) (eC (.int 1)))) (sSeq (sSet 7 (e2 dAdd (eVar 7) (eC (.str "w")))) (sIf (tVal (e2 dLt (eVar 5) (eC (.int 8)))) (sSet 7 (e2 dIx (eVar 3) (e2 dMod (e2 dAdd (eVar 5) (eVar 1)) (eC (.int 8))))) sNil)) sNil) (QaP 4 (eVar 7)))))
def Qd4:SD->Out Fl:=(sSeq (sSet 2 (eC (.str "abcdefghijklmnopqrstuvwxyz"))) (sSeq (sSet 3 (eLst (aCons (eC (.str "to")) (aCons (eC (.str "at")) (aCons (eC (.str "door")) (aCons (eC (.str "entry")) (aCons (eC (.str "clerk")) (aCons (eC (.str "bundle")) (aCons (eC (.str "copy")) (aCons (eC (.str "a")) aNil)))))))))) (sSeq (sSetO 4 (eLst aNil)) (sSeq (sFor (gN 5) (itR1 (eVar 0)) Qcq) (sRetO 4)))))
def Qck:List D->Out D:=bodyF true 2 8 Qd4
theorem QpD(d0 d1:D):Qck [d0,d1]=(Qd4 [some (.k,d0),some (.k,d1),none,none,none,none,none,none]>>=retF true):=rfl
theorem QqL(F:FunV K "_law_names" "_law_names" Qf3 f fd dV)(z_range:mg "range"=none):"f"^1 ["_law_many","_law_seed"] true Qck:=
 (@fnV P w K mg base CT true _ _ _ f fd dV _ _ 0 Qd4 F Qap fun cdv A outer s H E G hr=>
  (Qh (Q4 (i:=2) Qap.nd rfl (oi rfl) QW) (Qh (Q4 (i:=3) Qap.nd rfl (oi rfl) (cm (Qav (Qc QW (Qc QW (Qc QW (Qc QW (Qc QW (Qc QW (Qc QW (Qc QW Qk))))))))))) (Qh (QdS (i:=4) Qap.nd rfl (oi rfl) (Qav Qk)) (Qh (Qbl ay rfl (Qaj gr z_range (cn (Qa 0))) (Qx (i:=5) Qap.nd rfl (oi rfl)) (Qs _) (Qh (Q4 (i:=6) Qap.nd rfl (oi rfl) (de_ix (Qa 2) (cn (QV (cn (QQ (cn (QbB (cn (Qa 1)) (cn Qe))) (cn (QbB (cn (Qa 5)) (cn Qe))))) (cn Qe))))) (Qh (Q4 (i:=7) Qap.nd rfl (oi rfl) (QQ (cn (QQ (cn (de_ix (Qa 2) (cn (QV (cn (QQ (cn (Qa 1)) (cn (Qa 5)))) (cn Qe))))) (cn (Qa 6)))) (cn (QwZ (cn QW) Qiv (Qe7 (cn (QV (cn (QbB (cn (Qa 1)) (cn Qe))) (cn Qe)))))))) (Qh (ds_if (dt_eq hr.units (cn (QV (cn (QbB (cn (Qa 1)) (cn Qe))) (cn Qe))) (cn Qe)) (Qh (Q4 (i:=7) Qap.nd rfl (oi rfl) (QQ (cn (Qa 7)) (cn QW))) (Qg (ds_if (dt_lt (cn (Qa 5)) (cn Qe)) (Qg (Q4 (i:=7) Qap.nd rfl (oi rfl) (de_ix (Qa 3) (cn (QV (cn (QQ (cn (Qa 5)) (cn (Qa 1)))) (cn Qe)))))) QJ))) QJ) (Qg (QbO 4 (Qa 7) rfl (oi rfl))))))) (Qg (Qlw 4 rfl (oi rfl))))))) :)
abbrev Qhc:Stmt:=top 43
theorem Qqg:Qn ["_law_script","_law_k"] ["_law_script","_law_k"] (Qd Qhc):=⟨rfl,rfl,rfl,dk,rfl,dk,dk⟩
def Qc9:SD->Out Fl:=(sSeq (sIf (tVal (e2 dLt (eVar 1) (eA fLen (aCons (eVar 0) aNil)))) (sRet (e2 dIx (eVar 0) (eVar 1))) sNil) (sRet (eC (.int 0))))
def Qas:List D->Out D:=bodyF false 2 2 Qc9
theorem Qkl(d0 d1:D):Qas [d0,d1]=(Qc9 [some (.k,d0),some (.k,d1)]>>=retF false):=rfl
theorem QrR(F:FunV K "_law_cell" "_law_cell" Qhc f fd dV)(z_len:mg "len"=none):"f"^1 ["_law_script","_law_k"] false Qas:=
 (@fnV P w K mg base CT false _ _ _ f fd dV _ _ 0 Qc9 F Qqg fun cdv A outer s H E G hr=>
  (Qh (ds_if (dt_lt (cn (Qa 1)) (cn (QU gr z_len (Qo (cn (Qa 0)) Qu)))) (Qg (Qy (de_ix (Qa 0) (cn (Qa 1))))) QJ) (Qg (Qy Qe))) :)
abbrev QfC:Stmt:=top 12
theorem Qr0:Qn ["one","other"] ["one","other"] (Qd QfC):=⟨rfl,rfl,rfl,dk,rfl,dk,dk⟩
abbrev QoQ:PySem.Scope:={ kind:=PySem.ScopeKind.function,names:=[ (PySem.Str.ofString ".0",PySem.NameKind.local),(PySem.Str.ofString "each",PySem.NameKind.local),(PySem.Str.ofString "more",PySem.NameKind.local)],isGenerator:=false,isCoroutine:=false,more:=[]:PySem.Scope }
theorem Qf9:Qz ["each","more"] [none,none] QoQ (Qd QfC) ["one","other"]:=⟨rfl,dk,dk,rfl,dk,dk⟩
def QiZ:SD->Out D:=(e2 dAdd (eVar 0) (eVar 1))
def QfX:SD->Out Fl:=(sRetF (eComp [none,none] (itZ (eVar 0) (eVar 1)) (gT [0,1]) cTrue QiZ))
def QcI:List D->Out D:=bodyF true 2 2 QfX
theorem QsR(d0 d1:D):QcI [d0,d1]=(QfX [some (.k,d0),some (.k,d1)]>>=retF true):=rfl
theorem Qug(F:FunV K "sums_of" "sums_of" QfC f fd dV)(z_zip:mg "zip"=none):"f"^1 ["one","other"] true QcI:=
 (@fnV P w K mg base CT true _ _ _ f fd dV _ _ 0 QfX F Qr0 fun cdv A outer s H E G hr=>
  (Qg (QaR (QM rfl Qf9 (cy (QsS gr z_zip (Qa 0) (Qa 1))) (fun ς=>Qov (fun i hi=>Qp (by revert hi;revert i;decide) ς)) (Qfj _) (fun fp s H G p=>⟨(Qik rfl (Q3 (i:=0) Qf9.nd rfl (oi rfl) (Q3 (i:=1) Qf9.nd rfl (oi rfl) QcN (hf:=Or.inr rfl)) (hf:=Or.inr rfl))),QB,(QQ (cn (Qa 0)) (cn (Qa 1)))⟩)))) :)
abbrev QbZ:Stmt:=top 13
theorem Qdk:Qn ["rows","sums","row"] ["rows"] (Qd QbZ):=⟨rfl,rfl,rfl,dk,rfl,dk,dk⟩
abbrev QiS:PySem.Scope:={ kind:=PySem.ScopeKind.function,names:=[(PySem.Str.ofString ".0",PySem.NameKind.local),(PySem.Str.ofString "each",PySem.NameKind.local)],isGenerator:=false,isCoroutine:=false,more:=[]:PySem.Scope }
theorem Qfm:Qz ["each"] [none] QiS (Qd QbZ) ["rows","sums","row"]:=⟨rfl,dk,dk,rfl,dk,dk⟩
def QcA:SD->Out D:=(eC (.int 0))
def QaV:SD->Out Fl:=(QaP 1 (eA (fun xs=>QcI (xs++[])) (aCons (eIxO 1 (e1 dNeg (eC (.int 1)))) (aCons (eVar 2) aNil))))
def QbW:SD->Out Fl:=(sSeq (sSetO 1 (eLst (aCons (eComp [none] (itL (e2 dIx (eVar 0) (eC (.int 0)))) (gN 0) cTrue QcA) aNil))) (sSeq (sFor (gN 2) (itL (eVar 0)) QaV) (sRetO 1)))
def QaA:List D->Out D:=bodyF true 1 3 QbW
theorem Ql5(d0:D):QaA [d0]=(QbW [some (.k,d0),none,none]>>=retF true):=rfl
theorem QlA(F:FunV K "running_sums" "running_sums" QbZ f fd dV)(Qtt:"e"^QcI "sums_of" 1 true):"f"^2 ["rows"] true QaA:=
 (@fnV P w K mg base CT true _ _ _ f fd dV _ _ 1 QbW F Qdk fun cdv A outer s H E G hr=>
  (Qh (QdS (i:=1) Qdk.nd rfl (oi rfl) (Qav (Qc (cm (QM rfl Qfm (cy (QL (de_ix (Qa 0) (cn Qe)))) (fun ς=>QA (Qp rfl ς)) (Qs _) (fun fp s H G p=>⟨(Qx (i:=0) Qfm.nd rfl (oi rfl) (hf:=Or.inr rfl)),QB,Qe⟩))) Qk))) (Qh (Qbl ay rfl (QL (Qa 0)) (Qx (i:=2) Qdk.nd rfl (oi rfl)) (Qs _) (Qg (QbO 1 (de_f Qtt (Rm hr) (Qc (Qxi 1 (cn (QoK (cn Qe))) rfl (oi rfl)) (Qc (Qa 2) Qk)) gr) rfl (oi rfl)))) (Qg (Qlw 1 rfl (oi rfl))))) :)
abbrev Qbf:Stmt:=inCls (top 14) 1
theorem QhQ:Qn ["self","rows"] ["self","rows"] (Qd Qbf):=⟨rfl,rfl,rfl,dk,rfl,dk,dk⟩
abbrev Qhd:PySem.Scope:={ kind:=PySem.ScopeKind.function,names:=[ (PySem.Str.ofString ".0",PySem.NameKind.local),(PySem.Str.ofString "row",PySem.NameKind.local),(PySem.Str.ofString "list",PySem.NameKind.globalImplicit)],isGenerator:=false,isCoroutine:=false,more:=[]:PySem.Scope }
theorem Qdn:Qz ["row"] [none] Qhd (Qd Qbf) ["self","rows"]:=⟨rfl,dk,dk,rfl,dk,dk⟩
def QbF:SD->Out D:=(e1 dList (eVar 0))
def Qbg:SD->Out Fl:=(sSeq (fun ς=>noX (sFldS Ql "table" 0 (eComp [none] (itL (eVar 1)) (gN 0) cTrue QbF) ς)) (fun ς=>noX (sFldS Ql "heads" 0 (eA (fun xs=>QaA (xs++[])) (aCons (eVar 1) aNil)) ς)))
def QG:Str->List (Str×D)->List D->Out (List (Str×D)):=bodyI 2 2 Qbg
theorem QiO(c:Str)(fds:List (Str×D))(d1:D):QG c fds [d1]=(Qbg [some (.s,.ins c fds),some (.k,d1)]>>=QbP c):=rfl
theorem QiR(F:FunV K "keep_rows" "Clerk.keep_rows" Qbf f fd dV)(QlH:"e"^QaA "running_sums" 2 true)(z_list:mg "list"=none)(fo_table:FldOk K CT Ql "table")(fo_heads:FldOk K CT Ql "heads"):FnOk P w K mg base (CXR P w) 3 f fd ["self","rows"] (SpI K CT QG):=
 (@fnI P w K mg base CT _ _ _ f fd dV _ _ 2 Qbg F QhQ fun cdv A outer s H E G p hr=>
  (Qh (cz (QcL 0 fo_table (cm (QM rfl Qdn (cy (QL (Qa 1))) (fun ς=>QA (Qp rfl ς)) (Qs _) (fun fp s H G p=>⟨(Qx (i:=0) Qdn.nd rfl (oi rfl) (hf:=Or.inr rfl)),QB,(cm (QbD gr z_list (Qa 0)))⟩))) rfl (oi rfl))) (Qg (cz (QcL 0 fo_heads (de_f QlH (Rm hr) (Qc (Qa 1) Qk) gr) rfl (oi rfl))))) :)
abbrev Qhe:Stmt:=top 6
theorem QpH:Qn ["thing"] ["thing"] (Qd Qhe):=⟨rfl,rfl,rfl,dk,rfl,dk,dk⟩
def QeX:SD->Out Fl:=(sRet (eAnd (eIsa (isaT "int") (eVar 0)) (eNot (eIsa (isaT "bool") (eVar 0)))))
def Qdl:List D->Out D:=bodyF false 1 1 QeX
theorem QrY(d0:D):Qdl [d0]=(QeX [some (.k,d0)]>>=retF false):=rfl
theorem Qsi(F:FunV K "is_whole" "is_whole" Qhe f fd dV)(z_isinstance:mg "isinstance"=none)(z_int:mg "int"=none)(z_bool:mg "bool"=none):"f"^1 ["thing"] false Qdl:=
 (@fnV P w K mg base CT false _ _ _ f fd dV _ _ 0 QeX F QpH fun cdv A outer s H E G hr=>
  (Qg (Qy (QbS (QaG "int" QqW gr z_int PyProof.Rows.Boot.«int» gr z_isinstance (cn (Qa 0))) (Qep (Qti (QaG "bool" Qjz gr z_bool PyProof.Rows.Boot.«bool» gr z_isinstance (cn (Qa 0)))))))) :)
abbrev Qgf:Stmt:=top 7
theorem QnY:Qn ["thing","least","most"] ["thing","least","most"] (Qd Qgf):=⟨rfl,rfl,rfl,dk,rfl,dk,dk⟩
def Qd1:SD->Out Fl:=(sRet (eAnd (eA (fun xs=>Qdl (xs++[])) (aCons (eVar 0) aNil)) (Qa6 dLe dLe (eVar 1) (eVar 0) (eVar 2))))
def Qah:List D->Out D:=bodyF false 3 3 Qd1
theorem Qpy(d0 d1 d2:D):Qah [d0,d1,d2]=(Qd1 [some (.k,d0),some (.k,d1),some (.k,d2)]>>=retF false):=rfl
theorem QqH(F:FunV K "is_within" "is_within" Qgf f fd dV)(Qsr:"e"^Qdl "is_whole" 1 false):"f"^2 ["thing","least","most"] false Qah:=
 (@fnV P w K mg base CT false _ _ _ f fd dV _ _ 1 Qd1 F QnY fun cdv A outer s H E G hr=>
  (Qg (Qy (QbS (de_f Qsr (Rm hr) (Qc (Qa 0) Qk) gr) (Qep (QnF op_le Qa1 (QaJ fun _ _=>rfl) op_le Qa1 (QaJ fun _ _=>rfl) (cn (Qa 1)) (cn (Qa 0)) (cn (Qa 2))))))) :)
abbrev Qhl:Stmt:=top 20
theorem Qta:Qn ["thing"] ["thing"] (Qd Qhl):=⟨rfl,rfl,rfl,dk,rfl,dk,dk⟩
abbrev Qo7:PySem.Scope:={ kind:=PySem.ScopeKind.function,names:=[ (PySem.Str.ofString ".0",PySem.NameKind.local),(PySem.Str.ofString "count",PySem.NameKind.local),(PySem.Str.ofString "is_within",PySem.NameKind.globalImplicit),(PySem.Str.ofString "MOST_SENT",PySem.NameKind.globalImplicit)],isGenerator:=false,isCoroutine:=false,more:=[]:PySem.Scope }
theorem QjU:Qz ["count"] [none] Qo7 (Qd Qhl) ["thing"]:=⟨rfl,dk,dk,rfl,dk,dk⟩
def Qg8:SD->Out D:=(eA (fun xs=>Qah (xs++[])) (aCons (eVar 0) (aCons (eC (.int 0)) (aCons (eC (.int 9)) aNil))))
def Qhm:SD->Out Fl:=(sSeq (sIf (tOr' (tNot' (tVal (eIsa (isaT "list") (eVar 0)))) (tVal (e2 dGt (eA fLen (aCons (eVar 0) aNil)) (eC (.int 6))))) (sRet (eC (.bl false))) sNil) (sRet (eA (f1 fAll) (aCons (eComp [none] (itL (eVar 0)) (gN 0) cTrue Qg8) aNil))))
def QcF:List D->Out D:=bodyF false 1 1 Qhm
theorem Qu6(d0:D):QcF [d0]=(Qhm [some (.k,d0)]>>=retF false):=rfl
theorem QuP{u_MOST_OUTS:Value}{u_MOST_SENT:Value}(F:FunV K "is_row" "is_row" Qhl f fd dV)(Qbd:"e"^Qah "is_within" 2 false)(z_isinstance:mg "isinstance"=none)(z_list:mg "list"=none)(z_len:mg "len"=none)(z_all:mg "all"=none)(c_MOST_OUTS:mg "MOST_OUTS"=some u_MOST_OUTS)(r_MOST_OUTS:RelV (toV (.int 6)) u_MOST_OUTS)(c_MOST_SENT:mg "MOST_SENT"=some u_MOST_SENT)(r_MOST_SENT:RelV (toV (.int 9)) u_MOST_SENT):"f"^3 ["thing"] false QcF:=
 (@fnV P w K mg base CT false _ _ _ f fd dV _ _ 2 Qhm F Qta fun cdv A outer s H E G hr=>
  (Qh (ds_if (cv (dw_or (QT (QR (QaG "list" Qfv gr z_list PyProof.Rows.Boot.«list» gr z_isinstance (cn (Qa 0))))) (QaY (dt_gt (cn (QU gr z_len (Qo (cn (Qa 0)) Qu))) (cn (QbE (d:=(.int 6)) gr c_MOST_OUTS rfl r_MOST_OUTS)))))) (Qg (Qy de_bl)) QJ) (Qg (Qy (Qej rfl gr z_all (Qo (cn (cm (QM rfl QjU (cy (QL (Qa 0))) (fun ς=>QA (Qp rfl ς)) (Qs _) (fun fp s H G p=>⟨(Qx (i:=0) QjU.nd rfl (oi rfl) (hf:=Or.inr rfl)),QB,(de_f Qbd (Rm hr) (Qc (Qa 0) (Qc Qe (Qc (QbE (d:=(.int 9)) gr c_MOST_SENT rfl r_MOST_SENT) Qk))) gr)⟩)))) Qu))))) :)
abbrev Qdi:Stmt:=top 21
theorem Qpu:Qn ["thing"] ["thing"] (Qd Qdi):=⟨rfl,rfl,rfl,dk,rfl,dk,dk⟩
abbrev Qnh:PySem.Scope:={ kind:=PySem.ScopeKind.function,names:=[ (PySem.Str.ofString ".0",PySem.NameKind.local),(PySem.Str.ofString "row",PySem.NameKind.local),(PySem.Str.ofString "is_row",PySem.NameKind.globalImplicit)],isGenerator:=false,isCoroutine:=false,more:=[]:PySem.Scope }
theorem QhN:Qz ["row"] [none] Qnh (Qd Qdi) ["thing"]:=⟨rfl,dk,dk,rfl,dk,dk⟩
def Qfd:SD->Out D:=(eA (fun xs=>QcF (xs++[])) (aCons (eVar 0) aNil))
abbrev QmR:PySem.Scope:={ kind:=PySem.ScopeKind.function,names:=[ (PySem.Str.ofString ".0",PySem.NameKind.local),(PySem.Str.ofString "row",PySem.NameKind.local),(PySem.Str.ofString "len",PySem.NameKind.globalImplicit),(PySem.Str.ofString "thing",PySem.NameKind.free)],isGenerator:=false,isCoroutine:=false,more:=[]:PySem.Scope }
theorem QhT:Qz ["row","thing"] [none,some 0] QmR (Qd Qdi) ["thing"]:=⟨rfl,dk,dk,rfl,dk,dk⟩
def Qft:SD->Out D:=(e2 dEq (eA fLen (aCons (eVar 0) aNil)) (eA fLen (aCons (e2 dIx (eVar 1) (eC (.int 0))) aNil)))
def QeR:SD->Out Fl:=(sSeq (sIf (tOr' (tNot' (tVal (eIsa (isaT "list") (eVar 0)))) (tNot' (tVal (Qa6 dLe dLe (eC (.int 1)) (eA fLen (aCons (eVar 0) aNil)) (eC (.int 12)))))) (sRet (eC (.bl false))) sNil) (sSeq (sIf (tNot' (tVal (eA (f1 fAll) (aCons (eComp [none] (itL (eVar 0)) (gN 0) cTrue Qfd) aNil)))) (sRet (eC (.bl false))) sNil) (sRet (eA (f1 fAll) (aCons (eComp [none,some 0] (itL (eVar 0)) (gN 0) cTrue Qft) aNil)))))
def Qc7:List D->Out D:=bodyF false 1 1 QeR
theorem Qrv(d0:D):Qc7 [d0]=(QeR [some (.k,d0)]>>=retF false):=rfl
theorem QrK{u_MOST_ROWS:Value}(F:FunV K "is_table" "is_table" Qdi f fd dV)(QjL:"e"^QcF "is_row" 3 false)(z_isinstance:mg "isinstance"=none)(z_list:mg "list"=none)(z_len:mg "len"=none)(z_all:mg "all"=none)(c_MOST_ROWS:mg "MOST_ROWS"=some u_MOST_ROWS)(r_MOST_ROWS:RelV (toV (.int 12)) u_MOST_ROWS):"f"^4 ["thing"] false Qc7:=
 (@fnV P w K mg base CT false _ _ _ f fd dV _ _ 3 QeR F Qpu fun cdv A outer s H E G hr=>
  (Qh (ds_if (cv (dw_or (QT (QR (QaG "list" Qfv gr z_list PyProof.Rows.Boot.«list» gr z_isinstance (cn (Qa 0))))) (QaY (QT (Qoa op_le Qa1 (QaJ fun _ _=>rfl) op_le Qa1 (QaJ fun _ _=>rfl) (cn Qe) (cn (QU gr z_len (Qo (cn (Qa 0)) Qu))) (cn (QbE (d:=(.int 12)) gr c_MOST_ROWS rfl r_MOST_ROWS))))))) (Qg (Qy de_bl)) QJ) (Qh (ds_if (QT (QR (Qej rfl gr z_all (Qo (cn (cm (QM rfl QhN (cy (QL (Qa 0))) (fun ς=>QA (Qp rfl ς)) (Qs _) (fun fp s H G p=>⟨(Qx (i:=0) QhN.nd rfl (oi rfl) (hf:=Or.inr rfl)),QB,(de_f QjL (Rm hr) (Qc (Qa 0) Qk) gr)⟩)))) Qu)))) (Qg (Qy de_bl)) QJ) (Qg (Qy (Qej rfl gr z_all (Qo (cn (cm (QM rfl QhT (cy (QL (Qa 0))) (fun ς=>QA (Qp rfl ς)) (Qs _) (fun fp s H G p=>⟨(Qx (i:=0) QhT.nd rfl (oi rfl) (hf:=Or.inr rfl)),QB,(de_eq hr.units (cn (QU gr z_len (Qo (cn (Qa 0)) Qu))) (cn (QU gr z_len (Qo (cn (de_ix (Qa 1) (cn Qe))) Qu))))⟩)))) Qu)))))) :)
abbrev Qgi:Stmt:=inCls (top 18) 0
theorem QoF:Qn ["self","rows"] ["self","rows"] (Qd Qgi):=⟨rfl,rfl,rfl,dk,rfl,dk,dk⟩
def Qd8:SD->Out Fl:=(sSeq (fun ς=>noX ((sIf (tNot' (tVal (eA (fun xs=>Qc7 (xs++[])) (aCons (eVar 1) aNil)))) Qc2 sNil) ς)) (Qek Qb "keep_rows" QG 0 (fun ς=>noX ((aCons (eVar 1) aNil) ς))))
def Qa7:Str->List (Str×D)->List D->Out (List (Str×D)):=bodyI 2 2 Qd8
theorem Qqv(c:Str)(fds:List (Str×D))(d1:D):Qa7 c fds [d1]=(Qd8 [some (.s,.ins c fds),some (.k,d1)]>>=QbP c):=rfl
theorem Qo9(F:FunV K "__init__" "Rows.__init__" Qgi f fd dV)(QrS:"e"^Qc7 "is_table" 4 false)(ms_keep_rows:MtOk P w K mg base CT (CXR P w) "keep_rows" 3 Qb (fun _=>SpI K CT QG)):FnOk P w K mg base (CXR P w) 5 f fd ["self","rows"] (SpI K CT Qa7):=
 (@fnI P w K mg base CT _ _ _ f fd dV _ _ 4 Qd8 F QoF fun cdv A outer s H E G p hr=>
  (Qh (cz (ds_if (QT (QR (de_f QrS (Rm hr) (Qc (Qa 1) Qk) gr))) (Qg QbM) QJ)) (Qg (Qhi 0 Qka ms_keep_rows (Rm hr) (DA.lift (Qc (Qa 1) Qk)) rfl (oi rfl)))) :)
abbrev Qc5:Stmt:=top 19
theorem QmF:Qn ["many","place"] ["many","place"] (Qd Qc5):=⟨rfl,rfl,rfl,dk,rfl,dk,dk⟩
abbrev Qkg:PySem.Scope:={ kind:=PySem.ScopeKind.function,names:=[ (PySem.Str.ofString ".0",PySem.NameKind.local),(PySem.Str.ofString "out",PySem.NameKind.local),(PySem.Str.ofString "place",PySem.NameKind.free)],isGenerator:=false,isCoroutine:=false,more:=[]:PySem.Scope }
theorem Qgw:Qz ["out","place"] [none,some 1] Qkg (Qd Qc5) ["many","place"]:=⟨rfl,dk,dk,rfl,dk,dk⟩
def Qdx:SD->Out D:=(eIf (tVal (e2 dEq (eVar 0) (eVar 1))) (eC (.int 1)) (eC (.int 0)))
def Qde:SD->Out Fl:=(sRetF (eComp [none,some 1] (itR1 (eVar 0)) (gN 0) cTrue Qdx))
def QbT:List D->Out D:=bodyF true 2 2 Qde
theorem Qor(d0 d1:D):QbT [d0,d1]=(Qde [some (.k,d0),some (.k,d1)]>>=retF true):=rfl
theorem Qnu(F:FunV K "single_row" "single_row" Qc5 f fd dV)(z_range:mg "range"=none):"f"^1 ["many","place"] true QbT:=
 (@fnV P w K mg base CT true _ _ _ f fd dV _ _ 0 Qde F QmF fun cdv A outer s H E G hr=>
  (Qg (QaR (QM rfl Qgw (cy (Qaj gr z_range (cn (Qa 0)))) (fun ς=>QA (Qp rfl ς)) (Qs _) (fun fp s H G p=>⟨(Qx (i:=0) Qgw.nd rfl (oi rfl) (hf:=Or.inr rfl)),QB,(de_if (dt_eq hr.units (cn (Qa 0)) (cn (Qa 1))) Qe Qe)⟩)))) :)
abbrev Qd6:Stmt:=inCls (top 15) 0
theorem Qow:Qn ["self","many"] ["self","many"] (Qd Qd6):=⟨rfl,rfl,rfl,dk,rfl,dk,dk⟩
abbrev Qlj:PySem.Scope:={ kind:=PySem.ScopeKind.function,names:=[ (PySem.Str.ofString ".0",PySem.NameKind.local),(PySem.Str.ofString "state",PySem.NameKind.local),(PySem.Str.ofString "single_row",PySem.NameKind.globalImplicit),(PySem.Str.ofString "many",PySem.NameKind.free)],isGenerator:=false,isCoroutine:=false,more:=[]:PySem.Scope }
theorem QhA:Qz ["state","many"] [none,some 1] Qlj (Qd Qd6) ["self","many"]:=⟨rfl,dk,dk,rfl,dk,dk⟩
def QeI:SD->Out D:=(eA (fun xs=>QbT (xs++[])) (aCons (eVar 1) (aCons (eVar 0) aNil)))
def QdW:SD->Out Fl:=(sSeq (fun ς=>noX ((sIf (tNot' (tVal (eA (fun xs=>Qah (xs++[])) (aCons (eVar 1) (aCons (eC (.int 1)) (aCons (eC (.int 6)) aNil)))))) Qc2 sNil) ς)) (Qek Qb "keep_rows" QG 0 (fun ς=>noX ((aCons (eComp [none,some 1] (itR1 (eVar 1)) (gN 0) cTrue QeI) aNil) ς))))
def Qbc:Str->List (Str×D)->List D->Out (List (Str×D)):=bodyI 2 2 QdW
theorem Qpw(c:Str)(fds:List (Str×D))(d1:D):Qbc c fds [d1]=(QdW [some (.s,.ins c fds),some (.k,d1)]>>=QbP c):=rfl
theorem QpP{u_MOST_OUTS:Value}(F:FunV K "__init__" "Deal.__init__" Qd6 f fd dV)(Qbd:"e"^Qah "is_within" 2 false)(QoN:"e"^QbT "single_row" 1 true)(z_range:mg "range"=none)(c_MOST_OUTS:mg "MOST_OUTS"=some u_MOST_OUTS)(r_MOST_OUTS:RelV (toV (.int 6)) u_MOST_OUTS)(ms_keep_rows:MtOk P w K mg base CT (CXR P w) "keep_rows" 3 Qb (fun _=>SpI K CT QG)):FnOk P w K mg base (CXR P w) 4 f fd ["self","many"] (SpI K CT Qbc):=
 (@fnI P w K mg base CT _ _ _ f fd dV _ _ 3 QdW F Qow fun cdv A outer s H E G p hr=>
  (Qh (cz (ds_if (QT (QR (de_f Qbd (Rm hr) (Qc (Qa 1) (Qc Qe (Qc (QbE (d:=(.int 6)) gr c_MOST_OUTS rfl r_MOST_OUTS) Qk))) gr))) (Qg QbM) QJ)) (Qg (Qhi 0 Qka ms_keep_rows (Rm hr) (DA.lift (Qc (cm (QM rfl QhA (cy (Qaj gr z_range (cn (Qa 1)))) (fun ς=>QA (Qp rfl ς)) (Qs _) (fun fp s H G p=>⟨(Qx (i:=0) QhA.nd rfl (oi rfl) (hf:=Or.inr rfl)),QB,(de_f QoN (Rm hr) (Qc (Qa 1) (Qc (Qa 0) Qk)) gr)⟩))) Qk)) rfl (oi rfl)))) :)
abbrev Qcp:Stmt:=inCls (top 16) 0
theorem Qll:Qn ["self","size"] ["self","size"] (Qd Qcp):=⟨rfl,rfl,rfl,dk,rfl,dk,dk⟩
abbrev Qjk:PySem.Scope:={ kind:=PySem.ScopeKind.function,names:=[ (PySem.Str.ofString ".0",PySem.NameKind.local),(PySem.Str.ofString "state",PySem.NameKind.local),(PySem.Str.ofString "size",PySem.NameKind.free)],isGenerator:=false,isCoroutine:=false,more:=[]:PySem.Scope }
theorem QfF:Qz ["state","size"] [none,some 1] Qjk (Qd Qcp) ["self","size"]:=⟨rfl,dk,dk,rfl,dk,dk⟩
def Qdh:SD->Out D:=(eLst (aCons (eIf (tVal (e2 dEq (eVar 0) (e2 dSub (eVar 1) (eC (.int 1))))) (eC (.int 1)) (eC (.int 0))) aNil))
def Qcv:SD->Out Fl:=(sSeq (fun ς=>noX ((sIf (tNot' (tVal (eA (fun xs=>Qah (xs++[])) (aCons (eVar 1) (aCons (eC (.int 1)) (aCons (eC (.int 12)) aNil)))))) Qc2 sNil) ς)) (Qek Qb "keep_rows" QG 0 (fun ς=>noX ((aCons (eComp [none,some 1] (itR1 (eVar 1)) (gN 0) cTrue Qdh) aNil) ς))))
def QaH:Str->List (Str×D)->List D->Out (List (Str×D)):=bodyI 2 2 Qcv
theorem Qm3(c:Str)(fds:List (Str×D))(d1:D):QaH c fds [d1]=(Qcv [some (.s,.ins c fds),some (.k,d1)]>>=QbP c):=rfl
theorem QmN{u_MOST_ROWS:Value}(F:FunV K "__init__" "Bundle.__init__" Qcp f fd dV)(Qbd:"e"^Qah "is_within" 2 false)(z_range:mg "range"=none)(c_MOST_ROWS:mg "MOST_ROWS"=some u_MOST_ROWS)(r_MOST_ROWS:RelV (toV (.int 12)) u_MOST_ROWS)(ms_keep_rows:MtOk P w K mg base CT (CXR P w) "keep_rows" 3 Qb (fun _=>SpI K CT QG)):FnOk P w K mg base (CXR P w) 4 f fd ["self","size"] (SpI K CT QaH):=
 (@fnI P w K mg base CT _ _ _ f fd dV _ _ 3 Qcv F Qll fun cdv A outer s H E G p hr=>
  (Qh (cz (ds_if (QT (QR (de_f Qbd (Rm hr) (Qc (Qa 1) (Qc Qe (Qc (QbE (d:=(.int 12)) gr c_MOST_ROWS rfl r_MOST_ROWS) Qk))) gr))) (Qg QbM) QJ)) (Qg (Qhi 0 Qka ms_keep_rows (Rm hr) (DA.lift (Qc (cm (QM rfl QfF (cy (Qaj gr z_range (cn (Qa 1)))) (fun ς=>QA (Qp rfl ς)) (Qs _) (fun fp s H G p=>⟨(Qx (i:=0) QfF.nd rfl (oi rfl) (hf:=Or.inr rfl)),QB,(cm (Qav (Qc (de_if (dt_eq hr.units (cn (Qa 0)) (cn (QgO (cn (Qa 1)) (cn Qe)))) Qe Qe) Qk)))⟩))) Qk)) rfl (oi rfl)))) :)
abbrev Qgp:Stmt:=inCls (top 17) 0
theorem Qon:Qn ["self","counts"] ["self","counts"] (Qd Qgp):=⟨rfl,rfl,rfl,dk,rfl,dk,dk⟩
def QdU:SD->Out Fl:=(sSeq (fun ς=>noX ((sIf (tNot' (tVal (eA (fun xs=>QcF (xs++[])) (aCons (eVar 1) aNil)))) Qc2 sNil) ς)) (Qek Qb "keep_rows" QG 0 (fun ς=>noX ((aCons (eLst (aCons (eVar 1) aNil)) aNil) ς))))
def Qa8:Str->List (Str×D)->List D->Out (List (Str×D)):=bodyI 2 2 QdU
theorem Qqt(c:Str)(fds:List (Str×D))(d1:D):Qa8 c fds [d1]=(QdU [some (.s,.ins c fds),some (.k,d1)]>>=QbP c):=rfl
theorem QpF(F:FunV K "__init__" "Copy.__init__" Qgp f fd dV)(QjL:"e"^QcF "is_row" 3 false)(ms_keep_rows:MtOk P w K mg base CT (CXR P w) "keep_rows" 3 Qb (fun _=>SpI K CT QG)):FnOk P w K mg base (CXR P w) 4 f fd ["self","counts"] (SpI K CT Qa8):=
 (@fnI P w K mg base CT _ _ _ f fd dV _ _ 3 QdU F Qon fun cdv A outer s H E G p hr=>
  (Qh (cz (ds_if (QT (QR (de_f QjL (Rm hr) (Qc (Qa 1) Qk) gr))) (Qg QbM) QJ)) (Qg (Qhi 0 Qka ms_keep_rows (Rm hr) (DA.lift (Qc (cm (Qav (Qc (Qa 1) Qk))) Qk)) rfl (oi rfl)))) :)
abbrev Qam:Stmt:=top 46
theorem Q8:Qn ["_law_number","_law_size","_law_many","_law_rows","_law_s","_law_texts"] ["_law_number"] (Qd Qam):=⟨rfl,rfl,rfl,dk,rfl,dk,dk⟩
abbrev Qgs:PySem.Scope:={ kind:=PySem.ScopeKind.function,names:=[ (PySem.Str.ofString ".0",PySem.NameKind.local),(PySem.Str.ofString "_law_s",PySem.NameKind.cell),(PySem.Str.ofString "range",PySem.NameKind.globalImplicit),(PySem.Str.ofString "_law_many",PySem.NameKind.free)],isGenerator:=false,isCoroutine:=false,more:=[]:PySem.Scope }
theorem QhB:Qz ["_law_s","_law_many"] [none,some 2] Qgs (Qd Qam) ["_law_number","_law_size","_law_many","_law_rows","_law_s","_law_texts"]:=⟨rfl,dk,dk,rfl,dk,dk⟩
abbrev Ql4:PySem.Scope:={ kind:=PySem.ScopeKind.function,names:=[ (PySem.Str.ofString ".0",PySem.NameKind.local),(PySem.Str.ofString "_law_k",PySem.NameKind.local),(PySem.Str.ofString "int",PySem.NameKind.globalImplicit),(PySem.Str.ofString "_law_s",PySem.NameKind.free)],isGenerator:=false,isCoroutine:=false,more:=[]:PySem.Scope }
theorem Qht:Qz ["_law_k","_law_s"] [none,some 0] Ql4 (Qbs Qgs (Qd Qam)) ["_law_s","_law_many"]:=⟨rfl,dk,dk,rfl,dk,dk⟩
def Qhv:SD->Out D:=(eA (f1 dInt) (aCons (e2 dEq (eVar 0) (eVar 1)) aNil))
def Qet:SD->Out D:=(eComp [none,some 0] (itR1 (eVar 1)) (gN 0) cTrue Qhv)
abbrev QkK:PySem.Scope:={ kind:=PySem.ScopeKind.function,names:=[ (PySem.Str.ofString ".0",PySem.NameKind.local),(PySem.Str.ofString "_law_s",PySem.NameKind.local),(PySem.Str.ofString "int",PySem.NameKind.globalImplicit),(PySem.Str.ofString "_law_many",PySem.NameKind.free)],isGenerator:=false,isCoroutine:=false,more:=[]:PySem.Scope }
theorem Qhx:Qz ["_law_s","_law_many"] [none,some 2] QkK (Qd Qam) ["_law_number","_law_size","_law_many","_law_rows","_law_s","_law_texts"]:=⟨rfl,dk,dk,rfl,dk,dk⟩
def QeG:SD->Out D:=(eLst (aCons (eA (f1 dInt) (aCons (e2 dEq (eVar 0) (e2 dSub (eVar 1) (eC (.int 1)))) aNil)) aNil))
abbrev QkN:PySem.Scope:={ kind:=PySem.ScopeKind.function,names:=[ (PySem.Str.ofString ".0",PySem.NameKind.local),(PySem.Str.ofString "_law_k",PySem.NameKind.local),(PySem.Str.ofString "_law_number",PySem.NameKind.free),(PySem.Str.ofString "_law_s",PySem.NameKind.free)],isGenerator:=false,isCoroutine:=false,more:=[]:PySem.Scope }
theorem Qhw:Qz ["_law_k","_law_number","_law_s"] [none,some 0,some 4] QkN (Qd Qam) ["_law_number","_law_size","_law_many","_law_rows","_law_s","_law_texts"]:=⟨rfl,dk,dk,rfl,dk,dk⟩
def QeK:SD->Out D:=(e2 dMod (e2 dMod (e2 dMul (eVar 1) (e2 dAdd (e2 dAdd (e2 dMul (eC (.int 7)) (eVar 2)) (e2 dMul (eC (.int 2)) (eVar 0))) (eC (.int 3)))) (eC (.int 1000003))) (eC (.int 10)))
def Qbx:SD->Out Fl:=(QaP 3 (eComp [none,some 0,some 4] (itR1 (e2 dMod (eVar 1) (eC (.int 7)))) (gN 0) cTrue QeK))
abbrev Qgz:PySem.Scope:={ kind:=PySem.ScopeKind.function,names:=[(PySem.Str.ofString ".0",PySem.NameKind.local),(PySem.Str.ofString "_law_row",PySem.NameKind.local)],isGenerator:=false,isCoroutine:=false,more:=[]:PySem.Scope }
theorem Qhr:Qz ["_law_row"] [none] Qgz (Qd Qam) ["_law_number","_law_size","_law_many","_law_rows","_law_s","_law_texts"]:=⟨rfl,dk,dk,rfl,dk,dk⟩
abbrev Qk0:PySem.Scope:={ kind:=PySem.ScopeKind.function,names:=[ (PySem.Str.ofString ".0",PySem.NameKind.local),(PySem.Str.ofString "_law_count",PySem.NameKind.local),(PySem.Str.ofString "str",PySem.NameKind.globalImplicit)],isGenerator:=false,isCoroutine:=false,more:=[]:PySem.Scope }
theorem Qhz:Qz ["_law_count"] [none] Qk0 (Qbs Qgz (Qd Qam)) ["_law_row"]:=⟨rfl,dk,dk,rfl,dk,dk⟩
def Qew:SD->Out D:=(eA (f1 dStr) (aCons (eVar 0) aNil))
def Qby:SD->Out D:=(eSm fJoin (eC (.str ",")) (aCons (eComp [none] (itL (eVar 0)) (gN 0) cTrue Qew) aNil))
abbrev QkG:PySem.Scope:={ kind:=PySem.ScopeKind.function,names:=[ (PySem.Str.ofString ".0",PySem.NameKind.local),(PySem.Str.ofString "_law_row",PySem.NameKind.local),(PySem.Str.ofString "list",PySem.NameKind.globalImplicit)],isGenerator:=false,isCoroutine:=false,more:=[]:PySem.Scope }
theorem QhE:Qz ["_law_row"] [none] QkG (Qd Qam) ["_law_number","_law_size","_law_many","_law_rows","_law_s","_law_texts"]:=⟨rfl,dk,dk,rfl,dk,dk⟩
def Qeq:SD->Out D:=(e1 dList (eVar 0))
def Qea:SD->Out Fl:=(sSeq (sSet 1 (e2 dFdiv (eVar 0) (eC (.int 4)))) (sSeq (sIf (tVal (e2 dEq (e2 dMod (eVar 0) (eC (.int 4))) (eC (.int 0)))) (sSeq (sSet 2 (e2 dAdd (eC (.int 1)) (e2 dMod (eVar 1) (eC (.int 6))))) (sSeq (sSetO 3 (eComp [none,some 2] (itR1 (eVar 2)) (gN 0) cTrue Qet)) (fun ς=>(sRetF (eLst (aCons (eMake "Deal" Qbc (aCons (eVar 2) aNil)) (aCons (eVar 3) (aCons (e2 dAdd (eC (.str "deal ")) (eA (f1 dStr) (aCons (eVar 2) aNil))) aNil))))) (frz 3 ς)))) sNil) (sSeq (sIf (tVal (e2 dEq (e2 dMod (eVar 0) (eC (.int 4))) (eC (.int 1)))) (sSeq (sSet 2 (e2 dAdd (eC (.int 1)) (e2 dMod (eVar 1) (eC (.int 12))))) (sSeq (sSetO 3 (eComp [none,some 2] (itR1 (eVar 2)) (gN 0) cTrue QeG)) (fun ς=>(sRetF (eLst (aCons (eMake "Bundle" QaH (aCons (eVar 2) aNil)) (aCons (eVar 3) (aCons (e2 dAdd (eC (.str "bundle ")) (eA (f1 dStr) (aCons (eVar 2) aNil))) aNil))))) (frz 3 ς)))) sNil) (sSeq (sSet 2 (e2 dAdd (eC (.int 1)) (e2 dMul (e2 dMod (e2 dFdiv (eVar 1) (eC (.int 7))) (eC (.int 12))) (eA (f1 dInt) (aCons (e2 dEq (e2 dMod (eVar 0) (eC (.int 4))) (eC (.int 3))) aNil))))) (sSeq (sSetO 3 (eLst aNil)) (sSeq (sFor (gN 4) (itR1 (eVar 2)) Qbx) (sSeq (fun ς=>(sSet 5 (eComp [none] (itL (eVar 3)) (gN 0) cTrue Qby)) (frz 3 ς)) (sSeq (sIf (tVal (e2 dEq (e2 dMod (eVar 1) (eC (.int 7))) (eC (.int 0)))) (sSet 5 (e2 dRep (eLst (aCons (eC (.str "-")) aNil)) (eVar 2))) sNil) (sSeq (sIf (tVal (e2 dEq (e2 dMod (eVar 0) (eC (.int 4))) (eC (.int 2)))) (sRetF (eLst (aCons (eMake "Copy" Qa8 (aCons (e1 dList (e2 dIx (eVar 3) (eC (.int 0)))) aNil)) (aCons (eVar 3) (aCons (e2 dAdd (eC (.str "copy ")) (e2 dIx (eVar 5) (eC (.int 0)))) aNil))))) sNil) (sRetF (eLst (aCons (eMake "Rows" Qa7 (aCons (eComp [none] (itL (eVar 3)) (gN 0) cTrue Qeq) aNil)) (aCons (eVar 3) (aCons (e2 dAdd (eC (.str "rows ")) (eSm fJoin (eC (.str "/")) (aCons (eVar 5) aNil))) aNil))))))))))))))
def Qba:List D->Out D:=bodyF true 1 6 Qea
theorem QpB(d0:D):Qba [d0]=(Qea [some (.k,d0),none,none,none,none,none]>>=retF true):=rfl
theorem QpR(F:FunV K "_law_clerk" "_law_clerk" Qam f fd dV)(z_range:mg "range"=none)(z_int:mg "int"=none)(z_str:mg "str"=none)(z_list:mg "list"=none)(QlE:MkOk P w K mg base CT "Deal" 4 Qbc)(Qip:MkOk P w K mg base CT "Bundle" 4 QaH)(Qlm:MkOk P w K mg base CT "Copy" 4 Qa8)(QkF:MkOk P w K mg base CT "Rows" 5 Qa7):"f"^7 ["_law_number"] true Qba:=
 (@fnV P w K mg base CT true _ _ _ f fd dV _ _ 6 Qea F Q8 fun cdv A outer s H E G hr=>
  (Qh (Q4 (i:=1) Q8.nd rfl (oi rfl) (QbB (cn (Qa 0)) (cn Qe))) (Qh (ds_if (dt_eq hr.units (cn (QV (cn (Qa 0)) (cn Qe))) (cn Qe)) (Qh (Q4 (i:=2) Q8.nd rfl (Or.inr rfl) (QQ (cn Qe) (cn (QV (cn (Qa 1)) (cn Qe))))) (Qh (Qok (i:=3) rfl QhB (cy (Qaj gr z_range (cn (Qa 2)))) (fun ς=>QA (Qp rfl ς)) (Qs _) (fun fp s H G p=>⟨(Qx (i:=0) QhB.nd rfl (Or.inr rfl) (hf:=Or.inl rfl)),QB,(cm (QM rfl Qht (cy (Qaj gr z_range (cn (Qa 1)))) (fun ς=>QA (Qp rfl ς)) (Qs _) (fun fp s H G p=>⟨(Qx (i:=0) Qht.nd rfl (oi rfl) (hf:=Or.inr rfl)),QB,(Qiy gr z_int (Qo (cn (de_eq hr.units (cn (Qa 0)) (cn (Qa 1)))) Qu))⟩)))⟩) Q8.nd rfl (oi rfl)) (Qg (Qij 3 (QaR (Qav (Qc (cm (QgD rz0 QlE (Rm hr) (Qc (Qa 2) Qk) gr)) (Qc (Qa 3) (Qc (QQ (cn QW) (cn (Qe8 gr z_str (Qo (cn (Qa 2)) Qu)))) Qk))))))))) QJ) (Qh (ds_if (dt_eq hr.units (cn (QV (cn (Qa 0)) (cn Qe))) (cn Qe)) (Qh (Q4 (i:=2) Q8.nd rfl (Or.inr rfl) (QQ (cn Qe) (cn (QV (cn (Qa 1)) (cn Qe))))) (Qh (Qok (i:=3) rfl Qhx (cy (Qaj gr z_range (cn (Qa 2)))) (fun ς=>QA (Qp rfl ς)) (Qs _) (fun fp s H G p=>⟨(Qx (i:=0) Qhx.nd rfl (oi rfl) (hf:=Or.inr rfl)),QB,(cm (Qav (Qc (Qiy gr z_int (Qo (cn (de_eq hr.units (cn (Qa 0)) (cn (QgO (cn (Qa 1)) (cn Qe))))) Qu)) Qk)))⟩) Q8.nd rfl (oi rfl)) (Qg (Qij 3 (QaR (Qav (Qc (cm (QgD rz0 Qip (Rm hr) (Qc (Qa 2) Qk) gr)) (Qc (Qa 3) (Qc (QQ (cn QW) (cn (Qe8 gr z_str (Qo (cn (Qa 2)) Qu)))) Qk))))))))) QJ) (Qh (Q4 (i:=2) Q8.nd rfl (Or.inr rfl) (QQ (cn Qe) (cn (QbN (cn (QV (cn (QbB (cn (Qa 1)) (cn Qe))) (cn Qe))) (cn (Qiy gr z_int (Qo (cn (de_eq hr.units (cn (QV (cn (Qa 0)) (cn Qe))) (cn Qe))) Qu))))))) (Qh (QdS (i:=3) Q8.nd rfl (oi rfl) (Qav Qk)) (Qh (Qbl ay rfl (Qaj gr z_range (cn (Qa 2))) (Qx (i:=4) Q8.nd rfl (Or.inr rfl)) (Qs _) (Qg (QbO 3 (cm (QM rfl Qhw (cy (Qaj gr z_range (cn (QV (cn (Qa 1)) (cn Qe))))) (fun ς=>QA (Qp rfl ς)) (Qs _) (fun fp s H G p=>⟨(Qx (i:=0) Qhw.nd rfl (oi rfl) (hf:=Or.inr rfl)),QB,(QV (cn (QV (cn (QbN (cn (Qa 1)) (cn (QQ (cn (QQ (cn (QbN (cn Qe) (cn (Qa 2)))) (cn (QbN (cn Qe) (cn (Qa 0)))))) (cn Qe))))) (cn Qe))) (cn Qe))⟩))) rfl (oi rfl)))) (Qh (Qij 3 (QiA (i:=5) rfl Qhr (cy (QL (Qa 3))) (fun ς=>QA (Qp rfl ς)) (Qs _) (fun fp s H G p=>⟨(Qx (i:=0) Qhr.nd rfl (oi rfl) (hf:=Or.inr rfl)),QB,(QiG (cn QW) (cm (QM rfl Qhz (cy (QL (Qa 0))) (fun ς=>QA (Qp rfl ς)) (Qs _) (fun fp s H G p=>⟨(Qx (i:=0) Qhz.nd rfl (oi rfl) (hf:=Or.inr rfl)),QB,(Qe8 gr z_str (Qo (cn (Qa 0)) Qu))⟩))))⟩) Q8.nd rfl (oi rfl))) (Qh (ds_if (dt_eq hr.units (cn (QV (cn (Qa 1)) (cn Qe))) (cn Qe)) (Qg (Q4 (i:=5) Q8.nd rfl (oi rfl) (cm (Qty (Qav (Qc QW Qk)) (cn (Qa 2)))))) QJ) (Qh (ds_if (dt_eq hr.units (cn (QV (cn (Qa 0)) (cn Qe))) (cn Qe)) (Qg (QaR (Qav (Qc (cm (QgD rz0 Qlm (Rm hr) (Qc (cm (QbD gr z_list (de_ix (Qa 3) (cn Qe)))) Qk) gr)) (Qc (Qa 3) (Qc (QQ (cn QW) (cn (de_ix (Qa 5) (cn Qe)))) Qk)))))) QJ) (Qg (QaR (Qav (Qc (cm (QgD rz0 QkF (Rm hr) (Qc (cm (QM rfl QhE (cy (QL (Qa 3))) (fun ς=>QA (Qp rfl ς)) (Qs _) (fun fp s H G p=>⟨(Qx (i:=0) QhE.nd rfl (oi rfl) (hf:=Or.inr rfl)),QB,(cm (QbD gr z_list (Qa 0)))⟩))) Qk) gr)) (Qc (Qa 3) (Qc (QQ (cn QW) (cn (QiG (cn QW) (Qa 5)))) Qk))))))))))))))) :)
abbrev QeT:Stmt:=top 48
theorem QO:Qn ["_law_script","_law_most","_law_seed","_law_other","_law_cells","_law_first","_law_names_here","_law_seats","_law_k","_law_number","_law_clerk_here","_law_rows","_law_text","_law_leads","_law_let_in","_law_j","_law_name"] ["_law_script","_law_most"] (Qd QeT):=⟨rfl,rfl,rfl,dk,rfl,dk,dk⟩
abbrev QmD:PySem.Scope:={ kind:=PySem.ScopeKind.function,names:=[ (PySem.Str.ofString ".0",PySem.NameKind.local),(PySem.Str.ofString "_law_j",PySem.NameKind.local),(PySem.Str.ofString "len",PySem.NameKind.globalImplicit),(PySem.Str.ofString "_law_names_here",PySem.NameKind.free),(PySem.Str.ofString "_law_number",PySem.NameKind.free)],isGenerator:=false,isCoroutine:=false,more:=[]:PySem.Scope }
theorem QhY:Qz ["_law_j","_law_number","_law_names_here"] [none,some 9,some 6] QmD (Qd QeT) ["_law_script","_law_most","_law_seed","_law_other","_law_cells","_law_first","_law_names_here","_law_seats","_law_k","_law_number","_law_clerk_here","_law_rows","_law_text","_law_leads","_law_let_in","_law_j","_law_name"]:=⟨rfl,dk,dk,rfl,dk,dk⟩
def Qfc:SD->Out D:=(e2 dMod (e2 dMod (e2 dMul (eVar 1) (e2 dAdd (e2 dMul (eC (.int 2)) (eVar 0)) (eC (.int 5)))) (eC (.int 999983))) (eA fLen (aCons (eVar 2) aNil)))
def Qc1:SD->Out Fl:=(sSeq (sSet 9 (eA (fun xs=>QZ (xs++[])) (aCons (e2 dIx (eVar 4) (eVar 8)) (aCons (e2 dAdd (eVar 8) (eC (.int 2))) aNil)))) (sSeq (sUnpL [10,11,12] (eA (fun xs=>Qba (xs++[])) (aCons (eVar 9) aNil))) (sSeq (sSet 13 (eComp [none,some 9,some 6] (itR1 (eA fLen (aCons (e2 dIx (eVar 11) (eC (.int 0))) aNil))) (gN 0) cTrue Qfc)) (QaP 7 (eLst (aCons (e2 dIx (eVar 6) (e2 dAdd (eVar 5) (eVar 8))) (aCons (eVar 10) (aCons (eVar 11) (aCons (eVar 12) (aCons (eVar 13) (aCons (e2 dMod (e2 dFdiv (eVar 9) (eC (.int 11))) (eA fLen (aCons (eVar 11) aNil))) aNil)))))))))))
def Qdm:SD->Out Fl:=(sSeq (sSet 10 (e2 dMod (e2 dMod (e2 dMul (eVar 3) (e2 dAdd (e2 dMul (eC (.int 2)) (eVar 15)) (eC (.int 3)))) (eC (.int 999979))) (eA fLen (aCons (eVar 4) aNil)))) (sSeq (sSet 16 (e2 dIx (eVar 6) (e2 dMod (e2 dAdd (e2 dFdiv (eVar 3) (eC (.int 7))) (eVar 15)) (eA fLen (aCons (eVar 6) aNil))))) (sSeq (sIf (tVal (e2 dEq (e2 dMod (e2 dFdiv (eVar 3) (eC (.int 64))) (eC (.int 2))) (eC (.int 1)))) (sSet 16 (e2 dAdd (eC (.str "in")) (e2 dIx (eC (.str "abcdef")) (eVar 15)))) sNil) (QaP 14 (eTup (aCons (eVar 16) (aCons (eVar 10) aNil)))))))
def Qe1:SD->Out Fl:=(sSeq (sSet 2 (eA (fun xs=>QZ (xs++[])) (aCons (eA (fun xs=>Qas (xs++[])) (aCons (eVar 0) (aCons (eC (.int 0)) aNil))) (aCons (eC (.int 0)) aNil)))) (sSeq (sSet 3 (eA (fun xs=>QZ (xs++[])) (aCons (eA (fun xs=>Qas (xs++[])) (aCons (eVar 0) (aCons (eC (.int 1)) aNil))) (aCons (eC (.int 1)) aNil)))) (sSeq (sSet 4 (e2 dCat (eSl (eVar 0) (oSome (eC (.int 2))) (oSome (e2 dAdd (eC (.int 2)) (eVar 1)))) (e2 dRep (eLst (aCons (eVar 2) aNil)) (eA (f1 dInt) (aCons (e2 dLt (eA fLen (aCons (eVar 0) aNil)) (eC (.int 3))) aNil))))) (sSeq (sSet 5 (e2 dAdd (eC (.int 1)) (e2 dMod (eVar 2) (eC (.int 6))))) (sSeq (sSet 6 (eA (fun xs=>Qck (xs++[])) (aCons (e2 dAdd (eVar 5) (eA fLen (aCons (eVar 4) aNil))) (aCons (e2 dFdiv (eVar 2) (eC (.int 6))) aNil)))) (sSeq (sSetO 7 (eLst aNil)) (sSeq (sFor (gN 8) (itR1 (eA fLen (aCons (eVar 4) aNil))) Qc1) (sSeq (sSetO 14 (eLst aNil)) (sSeq (sFor (gN 15) (itR1 (e2 dAdd (eC (.int 1)) (e2 dMod (eVar 3) (eA fMin2 (aCons (eC (.int 6)) (aCons (eA fLen (aCons (eVar 6) aNil)) aNil)))))) Qdm) (fun ς=>(fun ς=>(sRetF (eLst (aCons (eSl (eVar 6) oNo (oSome (eVar 5))) (aCons (eVar 7) (aCons (eVar 14) aNil))))) (frz 14 ς)) (frz 7 ς)))))))))))
def QcZ:List D->Out D:=bodyF true 2 17 Qe1
theorem Qsm(d0 d1:D):QcZ [d0,d1]=(Qe1 [some (.k,d0),some (.k,d1),none,none,none,none,none,none,none,none,none,none,none,none,none,none,none]>>=retF true):=rfl
theorem QrJ(F:FunV K "_law_plan" "_law_plan" QeT f fd dV)(Qcl:"e"^QZ "_law_mixed" 1 false)(QeQ:"e"^Qas "_law_cell" 1 false)(Qqu:"e"^Qck "_law_names" 1 true)(Qpp:"e"^Qba "_law_clerk" 7 true)(z_int:mg "int"=none)(z_len:mg "len"=none)(z_range:mg "range"=none)(z_min:mg "min"=none):"f"^8 ["_law_script","_law_most"] true QcZ:=
 (@fnV P w K mg base CT true _ _ _ f fd dV _ _ 7 Qe1 F QO fun cdv A outer s H E G hr=>
  (Qh (Q4 (i:=2) QO.nd rfl (oi rfl) (de_f Qcl (Rm hr) (Qc (de_f QeQ (Rm hr) (Qc (Qa 0) (Qc Qe Qk)) gr) (Qc Qe Qk)) gr)) (Qh (Q4 (i:=3) QO.nd rfl (oi rfl) (de_f Qcl (Rm hr) (Qc (de_f QeQ (Rm hr) (Qc (Qa 0) (Qc Qe Qk)) gr) (Qc Qe Qk)) gr)) (Qh (Q4 (i:=4) QO.nd rfl (oi rfl) (cm (QnA (cm (df_sl (Qa 0) (Qe7 (cn Qe)) (Qe7 (cn (QQ (cn Qe) (cn (Qa 1))))))) (cm (Qty (Qav (Qc (Qa 2) Qk)) (cn (Qiy gr z_int (Qo (cn (de_lt (cn (QU gr z_len (Qo (cn (Qa 0)) Qu))) (cn Qe))) Qu)))))))) (Qh (Q4 (i:=5) QO.nd rfl (oi rfl) (QQ (cn Qe) (cn (QV (cn (Qa 2)) (cn Qe))))) (Qh (Q4 (i:=6) QO.nd rfl (Or.inr rfl) (de_f Qqu (Rm hr) (Qc (QQ (cn (Qa 5)) (cn (QU gr z_len (Qo (cn (Qa 4)) Qu)))) (Qc (QbB (cn (Qa 2)) (cn Qe)) Qk)) gr)) (Qh (QdS (i:=7) QO.nd rfl (oi rfl) (Qav Qk)) (Qh (Qbl ay rfl (Qaj gr z_range (cn (QU gr z_len (Qo (cn (Qa 4)) Qu)))) (Qx (i:=8) QO.nd rfl (oi rfl)) (Qs _) (Qh (Q4 (i:=9) QO.nd rfl (Or.inr rfl) (de_f Qcl (Rm hr) (Qc (de_ix (Qa 4) (cn (Qa 8))) (Qc (QQ (cn (Qa 8)) (cn Qe)) Qk)) gr)) (Qh (Qlc rfl (de_f Qpp (Rm hr) (Qc (Qa 9) Qk) gr) (Q3 (i:=10) QO.nd rfl (oi rfl) (Q3 (i:=11) QO.nd rfl (oi rfl) (Q3 (i:=12) QO.nd rfl (oi rfl) QcN)))) (Qh (QiA (i:=13) rfl QhY (cy (Qaj gr z_range (cn (QU gr z_len (Qo (cn (de_ix (Qa 11) (cn Qe))) Qu))))) (fun ς=>QA (Qp rfl ς)) (Qs _) (fun fp s H G p=>⟨(Qx (i:=0) QhY.nd rfl (oi rfl) (hf:=Or.inr rfl)),QB,(QV (cn (QV (cn (QbN (cn (Qa 1)) (cn (QQ (cn (QbN (cn Qe) (cn (Qa 0)))) (cn Qe))))) (cn Qe))) (cn (QU gr z_len (Qo (cn (Qa 2)) Qu))))⟩) QO.nd rfl (oi rfl)) (Qg (QbO 7 (cm (Qav (Qc (de_ix (Qa 6) (cn (QQ (cn (Qa 5)) (cn (Qa 8))))) (Qc (Qa 10) (Qc (Qa 11) (Qc (Qa 12) (Qc (Qa 13) (Qc (QV (cn (QbB (cn (Qa 9)) (cn Qe))) (cn (QU gr z_len (Qo (cn (Qa 11)) Qu)))) Qk)))))))) rfl (oi rfl))))))) (Qh (QdS (i:=14) QO.nd rfl (oi rfl) (Qav Qk)) (Qh (Qbl ay rfl (Qaj gr z_range (cn (QQ (cn Qe) (cn (QV (cn (Qa 3)) (cn (Qwk rfl gr z_min (Qo (cn Qe) (Qo (cn (QU gr z_len (Qo (cn (Qa 6)) Qu))) Qu))))))))) (Qx (i:=15) QO.nd rfl (oi rfl)) (Qs _) (Qh (Q4 (i:=10) QO.nd rfl (oi rfl) (QV (cn (QV (cn (QbN (cn (Qa 3)) (cn (QQ (cn (QbN (cn Qe) (cn (Qa 15)))) (cn Qe))))) (cn Qe))) (cn (QU gr z_len (Qo (cn (Qa 4)) Qu))))) (Qh (Q4 (i:=16) QO.nd rfl (oi rfl) (de_ix (Qa 6) (cn (QV (cn (QQ (cn (QbB (cn (Qa 3)) (cn Qe))) (cn (Qa 15)))) (cn (QU gr z_len (Qo (cn (Qa 6)) Qu))))))) (Qh (ds_if (dt_eq hr.units (cn (QV (cn (QbB (cn (Qa 3)) (cn Qe))) (cn Qe))) (cn Qe)) (Qg (Q4 (i:=16) QO.nd rfl (oi rfl) (QQ (cn QW) (cn (de_ix QW (cn (Qa 15))))))) QJ) (Qg (QbO 14 (Qnw (Qc (Qa 16) (Qc (Qa 10) Qk))) rfl (oi rfl))))))) (Qg (Qij 7 (Qij 14 (QaR (Qav (Qc (cm (df_sl (Qa 6) Qiv (Qe7 (cn (Qa 5))))) (Qc (Qa 7) (Qc (Qa 14) Qk))))))))))))))))) :)
abbrev QaU:Stmt:=top 49
theorem Qa2:Qn ["_law_plan_here","_law_doors","_law_seats","_law_let_in","_law_names_here","_law_clerks"] ["_law_plan_here"] (Qd QaU):=⟨rfl,rfl,rfl,dk,rfl,dk,dk⟩
abbrev Qkq:PySem.Scope:={ kind:=PySem.ScopeKind.function,names:=[(PySem.Str.ofString ".0",PySem.NameKind.local),(PySem.Str.ofString "_law_seat",PySem.NameKind.local)],isGenerator:=false,isCoroutine:=false,more:=[]:PySem.Scope }
theorem Qgr:Qz ["_law_seat"] [none] Qkq (Qd QaU) ["_law_plan_here","_law_doors","_law_seats","_law_let_in","_law_names_here","_law_clerks"]:=⟨rfl,dk,dk,rfl,dk,dk⟩
def QdI:SD->Out D:=(e2 dIx (eVar 0) (eC (.int 0)))
abbrev QfT:PySem.Scope:={ kind:=PySem.ScopeKind.function,names:=[ (PySem.Str.ofString ".0",PySem.NameKind.local),(PySem.Str.ofString "_law_seat",PySem.NameKind.local),(PySem.Str.ofString "_law_names_here",PySem.NameKind.free)],isGenerator:=false,isCoroutine:=false,more:=[]:PySem.Scope }
theorem Qgx:Qz ["_law_seat","_law_names_here"] [none,some 4] QfT (Qd QaU) ["_law_plan_here","_law_doors","_law_seats","_law_let_in","_law_names_here","_law_clerks"]:=⟨rfl,dk,dk,rfl,dk,dk⟩
abbrev Qku:PySem.Scope:={ kind:=PySem.ScopeKind.function,names:=[ (PySem.Str.ofString ".0",PySem.NameKind.local),(PySem.Str.ofString "_law_lead",PySem.NameKind.local),(PySem.Str.ofString "_law_names_here",PySem.NameKind.free)],isGenerator:=false,isCoroutine:=false,more:=[]:PySem.Scope }
theorem QgA:Qz ["_law_lead","_law_names_here"] [none,some 1] Qku (Qbs QfT (Qd QaU)) ["_law_seat","_law_names_here"]:=⟨rfl,dk,dk,rfl,dk,dk⟩
def QdN:SD->Out D:=(e2 dIx (eVar 1) (eVar 0))
def QdM:SD->Out D:=(eTup (aCons (fun ς=>noLO ((e2 dIx (eVar 0) (eC (.int 0))) ς)) (aCons (fun ς=>noLO ((e2 dIx (eVar 0) (eC (.int 1))) ς)) (aCons (fun ς=>lnO ((eComp [none,some 1] (itL (e2 dIx (eVar 0) (eC (.int 4)))) (gN 0) cTrue QdN) ς)) (aCons (fun ς=>noLO ((e2 dIx (eVar 0) (eC (.int 5))) ς)) aNil)))))
abbrev Qkw:PySem.Scope:={ kind:=PySem.ScopeKind.function,names:=[ (PySem.Str.ofString ".0",PySem.NameKind.local),(PySem.Str.ofString "_law_name",PySem.NameKind.local),(PySem.Str.ofString "_law_clerk_here",PySem.NameKind.local),(PySem.Str.ofString "_law_seats",PySem.NameKind.free)],isGenerator:=false,isCoroutine:=false,more:=[]:PySem.Scope }
theorem QdB:Qz ["_law_name","_law_clerk_here","_law_seats"] [none,none,some 2] Qkw (Qd QaU) ["_law_plan_here","_law_doors","_law_seats","_law_let_in","_law_names_here","_law_clerks"]:=⟨rfl,dk,dk,rfl,dk,dk⟩
def Qdo:SD->Out D:=(eTup (aCons (eVar 0) (aCons (e2 dIx (e2 dIx (eVar 2) (eVar 1)) (eC (.int 0))) aNil)))
def QcY:SD->Out D:=(tSeq (sUnpL [1,2,3] (eVar 0)) (tSeq (sSet 4 (e2 dCat (eVar 1) (eComp [none] (itL (eVar 2)) (gN 0) cTrue QdI))) (yEnd 5 (QgC [none,some 4] (itL (eVar 2)) (gN 0) QdM) (aCons (fun ς=>lnO ((eComp [none,none,some 2] (itL (eVar 3)) (gT [0,1]) cTrue Qdo) ς)) (aCons (fun ς=>lnO ((e1 dList (eVar 1)) ς)) aNil)))))
def QaZ:List D->Out D:=bodyT 1 6 QcY
theorem Qno(d0:D):QaZ [d0]=QcY [some (.k,d0),none,none,none,none,none]:=rfl
theorem QoO(F:FunV K "_law_handed" "_law_handed" QaU f fd dV)(z_list:mg "list"=none):FnOk P w K mg base CX0 1 f fd ["_law_plan_here"] (SpH K CT QaZ):=
 fnH (k:=0) (N:=["_law_plan_here","_law_doors","_law_seats","_law_let_in","_law_names_here","_law_clerks"]) (T:=QcY) F Qa2 fun cdv A outer s H E G hr=>
  (Qos (Qlc rfl (Qa 0) (Q3 (i:=1) Qa2.nd rfl (oi rfl) (Q3 (i:=2) Qa2.nd rfl (Or.inr rfl) (Q3 (i:=3) Qa2.nd rfl (oi rfl) QcN)))) (Qos (Q4 (i:=4) Qa2.nd rfl (Or.inr rfl) (cm (QnA (Qa 1) (cm (QM rfl Qgr (cy (QL (Qa 2))) (fun ς=>QA (Qp rfl ς)) (Qs _) (fun fp s H G p=>⟨(Qx (i:=0) Qgr.nd rfl (oi rfl) (hf:=Or.inr rfl)),QB,(de_ix (Qa 0) (cn Qe))⟩)))))) (QvN (i:=5) rfl Qgx (fun gg kk=>(cy (QL (Qa 2)))) (fun ς=>QA (Qp rfl ς)) (Qs _) (fun fp s H G p=>⟨(Qx (i:=0) Qgx.nd rfl (oi rfl) (hf:=Or.inr rfl)),(QxW (Qa0 (dy_de (fun gg kk=>(de_ix (Qa 0) (cn Qe)))) (Qa0 (dy_de (fun gg kk=>(de_ix (Qa 0) (cn Qe)))) (Qa0 (dy_df (fun gg kk=>(QM rfl QgA (cy (QL (de_ix (Qa 0) (cn Qe)))) (fun ς=>QA (Qp rfl ς)) (Qs _) (fun fp s H G p=>⟨(Qx (i:=0) QgA.nd rfl (oi rfl) (hf:=Or.inr rfl)),QB,(de_ix (Qa 1) (cn (Qa 0)))⟩)))) (Qa0 (dy_de (fun gg kk=>(de_ix (Qa 0) (cn Qe)))) Qly)))))⟩) Qa2.nd rfl (oi rfl) (Qa0 (dy_df (fun gg kk=>(QM rfl QdB (cy (QL (Qa 3))) (fun ς=>Qov (fun i hi=>Qp (by revert hi;revert i;decide) ς)) (Qfj _) (fun fp s H G p=>⟨(Qik rfl (Q3 (i:=0) QdB.nd rfl (oi rfl) (Q3 (i:=1) QdB.nd rfl (oi rfl) QcN (hf:=Or.inr rfl)) (hf:=Or.inr rfl))),QB,(Qnw (Qc (Qa 0) (Qc (de_ix (de_ix (Qa 2) (cn (Qa 1))) (cn Qe)) Qk)))⟩)))) (Qa0 (dy_df (fun gg kk=>(QbD gr z_list (Qa 1)))) Qly)) (oi rfl))))
abbrev Qga:Stmt:=top 39
theorem Qbh:Qn ["names","doors","places","k","name","d","door"] ["names","doors"] (Qd Qga):=⟨rfl,rfl,rfl,dk,rfl,dk,dk⟩
def Qct:SD->Out Fl:=(sPutD 2 (eVar 4) (eVar 3))
def Qcs:SD->Out Fl:=(sPutD 2 (eVar 6) (e2 dSub (e1 dNeg (eC (.int 1))) (eVar 5)))
def Qd7:SD->Out Fl:=(sSeq (sSetO 2 eDic0) (sSeq (sFor (gT [3,4]) (itE (eVar 0)) Qct) (sSeq (sFor (gT [5,6]) (itE (eVar 1)) Qcs) (sRetO 2))))
def Qca:List D->Out D:=bodyF true 2 7 Qd7
theorem QpX(d0 d1:D):Qca [d0,d1]=(Qd7 [some (.k,d0),some (.k,d1),none,none,none,none,none]>>=retF true):=rfl
theorem QqR(F:FunV K "places_of" "places_of" Qga f fd dV)(z_enumerate:mg "enumerate"=none):"f"^1 ["names","doors"] true Qca:=
 (@fnV P w K mg base CT true _ _ _ f fd dV _ _ 0 Qd7 F Qbh fun cdv A outer s H E G hr=>
  (Qh (QdS (i:=2) Qbh.nd rfl (oi rfl) Qvy) (Qh (Qbl ay rfl (Qrc gr z_enumerate (Qa 0)) (Qik rfl (Q3 (i:=3) Qbh.nd rfl (oi rfl) (Q3 (i:=4) Qbh.nd rfl (oi rfl) QcN))) (Qfj _) (Qg (QqU hr.units 2 (cn (Qa 4)) (Qa 3) rfl (oi rfl)))) (Qh (Qbl ay rfl (Qrc gr z_enumerate (Qa 1)) (Qik rfl (Q3 (i:=5) Qbh.nd rfl (oi rfl) (Q3 (i:=6) Qbh.nd rfl (oi rfl) QcN))) (Qfj _) (Qg (QqU hr.units 2 (cn (Qa 6)) (QgO (cn (QoK (cn Qe))) (cn (Qa 5))) rfl (oi rfl)))) (Qg (Qlw 2 rfl (oi rfl)))))) :)
abbrev QhZ:Stmt:=top 31
theorem Qrx:Qn ["thing","most"] ["thing","most"] (Qd QhZ):=⟨rfl,rfl,rfl,dk,rfl,dk,dk⟩
def QfB:SD->Out Fl:=(sRet (eAnd (eIsa (isaT "list") (eVar 0)) (Qa6 dLe dLe (eC (.int 1)) (eA fLen (aCons (eVar 0) aNil)) (eVar 1))))
def QaO:List D->Out D:=bodyF false 2 2 QfB
theorem Qud(d0 d1:D):QaO [d0,d1]=(QfB [some (.k,d0),some (.k,d1)]>>=retF false):=rfl
theorem QsD(F:FunV K "is_list" "is_list" QhZ f fd dV)(z_isinstance:mg "isinstance"=none)(z_list:mg "list"=none)(z_len:mg "len"=none):"f"^1 ["thing","most"] false QaO:=
 (@fnV P w K mg base CT false _ _ _ f fd dV _ _ 0 QfB F Qrx fun cdv A outer s H E G hr=>
  (Qg (Qy (QbS (QaG "list" Qfv gr z_list PyProof.Rows.Boot.«list» gr z_isinstance (cn (Qa 0))) (Qep (QnF op_le Qa1 (QaJ fun _ _=>rfl) op_le Qa1 (QaJ fun _ _=>rfl) (cn Qe) (cn (QU gr z_len (Qo (cn (Qa 0)) Qu))) (cn (Qa 1))))))) :)
abbrev Qfo:Stmt:=top 32
theorem QmG:Qn ["names"] ["names"] (Qd Qfo):=⟨rfl,rfl,rfl,dk,rfl,dk,dk⟩
def QbQ:SD->Out Fl:=(sRet (e2 dEq (e1 Qit (eVar 0)) (eA fLen (aCons (eVar 0) aNil))))
def QS:List D->Out D:=bodyF false 1 1 QbQ
theorem Qid(d0:D):QS [d0]=(QbQ [some (.k,d0)]>>=retF false):=rfl
theorem Qn3(F:FunV K "all_unlike" "all_unlike" Qfo f fd dV)(z_len:mg "len"=none)(z_set:mg "set"=none):"f"^1 ["names"] false QS:=
 (@fnV P w K mg base CT false _ _ _ f fd dV _ _ 0 QbQ F QmG fun cdv A outer s H E G hr=>
  (Qg (Qy (de_eq hr.units (cn (QsH hr.hd gr z_len gr z_set (cn (Qa 0)))) (cn (QU gr z_len (Qo (cn (Qa 0)) Qu)))))) :)
abbrev QfD:Stmt:=top 30
theorem Qrn:Qn ["thing"] ["thing"] (Qd QfD):=⟨rfl,rfl,rfl,dk,rfl,dk,dk⟩
abbrev Qnz:PySem.Scope:={ kind:=PySem.ScopeKind.function,names:=[ (PySem.Str.ofString ".0",PySem.NameKind.local),(PySem.Str.ofString "sign",PySem.NameKind.local),(PySem.Str.ofString "LETTERS",PySem.NameKind.globalImplicit)],isGenerator:=false,isCoroutine:=false,more:=[]:PySem.Scope }
theorem Qi1:Qz ["sign"] [none] Qnz (Qd QfD) ["thing"]:=⟨rfl,dk,dk,rfl,dk,dk⟩
def Qgh:SD->Out D:=(e2 dIn (eVar 0) (eC (.str "abcdefghijklmnopqrstuvwxyz")))
def QfH:SD->Out Fl:=(sSeq (sIf (tOr' (tNot' (tVal (eIsa (isaT "str") (eVar 0)))) (tNot' (tVal (Qa6 dLe dLe (eC (.int 1)) (eA fLen (aCons (eVar 0) aNil)) (eC (.int 6)))))) (sRet (eC (.bl false))) sNil) (sRet (eA (f1 fAll) (aCons (eComp [none] (itS (eVar 0)) (gN 0) cTrue Qgh) aNil))))
def Qaf:List D->Out D:=bodyF false 1 1 QfH
theorem QsY(d0:D):Qaf [d0]=(QfH [some (.k,d0)]>>=retF false):=rfl
theorem QtK{u_MOST_SIGNS:Value}{u_LETTERS:Value}(F:FunV K "is_name" "is_name" QfD f fd dV)(z_isinstance:mg "isinstance"=none)(z_str:mg "str"=none)(z_len:mg "len"=none)(z_all:mg "all"=none)(c_MOST_SIGNS:mg "MOST_SIGNS"=some u_MOST_SIGNS)(r_MOST_SIGNS:RelV (toV (.int 6)) u_MOST_SIGNS)(c_LETTERS:mg "LETTERS"=some u_LETTERS)(r_LETTERS:RelV (toV (.str "abcdefghijklmnopqrstuvwxyz")) u_LETTERS):"f"^1 ["thing"] false Qaf:=
 (@fnV P w K mg base CT false _ _ _ f fd dV _ _ 0 QfH F Qrn fun cdv A outer s H E G hr=>
  (Qh (ds_if (cv (dw_or (QT (QR (QaG "str" Qrd gr z_str PyProof.Rows.Boot.«str» gr z_isinstance (cn (Qa 0))))) (QaY (QT (Qoa op_le Qa1 (QaJ fun _ _=>rfl) op_le Qa1 (QaJ fun _ _=>rfl) (cn Qe) (cn (QU gr z_len (Qo (cn (Qa 0)) Qu))) (cn (QbE (d:=(.int 6)) gr c_MOST_SIGNS rfl r_MOST_SIGNS))))))) (Qg (Qy de_bl)) QJ) (Qg (Qy (Qej rfl gr z_all (Qo (cn (cm (QM rfl Qi1 (cy (Qw2 (cn (Qa 0)))) (fun ς=>QA (Qp rfl ς)) (Qs _) (fun fp s H G p=>⟨(Qx (i:=0) Qi1.nd rfl (oi rfl) (hf:=Or.inr rfl)),QB,(de_in (cn (Qa 0)) (cn (QbE (d:=(.str "abcdefghijklmnopqrstuvwxyz")) gr c_LETTERS rfl r_LETTERS)))⟩)))) Qu))))) :)
abbrev Qeb:Stmt:=top 33
theorem Qoj:Qn ["thing","most"] ["thing","most"] (Qd Qeb):=⟨rfl,rfl,rfl,dk,rfl,dk,dk⟩
abbrev Qlb:PySem.Scope:={ kind:=PySem.ScopeKind.function,names:=[ (PySem.Str.ofString ".0",PySem.NameKind.local),(PySem.Str.ofString "name",PySem.NameKind.local),(PySem.Str.ofString "is_name",PySem.NameKind.globalImplicit)],isGenerator:=false,isCoroutine:=false,more:=[]:PySem.Scope }
theorem Qhs:Qz ["name"] [none] Qlb (Qd Qeb) ["thing","most"]:=⟨rfl,dk,dk,rfl,dk,dk⟩
def QeC:SD->Out D:=(eA (fun xs=>Qaf (xs++[])) (aCons (eVar 0) aNil))
def Qd2:SD->Out Fl:=(sRet (eAnd (eA (fun xs=>QaO (xs++[])) (aCons (eVar 0) (aCons (eVar 1) aNil))) (eAnd (eA (f1 fAll) (aCons (eComp [none] (itL (eVar 0)) (gN 0) cTrue QeC) aNil)) (eA (fun xs=>QS (xs++[])) (aCons (eVar 0) aNil)))))
def Qcc:List D->Out D:=bodyF false 2 2 Qd2
theorem QqA(d0 d1:D):Qcc [d0,d1]=(Qd2 [some (.k,d0),some (.k,d1)]>>=retF false):=rfl
theorem Qp3(F:FunV K "are_names" "are_names" Qeb f fd dV)(Qei:"e"^QaO "is_list" 1 false)(QcO:"e"^Qaf "is_name" 1 false)(QbU:"e"^QS "all_unlike" 1 false)(z_all:mg "all"=none):"f"^2 ["thing","most"] false Qcc:=
 (@fnV P w K mg base CT false _ _ _ f fd dV _ _ 1 Qd2 F Qoj fun cdv A outer s H E G hr=>
  (Qg (Qy (QbS (de_f Qei (Rm hr) (Qc (Qa 0) (Qc (Qa 1) Qk)) gr) (QbS (Qej rfl gr z_all (Qo (cn (cm (QM rfl Qhs (cy (QL (Qa 0))) (fun ς=>QA (Qp rfl ς)) (Qs _) (fun fp s H G p=>⟨(Qx (i:=0) Qhs.nd rfl (oi rfl) (hf:=Or.inr rfl)),QB,(de_f QcO (Rm hr) (Qc (Qa 0) Qk) gr)⟩)))) Qu)) (Qep (de_f QbU (Rm hr) (Qc (Qa 0) Qk) gr)))))) :)
abbrev Qed:Stmt:=top 34
theorem Qob:Qn ["thing","many"] ["thing","many"] (Qd Qed):=⟨rfl,rfl,rfl,dk,rfl,dk,dk⟩
abbrev Qk6:PySem.Scope:={ kind:=PySem.ScopeKind.function,names:=[ (PySem.Str.ofString ".0",PySem.NameKind.local),(PySem.Str.ofString "text",PySem.NameKind.local),(PySem.Str.ofString "isinstance",PySem.NameKind.globalImplicit),(PySem.Str.ofString "str",PySem.NameKind.globalImplicit)],isGenerator:=false,isCoroutine:=false,more:=[]:PySem.Scope }
theorem QhC:Qz ["text"] [none] Qk6 (Qd Qed) ["thing","many"]:=⟨rfl,dk,dk,rfl,dk,dk⟩
def QeB:SD->Out D:=(eIsa (isaT "str") (eVar 0))
def QdY:SD->Out Fl:=(sRet (eAnd (eIsa (isaT "list") (eVar 0)) (eAnd (e2 dEq (eA fLen (aCons (eVar 0) aNil)) (eVar 1)) (eA (f1 fAll) (aCons (eComp [none] (itL (eVar 0)) (gN 0) cTrue QeB) aNil)))))
def Qcg:List D->Out D:=bodyF false 2 2 QdY
theorem QpZ(d0 d1:D):Qcg [d0,d1]=(QdY [some (.k,d0),some (.k,d1)]>>=retF false):=rfl
theorem Qpm(F:FunV K "are_texts" "are_texts" Qed f fd dV)(z_isinstance:mg "isinstance"=none)(z_list:mg "list"=none)(z_len:mg "len"=none)(z_all:mg "all"=none)(z_str:mg "str"=none):"f"^1 ["thing","many"] false Qcg:=
 (@fnV P w K mg base CT false _ _ _ f fd dV _ _ 0 QdY F Qob fun cdv A outer s H E G hr=>
  (Qg (Qy (QbS (QaG "list" Qfv gr z_list PyProof.Rows.Boot.«list» gr z_isinstance (cn (Qa 0))) (QbS (de_eq hr.units (cn (QU gr z_len (Qo (cn (Qa 0)) Qu))) (cn (Qa 1))) (Qep (Qej rfl gr z_all (Qo (cn (cm (QM rfl QhC (cy (QL (Qa 0))) (fun ς=>QA (Qp rfl ς)) (Qs _) (fun fp s H G p=>⟨(Qx (i:=0) QhC.nd rfl (oi rfl) (hf:=Or.inr rfl)),QB,(QaG "str" Qrd gr z_str PyProof.Rows.Boot.«str» gr z_isinstance (cn (Qa 0)))⟩)))) Qu))))))) :)
abbrev Qg5:Stmt:=top 22
theorem Qo5:Qn ["thing"] ["thing"] (Qd Qg5):=⟨rfl,rfl,rfl,dk,rfl,dk,dk⟩
def Qe2:SD->Out Fl:=(sRet (eIsa (isaTs [[("Deal",true),("Bundle",false),("Copy",false),("Rows",false),("Office",false)],[("Deal",false),("Bundle",true),("Copy",false),("Rows",false),("Office",false)],[("Deal",false),("Bundle",false),("Copy",true),("Rows",false),("Office",false)],[("Deal",false),("Bundle",false),("Copy",false),("Rows",true),("Office",false)]]) (eVar 0)))
def Qc8:List D->Out D:=bodyF false 1 1 Qe2
theorem Qss(d0:D):Qc8 [d0]=(Qe2 [some (.k,d0)]>>=retF false):=rfl
theorem QrG{QC:Addr}{Qv:Addr}{QE:Addr}{QD:Addr}(F:FunV K "is_clerk" "is_clerk" Qg5 f fd dV)(z_isinstance:mg "isinstance"=none)(QwW:mg "Deal"=some (.ref QC))(Qvi:mg "Bundle"=some (.ref Qv))(Qxu:mg "Copy"=some (.ref QE))(Qw8:mg "Rows"=some (.ref QD))(QkQ:KitI K CT (.ref QC) [("Deal",true),("Bundle",false),("Copy",false),("Rows",false),("Office",false)])(Qii:KitI K CT (.ref Qv) [("Deal",false),("Bundle",true),("Copy",false),("Rows",false),("Office",false)])(Qlp:KitI K CT (.ref QE) [("Deal",false),("Bundle",false),("Copy",true),("Rows",false),("Office",false)])(Qld:KitI K CT (.ref QD) [("Deal",false),("Bundle",false),("Copy",false),("Rows",true),("Office",false)]):"f"^1 ["thing"] false Qc8:=
 (@fnV P w K mg base CT false _ _ _ f fd dV _ _ 0 Qe2 F Qo5 fun cdv A outer s H E G hr=>
  (Qg (Qy (QvK (a:=QC) (as:=[Qv,QE,QD]) (Qhf (Qg0 (v:=.ref QC) gr QwW rfl) (Qhf (Qg0 (v:=.ref Qv) gr Qvi rfl) (Qhf (Qg0 (v:=.ref QE) gr Qxu rfl) (Qhf (Qg0 (v:=.ref QD) gr Qw8 rfl) QvG)))) ⟨QkQ,Qii,Qlp,Qld,True.intro⟩ (by simp) gr z_isinstance (cn (Qa 0))))) :)
abbrev Qfb:Stmt:=inCls (top 14) 3
theorem Qm8:Qn ["self"] ["self"] (Qd Qfb):=⟨rfl,rfl,rfl,dk,rfl,dk,dk⟩
def Qdf:SD->Out Fl:=(sRet (eA fLen (aCons (e2 dIx (e1 (dFld Ql "table") (eVar 0)) (eC (.int 0))) aNil)))
def Qbk:List D->Out D:=bodyF false 1 1 Qdf
theorem Qox(d0:D):Qbk [d0]=(Qdf [some (.k,d0)]>>=retF false):=rfl
theorem QnM(F:FunV K "outs" "Clerk.outs" Qfb f fd dV)(z_len:mg "len"=none)(fo_table:FldOk K CT Ql "table"):"f"^1 ["self"] false Qbk:=
 (@fnV P w K mg base CT false _ _ _ f fd dV _ _ 0 Qdf F Qm8 fun cdv A outer s H E G hr=>
  (Qg (Qy (QU gr z_len (Qo (cn (de_ix (Qce fo_table (Qa 0)) (cn Qe))) Qu)))) :)
abbrev Qdz:Stmt:=inCls (top 14) 2
theorem Qke:Qn ["self"] ["self"] (Qd Qdz):=⟨rfl,rfl,rfl,dk,rfl,dk,dk⟩
def Qb7:SD->Out Fl:=(sRet (eA fLen (aCons (e1 (dFld Ql "table") (eVar 0)) aNil)))
def QX:List D->Out D:=bodyF false 1 1 Qb7
theorem QlN(d0:D):QX [d0]=(Qb7 [some (.k,d0)]>>=retF false):=rfl
theorem Qla(F:FunV K "period" "Clerk.period" Qdz f fd dV)(z_len:mg "len"=none)(fo_table:FldOk K CT Ql "table"):"f"^1 ["self"] false QX:=
 (@fnV P w K mg base CT false _ _ _ f fd dV _ _ 0 Qb7 F Qke fun cdv A outer s H E G hr=>
  (Qg (Qy (QU gr z_len (Qo (cn (Qce fo_table (Qa 0))) Qu)))) :)
abbrev Qio:Stmt:=top 35
theorem Qsa:Qn ["thing"] ["thing"] (Qd Qio):=⟨rfl,rfl,rfl,dk,rfl,dk,dk⟩
def QfA:SD->Out Fl:=(sSeq (sIf (tOr' (tNot' (tVal (eIsa (isaT "tuple") (eVar 0)))) (tVal (e2 dNe (eA fLen (aCons (eVar 0) aNil)) (eC (.int 4))))) (sRet (eC (.bl false))) sNil) (sSeq (sIf (tOr' (tNot' (tVal (eA (fun xs=>Qaf (xs++[])) (aCons (e2 dIx (eVar 0) (eC (.int 0))) aNil)))) (tNot' (tVal (eA (fun xs=>Qc8 (xs++[])) (aCons (e2 dIx (eVar 0) (eC (.int 1))) aNil))))) (sRet (eC (.bl false))) sNil) (sRet (eAnd (eA (fun xs=>Qcg (xs++[])) (aCons (e2 dIx (eVar 0) (eC (.int 2))) (aCons (eMeth Qb "outs" (fun _=>Qbk) (e2 dIx (eVar 0) (eC (.int 1))) aNil) aNil))) (eA (fun xs=>Qah (xs++[])) (aCons (e2 dIx (eVar 0) (eC (.int 3))) (aCons (eC (.int 0)) (aCons (e2 dSub (eMeth Qb "period" (fun _=>QX) (e2 dIx (eVar 0) (eC (.int 1))) aNil) (eC (.int 1))) aNil))))))))
def Qef:List D->Out D:=bodyF false 1 1 QfA
theorem Qtb(d0:D):Qef [d0]=(QfA [some (.k,d0)]>>=retF false):=rfl
theorem Qs8(F:FunV K "is_seat" "is_seat" Qio f fd dV)(QcO:"e"^Qaf "is_name" 1 false)(Qr4:"e"^Qc8 "is_clerk" 1 false)(QpQ:"e"^Qcg "are_texts" 1 false)(Qbd:"e"^Qah "is_within" 2 false)(z_isinstance:mg "isinstance"=none)(z_tuple:mg "tuple"=none)(z_len:mg "len"=none)(mt_outs:MtOk P w K mg base CT CX0 "outs" 1 Qb (fun c=>SpD K CT false ((fun _=>Qbk) c)))(mt_period:MtOk P w K mg base CT CX0 "period" 1 Qb (fun c=>SpD K CT false ((fun _=>QX) c))):"f"^3 ["thing"] false Qef:=
 (@fnV P w K mg base CT false _ _ _ f fd dV _ _ 2 QfA F Qsa fun cdv A outer s H E G hr=>
  (Qh (ds_if (cv (dw_or (QT (QR (QaG "tuple" Ql9 gr z_tuple PyProof.Rows.Boot.«tuple» gr z_isinstance (cn (Qa 0))))) (QaY (dt_ne hr.units (cn (QU gr z_len (Qo (cn (Qa 0)) Qu))) (cn Qe))))) (Qg (Qy de_bl)) QJ) (Qh (ds_if (cv (dw_or (QT (QR (de_f QcO (Rm hr) (Qc (de_ix (Qa 0) (cn Qe)) Qk) gr))) (QaY (QT (QR (de_f Qr4 (Rm hr) (Qc (de_ix (Qa 0) (cn Qe)) Qk) gr)))))) (Qg (Qy de_bl)) QJ) (Qg (Qy (QbS (de_f QpQ (Rm hr) (Qc (de_ix (Qa 0) (cn Qe)) (Qc (Qay mt_outs (Rm hr) (de_ix (Qa 0) (cn Qe))) Qk)) gr) (Qep (de_f Qbd (Rm hr) (Qc (de_ix (Qa 0) (cn Qe)) (Qc Qe (Qc (QgO (cn (Qay mt_period (Rm hr) (de_ix (Qa 0) (cn Qe)))) (cn Qe)) Qk))) gr))))))) :)
abbrev Qci:Stmt:=top 36
theorem QnG:Qn ["thing","doors"] ["thing","doors"] (Qd Qci):=⟨rfl,rfl,rfl,dk,rfl,dk,dk⟩
abbrev QlM:PySem.Scope:={ kind:=PySem.ScopeKind.function,names:=[ (PySem.Str.ofString ".0",PySem.NameKind.local),(PySem.Str.ofString "seat",PySem.NameKind.local),(PySem.Str.ofString "is_seat",PySem.NameKind.globalImplicit)],isGenerator:=false,isCoroutine:=false,more:=[]:PySem.Scope }
theorem Qhu:Qz ["seat"] [none] QlM (Qd Qci) ["thing","doors"]:=⟨rfl,dk,dk,rfl,dk,dk⟩
def QeA:SD->Out D:=(eA (fun xs=>Qef (xs++[])) (aCons (eVar 0) aNil))
abbrev Ql3:PySem.Scope:={ kind:=PySem.ScopeKind.function,names:=[(PySem.Str.ofString ".0",PySem.NameKind.local),(PySem.Str.ofString "seat",PySem.NameKind.local)],isGenerator:=false,isCoroutine:=false,more:=[]:PySem.Scope }
theorem Qhq:Qz ["seat"] [none] Ql3 (Qd Qci) ["thing","doors"]:=⟨rfl,dk,dk,rfl,dk,dk⟩
def Qeu:SD->Out D:=(e2 dIx (eVar 0) (eC (.int 0)))
def Qd3:SD->Out Fl:=(sSeq (sIf (tOr' (tNot' (tVal (eA (fun xs=>QaO (xs++[])) (aCons (eVar 0) (aCons (eC (.int 60)) aNil))))) (tNot' (tVal (eA (f1 fAll) (aCons (eComp [none] (itL (eVar 0)) (gN 0) cTrue QeA) aNil))))) (sRet (eC (.bl false))) sNil) (sRet (eA (fun xs=>QS (xs++[])) (aCons (e2 dCat (eComp [none] (itL (eVar 0)) (gN 0) cTrue Qeu) (eVar 1)) aNil))))
def Qch:List D->Out D:=bodyF false 2 2 Qd3
theorem Qp1(d0 d1:D):Qch [d0,d1]=(Qd3 [some (.k,d0),some (.k,d1)]>>=retF false):=rfl
theorem Qqj{u_MOST_CLERKS:Value}(F:FunV K "are_seats" "are_seats" Qci f fd dV)(Qei:"e"^QaO "is_list" 1 false)(QtR:"e"^Qef "is_seat" 3 false)(QbU:"e"^QS "all_unlike" 1 false)(z_all:mg "all"=none)(c_MOST_CLERKS:mg "MOST_CLERKS"=some u_MOST_CLERKS)(r_MOST_CLERKS:RelV (toV (.int 60)) u_MOST_CLERKS):"f"^4 ["thing","doors"] false Qch:=
 (@fnV P w K mg base CT false _ _ _ f fd dV _ _ 3 Qd3 F QnG fun cdv A outer s H E G hr=>
  (Qh (ds_if (cv (dw_or (QT (QR (de_f Qei (Rm hr) (Qc (Qa 0) (Qc (QbE (d:=(.int 60)) gr c_MOST_CLERKS rfl r_MOST_CLERKS) Qk)) gr))) (QaY (QT (QR (Qej rfl gr z_all (Qo (cn (cm (QM rfl Qhu (cy (QL (Qa 0))) (fun ς=>QA (Qp rfl ς)) (Qs _) (fun fp s H G p=>⟨(Qx (i:=0) Qhu.nd rfl (oi rfl) (hf:=Or.inr rfl)),QB,(de_f QtR (Rm hr) (Qc (Qa 0) Qk) gr)⟩)))) Qu))))))) (Qg (Qy de_bl)) QJ) (Qg (Qy (de_f QbU (Rm hr) (Qc (cm (QnA (cm (QM rfl Qhq (cy (QL (Qa 0))) (fun ς=>QA (Qp rfl ς)) (Qs _) (fun fp s H G p=>⟨(Qx (i:=0) Qhq.nd rfl (oi rfl) (hf:=Or.inr rfl)),QB,(de_ix (Qa 0) (cn Qe))⟩))) (Qa 1))) Qk) gr)))) :)
abbrev Qg7:Stmt:=top 37
theorem Qp7:Qn ["thing","names"] ["thing","names"] (Qd Qg7):=⟨rfl,rfl,rfl,dk,rfl,dk,dk⟩
def QeZ:SD->Out Fl:=(sSeq (sIf (tOr' (tNot' (tVal (eIsa (isaT "tuple") (eVar 0)))) (tVal (e2 dNe (eA fLen (aCons (eVar 0) aNil)) (eC (.int 2))))) (sRet (eC (.bl false))) sNil) (sRet (eAnd (eA (fun xs=>Qaf (xs++[])) (aCons (e2 dIx (eVar 0) (eC (.int 0))) aNil)) (eAnd (eA (fun xs=>Qaf (xs++[])) (aCons (e2 dIx (eVar 0) (eC (.int 1))) aNil)) (e2 dInL (e2 dIx (eVar 0) (eC (.int 1))) (eVar 1))))))
def QcU:List D->Out D:=bodyF false 2 2 QeZ
theorem QrU(d0 d1:D):QcU [d0,d1]=(QeZ [some (.k,d0),some (.k,d1)]>>=retF false):=rfl
theorem QrZ(F:FunV K "is_entry" "is_entry" Qg7 f fd dV)(QcO:"e"^Qaf "is_name" 1 false)(z_isinstance:mg "isinstance"=none)(z_tuple:mg "tuple"=none)(z_len:mg "len"=none):"f"^2 ["thing","names"] false QcU:=
 (@fnV P w K mg base CT false _ _ _ f fd dV _ _ 1 QeZ F Qp7 fun cdv A outer s H E G hr=>
  (Qh (ds_if (cv (dw_or (QT (QR (QaG "tuple" Ql9 gr z_tuple PyProof.Rows.Boot.«tuple» gr z_isinstance (cn (Qa 0))))) (QaY (dt_ne hr.units (cn (QU gr z_len (Qo (cn (Qa 0)) Qu))) (cn Qe))))) (Qg (Qy de_bl)) QJ) (Qg (Qy (QbS (de_f QcO (Rm hr) (Qc (de_ix (Qa 0) (cn Qe)) Qk) gr) (QbS (de_f QcO (Rm hr) (Qc (de_ix (Qa 0) (cn Qe)) Qk) gr) (Qep (QtD (cn (de_ix (Qa 0) (cn Qe))) (cn (Qa 1))))))))) :)
abbrev Qbv:Stmt:=top 38
theorem QlD:Qn ["thing","names"] ["thing","names"] (Qd Qbv):=⟨rfl,rfl,rfl,dk,rfl,dk,dk⟩
abbrev QjA:PySem.Scope:={ kind:=PySem.ScopeKind.function,names:=[ (PySem.Str.ofString ".0",PySem.NameKind.local),(PySem.Str.ofString "entry",PySem.NameKind.local),(PySem.Str.ofString "is_entry",PySem.NameKind.globalImplicit),(PySem.Str.ofString "names",PySem.NameKind.free)],isGenerator:=false,isCoroutine:=false,more:=[]:PySem.Scope }
theorem QfM:Qz ["entry","names"] [none,some 1] QjA (Qd Qbv) ["thing","names"]:=⟨rfl,dk,dk,rfl,dk,dk⟩
def QcV:SD->Out D:=(eA (fun xs=>QcU (xs++[])) (aCons (eVar 0) (aCons (eVar 1) aNil)))
abbrev Qjj:PySem.Scope:={ kind:=PySem.ScopeKind.function,names:=[(PySem.Str.ofString ".0",PySem.NameKind.local),(PySem.Str.ofString "entry",PySem.NameKind.local)],isGenerator:=false,isCoroutine:=false,more:=[]:PySem.Scope }
theorem QfY:Qz ["entry"] [none] Qjj (Qd Qbv) ["thing","names"]:=⟨rfl,dk,dk,rfl,dk,dk⟩
def Qdd:SD->Out D:=(e2 dIx (eVar 0) (eC (.int 0)))
def Qcx:SD->Out Fl:=(sSeq (sIf (tOr' (tNot' (tVal (eA (fun xs=>QaO (xs++[])) (aCons (eVar 0) (aCons (eC (.int 6)) aNil))))) (tNot' (tVal (eA (f1 fAll) (aCons (eComp [none,some 1] (itL (eVar 0)) (gN 0) cTrue QcV) aNil))))) (sRet (eC (.bl false))) sNil) (sRet (eA (fun xs=>QS (xs++[])) (aCons (eComp [none] (itL (eVar 0)) (gN 0) cTrue Qdd) aNil))))
def Qbw:List D->Out D:=bodyF false 2 2 Qcx
theorem QmX(d0 d1:D):Qbw [d0,d1]=(Qcx [some (.k,d0),some (.k,d1)]>>=retF false):=rfl
theorem Qm0{u_MOST_ENTRIES:Value}(F:FunV K "are_entries" "are_entries" Qbv f fd dV)(Qei:"e"^QaO "is_list" 1 false)(Qrs:"e"^QcU "is_entry" 2 false)(QbU:"e"^QS "all_unlike" 1 false)(z_all:mg "all"=none)(c_MOST_ENTRIES:mg "MOST_ENTRIES"=some u_MOST_ENTRIES)(r_MOST_ENTRIES:RelV (toV (.int 6)) u_MOST_ENTRIES):"f"^3 ["thing","names"] false Qbw:=
 (@fnV P w K mg base CT false _ _ _ f fd dV _ _ 2 Qcx F QlD fun cdv A outer s H E G hr=>
  (Qh (ds_if (cv (dw_or (QT (QR (de_f Qei (Rm hr) (Qc (Qa 0) (Qc (QbE (d:=(.int 6)) gr c_MOST_ENTRIES rfl r_MOST_ENTRIES) Qk)) gr))) (QaY (QT (QR (Qej rfl gr z_all (Qo (cn (cm (QM rfl QfM (cy (QL (Qa 0))) (fun ς=>QA (Qp rfl ς)) (Qs _) (fun fp s H G p=>⟨(Qx (i:=0) QfM.nd rfl (oi rfl) (hf:=Or.inr rfl)),QB,(de_f Qrs (Rm hr) (Qc (Qa 0) (Qc (Qa 1) Qk)) gr)⟩)))) Qu))))))) (Qg (Qy de_bl)) QJ) (Qg (Qy (de_f QbU (Rm hr) (Qc (cm (QM rfl QfY (cy (QL (Qa 0))) (fun ς=>QA (Qp rfl ς)) (Qs _) (fun fp s H G p=>⟨(Qx (i:=0) QfY.nd rfl (oi rfl) (hf:=Or.inr rfl)),QB,(de_ix (Qa 0) (cn Qe))⟩))) Qk) gr)))) :)
abbrev Qe3:Stmt:=top 40
theorem Qp6:Qn ["seat","places"] ["seat","places"] (Qd Qe3):=⟨rfl,rfl,rfl,dk,rfl,dk,dk⟩
abbrev Qm7:PySem.Scope:={ kind:=PySem.ScopeKind.function,names:=[ (PySem.Str.ofString ".0",PySem.NameKind.local),(PySem.Str.ofString "text",PySem.NameKind.local),(PySem.Str.ofString "places",PySem.NameKind.free)],isGenerator:=false,isCoroutine:=false,more:=[]:PySem.Scope }
theorem QhP:Qz ["text","places"] [none,some 1] Qm7 (Qd Qe3) ["seat","places"]:=⟨rfl,dk,dk,rfl,dk,dk⟩
def Qfs:SD->Out D:=(eDget (eVar 1) (eVar 0))
def QeY:SD->Out Fl:=(sRetF (eComp [none,some 1] (itL (e2 dIx (eVar 0) (eC (.int 2)))) (gN 0) cTrue Qfs))
def Qda:List D->Out D:=bodyF true 2 2 QeY
theorem QrC(d0 d1:D):Qda [d0,d1]=(QeY [some (.k,d0),some (.k,d1)]>>=retF true):=rfl
theorem Qsn(F:FunV K "leads_to" "leads_to" Qe3 f fd dV)  : "f"^1 ["seat","places"] true Qda:=
 (@fnV P w K mg base CT true _ _ _ f fd dV _ _ 0 QeY F Qp6 fun cdv A outer s H E G hr=>
  (Qg (QaR (QM rfl QhP (cy (QL (de_ix (Qa 0) (cn Qe)))) (fun ς=>QA (Qp rfl ς)) (Qs _) (fun fp s H G p=>⟨(Qx (i:=0) QhP.nd rfl (oi rfl) (hf:=Or.inr rfl)),QB,(Qvz hr.units (Qa 1) (cn (Qa 0)))⟩)))) :)
abbrev Qai:Stmt:=inCls (top 41) 0
theorem Qb5:Qn ["self","clerks","entries","doors","names","places","ways"] ["self","clerks","entries","doors"] (Qd Qai):=⟨rfl,rfl,rfl,dk,rfl,dk,dk⟩
abbrev QjE:PySem.Scope:={ kind:=PySem.ScopeKind.function,names:=[(PySem.Str.ofString ".0",PySem.NameKind.local),(PySem.Str.ofString "seat",PySem.NameKind.local)],isGenerator:=false,isCoroutine:=false,more:=[]:PySem.Scope }
theorem QfR:Qz ["seat"] [none] QjE (Qd Qai) ["self","clerks","entries","doors","names","places","ways"]:=⟨rfl,dk,dk,rfl,dk,dk⟩
def QcQ:SD->Out D:=(e2 dIx (eVar 0) (eC (.int 0)))
abbrev QjH:PySem.Scope:={ kind:=PySem.ScopeKind.function,names:=[ (PySem.Str.ofString ".0",PySem.NameKind.local),(PySem.Str.ofString "seat",PySem.NameKind.local),(PySem.Str.ofString "leads_to",PySem.NameKind.globalImplicit),(PySem.Str.ofString "places",PySem.NameKind.free)],isGenerator:=false,isCoroutine:=false,more:=[]:PySem.Scope }
theorem QfK:Qz ["seat","places"] [none,some 5] QjH (Qd Qai) ["self","clerks","entries","doors","names","places","ways"]:=⟨rfl,dk,dk,rfl,dk,dk⟩
def Qdb:SD->Out D:=(eA (fun xs=>Qda (xs++[])) (aCons (eVar 0) (aCons (eVar 1) aNil)))
abbrev QjJ:PySem.Scope:={ kind:=PySem.ScopeKind.function,names:=[(PySem.Str.ofString ".0",PySem.NameKind.local),(PySem.Str.ofString "way",PySem.NameKind.local)],isGenerator:=false,isCoroutine:=false,more:=[]:PySem.Scope }
theorem QfI:Qz ["way"] [none] QjJ (Qd Qai) ["self","clerks","entries","doors","names","places","ways"]:=⟨rfl,dk,dk,rfl,dk,dk⟩
def Qdj:SD->Out D:=(e2 dInL (eC .non) (eVar 0))
abbrev QjK:PySem.Scope:={ kind:=PySem.ScopeKind.function,names:=[ (PySem.Str.ofString ".0",PySem.NameKind.local),(PySem.Str.ofString "entry",PySem.NameKind.local),(PySem.Str.ofString "places",PySem.NameKind.free)],isGenerator:=false,isCoroutine:=false,more:=[]:PySem.Scope }
theorem QfG:Qz ["entry","places"] [none,some 5] QjK (Qd Qai) ["self","clerks","entries","doors","names","places","ways"]:=⟨rfl,dk,dk,rfl,dk,dk⟩
def QbH:SD->Out D:=(eTup (aCons (e2 dIx (eVar 0) (eC (.int 0))) (aCons (eDix (eVar 1) (e2 dIx (eVar 0) (eC (.int 1)))) aNil)))
abbrev QjO:PySem.Scope:={ kind:=PySem.ScopeKind.function,names:=[(PySem.Str.ofString ".0",PySem.NameKind.local),(PySem.Str.ofString "seat",PySem.NameKind.local)],isGenerator:=false,isCoroutine:=false,more:=[]:PySem.Scope }
theorem QfO:Qz ["seat"] [none] QjO (Qd Qai) ["self","clerks","entries","doors","names","places","ways"]:=⟨rfl,dk,dk,rfl,dk,dk⟩
def QbK:SD->Out D:=(e2 dIx (eVar 0) (eC (.int 1)))
abbrev Qjb:PySem.Scope:={ kind:=PySem.ScopeKind.function,names:=[(PySem.Str.ofString ".0",PySem.NameKind.local),(PySem.Str.ofString "seat",PySem.NameKind.local)],isGenerator:=false,isCoroutine:=false,more:=[]:PySem.Scope }
theorem QfV:Qz ["seat"] [none] Qjb (Qd Qai) ["self","clerks","entries","doors","names","places","ways"]:=⟨rfl,dk,dk,rfl,dk,dk⟩
def QbJ:SD->Out D:=(e2 dIx (eVar 0) (eC (.int 3)))
def Qcu:SD->Out Fl:=(sSeq (fun ς=>noX ((sIf (tNot' (tVal (eA (fun xs=>Qcc (xs++[])) (aCons (eVar 3) (aCons (eC (.int 6)) aNil))))) Qc2 sNil) ς)) (sSeq (fun ς=>noX ((sIf (tNot' (tVal (eA (fun xs=>Qch (xs++[])) (aCons (eVar 1) (aCons (eVar 3) aNil))))) Qc2 sNil) ς)) (sSeq (fun ς=>noX ((sSet 4 (eComp [none] (itL (eVar 1)) (gN 0) cTrue QcQ)) ς)) (sSeq (fun ς=>noX ((sIf (tNot' (tVal (eA (fun xs=>Qbw (xs++[])) (aCons (eVar 2) (aCons (eVar 4) aNil))))) Qc2 sNil) ς)) (sSeq (fun ς=>noX ((sSet 5 (eA (fun xs=>Qca (xs++[])) (aCons (eVar 4) (aCons (eVar 3) aNil)))) ς)) (sSeq (fun ς=>noX ((sSet 6 (eComp [none,some 5] (itL (eVar 1)) (gN 0) cTrue Qdb)) ς)) (sSeq (fun ς=>noX ((sIf (tVal (eA (f1 fAny) (aCons (eComp [none] (itL (eVar 6)) (gN 0) cTrue Qdj) aNil))) Qc2 sNil) ς)) (sSeq (fun ς=>noX (sFldS Ql "clerk_names" 0 (eVar 4) ς)) (sSeq (fun ς=>noX (sFldS Ql "door_names" 0 (e1 dList (eVar 3)) ς)) (sSeq (fun ς=>noX (sFldS Ql "entry_places" 0 (eComp [none,some 5] (itL (eVar 2)) (gN 0) cTrue QbH) ς)) (sSeq (fun ς=>noX (sFldS Ql "staff" 0 (eComp [none] (itL (eVar 1)) (gN 0) cTrue QbK) ς)) (sSeq (fun ς=>noX (sFldS Ql "first_states" 0 (eComp [none] (itL (eVar 1)) (gN 0) cTrue QbJ) ς)) (fun ς=>noX (sFldS Ql "ways" 0 (eVar 6) ς))))))))))))))
def Qau:Str->List (Str×D)->List D->Out (List (Str×D)):=bodyI 4 7 Qcu
theorem Qm4(c:Str)(fds:List (Str×D))(d1 d2 d3:D):Qau c fds [d1,d2,d3]=(Qcu [some (.s,.ins c fds),some (.k,d1),some (.k,d2),some (.k,d3),none,none,none]>>=QbP c):=rfl
theorem Qne{u_MOST_DOORS:Value}(F:FunV K "__init__" "Office.__init__" Qai f fd dV)(Qqs:"e"^Qcc "are_names" 2 false)(Qpo:"e"^Qch "are_seats" 4 false)(QmT:"e"^Qbw "are_entries" 3 false)(Qqk:"e"^Qca "places_of" 1 true)(Qsj:"e"^Qda "leads_to" 1 true)(z_any:mg "any"=none)(z_list:mg "list"=none)(c_MOST_DOORS:mg "MOST_DOORS"=some u_MOST_DOORS)(r_MOST_DOORS:RelV (toV (.int 6)) u_MOST_DOORS)(fo_clerk_names:FldOk K CT Ql "clerk_names")(fo_door_names:FldOk K CT Ql "door_names")(fo_entry_places:FldOk K CT Ql "entry_places")(fo_staff:FldOk K CT Ql "staff")(fo_first_states:FldOk K CT Ql "first_states")(fo_ways:FldOk K CT Ql "ways"):FnOk P w K mg base (CXR P w) 5 f fd ["self","clerks","entries","doors"] (SpI K CT Qau):=
 (@fnI P w K mg base CT _ _ _ f fd dV _ _ 4 Qcu F Qb5 fun cdv A outer s H E G p hr=>
  (Qh (cz (ds_if (QT (QR (de_f Qqs (Rm hr) (Qc (Qa 3) (Qc (QbE (d:=(.int 6)) gr c_MOST_DOORS rfl r_MOST_DOORS) Qk)) gr))) (Qg QbM) QJ)) (Qh (cz (ds_if (QT (QR (de_f Qpo (Rm hr) (Qc (Qa 1) (Qc (Qa 3) Qk)) gr))) (Qg QbM) QJ)) (Qh (cz (QiA (i:=4) rfl QfR (cy (QL (Qa 1))) (fun ς=>QA (Qp rfl ς)) (Qs _) (fun fp s H G p=>⟨(Qx (i:=0) QfR.nd rfl (oi rfl) (hf:=Or.inr rfl)),QB,(de_ix (Qa 0) (cn Qe))⟩) Qb5.nd rfl (oi rfl))) (Qh (cz (ds_if (QT (QR (de_f QmT (Rm hr) (Qc (Qa 2) (Qc (Qa 4) Qk)) gr))) (Qg QbM) QJ)) (Qh (cz (Q4 (i:=5) Qb5.nd rfl (Or.inr rfl) (de_f Qqk (Rm hr) (Qc (Qa 4) (Qc (Qa 3) Qk)) gr))) (Qh (cz (QiA (i:=6) rfl QfK (cy (QL (Qa 1))) (fun ς=>QA (Qp rfl ς)) (Qs _) (fun fp s H G p=>⟨(Qx (i:=0) QfK.nd rfl (oi rfl) (hf:=Or.inr rfl)),QB,(de_f Qsj (Rm hr) (Qc (Qa 0) (Qc (Qa 1) Qk)) gr)⟩) Qb5.nd rfl (oi rfl))) (Qh (cz (ds_if (QR (Qxz rfl gr z_any (Qo (cn (cm (QM rfl QfI (cy (QL (Qa 6))) (fun ς=>QA (Qp rfl ς)) (Qs _) (fun fp s H G p=>⟨(Qx (i:=0) QfI.nd rfl (oi rfl) (hf:=Or.inr rfl)),QB,(QtD (cn QwX) (cn (Qa 0)))⟩)))) Qu))) (Qg QbM) QJ)) (Qh (cz (QcL 0 fo_clerk_names (Qa 4) rfl (oi rfl))) (Qh (cz (QcL 0 fo_door_names (cm (QbD gr z_list (Qa 3))) rfl (oi rfl))) (Qh (cz (QcL 0 fo_entry_places (cm (QM rfl QfG (cy (QL (Qa 2))) (fun ς=>QA (Qp rfl ς)) (Qs _) (fun fp s H G p=>⟨(Qx (i:=0) QfG.nd rfl (oi rfl) (hf:=Or.inr rfl)),QB,(Qnw (Qc (de_ix (Qa 0) (cn Qe)) (Qc (QxB hr.units (Qa 1) (cn (de_ix (Qa 0) (cn Qe)))) Qk)))⟩))) rfl (oi rfl))) (Qh (cz (QcL 0 fo_staff (cm (QM rfl QfO (cy (QL (Qa 1))) (fun ς=>QA (Qp rfl ς)) (Qs _) (fun fp s H G p=>⟨(Qx (i:=0) QfO.nd rfl (oi rfl) (hf:=Or.inr rfl)),QB,(de_ix (Qa 0) (cn Qe))⟩))) rfl (oi rfl))) (Qh (cz (QcL 0 fo_first_states (cm (QM rfl QfV (cy (QL (Qa 1))) (fun ς=>QA (Qp rfl ς)) (Qs _) (fun fp s H G p=>⟨(Qx (i:=0) QfV.nd rfl (oi rfl) (hf:=Or.inr rfl)),QB,(de_ix (Qa 0) (cn Qe))⟩))) rfl (oi rfl))) (Qg (cz (QcL 0 fo_ways (Qa 6) rfl (oi rfl)))))))))))))))) :)
abbrev Qdu:Stmt:=inCls (top 41) 1
theorem Qj2:Qn ["self"] ["self"] (Qd Qdu):=⟨rfl,rfl,rfl,dk,rfl,dk,dk⟩
def Qb1:SD->Out Fl:=(sRetF (e1 dList (e1 (dFld Ql "clerk_names") (eVar 0))))
def Qaa:List D->Out D:=bodyF true 1 1 Qb1
theorem QlZ(d0:D):Qaa [d0]=(Qb1 [some (.k,d0)]>>=retF true):=rfl
theorem QkR(F:FunV K "names" "Office.names" Qdu f fd dV)(z_list:mg "list"=none)(fo_clerk_names:FldOk K CT Ql "clerk_names"):"f"^1 ["self"] true Qaa:=
 (@fnV P w K mg base CT true _ _ _ f fd dV _ _ 0 Qb1 F Qj2 fun cdv A outer s H E G hr=>
  (Qg (QaR (QbD gr z_list (Qce fo_clerk_names (Qa 0))))) :)
abbrev QdL:Stmt:=inCls (top 41) 2
theorem Qko:Qn ["self"] ["self"] (Qd QdL):=⟨rfl,rfl,rfl,dk,rfl,dk,dk⟩
def Qb3:SD->Out Fl:=(sRetF (e1 dList (e1 (dFld Ql "door_names") (eVar 0))))
def Qab:List D->Out D:=bodyF true 1 1 Qb3
theorem Qk3(d0:D):Qab [d0]=(Qb3 [some (.k,d0)]>>=retF true):=rfl
theorem Qlo(F:FunV K "doors" "Office.doors" QdL f fd dV)(z_list:mg "list"=none)(fo_door_names:FldOk K CT Ql "door_names"):"f"^1 ["self"] true Qab:=
 (@fnV P w K mg base CT true _ _ _ f fd dV _ _ 0 Qb3 F Qko fun cdv A outer s H E G hr=>
  (Qg (QaR (QbD gr z_list (Qce fo_door_names (Qa 0))))) :)
abbrev Qcy:Stmt:=inCls (top 41) 3
theorem QiV:Qn ["self"] ["self"] (Qd Qcy):=⟨rfl,rfl,rfl,dk,rfl,dk,dk⟩
def Qbt:SD->Out Fl:=(sRetF (e1 dList (e1 (dFld Ql "entry_places") (eVar 0))))
def Q1:List D->Out D:=bodyF true 1 1 Qbt
theorem Qjx(d0:D):Q1 [d0]=(Qbt [some (.k,d0)]>>=retF true):=rfl
theorem Qjh(F:FunV K "entries" "Office.entries" Qcy f fd dV)(z_list:mg "list"=none)(fo_entry_places:FldOk K CT Ql "entry_places"):"f"^1 ["self"] true Q1:=
 (@fnV P w K mg base CT true _ _ _ f fd dV _ _ 0 Qbt F QiV fun cdv A outer s H E G hr=>
  (Qg (QaR (QbD gr z_list (Qce fo_entry_places (Qa 0))))) :)
abbrev QdQ:Stmt:=inCls (top 41) 6
theorem Qkh:Qn ["self"] ["self"] (Qd QdQ):=⟨rfl,rfl,rfl,dk,rfl,dk,dk⟩
def Qb4:SD->Out Fl:=(sRetF (e1 dList (e1 (dFld Ql "first_states") (eVar 0))))
def Qac:List D->Out D:=bodyF true 1 1 Qb4
theorem Qk4(d0:D):Qac [d0]=(Qb4 [some (.k,d0)]>>=retF true):=rfl
theorem Qli(F:FunV K "begin" "Office.begin" QdQ f fd dV)(z_list:mg "list"=none)(fo_first_states:FldOk K CT Ql "first_states"):"f"^1 ["self"] true Qac:=
 (@fnV P w K mg base CT true _ _ _ f fd dV _ _ 0 Qb4 F Qkh fun cdv A outer s H E G hr=>
  (Qg (QaR (QbD gr z_list (Qce fo_first_states (Qa 0))))) :)
abbrev QdP:Stmt:=inCls (top 41) 7
theorem Qj4:Qn ["self","k"] ["self","k"] (Qd QdP):=⟨rfl,rfl,rfl,dk,rfl,dk,dk⟩
def QbV:SD->Out Fl:=(sRetF (e1 dList (e2 dIx (e1 (dFld Ql "ways") (eVar 0)) (eVar 1))))
def Q5:List D->Out D:=bodyF true 2 2 QbV
theorem Qlz(d0 d1:D):Q5 [d0,d1]=(QbV [some (.k,d0),some (.k,d1)]>>=retF true):=rfl
theorem QkY(F:FunV K "leads" "Office.leads" QdP f fd dV)(z_list:mg "list"=none)(fo_ways:FldOk K CT Ql "ways"):"f"^1 ["self","k"] true Q5:=
 (@fnV P w K mg base CT true _ _ _ f fd dV _ _ 0 QbV F Qj4 fun cdv A outer s H E G hr=>
  (Qg (QaR (QbD gr z_list (de_ix (Qce fo_ways (Qa 0)) (cn (Qa 1)))))) :)
abbrev Qgo:Stmt:=top 52
theorem QcS:Qn ["_law_office","_law_handed_here","_law_k","_law_told","_law_name","_law_clerk_here","_law_leads","_law_state","_law_part"] ["_law_office","_law_handed_here","_law_k"] (Qd Qgo):=⟨rfl,rfl,rfl,dk,rfl,dk,dk⟩
def Qd9:SD->Out (List D):=(aCons (fun ς=>lnO ((fun ς=>QaS ((eMeth Qm "names" (fun _=>Qaa) (eVar 0) aNil) ς)) ς)) (aCons (fun ς=>lnO ((fun ς=>QaS ((eMeth Qm "doors" (fun _=>Qab) (eVar 0) aNil) ς)) ς)) (aCons (fun ς=>lnO ((fun ς=>QaS ((eMeth Qm "entries" (fun _=>Q1) (eVar 0) aNil) ς)) ς)) (aCons (fun ς=>lnO ((fun ς=>QaS ((eMeth Qm "begin" (fun _=>Qac) (eVar 0) aNil) ς)) ς)) (aCons (fun ς=>lnO ((fun ς=>QaS ((eMeth Qm "leads" (fun _=>Q5) (eVar 0) (aCons (eVar 2) aNil)) ς)) ς)) aNil)))))
def Qbz:D->D->Out (List D):=bodyS 9 Qd9
theorem QoW(d0 d2:D):Qbz d0 d2=Qd9 [some (.k,d0),none,some (.k,d2),none,none,none,none,none,none]:=rfl
theorem QqO(F:FunV K "_law_spoil" "_law_spoil" Qgo f fd dV)(mt_leads:MtOk P w K mg base CT CX0 "leads" 1 Qm (fun c=>SpD K CT true ((fun _=>Q5) c)))(mt_begin:MtOk P w K mg base CT CX0 "begin" 1 Qm (fun c=>SpD K CT true ((fun _=>Qac) c)))(mt_entries:MtOk P w K mg base CT CX0 "entries" 1 Qm (fun c=>SpD K CT true ((fun _=>Q1) c)))(mt_doors:MtOk P w K mg base CT CX0 "doors" 1 Qm (fun c=>SpD K CT true ((fun _=>Qab) c)))(mt_names:MtOk P w K mg base CT CX0 "names" 1 Qm (fun c=>SpD K CT true ((fun _=>Qaa) c))):FnOk P w K mg base CX0 2 f fd ["_law_office","_law_handed_here","_law_k"] (SpS K CT Qbz):=
 fnS (k:=1) (N:=["_law_office","_law_handed_here","_law_k","_law_told","_law_name","_law_clerk_here","_law_leads","_law_state","_law_part"]) (A0:=Qd9) F QcS fun cdv A outer s H E G hr=>
  fun G H σ ς W L d p S hσ hlen rx nd hG hd q=>QuT (i:=1) (r:=3) (r1:=4) (r2:=5) (rl:=6) (r4:=7) (r3:=8) (Qa0 (dy_df (fun gg kk=>(Qhh mt_names (Rm hr) (Qa 0)))) (Qa0 (dy_df (fun gg kk=>(Qhh mt_doors (Rm hr) (Qa 0)))) (Qa0 (dy_df (fun gg kk=>(Qhh mt_entries (Rm hr) (Qa 0)))) (Qa0 (dy_df (fun gg kk=>(Qhh mt_begin (Rm hr) (Qa 0)))) (Qa0 (dy_df (fun gg kk=>(QvB mt_leads (Rm hr) (Qa 0) (Qc (Qa 2) Qk)))) Qly))))) (fun ta pa=>Qvc ay rfl QcS.nd rfl (oi rfl) pa (oi rfl)) (Qvj ay rfl QcS.nd rfl rfl (oi rfl) rfl (oi rfl) rfl (oi rfl) rfl (oi rfl) (by intro _ _;rfl) (oi rfl) rfl rfl (oi rfl)) (QuN ay rfl QcS.nd rfl rfl (oi rfl) (oi rfl) rfl rfl (oi rfl)) (by decide) (by decide) S hσ (by intro n hn;rw[hlen];revert n;decide) rx nd hG hd q
abbrev Qhn:Stmt:=top 50
theorem Qi5:Qn ["_law_found","_law_due","_law_one"] ["_law_found","_law_due"] (Qd Qhn):=⟨rfl,rfl,rfl,dk,rfl,dk,dk⟩
def Qc3:SD->Out Fl:=(sIf (tVal (eIsa (isaT "bool") (eVar 2))) (sRet (eC (.bl false))) sNil)
def QeV:SD->Out Fl:=(sSeq (sIf (tOr' (tNot' (tVal (eIsa (isaT "list") (eVar 0)))) (tVal (e2 dNe (eVar 0) (eVar 1)))) (sRet (eC (.bl false))) sNil) (sSeq (sFor (gN 2) (itL (eVar 0)) Qc3) (sRet (eC (.bl true)))))
def QaN:List D->Out D:=bodyF false 2 3 QeV
theorem Qsp(d0 d1:D):QaN [d0,d1]=(QeV [some (.k,d0),some (.k,d1),none]>>=retF false):=rfl
theorem Qry(F:FunV K "_law_list" "_law_list" Qhn f fd dV)(z_isinstance:mg "isinstance"=none)(z_list:mg "list"=none)(z_bool:mg "bool"=none):"f"^1 ["_law_found","_law_due"] false QaN:=
 (@fnV P w K mg base CT false _ _ _ f fd dV _ _ 0 QeV F Qi5 fun cdv A outer s H E G hr=>
  (Qh (ds_if (cv (dw_or (QT (QR (QaG "list" Qfv gr z_list PyProof.Rows.Boot.«list» gr z_isinstance (cn (Qa 0))))) (QaY (dt_ne hr.units (cn (Qa 0)) (cn (Qa 1)))))) (Qg (Qy de_bl)) QJ) (Qh (Qbl ay rfl (QL (Qa 0)) (Qx (i:=2) Qi5.nd rfl (oi rfl)) (Qs _) (Qg (ds_if (QR (QaG "bool" Qjz gr z_bool PyProof.Rows.Boot.«bool» gr z_isinstance (cn (Qa 2)))) (Qg (Qy de_bl)) QJ))) (Qg (Qy de_bl)))) :)
abbrev Qgc:Stmt:=top 44
theorem QnC:Qn ["_law_found"] ["_law_found"] (Qd Qgc):=⟨rfl,rfl,rfl,dk,rfl,dk,dk⟩
def Qee:SD->Out Fl:=(sRet (eAnd (eIsa (isaT "int") (eVar 0)) (eNot (eIsa (isaT "bool") (eVar 0)))))
def Qcb:List D->Out D:=bodyF false 1 1 Qee
theorem QoX(d0:D):Qcb [d0]=(Qee [some (.k,d0)]>>=retF false):=rfl
theorem Qpj(F:FunV K "_law_whole" "_law_whole" Qgc f fd dV)(z_isinstance:mg "isinstance"=none)(z_int:mg "int"=none)(z_bool:mg "bool"=none):"f"^1 ["_law_found"] false Qcb:=
 (@fnV P w K mg base CT false _ _ _ f fd dV _ _ 0 Qee F QnC fun cdv A outer s H E G hr=>
  (Qg (Qy (QbS (QaG "int" QqW gr z_int PyProof.Rows.Boot.«int» gr z_isinstance (cn (Qa 0))) (Qep (Qti (QaG "bool" Qjz gr z_bool PyProof.Rows.Boot.«bool» gr z_isinstance (cn (Qa 0)))))))) :)
abbrev QeL:Stmt:=inCls (top 41) 4
theorem Qk2:Qn ["self"] ["self"] (Qd QeL):=⟨rfl,rfl,rfl,dk,rfl,dk,dk⟩
def Qcr:SD->Out Fl:=(sRet (eA fLen (aCons (e1 (dFld Ql "clerk_names") (eVar 0)) aNil)))
def Qat:List D->Out D:=bodyF false 1 1 Qcr
theorem QmW(d0:D):Qat [d0]=(Qcr [some (.k,d0)]>>=retF false):=rfl
theorem QmO(F:FunV K "many" "Office.many" QeL f fd dV)(z_len:mg "len"=none)(fo_clerk_names:FldOk K CT Ql "clerk_names"):"f"^1 ["self"] false Qat:=
 (@fnV P w K mg base CT false _ _ _ f fd dV _ _ 0 Qcr F Qk2 fun cdv A outer s H E G hr=>
  (Qg (Qy (QU gr z_len (Qo (cn (Qce fo_clerk_names (Qa 0))) Qu)))) :)
abbrev Qdp:Stmt:=inCls (top 15) 2
theorem QkA:Qn ["self"] ["self"] (Qd Qdp):=⟨rfl,rfl,rfl,dk,rfl,dk,dk⟩
def QbX:SD->Out Fl:=(sRet (eA (f1 dStr) (aCons (eMeth Qb "period" (fun _=>QX) (eVar 0) aNil) aNil)))
def Qbm:List D->Out D:=bodyF false 1 1 QbX
theorem QlI(d0:D):Qbm [d0]=(QbX [some (.k,d0)]>>=retF false):=rfl
theorem Qk9(F:FunV K "numbers" "Deal.numbers" Qdp f fd dV)(z_str:mg "str"=none)(mt_period:MtOk P w K mg base CT CX0 "period" 1 Qb (fun c=>SpD K CT false ((fun _=>QX) c))):"f"^2 ["self"] false Qbm:=
 (@fnV P w K mg base CT false _ _ _ f fd dV _ _ 1 QbX F QkA fun cdv A outer s H E G hr=>
  (Qg (Qy (Qe8 gr z_str (Qo (cn (Qay mt_period (Rm hr) (Qa 0))) Qu)))) :)
abbrev QcC:Stmt:=inCls (top 16) 2
theorem QiT:Qn ["self"] ["self"] (Qd QcC):=⟨rfl,rfl,rfl,dk,rfl,dk,dk⟩
def Qbu:SD->Out Fl:=(sRet (eA (f1 dStr) (aCons (eMeth Qb "period" (fun _=>QX) (eVar 0) aNil) aNil)))
def QaX:List D->Out D:=bodyF false 1 1 Qbu
theorem Qjw(d0:D):QaX [d0]=(Qbu [some (.k,d0)]>>=retF false):=rfl
theorem QjI(F:FunV K "numbers" "Bundle.numbers" QcC f fd dV)(z_str:mg "str"=none)(mt_period:MtOk P w K mg base CT CX0 "period" 1 Qb (fun c=>SpD K CT false ((fun _=>QX) c))):"f"^2 ["self"] false QaX:=
 (@fnV P w K mg base CT false _ _ _ f fd dV _ _ 1 Qbu F QiT fun cdv A outer s H E G hr=>
  (Qg (Qy (Qe8 gr z_str (Qo (cn (Qay mt_period (Rm hr) (Qa 0))) Qu)))) :)
abbrev Qe0:Stmt:=top 23
theorem Qpa:Qn ["row"] ["row"] (Qd Qe0):=⟨rfl,rfl,rfl,dk,rfl,dk,dk⟩
abbrev QmC:PySem.Scope:={ kind:=PySem.ScopeKind.function,names:=[ (PySem.Str.ofString ".0",PySem.NameKind.local),(PySem.Str.ofString "count",PySem.NameKind.local),(PySem.Str.ofString "str",PySem.NameKind.globalImplicit)],isGenerator:=false,isCoroutine:=false,more:=[]:PySem.Scope }
theorem QhU:Qz ["count"] [none] QmC (Qd Qe0) ["row"]:=⟨rfl,dk,dk,rfl,dk,dk⟩
def Qe9:SD->Out D:=(eA (f1 dStr) (aCons (eVar 0) aNil))
def Qe5:SD->Out Fl:=(sSeq (sIf (tVal (e2 dEq (eA fLen (aCons (eVar 0) aNil)) (eC (.int 0)))) (sRet (eC (.str "-"))) sNil) (sRet (eSm fJoin (eC (.str ",")) (aCons (eComp [none] (itL (eVar 0)) (gN 0) cTrue Qe9) aNil))))
def QcX:List D->Out D:=bodyF false 1 1 Qe5
theorem QrD(d0:D):QcX [d0]=(Qe5 [some (.k,d0)]>>=retF false):=rfl
theorem Qsk(F:FunV K "row_text" "row_text" Qe0 f fd dV)(z_len:mg "len"=none)(z_str:mg "str"=none):"f"^1 ["row"] false QcX:=
 (@fnV P w K mg base CT false _ _ _ f fd dV _ _ 0 Qe5 F Qpa fun cdv A outer s H E G hr=>
  (Qh (ds_if (dt_eq hr.units (cn (QU gr z_len (Qo (cn (Qa 0)) Qu))) (cn Qe)) (Qg (Qy QW)) QJ) (Qg (Qy (QiG (cn QW) (cm (QM rfl QhU (cy (QL (Qa 0))) (fun ς=>QA (Qp rfl ς)) (Qs _) (fun fp s H G p=>⟨(Qx (i:=0) QhU.nd rfl (oi rfl) (hf:=Or.inr rfl)),QB,(Qe8 gr z_str (Qo (cn (Qa 0)) Qu))⟩))))))) :)
abbrev QbI:Stmt:=inCls (top 14) 9
theorem Qjm:Qn ["self"] ["self"] (Qd QbI):=⟨rfl,rfl,rfl,dk,rfl,dk,dk⟩
abbrev QhS:PySem.Scope:={ kind:=PySem.ScopeKind.function,names:=[ (PySem.Str.ofString ".0",PySem.NameKind.local),(PySem.Str.ofString "row",PySem.NameKind.local),(PySem.Str.ofString "row_text",PySem.NameKind.globalImplicit)],isGenerator:=false,isCoroutine:=false,more:=[]:PySem.Scope }
theorem QeM:Qz ["row"] [none] QhS (Qd QbI) ["self"]:=⟨rfl,dk,dk,rfl,dk,dk⟩
def Qb9:SD->Out D:=(eA (fun xs=>QcX (xs++[])) (aCons (eVar 0) aNil))
def QbG:SD->Out Fl:=(sRet (eSm fJoin (eC (.str "/")) (aCons (eComp [none] (itL (e1 (dFld Ql "table") (eVar 0))) (gN 0) cTrue Qb9) aNil)))
def Qae:List D->Out D:=bodyF false 1 1 QbG
theorem Qj6(d0:D):Qae [d0]=(QbG [some (.k,d0)]>>=retF false):=rfl
theorem Qj9(F:FunV K "numbers" "Clerk.numbers" QbI f fd dV)(QrQ:"e"^QcX "row_text" 1 false)(fo_table:FldOk K CT Ql "table"):"f"^2 ["self"] false Qae:=
 (@fnV P w K mg base CT false _ _ _ f fd dV _ _ 1 QbG F Qjm fun cdv A outer s H E G hr=>
  (Qg (Qy (QiG (cn QW) (cm (QM rfl QeM (cy (QL (Qce fo_table (Qa 0)))) (fun ς=>QA (Qp rfl ς)) (Qs _) (fun fp s H G p=>⟨(Qx (i:=0) QeM.nd rfl (oi rfl) (hf:=Or.inr rfl)),QB,(de_f QrQ (Rm hr) (Qc (Qa 0) Qk) gr)⟩)))))) :)
abbrev Qf1:Stmt:=inCls (top 15) 1
theorem QnV:Qn ["self"] ["self"] (Qd Qf1):=⟨rfl,rfl,rfl,dk,rfl,dk,dk⟩
def Qja:SD->Out Fl:=(sRet (eC (.str "deal")))
def Qd0:List D->Out D:=bodyF false 1 1 Qja
theorem Qo3(F:FunV K "word" "Deal.word" Qf1 f fd dV)  : "f"^1 ["self"] false Qd0:=
 (@fnV P w K mg base CT false _ _ _ f fd dV _ _ 0 Qja F QnV fun cdv A outer s H E G hr=>
  (Qg (Qy QW)) :)
abbrev Qer:Stmt:=inCls (top 16) 1
theorem QlW:Qn ["self"] ["self"] (Qd Qer):=⟨rfl,rfl,rfl,dk,rfl,dk,dk⟩
def QhF:SD->Out Fl:=(sRet (eC (.str "bundle")))
def Qcw:List D->Out D:=bodyF false 1 1 QhF
theorem Qnf(F:FunV K "word" "Bundle.word" Qer f fd dV)  : "f"^1 ["self"] false Qcw:=
 (@fnV P w K mg base CT false _ _ _ f fd dV _ _ 0 QhF F QlW fun cdv A outer s H E G hr=>
  (Qg (Qy QW)) :)
abbrev Qgl:Stmt:=inCls (top 17) 1
theorem Qoi:Qn ["self"] ["self"] (Qd Qgl):=⟨rfl,rfl,rfl,dk,rfl,dk,dk⟩
def Qi6:SD->Out Fl:=(sRet (eC (.str "copy")))
def QdV:List D->Out D:=bodyF false 1 1 Qi6
theorem Qp9(F:FunV K "word" "Copy.word" Qgl f fd dV)  : "f"^1 ["self"] false QdV:=
 (@fnV P w K mg base CT false _ _ _ f fd dV _ _ 0 Qi6 F Qoi fun cdv A outer s H E G hr=>
  (Qg (Qy QW)) :)
abbrev Qgg:Stmt:=inCls (top 18) 1
theorem Qnv:Qn ["self"] ["self"] (Qd Qgg):=⟨rfl,rfl,rfl,dk,rfl,dk,dk⟩
def Qi4:SD->Out Fl:=(sRet (eC (.str "rows")))
def Qec:List D->Out D:=bodyF false 1 1 Qi4
theorem QqE(F:FunV K "word" "Rows.word" Qgg f fd dV)  : "f"^1 ["self"] false Qec:=
 (@fnV P w K mg base CT false _ _ _ f fd dV _ _ 0 Qi4 F Qnv fun cdv A outer s H E G hr=>
  (Qg (Qy QW)) :)
abbrev Qfg:Stmt:=inCls (top 14) 10
theorem QmK:Qn ["self"] ["self"] (Qd Qfg):=⟨rfl,rfl,rfl,dk,rfl,dk,dk⟩
def QaQ:Str->List D->Out D:=fun c=>if c=("Deal":Str) then Qd0 else if c=("Bundle":Str) then Qcw else if c=("Copy":Str) then QdV else if c=("Rows":Str) then Qec else fun _=>.stuck
theorem Qif:QaQ "Deal"=Qd0:=by unfold QaQ;rw[aA rfl]
theorem QgX:QaQ "Bundle"=Qcw:=by unfold QaQ;rw[aD (dk),aA rfl]
theorem QhJ:QaQ "Copy"=QdV:=by unfold QaQ;rw[aD (dk),aD (dk),aA rfl]
theorem QhO:QaQ "Rows"=Qec:=by unfold QaQ;rw[aD (dk),aD (dk),aD (dk),aA rfl]
def Q9:Str->List D->Out D:=fun c=>if c=("Deal":Str) then Qbm else if c=("Bundle":Str) then QaX else if c=("Copy":Str) then Qae else if c=("Rows":Str) then Qae else fun _=>.stuck
theorem QfS:Q9 "Deal"=Qbm:=by unfold Q9;rw[aA rfl]
theorem QeN:Q9 "Bundle"=QaX:=by unfold Q9;rw[aD (dk),aA rfl]
theorem QfN:Q9 "Copy"=Qae:=by unfold Q9;rw[aD (dk),aD (dk),aA rfl]
theorem QfU:Q9 "Rows"=Qae:=by unfold Q9;rw[aD (dk),aD (dk),aD (dk),aA rfl]
def Qdc:SD->Out Fl:=(sRet (e2 dAdd (e2 dAdd (eMeth Qb "word" QaQ (eVar 0) aNil) (eC (.str " "))) (eMeth Qb "numbers" Q9 (eVar 0) aNil)))
def Qbi:List D->Out D:=bodyF false 1 1 Qdc
theorem Qou(d0:D):Qbi [d0]=(Qdc [some (.k,d0)]>>=retF false):=rfl
theorem Qoy(F:FunV K "text" "Clerk.text" Qfg f fd dV)(mt_word:MtOk P w K mg base CT CX0 "word" 1 Qb (fun c=>SpD K CT false (QaQ c)))(mt_numbers:MtOk P w K mg base CT CX0 "numbers" 2 Qb (fun c=>SpD K CT false (Q9 c))):"f"^3 ["self"] false Qbi:=
 (@fnV P w K mg base CT false _ _ _ f fd dV _ _ 2 Qdc F QmK fun cdv A outer s H E G hr=>
  (Qg (Qy (QQ (cn (QQ (cn (Qay mt_word (Rm hr) (Qa 0))) (cn QW))) (cn (Qay mt_numbers (Rm hr) (Qa 0)))))) :)
abbrev Qdq:Stmt:=inCls (top 41) 5
theorem Qkf:Qn ["self","k"] ["self","k"] (Qd Qdq):=⟨rfl,rfl,rfl,dk,rfl,dk,dk⟩
def QbY:SD->Out Fl:=(sRet (e2 dIx (e1 (dFld Ql "staff") (eVar 0)) (eVar 1)))
def Qax:List D->Out D:=bodyF false 2 2 QbY
theorem QlJ(d0 d1:D):Qax [d0,d1]=(QbY [some (.k,d0),some (.k,d1)]>>=retF false):=rfl
theorem QkV(F:FunV K "clerk" "Office.clerk" Qdq f fd dV)(fo_staff:FldOk K CT Ql "staff"):"f"^1 ["self","k"] false Qax:=
 (@fnV P w K mg base CT false _ _ _ f fd dV _ _ 0 QbY F Qkf fun cdv A outer s H E G hr=>
  (Qg (Qy (de_ix (Qce fo_staff (Qa 0)) (cn (Qa 1))))) :)
abbrev Qcm:Stmt:=top 51
theorem QaW:Qn ["_law_office","_law_plan_here","_law_doors","_law_seats","_law_let_in","_law_k","_law_leads","_law_lead"] ["_law_office","_law_plan_here"] (Qd Qcm):=⟨rfl,rfl,rfl,dk,rfl,dk,dk⟩
abbrev Qlh:PySem.Scope:={ kind:=PySem.ScopeKind.function,names:=[(PySem.Str.ofString ".0",PySem.NameKind.local),(PySem.Str.ofString "_law_seat",PySem.NameKind.local)],isGenerator:=false,isCoroutine:=false,more:=[]:PySem.Scope }
theorem Qhy:Qz ["_law_seat"] [none] Qlh (Qd Qcm) ["_law_office","_law_plan_here","_law_doors","_law_seats","_law_let_in","_law_k","_law_leads","_law_lead"]:=⟨rfl,dk,dk,rfl,dk,dk⟩
def QeE:SD->Out D:=(e2 dIx (eVar 0) (eC (.int 0)))
abbrev QlU:PySem.Scope:={ kind:=PySem.ScopeKind.function,names:=[(PySem.Str.ofString ".0",PySem.NameKind.local),(PySem.Str.ofString "_law_seat",PySem.NameKind.local)],isGenerator:=false,isCoroutine:=false,more:=[]:PySem.Scope }
theorem QhG:Qz ["_law_seat"] [none] QlU (Qd Qcm) ["_law_office","_law_plan_here","_law_doors","_law_seats","_law_let_in","_law_k","_law_leads","_law_lead"]:=⟨rfl,dk,dk,rfl,dk,dk⟩
def Qev:SD->Out D:=(e2 dIx (eVar 0) (eC (.int 5)))
def Qco:SD->Out Fl:=(sIf (tVal (e2 dLt (eVar 7) (eA fLen (aCons (eVar 2) aNil)))) (QaP 6 (e2 dSub (e1 dNeg (eC (.int 1))) (eVar 7))) (QaP 6 (e2 dSub (eVar 7) (eA fLen (aCons (eVar 2) aNil)))))
def Qcn:SD->Out Fl:=(sSeq (sSetO 6 (eLst aNil)) (sSeq (sFor (gN 7) (itL (e2 dIx (e2 dIx (eVar 3) (eVar 5)) (eC (.int 4)))) Qco) (sIf (tOr' (tNot' (tVal (fun ς=>Qh7 ((eA (fun xs=>QaN (xs++[])) (aCons (eMeth Qm "leads" (fun _=>Q5) (eVar 0) (aCons (eVar 5) aNil)) (aCons (eVarB 6) aNil))) ς)))) (tVal (e2 dNe (eMeth Qb "text" (fun _=>Qbi) (eMeth Qm "clerk" (fun _=>Qax) (eVar 0) (aCons (eVar 5) aNil)) aNil) (e2 dIx (e2 dIx (eVar 3) (eVar 5)) (eC (.int 3)))))) (sRet (eC (.bl false))) sNil)))
def Qd5:SD->Out Fl:=(sSeq (sUnpL [2,3,4] (eVar 1)) (sSeq (sIf (tOr' (tNot' (tVal (eA (fun xs=>QaN (xs++[])) (aCons (eMeth Qm "doors" (fun _=>Qab) (eVar 0) aNil) (aCons (eVar 2) aNil))))) (tNot' (tVal (eA (fun xs=>QaN (xs++[])) (aCons (eMeth Qm "names" (fun _=>Qaa) (eVar 0) aNil) (aCons (eComp [none] (itL (eVar 3)) (gN 0) cTrue QeE) aNil)))))) (sRet (eC (.bl false))) sNil) (sSeq (sIf (tOr' (tNot' (tVal (eA (fun xs=>QaN (xs++[])) (aCons (eMeth Qm "entries" (fun _=>Q1) (eVar 0) aNil) (aCons (eVar 4) aNil))))) (tNot' (tVal (eA (fun xs=>QaN (xs++[])) (aCons (eMeth Qm "begin" (fun _=>Qac) (eVar 0) aNil) (aCons (eComp [none] (itL (eVar 3)) (gN 0) cTrue Qev) aNil)))))) (sRet (eC (.bl false))) sNil) (sSeq (sIf (tOr' (tNot' (tVal (eA (fun xs=>Qcb (xs++[])) (aCons (eMeth Qm "many" (fun _=>Qat) (eVar 0) aNil) aNil)))) (tVal (e2 dNe (eMeth Qm "many" (fun _=>Qat) (eVar 0) aNil) (eA fLen (aCons (eVar 3) aNil))))) (sRet (eC (.bl false))) sNil) (sSeq (sFor (gN 5) (itR1 (eA fLen (aCons (eVar 3) aNil))) Qcn) (sRet (eC (.bl true))))))))
def Qbe:List D->Out D:=bodyF false 2 8 Qd5
theorem QqM(d0 d1:D):Qbe [d0,d1]=(Qd5 [some (.k,d0),some (.k,d1),none,none,none,none,none,none]>>=retF false):=rfl
theorem Qqq(F:FunV K "_law_tells" "_law_tells" Qcm f fd dV)(QcT:"e"^QaN "_law_list" 1 false)(QpW:"e"^Qcb "_law_whole" 1 false)(z_len:mg "len"=none)(z_range:mg "range"=none)(mt_doors:MtOk P w K mg base CT CX0 "doors" 1 Qm (fun c=>SpD K CT true ((fun _=>Qab) c)))(mt_names:MtOk P w K mg base CT CX0 "names" 1 Qm (fun c=>SpD K CT true ((fun _=>Qaa) c)))(mt_entries:MtOk P w K mg base CT CX0 "entries" 1 Qm (fun c=>SpD K CT true ((fun _=>Q1) c)))(mt_begin:MtOk P w K mg base CT CX0 "begin" 1 Qm (fun c=>SpD K CT true ((fun _=>Qac) c)))(mt_many:MtOk P w K mg base CT CX0 "many" 1 Qm (fun c=>SpD K CT false ((fun _=>Qat) c)))(mt_leads:MtOk P w K mg base CT CX0 "leads" 1 Qm (fun c=>SpD K CT true ((fun _=>Q5) c)))(mt_text:MtOk P w K mg base CT CX0 "text" 3 Qb (fun c=>SpD K CT false ((fun _=>Qbi) c)))(mt_clerk:MtOk P w K mg base CT CX0 "clerk" 1 Qm (fun c=>SpD K CT false ((fun _=>Qax) c))):"f"^4 ["_law_office","_law_plan_here"] false Qbe:=
 (@fnV P w K mg base CT false _ _ _ f fd dV _ _ 3 Qd5 F QaW fun cdv A outer s H E G hr=>
  (Qh (Qlc rfl (Qa 1) (Q3 (i:=2) QaW.nd rfl (oi rfl) (Q3 (i:=3) QaW.nd rfl (oi rfl) (Q3 (i:=4) QaW.nd rfl (oi rfl) QcN)))) (Qh (ds_if (cv (dw_or (QT (QR (de_f QcT (Rm hr) (Qc (Qay mt_doors (Rm hr) (Qa 0)) (Qc (Qa 2) Qk)) gr))) (QaY (QT (QR (de_f QcT (Rm hr) (Qc (Qay mt_names (Rm hr) (Qa 0)) (Qc (cm (QM rfl Qhy (cy (QL (Qa 3))) (fun ς=>QA (Qp rfl ς)) (Qs _) (fun fp s H G p=>⟨(Qx (i:=0) Qhy.nd rfl (oi rfl) (hf:=Or.inr rfl)),QB,(de_ix (Qa 0) (cn Qe))⟩))) Qk)) gr)))))) (Qg (Qy de_bl)) QJ) (Qh (ds_if (cv (dw_or (QT (QR (de_f QcT (Rm hr) (Qc (Qay mt_entries (Rm hr) (Qa 0)) (Qc (Qa 4) Qk)) gr))) (QaY (QT (QR (de_f QcT (Rm hr) (Qc (Qay mt_begin (Rm hr) (Qa 0)) (Qc (cm (QM rfl QhG (cy (QL (Qa 3))) (fun ς=>QA (Qp rfl ς)) (Qs _) (fun fp s H G p=>⟨(Qx (i:=0) QhG.nd rfl (oi rfl) (hf:=Or.inr rfl)),QB,(de_ix (Qa 0) (cn Qe))⟩))) Qk)) gr)))))) (Qg (Qy de_bl)) QJ) (Qh (ds_if (cv (dw_or (QT (QR (de_f QpW (Rm hr) (Qc (Qay mt_many (Rm hr) (Qa 0)) Qk) gr))) (QaY (dt_ne hr.units (cn (Qay mt_many (Rm hr) (Qa 0))) (cn (QU gr z_len (Qo (cn (Qa 3)) Qu))))))) (Qg (Qy de_bl)) QJ) (Qh (Qbl ay rfl (Qaj gr z_range (cn (QU gr z_len (Qo (cn (Qa 3)) Qu)))) (Qx (i:=5) QaW.nd rfl (oi rfl)) (Qs _) (Qh (QdS (i:=6) QaW.nd rfl (oi rfl) (Qav Qk)) (Qh (Qbl ay rfl (QL (de_ix (de_ix (Qa 3) (cn (Qa 5))) (cn Qe))) (Qx (i:=7) QaW.nd rfl (oi rfl)) (Qs _) (Qg (ds_if (dt_lt (cn (Qa 7)) (cn (QU gr z_len (Qo (cn (Qa 2)) Qu)))) (Qg (QbO 6 (QgO (cn (QoK (cn Qe))) (cn (Qa 7))) rfl (oi rfl))) (Qg (QbO 6 (QgO (cn (Qa 7)) (cn (QU gr z_len (Qo (cn (Qa 2)) Qu)))) rfl (oi rfl)))))) (Qg (ds_if (cv (dw_or (QT (QR (DB.de (db_f QcT (Rm hr) (Qo (cn (QqS mt_leads (Rm hr) (Qa 0) (Qc (Qa 5) Qk))) (Qo (QxI 6) Qu)) gr)))) (QaY (dt_ne hr.units (cn (Qay mt_text (Rm hr) (QqS mt_clerk (Rm hr) (Qa 0) (Qc (Qa 5) Qk)))) (cn (de_ix (de_ix (Qa 3) (cn (Qa 5))) (cn Qe))))))) (Qg (Qy de_bl)) QJ))))) (Qg (Qy de_bl))))))) :)
abbrev QeS:Stmt:=top 53
theorem Qff:Qn ["_law_script","_law_plan_here","_law_handed_here","_law_kept","_law_office","_law_one","_law_other"] ["_law_script"] (Qd QeS):=⟨rfl,rfl,rfl,dk,rfl,dk,dk⟩
def QiK:SD->Out Fl:=(sIf (tOr' (tVal (e2 dNe (e2 dIx (eVar 5) (eC (.int 0))) (e2 dIx (eVar 6) (eC (.int 0))))) (tOr' (tVal (e2 dNe (e2 dIx (eVar 5) (eC (.int 2))) (e2 dIx (eVar 6) (eC (.int 2))))) (tVal (e2 dNe (e2 dIx (eVar 5) (eC (.int 3))) (e2 dIx (eVar 6) (eC (.int 3))))))) (sRet (eC (.bl false))) sNil)
def QqY:SD->Out Fl:=(mSeq 2 (sSet 3 (eA QaZ (aCons (eVar 1) aNil))) (mSeq 2 (sSet 4 (eMake "Office" Qau (aCons (e2 dIx (eVarL 2) (eC (.int 0))) (aCons (e2 dIx (eVarL 2) (eC (.int 1))) (aCons (e2 dIx (eVarL 2) (eC (.int 2))) aNil))))) (mSeq 2 (sFor (gT [5,6]) (itZ (e2 dIx (eVarL 2) (eC (.int 0))) (e2 dIx (eVar 3) (eC (.int 0)))) QiK) (mSeq 2 (sIf (tOr' (tVal (e2 dNe (eSl (eVarL 2) (oSome (eC (.int 1))) oNo) (eSl (eVar 3) (oSome (eC (.int 1))) oNo))) (tNot' (tVal (eA (fun xs=>Qbe (xs++[])) (aCons (eVar 4) (aCons (eVar 1) aNil)))))) (sRet (eC (.bl false))) sNil) (mSp 2 4 (e2 dMod (eA (fun xs=>QZ (xs++[])) (aCons (eA (fun xs=>Qas (xs++[])) (aCons (eVar 0) (aCons (eC (.int 1)) aNil))) (aCons (eC (.int 7)) aNil))) (eA fLen (aCons (e2 dIx (eVar 1) (eC (.int 1))) aNil))) Qbz (sRet (eA (fun xs=>Qbe (xs++[])) (aCons (eVar 4) (aCons (eVar 1) aNil)))))))))
def Qnn:SD->Out Fl:=(sSeq (sSet 1 (eA (fun xs=>QcZ (xs++[])) (aCons (eVar 0) (aCons (eC (.int 60)) aNil)))) (sLend 2 QaZ (aCons (eVar 1) aNil) QqY))
def Qfy:List D->Out D:=bodyF false 1 7 Qnn
theorem Qyj(d0:D):Qfy [d0]=(Qnn [some (.k,d0),none,none,none,none,none,none]>>=retF false):=rfl
theorem Qyn(F:FunV K "law" "law" QeS f fd dV)(Qsf:"e"^QcZ "_law_plan" 8 true)(Qib:DefH P w K mg base CT "_law_handed" 1 QaZ)(Qi9:"e"^Qbe "_law_tells" 4 false)(Qqw:DefS P w K mg base CT "_law_spoil" 2 Qbz)(Qcl:"e"^QZ "_law_mixed" 1 false)(QeQ:"e"^Qas "_law_cell" 1 false)(z_zip:mg "zip"=none)(z_len:mg "len"=none)(Qic:MkOk P w K mg base CT "Office" 5 Qau):"f"^9 ["_law_script"] false Qfy:=
 (@fnV P w K mg base CT false _ _ _ f fd dV _ _ 8 Qnn F Qff fun cdv A outer s H E G hr=>
  (Qh (Q4 (i:=1) Qff.nd rfl (oi rfl) (de_f Qsf (Rm hr) (Qc (Qa 0) (Qc Qe Qk)) gr)) (Qt3 (i:=2) Qib (Rm hr) (dav_v 1 Qra rfl (oi rfl)) gr Qff.nd rfl (oi rfl) (QiL (fun w g=>(Q4 (i:=3) Qff.nd rfl (oi rfl) (de_fH Qib (Rm hr) (dav_v 1 Qra rfl (oi rfl)) gr))) (QiL (fun w g=>(Q4 (i:=4) Qff.nd rfl (oi rfl) (cm (QgD rz0 Qic (Rm hr) (Qc (de_ix (Qg1 2 rfl (oi rfl)) (cn Qe)) (Qc (de_ix (Qg1 2 rfl (oi rfl)) (cn Qe)) (Qc (de_ix (Qg1 2 rfl (oi rfl)) (cn Qe)) Qk))) gr)))) (QiL (fun w g=>(Qbl ay rfl (QsS gr z_zip (de_ix (Qg1 2 rfl (oi rfl)) (cn Qe)) (de_ix (Qa 3) (cn Qe))) (Qik rfl (Q3 (i:=5) Qff.nd rfl (oi rfl) (Q3 (i:=6) Qff.nd rfl (oi rfl) QcN))) (Qfj _) (Qg (ds_if (cv (dw_or (dt_ne hr.units (cn (de_ix (Qa 5) (cn Qe))) (cn (de_ix (Qa 6) (cn Qe)))) (dw_or (dt_ne hr.units (cn (de_ix (Qa 5) (cn Qe))) (cn (de_ix (Qa 6) (cn Qe)))) (QaY (dt_ne hr.units (cn (de_ix (Qa 5) (cn Qe))) (cn (de_ix (Qa 6) (cn Qe)))))))) (Qg (Qy de_bl)) QJ)))) (QiL (fun w g=>(ds_if (cv (dw_or (dt_ne hr.units (cn (cm (df_sl (Qg1 2 rfl (oi rfl)) (Qe7 (cn Qe)) Qiv))) (cn (cm (df_sl (Qa 3) (Qe7 (cn Qe)) Qiv)))) (QaY (QT (QR (de_f Qi9 (Rm hr) (Qc (Qa 4) (Qc (Qa 1) Qk)) gr)))))) (Qg (Qy de_bl)) QJ)) (QuJ (i:=2) (jo:=4) Qqw (Rm hr) gr rfl rfl (fun w g=>(QV (cn (de_f Qcl (Rm hr) (Qc (de_f QeQ (Rm hr) (Qc (Qa 0) (Qc Qe Qk)) gr) (Qc Qe Qk)) gr)) (cn (QU gr z_len (Qo (cn (de_ix (Qa 1) (cn Qe))) Qu))))) (Qg (Qy (de_f Qi9 (Rm hr) (Qc (Qa 4) (Qc (Qa 1) Qk)) gr))) (oi rfl) rfl rfl (oi rfl)))))))) :)
end
end My
set_option exponentiation.threshold 20000
namespace My
open PySem PySem.Spec L2 DL
set_option hygiene false
local macro_rules
 | `(tactic|exists "E",$xs,*)=>`(tactic|simp[$[$xs:term],*,bodyF,retF,sSeq,thenF,sSet,sRet,sIf,sNil,eVar,eC,e1,e2,eA,f1,aNil,aCons,tVal,tAnd',tOr',tNot',eAnd,eOr,eNot,eIf,eTup,eLst,eIsa,isaT,Qaw,oNo,oSome,sPar,sUnp,Q6,gN,gT,fLen,Qao,d8,Out.bind_exc,Out.bind_stuck,Out.pure_eq,D.scal,Qbo,Qbr,Qbp,Qcz,QaB,QcM,QdO,QdH,Qag,QbC,aR,bw,au,List.map_nil,cZ,List.nil_append,aj,az,bC,List.set_cons_zero,List.set_cons_succ,List.replicate,Nat.reduceAdd,Nat.reduceSub,Nat.reduceLeDiff,cB,Nat.add_zero,reduceIte,Bool.not_true,Bool.not_false,Bool.true_and,cV,Bool.false_and,Bool.and_false,Bool.or_true,Bool.true_or,Bool.or_false,Bool.false_or,Bool.false_eq_true,decide_true,decide_false,c9,cU,cR,Int.reduceEq,Int.reduceLT,Int.reduceLE,Int.reduceNeg,Nat.reduceEqDiff, ↓reduceIte,not_true_eq_false,not_false_eq_true])
 | `(tactic|exists "O",$xs,*)=>`(tactic|simp only[$[$xs:term],*,bodyF,retF,sSeq,thenF,sSet,sRet,sIf,sNil,eVar,eC,e1,e2,eA,f1,aNil,aCons,tVal,tAnd',tOr',tNot',eAnd,eOr,eNot,eIf,eTup,eLst,eIsa,isaT,Qaw,oNo,oSome,sPar,sUnp,Q6,gN,gT,fLen,Qao,d8,Out.bind_exc,Out.bind_stuck,Out.pure_eq,D.scal,Qbo,Qbr,Qbp,Qcz,QaB,QcM,QdO,QdH,Qag,QbC,aR,bw,au,List.map_nil,cZ,List.nil_append,aj,az,bC,List.set_cons_zero,List.set_cons_succ,List.replicate,Nat.reduceAdd,Nat.reduceSub,Nat.reduceLeDiff,cB,Nat.add_zero,reduceIte,Bool.not_true,Bool.not_false,Bool.true_and,cV,Bool.false_and,Bool.and_false,Bool.or_true,Bool.true_or,Bool.or_false,Bool.false_or,Bool.false_eq_true,decide_true,decide_false,c9,cU,cR,Int.reduceEq,Int.reduceLT,Int.reduceLE,Int.reduceNeg,Nat.reduceEqDiff, ↓reduceIte,not_true_eq_false,not_false_eq_true])
set_option hygiene true
local macro_rules | `(tactic| walk_at "g") => `(tactic| ((repeat (first | exact Qw1 | apply Qx5));done))
local macro_rules | `(tactic| walk_at "s") => `(tactic| repeat (first | exact QsF | apply Qtv))
local macro_rules | `(tactic| walk_at "all") => `(tactic| repeat (first | with_reducible exact Qmr | (apply Qml;focus walk_at "s")))
local macro_rules | `(tactic| walk_at "cap") => `(tactic| repeat (first | exact c_nil | apply Qem | (apply c_k;focus walk_at "g") | (apply c_o;focus walk_at "g") | (apply c_l;focus walk_at "g") | (apply c_s;focus walk_at "g")))
local macro_rules | `(tactic| walk_at "b") => `(tactic| first | rfl | with_reducible assumption | (simp only[cU,Bool.not_eq_false',c9,cR,Bool.not_true,Bool.not_false];first | with_reducible assumption | omega) | (simp;done))
local macro_rules | `(tactic| walk_at "p") => `(tactic| first | decide | with_reducible assumption | omega)
local macro_rules | `(tactic| walk_at "l") => `(tactic| first | decide | with_reducible assumption | (simp only[aC,aR,bw,aB,ae];omega) | omega | (simp;omega))
local macro_rules | `(tactic| walk_at "e") => `(tactic| first
 | ((with_reducible apply r_id);with_reducible assumption)
 | with_reducible exact r_okR | with_reducible exact QwH
 | with_reducible apply r_var | with_reducible apply QsC | with_reducible exact r_C | with_reducible exact r_nil | with_reducible exact r_oNo | with_reducible exact Qak | with_reducible exact Qg2
 | with_reducible exact Qbo _ _ | with_reducible exact Qbr _ _ | with_reducible exact Qbp _ | with_reducible exact Qcz _ | with_reducible exact QaB _ _ | with_reducible exact QcM _ _ | with_reducible exact QdO _ _ | with_reducible exact QdH _ _ | with_reducible exact Qag _ _ | with_reducible exact QbC _ _
 | with_reducible exact Qjt (by walk_at "p")
 | with_reducible exact r_rt | with_reducible exact r_rtT | with_reducible exact r_rtS rfl
 | with_reducible apply QtJ
 | with_reducible exact QsF | with_reducible apply Qtv
 | with_reducible exact Qw6 | with_reducible apply QxD
 | with_reducible exact Qmr | with_reducible apply Qml
 | with_reducible exact c_nil | with_reducible apply Qem | ((with_reducible apply c_k);focus walk_at "g") | ((with_reducible apply c_o);focus walk_at "g") | ((with_reducible apply c_l);focus walk_at "g") | ((with_reducible apply c_s);focus walk_at "g")
 | ((with_reducible apply r_scal);exact rfl)
 | ((with_reducible apply r_get);focus walk_at "g")
 | ((with_reducible apply r_bits);with_reducible assumption)
 | ((with_reducible apply bd_mod);focus walk_at "p") | with_reducible apply bd_add | with_reducible apply bd_sub | with_reducible apply bd_mul | with_reducible apply bd_div | with_reducible apply bd_neg | with_reducible exact bd_lit rfl
 | ((with_reducible apply r_dec);focus exact rfl)
 | ((with_reducible apply r_len);focus walk_at "l")
 | with_reducible apply r_mul
 | ((with_reducible apply r_fdiv);focus walk_at "p")
 | ((with_reducible apply Qki);focus walk_at "b")
 | ((with_reducible apply Qkr);focus walk_at "b")
 | with_reducible apply Qf | with_reducible apply r_e2 | with_reducible apply r_e1 | with_reducible apply r_seq | with_reducible apply r_set | with_reducible apply Qeo | with_reducible apply r_if | with_reducible apply Qw | with_reducible apply QY | with_reducible apply Qdg | with_reducible apply r_or' | with_reducible apply r_and' | with_reducible apply Qx9 | with_reducible apply r_eOr | with_reducible apply r_eNot | with_reducible apply r_eIf | with_reducible apply r_isa | with_reducible apply QvJ | with_reducible apply QxE | with_reducible apply r_ret | with_reducible apply Qcj | with_reducible apply r_drop | with_reducible apply r_tup | with_reducible apply r_lst | with_reducible apply QoH | with_reducible apply Qme | with_reducible apply r_noX | with_reducible apply QiF | with_reducible apply Qad | with_reducible apply r_gN | with_reducible apply r_gT | with_reducible apply r_unp | with_reducible apply r_for | with_reducible apply r_itL | with_reducible apply r_itT | with_reducible apply r_itE | with_reducible apply r_itZ | with_reducible apply Qan | with_reducible apply r_eA | with_reducible apply r_sl | with_reducible apply r_slB | with_reducible apply r_ixO | with_reducible apply r_meth | with_reducible apply Qgv | with_reducible apply r_app | with_reducible apply r_put | with_reducible apply QN | with_reducible apply Qq2 | with_reducible apply Qxq | with_reducible apply Qwd | with_reducible apply r_lm)
abbrev CK:List Str:=Qb
theorem QtW{c:Str}(h:CK.contains c=true):Ql.contains c=true:=by
 have hm:c∈Qb:=by simpa using h
 simp only[Qb,aF,aT,b6]at hm
 rcases hm with rfl | rfl | rfl | rfl<;>decide +kernel
noncomputable def dl(r:List Int):D:=.lst (r.map .int)
def tbD(t:List (List Int)):D:=.lst (t.map dl)
theorem QjF{js:List (Option Nat)}{its:SD->Out (List D)}{g:D->SD->Out SD}{e:SD->Out D}{ς:SD}{xs:List D}{h:D->D}(hi:its ς=.ok xs)(ht:∀ x∈xs,turnC js g cTrue e ς x=.ok (some (h x)))(hl:xs.length<=1000):
 eComp js its g cTrue e ς=.ok (.lst (xs.map h)):=by
 unfold eComp
 rw[hi,d8,Qjv (h:=fun x=>some (h x)) ht,d8]
 have e:xs.filterMap (fun x=>some (h x))=xs.map h:=by rw[← List.filterMap_eq_map];rfl
 rw[e,aA (Qds (by rw[aC];exact hl))]
theorem Qut{js:List (Option Nat)}{its:SD->Out (List D)}{e:SD->Out D}{ς:SD}{a b:List Int}(f:Int->Int->Int)(hi:its ς=.ok (List.zipWith (fun x y=>.tup [x,y]) (a.map .int) (b.map .int)))
 (ht:∀ x∈a,∀ y∈b,turnC js (gT [0,1]) cTrue e ς (.tup [.int x,.int y])=.ok (some (.int (f x y)))) (hl:a.length<=1000):eComp js its (gT [0,1]) cTrue e ς=.ok (dl (List.zipWith f a b)):=by
 have hz:List.zipWith (fun x y=>D.tup [x,y]) (a.map .int) (b.map .int)=(List.zip a b).map fun p=>D.tup [.int p.1,.int p.2]:=by
  rw[List.zipWith_map,List.map_zip_eq_zipWith]
  rfl
 rw[QjF (h:=fun d=>match d with | .tup [.int x,.int y]=>.int (f x y) | _=>.non) (by rw[hi,hz]) ?_ ?_]
 ·unfold dl
  rw[ax,List.map_zipWith,List.map_zip_eq_zipWith]
  rfl
 ·intro x hx
  obtain⟨⟨p,q⟩,hp,rfl⟩:=aX.mp hx
  exact ht p (cJ hp).1 q (cJ hp).2
 ·rw[aC,List.length_zip]
  omega
theorem loopL{body:D->SD->Out Fl}{P:Nat->SD->Prop}:∀{xs:List D}(n:Nat),(∀ k x,xs[k]?=some x->∀ ς,P (n+k) ς->∃ ς',body x ς=.ok (.nx ς')/\P (n+k+1) ς')->∀ ς,P n ς->∃ ς',loopD body xs ς=.ok (.nx ς')/\P (n+xs.length) ς'
 | [],n,_,ς,p=>⟨ς,rfl,p⟩
 | x::xs,n,h,ς,p=>by
  obtain⟨ς1,e1',p1⟩:=h 0 x rfl ς p
  obtain⟨ς2,e2',p2⟩:=loopL (xs:=xs) (n+1) (fun k y hy ς q=>by
   have:=h (k+1) y hy ς (by rw[show n+(k+1)=n+1+k by omega];exact q)
   rw[show n+(k+1)+1=n+1+k+1 by omega]at this
   exact this) ς1 p1
  refine⟨ς2,?_,by rw[aR,show n+(xs.length+1)=n+1+xs.length by omega];exact p2⟩
  rw[loopD,e1']
  exact e2'
noncomputable def cs(t:List (List Int))(k j:Nat):Int:=((t.take k).map fun r=>r.getD j 0).sum
def pre(t:List (List Int))(m k:Nat):List Int:=(List.range m).map (cs t k)
theorem Qu9{t:List (List Int)}{m k:Nat}{r:List Int}(hr:t[k]?=some r)(hm:r.length=m):List.zipWith (· + ·) (pre t m k) r=pre t m (k+1):=by
 apply List.ext_getElem?
 intro j
 unfold pre
 rw[List.getElem?_zipWith,aM,aM]
 by_cases hj:j<m
 ·have h1:(List.range m)[j]?=some j:=by simp[hj]
  have h2:r[j]?=some r[j]:=by simp[hm,hj]
  rw[h1,h2]
  show some (cs t k j+r[j])=some (cs t (k+1) j)
  unfold cs
  rw[List.take_add_one,hr]
  simp[hm,hj,ba]
 ·have h1:(List.range m)[j]?=none:=by simp;omega
  rw[h1];rfl
theorem QuF(t:List (List Int))(m:Nat):pre t m 0=List.replicate m 0:=by
 unfold pre
 rw[List.eq_replicate_iff]
 refine⟨by simp,fun x hx=>?_⟩
 obtain⟨j,_,rfl⟩:=aX.mp hx
 rfl
structure Tb(t:List (List Int))(m:Nat):Prop where
 n1:1<=t.length
 n2:t.length<=12
 m6:m<=6
 row:∀ r∈t,r.length=m
 ent:∀ r∈t,∀ x∈r,0<=x/\x<=9
theorem Qwp{a b:List Int}(hl:a.length<=1000):QcI [dl a,dl b]=.ok (dl (List.zipWith (· + ·) a b)):=by
 have h:=Qut (js:=[none,none]) (its:=itZ (eVar 0) (eVar 1)) (e:=QiZ) (ς:=[some (.k,dl a),some (.k,dl b)]) (a:=a) (b:=b) (· + ·) rfl (fun x _ y _=>rfl) hl
 rw[QsR]
 unfold QfX sRetF
 rw[h];rfl
def hdD(t:List (List Int))(m:Nat)(k:Nat):D:=.lst ((List.range (k+1)).map fun i=>dl (pre t m i))
theorem QrO{t:List (List Int)}{m:Nat}(h:Tb t m):QaA [tbD t]=.ok (hdD t m t.length):=by
 obtain⟨n1,n2,m6,row,_⟩:=h
 have r0:t[0]?=some t[0]:=by simp
 have hr0:(t[0]).length=m:=row _ (bo _)
 have hix:dIx (tbD t) (.int 0)=.ok (dl t[0]):=ixL 0 (by rw[aM,r0];rfl)
 have hc:eComp [none] (itL (e2 dIx (eVar 0) (eC (.int 0)))) (gN 0) cTrue QcA [some (.k,tbD t),none,none]=.ok (dl (pre t m 0)):=by
  rw[QjF (xs:=(t[0]).map .int) (h:=fun _=>.int 0) (by simp only[itL,e2,eVar,eC,d8,az,hix];rfl) (fun x _=>rfl) (by rw[aC];omega)]
  rw[QuF,ax]
  unfold dl
  congr 2
  rw[List.map_replicate]
  exact List.eq_replicate_iff.mpr ⟨by simp[hr0],fun x hx=>by obtain⟨_,_,rfl⟩:=aX.mp hx;rfl⟩
 obtain⟨ς',hL,a2,rfl⟩:=loopL (body:=fun x ς=>gN 2 x ς>>=fun ς'=>QaV ς') (xs:=t.map dl) (P:=fun k ς=>∃ a2,ς=[some (.k,tbD t),some (.o,hdD t m k),a2]) 0
  (by
   rintro k x hx ς ⟨a2,rfl⟩
   rw[cB]at *
   rw[aM]at hx
   cases ht:t[k]? with
   | none=>rw[ht]at hx;cases hx
   | some r=>
    rw[ht]at hx
    cases hx
    have hk:k<t.length:=(aU.mp ht).1
    have hrm:r.length=m:=row r (cD ht)
    have hl:(pre t m k).length=m:=by simp[pre]
    have s:=Qwp (a:=pre t m k) (b:=r) (by omega)
    rw[Qu9 ht hrm]at s
    have hat:atI ((List.range (k+1)).map fun i=>dl (pre t m i)) (-1)=some (dl (pre t m k)):=by
     unfold atI ixN
     simp
     rw[aA (by omega),show((-1:Int)+((k:Int)+1)).toNat=k by omega]
     simp
    refine⟨[some (.k,tbD t),some (.o,hdD t m (k+1)),some (.k,dl r)],?_,_,rfl⟩
    have e1':eIxO 1 (e1 dNeg (eC (.int 1))) [some (.k,tbD t),some (.o,hdD t m k),some (.k,dl r)]=.ok (dl (pre t m k)):=by
     unfold eIxO hdD
     simp only[bC,az,e1,eC,d8,Qbp,hat];rfl
    have hlt:decide (((List.range (k+1)).map fun i=>dl (pre t m i)).length<sizeLine)=true:=by
     have:(1000:Nat)<=sizeLine:=by decide
     rw[aC,aB]
     exact aG (by omega)
    have hnext:((List.range (k+1)).map fun i=>dl (pre t m i))++[dl (pre t m (k+1))]=(List.range (k+1+1)).map fun i=>dl (pre t m i):=by
     rw[bO (n:=k+1),bA];rfl
    show QaV [some (.k,tbD t),some (.o,hdD t m k),some (.k,dl r)]=_
    unfold QaV QaP
    simp only[bC,az,hdD]
    have e3':eA (fun xs=>QcI (xs++[])) (aCons (eIxO 1 (e1 dNeg (eC (.int 1)))) (aCons (eVar 2) aNil)) [some (.k,tbD t),some (.o,hdD t m k),some (.k,dl r)]=.ok (dl (pre t m (k+1))):=by
     simp only[eA,aCons,aNil,e1',eVar,d8,bC,az,aj,s]
    rw[show(D.lst ((List.range (k+1)).map fun i=>dl (pre t m i)))=hdD t m k from rfl,e3',d8,aA hlt,hnext]
    rfl)
  [some (.k,tbD t),some (.o,hdD t m 0),none] ⟨_,rfl⟩
 rw[cB,aC]at hL
 have hfor:=Qbn (g:=gN 2) (its:=itL (eVar 0)) (T:=QaV) (ς:=[some (.k,tbD t),some (.o,hdD t m 0),none]) (xs:=t.map dl) rfl hL
 rw[Ql5]
 unfold QbW
 have hs:sSetO 1 (eLst (aCons (eComp [none] (itL (e2 dIx (eVar 0) (eC (.int 0)))) (gN 0) cTrue QcA) aNil)) [some (.k,tbD t),none,none]=.ok (.nx [some (.k,tbD t),some (.o,hdD t m 0),none]):=by
  simp only[sSetO,eLst,aCons,aNil,hc,d8,aR,bw,Qao,Nat.reduceAdd,Nat.reduceLeDiff,cQ];rfl
 simp only[sSeq,hs,d8,thenF,hfor]
 rfl
def ckF(t:List (List Int))(m:Nat):List (Str×D):=[("table",tbD t),("heads",hdD t m t.length)]
def ck(c:Str)(t:List (List Int))(m:Nat):D:=.ins c (ckF t m)
theorem Qyc(t:List (List Int))(m:Nat):(ckF t m).lookup ("table":Str)=some (tbD t):=by
 unfold ckF;rw[aJ,bD]
theorem QvC{n:Str}(h1:(n == ("table":Str))=false)(h2:(n == ("heads":Str))=false)(t:List (List Int))(m:Nat):(ckF t m).lookup n=none:=by
 unfold ckF;rw[aJ,h1,aJ,h2];rfl
theorem put_h(t:List (List Int))(m:Nat):putD "heads" (hdD t m t.length) [("table",tbD t)]=ckF t m:=by
 have:¬ (("table":Str)=("heads":Str)):=dk
 unfold putD
 rw[aD this];rfl
theorem Qir{c:Str}(hc:CK.contains c=true){t:List (List Int)}{m:Nat}(h:Tb t m):QG c [] [tbD t]=.ok (ckF t m):=by
 have hk:eComp [none] (itL (eVar 1)) (gN 0) cTrue QbF [some (.s,.ins c []),some (.k,tbD t)]=.ok (tbD t):=by
  rw[QjF (xs:=t.map dl) (h:=id) rfl ?_ (by rw[aC];have:=h.n2;omega),List.map_id]
  ·rfl
  ·intro x hx
   obtain⟨r,_,rfl⟩:=aX.mp hx
   rfl
 have r1:=QrO h
 have hz:∀ n:Nat,n<10->(Ql.contains c&&decide (n<1000))=true:=fun n hn=>by rw[QtW hc,Bool.true_and];exact aG (by omega)
 have s1:sFldS Ql "table" 0 (eComp [none] (itL (eVar 1)) (gN 0) cTrue QbF) [some (.s,.ins c []),some (.k,tbD t)]=.ok (.nx [some (.s,.ins c [("table",tbD t)]),some (.k,tbD t)]):=by
  unfold sFldS
  rw[hk,d8]
  show(if (Ql.contains c&&decide (([]:List (Str×D)).length<1000))=true then _ else _)=_
  exact(aA (c:=(Ql.contains c&&decide (0<1000))=true) (hz 0 (by decide))).trans rfl
 have s2:sFldS Ql "heads" 0 (eA (fun xs=>QaA (xs++[])) (aCons (eVar 1) aNil)) [some (.s,.ins c [("table",tbD t)]),some (.k,tbD t)]=.ok (.nx [some (.s,.ins c (ckF t m)),some (.k,tbD t)]):=by
  unfold sFldS
  have:eA (fun xs=>QaA (xs++[])) (aCons (eVar 1) aNil) [some (.s,.ins c [("table",tbD t)]),some (.k,tbD t)]=.ok (hdD t m t.length):=by
   simp only[eA,aCons,aNil,eVar,d8,bC,az,aj,r1]
  rw[this,d8]
  show(if (Ql.contains c&&decide ([(("table":Str),tbD t)].length<1000))=true then _ else _)=_
  refine(aA (c:=(Ql.contains c&&decide (1<1000))=true) (hz 1 (by decide))).trans ?_
  rw[put_h];rfl
 rw[QiO]
 unfold Qbg
 simp only[sSeq,s1,Qxe,d8,thenF,s2]
 simp only[QbP,Qh8,az,cQ]
theorem Qe6{c:Str}(hc:CK.contains c=true){t:List (List Int)}{m:Nat}{n:Str}{mt:Str->List D->Out D}{O:SD->Out D}{A:SD->Out (List D)}{ς:SD}{xs:List D}(hO:O ς=.ok (ck c t m))(hA:A ς=.ok xs)(h1:(n == ("table":Str))=false)(h2:(n == ("heads":Str))=false):
 eMeth CK n mt O A ς=mt c (ck c t m::xs):=by
 unfold eMeth
 rw[hO,d8]
 show(if (CK.contains c&&((ckF t m).lookup n).isNone)=true then A ς>>=fun xs=>mt c (.ins c (ckF t m)::xs) else .stuck)=_
 simp only[QvC h1 h2,hc,Option.isNone_none,Bool.and_self,cQ,hA,d8]
 rfl
theorem fld_t{c:Str}(hc:CK.contains c=true)(t:List (List Int))(m:Nat):dFld Ql "table" (ck c t m)=.ok (tbD t):=by
 show(if Ql.contains c=true then optO ((ckF t m).lookup ("table":Str)) else .stuck)=_
 rw[aA (QtW hc),Qyc];rfl
theorem Qmn{c:Str}(hc:CK.contains c=true)(t:List (List Int))(m:Nat):QX [ck c t m]=.ok (.int (t.length:Int)):=by
 have:fLen [tbD t]=.ok (.int (t.length:Int)):=by simp[fLen,tbD]
 simp only[QlN,Qb7,sRet,eA,aCons,aNil,e1,eVar,az,d8,fld_t hc,this]
 rfl
theorem Qsz(i:Int):Qdl [.int i]=.ok (.bl true):=by
 rw[QrY];exists"E",QeX
theorem QfP{i a b:Int}(h1:a<=i)(h2:i<=b):Qah [.int i,.int a,.int b]=.ok (.bl true):=by
 have hw:=Qsz i
 have e1':decide (a<=i)=true:=aG h1
 have e2':decide (i<=b)=true:=aG h2
 rw[Qpy]
 exists"E",Qd1,hw,Qa6,h1,h2
theorem Qn2{r:List Int}(hl:r.length<=6)(h:∀ x∈r,0<=x/\x<=9):QcF [dl r]=.ok (.bl true):=by
 have hlen:fLen [dl r]=.ok (.int (r.length:Int)):=by simp[fLen,dl]
 have hc:eComp [none] (itL (eVar 0)) (gN 0) cTrue Qg8 [some (.k,dl r)]=.ok (.lst (r.map fun _=>D.bl true)):=by
  refine QK D.int (fun _=>.bl true) rfl (fun x hx=>?_) (by omega)
  have hw:=QfP (h x hx).1 (h x hx).2
  refine QN (by walk_at "cap") (by walk_at "s") ?_
  unfold Qg8
  (repeat walk_at "e")
 have ha:fAll (.lst (r.map fun _=>D.bl true))=.ok (.bl true):=by rw[QdA (fun _=>true)];simp
 have hf:f1 fAll [.lst (r.map fun _=>D.bl true)]=.ok (.bl true):=ha
 have hi:isaT "list" (dl r)=.ok true:=by simp[isaT,dl,Qaw]
 have hg:decide ((6:Int)<(r.length:Int))=false:=aQ (by omega)
 rw[Qu6]
 unfold Qhm
 (repeat walk_at "e")
theorem QrN{t:List (List Int)}{m:Nat}(h:Tb t m):Qc7 [tbD t]=.ok (.bl true):=by
 obtain⟨n1,n2,m6,row,ent'⟩:=h
 have hlen:fLen [tbD t]=.ok (.int (t.length:Int)):=by simp[fLen,tbD]
 have hc:eComp [none] (itL (eVar 0)) (gN 0) cTrue Qfd [some (.k,tbD t)]=.ok (.lst (t.map fun _=>D.bl true)):=by
  refine QK dl (fun _=>.bl true) rfl (fun x hx=>?_) (by omega)
  have hw:=Qn2 (r:=x) (by rw[row x hx];exact m6) (ent' x hx)
  refine QN (by walk_at "cap") (by walk_at "s") ?_
  unfold Qfd
  (repeat walk_at "e")
 have r0:t[0]?=some t[0]:=by simp
 have hr0:(t[0]).length=m:=row _ (bo _)
 have hix0:dIx (tbD t) (.int 0)=.ok (dl t[0]):=ixL 0 (by rw[aM,r0];rfl)
 have hl0:fLen [dl t[0]]=.ok (.int (m:Int)):=by simp[fLen,dl,hr0]
 have hc2:eComp [none,some 0] (itL (eVar 0)) (gN 0) cTrue Qft [some (.k,tbD t)]=.ok (.lst (t.map fun _=>D.bl true)):=by
  refine QK dl (fun _=>.bl true) rfl (fun x hx=>?_) (by omega)
  have hlx:fLen [dl x]=.ok (.int (m:Int)):=by simp[fLen,dl,row x hx]
  have he:dEq (.int (m:Int)) (.int (m:Int))=.ok (.bl true):=by rw[Qag];simp
  refine QN (by walk_at "cap") (by walk_at "s") ?_
  unfold Qft
  (repeat walk_at "e")
 have ha:fAll (.lst (t.map fun _=>D.bl true))=.ok (.bl true):=by rw[QdA (fun _=>true)];simp
 have hf:f1 fAll [.lst (t.map fun _=>D.bl true)]=.ok (.bl true):=ha
 have hi:isaT "list" (tbD t)=.ok true:=by simp[isaT,tbD,Qaw]
 have hg:decide ((1:Int)<=(t.length:Int))=true:=aG (by omega)
 have hg2:decide ((t.length:Int)<=12)=true:=aG (by omega)
 rw[Qrv]
 unfold QeR
 (repeat walk_at "e")
theorem Qtl{c:Str}(hc:CK.contains c=true){t:List (List Int)}{m:Nat}(h:Tb t m):Qa7 c [] [tbD t]=.ok (ckF t m):=by
 have h1:=QrN h
 have h2:=Qir hc h
 rw[Qqv]
 unfold Qd8
 (repeat walk_at "e")
theorem QtN{c:Str}(hc:CK.contains c=true){r:List Int}{m:Nat}(h:Tb [r] m):Qa8 c [] [dl r]=.ok (ckF [r] m):=by
 have h1:=Qn2 (r:=r) (by rw[h.row r (by simp)];exact h.m6) (h.ent r (by simp))
 have h2:QG c [] [.lst [dl r]]=.ok (ckF [r] m):=Qir hc h
 rw[Qqt]
 unfold QdU
 (repeat walk_at "e")
noncomputable def one(n s:Nat):List Int:=(List.range n).map fun k=>if k=s then 1 else 0
def dealT(n:Nat):List (List Int):=(List.range n).map (one n)
noncomputable def bunT(n:Nat):List (List Int):=(List.range n).map fun s=>[if s+1=n then 1 else 0]
theorem Qt0{n s:Nat}(h:n<=100):QbT [.int n,.int s]=.ok (dl (one n s)):=by
 have hc:eComp [none,some 1] (itR1 (eVar 0)) (gN 0) cTrue Qdx [some (.k,.int n),some (.k,.int s)]=.ok (.lst ((List.range n).map fun k=>D.int (if k=s then 1 else 0))):=by
  refine Qjr (fun k=>D.int (if k=s then 1 else 0)) (Qbj n rfl (by omega)) (fun k hk=>?_) (by omega)
  refine QN (by walk_at "cap") (by walk_at "s") ?_
  unfold Qdx
  by_cases e:k=s
  ·have e':decide ((k:Int)=(s:Int))=true:=aG (by omega)
   rw[aA e]
   (repeat walk_at "e")
  ·have e':decide ((k:Int)=(s:Int))=false:=aQ (by omega)
   rw[aD e]
   (repeat walk_at "e")
 have he:dl (one n s)=.lst ((List.range n).map fun k=>D.int (if k=s then 1 else 0)):=by unfold dl one;rw[ax];rfl
 rw[he,Qor]
 unfold Qde
 (repeat walk_at "e")
theorem Qrh{n:Nat}(h1:1<=n)(h6:n<=6):Tb (dealT n) n:=by
 refine⟨by simp[dealT];omega,by simp[dealT];omega,h6,fun r hr=>?_,fun r hr x hx=>?_⟩<;>obtain⟨s,_,rfl⟩:=aX.mp hr
 ·simp[one]
 ·obtain⟨k,_,rfl⟩:=aX.mp hx
  split<;>decide
theorem Qs1{n:Nat}(h1:1<=n)(h6:n<=12):Tb (bunT n) 1:=by
 refine⟨by simp[bunT];omega,by simp[bunT];omega,by decide,fun r hr=>?_,fun r hr x hx=>?_⟩<;>obtain⟨s,_,rfl⟩:=aX.mp hr
 ·simp
 ·rw[bx.mp hx]
  split<;>decide
theorem Qtq{c:Str}(hc:CK.contains c=true){n:Nat}(n1:1<=n)(n6:n<=6):Qbc c [] [.int n]=.ok (ckF (dealT n) n):=by
 have h1:=QfP (i:=n) (a:=1) (b:=6) (by omega) (by omega)
 have h2:=Qir hc (Qrh n1 n6)
 have hc':eComp [none,some 1] (itR1 (eVar 1)) (gN 0) cTrue QeI [some (.s,.ins c []),some (.k,.int n)]=.ok (tbD (dealT n)):=by
  have he:tbD (dealT n)=.lst ((List.range n).map fun s=>dl (one n s)):=by unfold tbD dealT;rw[ax];rfl
  rw[he]
  refine Qjr (fun s=>dl (one n s)) (Qbj n rfl (by omega)) (fun k hk=>?_) (by omega)
  have hs:=Qt0 (n:=n) (s:=k) (by omega)
  refine QN (by walk_at "cap") (by walk_at "s") ?_
  unfold QeI
  (repeat walk_at "e")
 rw[Qpw]
 unfold QdW
 (repeat walk_at "e")
theorem Quu{c:Str}(hc:CK.contains c=true){n:Nat}(n1:1<=n)(n6:n<=12):QaH c [] [.int n]=.ok (ckF (bunT n) 1):=by
 have h1:=QfP (i:=n) (a:=1) (b:=12) (by omega) (by omega)
 have h2:=Qir hc (Qs1 n1 n6)
 have hc':eComp [none,some 1] (itR1 (eVar 1)) (gN 0) cTrue Qdh [some (.s,.ins c []),some (.k,.int n)]=.ok (tbD (bunT n)):=by
  have he:tbD (bunT n)=.lst ((List.range n).map fun s=>D.lst [.int (if s+1=n then 1 else 0)]):=by unfold tbD bunT;rw[ax];rfl
  rw[he]
  refine Qjr (fun s=>D.lst [.int (if s+1=n then 1 else 0)]) (Qbj n rfl (by omega)) (fun k hk=>?_) (by omega)
  refine QN (by walk_at "cap") (by walk_at "s") ?_
  unfold Qdh
  by_cases e:k+1=n
  ·have e':decide ((k:Int)=(n:Int) - 1)=true:=aG (by omega)
   rw[aA e]
   (repeat walk_at "e")
  ·have e':decide ((k:Int)=(n:Int) - 1)=false:=aQ (by omega)
   rw[aD e]
   (repeat walk_at "e")
 rw[Qm3]
 unfold Qcv
 (repeat walk_at "e")
abbrev rl(n:Nat)(f:Nat->D):D:=.lst ((List.range n).map f)
abbrev rn(n:Nat)(f:Nat->D):D:=.lln ((List.range n).map f)
theorem r_itN{E:SD->Out D}{ς:SD}{xs:List D}(a:E ς=.ok (.lln xs)):itL E ς=.ok xs:=by unfold itL;rw[a];rfl
theorem atR{n i:Nat}{f:Nat->D}(h:i<n):((List.range n).map f)[i]?=some (f i):=by
 rw[aM,ao h];rfl
theorem ixR{n i:Nat}{f:Nat->D}(h:i<n):dIx (rl n f) (.int (i:Int))=.ok (f i):=ixL i (atR h)
theorem lenR(n:Nat)(f:Nat->D):fLen [rl n f]=.ok (.int (n:Int)):=by simp[fLen]
theorem lenN(n:Nat)(f:Nat->D):fLen [rn n f]=.ok (.int (n:Int)):=by simp[fLen]
theorem QnI{n:Nat}{f g:Nat->D}(h:∀ i,i<n->f i=g i):rl n f=rl n g:=by
 show D.lst _=D.lst _
 rw[List.map_congr_left fun i hi=>h i (aV.mp hi)]
theorem QdR{body:D->SD->Out Fl}{P:Nat->SD->Prop}{f:Nat->D}{n:Nat}(h:∀ k:Nat,k<n->∀ ς,P k ς->∃ ς',body (f k) ς=.ok (.nx ς')/\P (k+1) ς')(ς:SD)(p0:P 0 ς):∃ ς',loopD body ((List.range n).map f) ς=.ok (.nx ς')/\P n ς':=by
 have go:∀ m k:Nat,k+m=n->∀ ς,P k ς->∃ ς',loopD body ((List.range' k m).map f) ς=.ok (.nx ς')/\P n ς':=by
  intro m
  induction m with
  | zero=>intro k hk ς p;exact⟨ς,rfl,by rw[← hk];exact p⟩
  | succ m ih=>
   intro k hk ς p
   obtain⟨ς1,e1',p1⟩:=h k (by omega) ς p
   obtain⟨ς2,e2',p2⟩:=ih (k+1) (by omega) ς1 p1
   refine⟨ς2,?_,p2⟩
   rw[List.range'_succ,au,loopD,e1']
   exact e2'
 rw[List.range_eq_range']
 exact go n 0 (by omega) ς p0
noncomputable def fr(x:Int×Int):D:=.tup [.int x.1,.int x.2]
theorem allR{n:Nat}{f:Nat->D}(h:∀ i,i<n->(f i).scal=true):((List.range n).map f).all D.scal=true:=bM.mpr fun d hd=>by
 obtain⟨i,hi,rfl⟩:=aX.mp hd
 exact h i (aV.mp hi)
theorem QjQ:∀ xs:List Str,strsD (xs.map D.str)=some xs
 | []=>rfl
 | x::xs=>by show(strsD (xs.map D.str)).map (x :: ·)=_;rw[QjQ xs];rfl
def Inj(xs:List Str):Prop:=∀ i j,i<xs.length->xs[i]?=xs[j]?->i=j
theorem QjR{xs:List Str}(h:Inj xs):∀ i,i<=xs.length->LS.met (fun i=>xs.getD i "") i=xs.take i
 | 0,_=>rfl
 | i+1,hi=>by
  have ih:=QjR h i (by omega)
  have hl:i<xs.length:=by omega
  have e:xs.getD i ""=xs[i]:=by rw[ba,aS hl];rfl
  have ni:¬ xs[i]∈xs.take i:=fun z=>by
   obtain⟨j,hj,ej⟩:=List.getElem_of_mem z
   rw[List.getElem_take]at ej
   rw[bF]at hj
   have:=h i j (by omega) (by rw[aS hl,aS (show j<xs.length by omega),ej])
   omega
  show(if xs.getD i ""∈LS.met (fun i=>xs.getD i "") i then LS.met (fun i=>xs.getD i "") i else LS.met (fun i=>xs.getD i "") i++[xs.getD i ""])=_
  rw[ih,e,aD ni,List.take_add_one,aS hl];rfl
theorem Qmt{xs:List Str}(h:Inj xs)(hl:xs.length<=1000):QS [.lst (xs.map .str)]=.ok (.bl true):=by
 have hu:Qit (.lst (xs.map .str))=.ok (.int (xs.length:Int)):=by
  show(match strsD (xs.map .str) with | some xs=>if decide (xs.length<4000)=true then Out.ok (D.int (QaK xs)) else .stuck | none=>.stuck)=_
  rw[QjQ]
  show(if decide (xs.length<4000)=true then Out.ok (D.int (QaK xs)) else .stuck)=_
  rw[aA (aG (by omega))]
  unfold QaK
  rw[QjR h _ (aP _),List.take_length]
 have hlen:fLen [.lst (xs.map D.str)]=.ok (.int (xs.length:Int)):=by simp[fLen]
 have he:dEq (.int (xs.length:Int)) (.int (xs.length:Int))=.ok (.bl true):=by rw[Qag];simp
 rw[Qid]
 unfold QbQ
 (repeat walk_at "e")
theorem Qrt{xs:List Str}(h:Inj xs)(hl:xs.length<=1000):QS [.lln (xs.map .str)]=.ok (.bl true):=by
 have hu:Qit (.lln (xs.map .str))=.ok (.int (xs.length:Int)):=by
  show(match strsD (xs.map .str) with | some xs=>if decide (xs.length<4000)=true then Out.ok (D.int (QaK xs)) else .stuck | none=>.stuck)=_
  rw[QjQ]
  show(if decide (xs.length<4000)=true then Out.ok (D.int (QaK xs)) else .stuck)=_
  rw[aA (aG (by omega))]
  unfold QaK
  rw[QjR h _ (aP _),List.take_length]
 have hlen:fLen [.lln (xs.map D.str)]=.ok (.int (xs.length:Int)):=by simp[fLen]
 have he:dEq (.int (xs.length:Int)) (.int (xs.length:Int))=.ok (.bl true):=by rw[Qag];simp
 rw[Qid]
 unfold QbQ
 (repeat walk_at "e")
theorem QuY{xs ys:List D}(h:xs.length+ys.length<=1000):dCat (.lst xs) (.lln ys)=.ok (.lst (xs++ys)):=by
 show(if fits _=true then _ else _)=_
 rw[aA (Qao h)]
theorem Qg6{n:Nat}{f:Nat->D}{M:Int}(h1:1<=n)(h2:(n:Int)<=M):QaO [rn n f,.int M]=.ok (.bl true):=by
 have hlen:=lenN n f
 have hi:isaT "list" (rn n f)=.ok true:=by simp[isaT,Qaw]
 have g1:decide ((1:Int)<=(n:Int))=true:=aG (by omega)
 have g2:decide ((n:Int)<=M)=true:=aG h2
 have g3:dLe (.int (n:Int)) (.int M)=.ok (.bl true):=by rw[QcM,g2]
 rw[Qud]
 unfold QfB
 (repeat walk_at "e")
theorem Qg3(n:Nat):f1 fAll [rl n (fun _=>.bl true)]=.ok (.bl true):=by
 show fAll (.lst ((List.range n).map fun _=>D.bl true))=_
 rw[QdA (fun _=>true)];simp
theorem Qel(n:Nat)(f:Nat->Str):(List.range n).map (fun i=>D.str (f i))=((List.range n).map f).map D.str:=by rw[ax];rfl
theorem Qv2{n:Nat}{f:Nat->Str}(h:∀ i j,i<n->j<n->f i=f j->i=j):Inj ((List.range n).map f):=by
 intro i j hi z
 rw[aC,aB]at hi
 rw[aM,aM,ao hi]at z
 by_cases hj:j<n
 ·rw[ao hj]at z
  exact h i j hi hj (ai z)
 ·have h1:(List.range n)[j]?=none:=by simp;omega
  rw[h1]at z;cases z
structure Seats(n nd:Nat)(nm dn c:Nat->Str)(t:Nat->List (List Int))(m:Nat->Nat)(ld:Nat->Nat->Int)(st:Nat->Int):Prop where
 n1:1<=n
 n2:n<=60
 d1:1<=nd
 d2:nd<=6
 ck:∀ k,k<n->CK.contains (c k)=true
 tb:∀ k,k<n->Tb (t k) (m k)
 ldr:∀ k j,k<n->j<m k -> -(nd:Int)<=ld k j/\ld k j<(n:Int)
 str:∀ k,k<n->0<=st k/\st k<((t k).length:Int)
 isn:∀ k,k<n->Qaf [.str (nm k)]=.ok (.bl true)
 isd:∀ d,d<nd->Qaf [.str (dn d)]=.ok (.bl true)
 inj:∀ i j,i<n->j<n->nm i=nm j->i=j
 injd:∀ i j,i<nd->j<nd->dn i=dn j->i=j
 sep:∀ i d,i<n->d<nd->nm i≠dn d
noncomputable def nml(nm dn:Nat->Str)(l:Int):Str:=if l<0 then dn (-1 - l).toNat else nm l.toNat
def seatD(nm dn c:Nat->Str)(t:Nat->List (List Int))(m:Nat->Nat)(ld:Nat->Nat->Int)(st:Nat->Int)(k:Nat):D:=
 .tup [.str (nm k),ck (c k) (t k) (m k),rn (m k) (fun j=>.str (nml nm dn (ld k j))),.int (st k)]
theorem ix_t{xs:List D}{d:D}(i:Nat)(h:xs[i]?=some d):dIx (.tup xs) (.int (i:Int))=.ok d:=by
 show optO (atI xs (i:Int))=_
 have hi:i<xs.length:=(aU.mp h).1
 have:atI xs (i:Int)=some d:=by
  unfold atI ixN
  rw[aA (by omega),aA (by omega)]
  simpa using h
 rw[this];rfl
theorem Qvl{c:Str}(hc:CK.contains c=true)(t:List (List Int))(m:Nat):Qc8 [ck c t m]=.ok (.bl true):=by
 have hm:c∈Qb:=by simpa using hc
 simp only[Qb,aF,aT,b6]at hm
 have key:∀ c:Str,(c="Deal"∨c="Bundle"∨c="Copy"∨c="Rows")->anyT [[("Deal",true),("Bundle",false),("Copy",false),("Rows",false),("Office",false)],[("Deal",false),("Bundle",true),("Copy",false),("Rows",false),("Office",false)],[("Deal",false),("Bundle",false),("Copy",true),("Rows",false),("Office",false)],[("Deal",false),("Bundle",false),("Copy",false),("Rows",true),("Office",false)]] c=some true:=by
  rintro c (rfl | rfl | rfl | rfl)<;>decide +kernel
 have k:=key c hm
 rw[Qss]
 unfold Qe2
 show(sRet (eIsa (isaTs _) (eVar 0)) [some (.k,.ins c (ckF t m))]>>=retF false)=_
 have hi:isaTs [[("Deal",true),("Bundle",false),("Copy",false),("Rows",false),("Office",false)],[("Deal",false),("Bundle",true),("Copy",false),("Rows",false),("Office",false)],[("Deal",false),("Bundle",false),("Copy",true),("Rows",false),("Office",false)],[("Deal",false),("Bundle",false),("Copy",false),("Rows",true),("Office",false)]] (.ins c (ckF t m))=.ok true:=by
  show(match anyT _ c with | some b=>Out.ok b | none=>Out.stuck)=_
  rw[k]
 (repeat walk_at "e")
theorem Qwn{c:Str}(hc:CK.contains c=true){t:List (List Int)}{m:Nat}(h:Tb t m):Qbk [ck c t m]=.ok (.int (m:Int)):=by
 have n1:=h.n1
 have r0:t[0]?=some t[0]:=by simp
 have hix:dIx (tbD t) (.int 0)=.ok (dl t[0]):=ixL 0 (by rw[aM,r0];rfl)
 have hl0:fLen [dl t[0]]=.ok (.int (m:Int)):=by simp[fLen,dl,h.row _ (bo _)]
 have hf:=fld_t hc t m
 rw[Qox]
 unfold Qdf
 (repeat walk_at "e")
theorem Qu2{n:Nat}(hn:n<=100)(f:Nat->Str):Qcg [rn n (fun j=>.str (f j)),.int (n:Int)]=.ok (.bl true):=by
 have hlen:=lenN n (fun j=>D.str (f j))
 have hi:isaT "list" (rn n (fun j=>D.str (f j)))=.ok true:=by simp[isaT,Qaw]
 have hc:eComp [none] (itL (eVar 0)) (gN 0) cTrue QeB [some (.k,rn n (fun j=>.str (f j))),some (.k,.int (n:Int))]=.ok (rl n (fun _=>.bl true)):=by
  refine QK (fun j=>D.str (f j)) (fun _=>.bl true) rfl (fun j _=>?_) (by rw[aB];omega)
  have hs:isaT "str" (D.str (f j))=.ok true:=by simp[isaT,Qaw]
  refine QN (by walk_at "cap") (by walk_at "s") ?_
  unfold QeB
  (repeat walk_at "e")
 have he:dEq (.int (n:Int)) (.int (n:Int))=.ok (.bl true):=by rw[Qag];simp
 have ha:=Qg3 n
 rw[QpZ]
 unfold QdY
 (repeat walk_at "e")
section
variable{n nd:Nat}{nm dn c:Nat->Str}{t:Nat->List (List Int)}{m:Nat->Nat}{ld:Nat->Nat->Int}{st:Nat->Int}(hs:Seats n nd nm dn c t m ld st)
include hs
theorem Qu1:Qcc [rn nd (fun d=>.str (dn d)),.int 6]=.ok (.bl true):=by
 have d2:=hs.d2
 have h1:=Qg6 (n:=nd) (f:=fun d=>.str (dn d)) (M:=6) hs.d1 (by omega)
 have hc:eComp [none] (itL (eVar 0)) (gN 0) cTrue QeC [some (.k,rn nd (fun d=>.str (dn d))),some (.k,.int 6)]=.ok (rl nd (fun _=>.bl true)):=by
  refine QK (fun d=>D.str (dn d)) (fun _=>.bl true) rfl (fun d hd=>?_) (by rw[aB];omega)
  have h:=hs.isd d (aV.mp hd)
  refine QN (by walk_at "cap") (by walk_at "s") ?_
  unfold QeC
  (repeat walk_at "e")
 have ha:=Qg3 nd
 have hu:QS [rn nd (fun d=>.str (dn d))]=.ok (.bl true):=by
  show QS [.lln _]=_
  rw[Qel]
  exact Qrt (Qv2 hs.injd) (by simp;omega)
 rw[QqA]
 unfold Qd2
 (repeat walk_at "e")
theorem Qwv{k:Nat}(hk:k<n):Qef [seatD nm dn c t m ld st k]=.ok (.bl true):=by
 have tb:=hs.tb k hk
 have hc:=hs.ck k hk
 have m6:=tb.m6
 obtain⟨s0,s1⟩:=hs.str k hk
 have hi:isaT "tuple" (seatD nm dn c t m ld st k)=.ok true:=by simp[isaT,Qaw,seatD]
 have hl:fLen [seatD nm dn c t m ld st k]=.ok (.int 4):=by simp[fLen,seatD]
 have x0:dIx (seatD nm dn c t m ld st k) (.int 0)=.ok (.str (nm k)):=ix_t 0 rfl
 have x1:dIx (seatD nm dn c t m ld st k) (.int 1)=.ok (ck (c k) (t k) (m k)):=ix_t 1 rfl
 have x2:dIx (seatD nm dn c t m ld st k) (.int 2)=.ok (rn (m k) (fun j=>.str (nml nm dn (ld k j)))):=ix_t 2 rfl
 have x3:dIx (seatD nm dn c t m ld st k) (.int 3)=.ok (.int (st k)):=ix_t 3 rfl
 have h0:=hs.isn k hk
 have h1:=Qvl hc (t k) (m k)
 have h2:=Qu2 (n:=m k) (by omega) (fun j=>nml nm dn (ld k j))
 have h3:=QfP (i:=st k) (a:=0) (b:=((t k).length:Int) - 1) s0 (by omega)
 have mo:eMeth Qb "outs" (fun _=>Qbk) (e2 dIx (eVar 0) (eC (.int 1))) aNil [some (.k,seatD nm dn c t m ld st k)]=.ok (.int (m k:Int)):=by
  rw[Qe6 (c:=c k) (t:=t k) (m:=m k) hc (xs:=[]) (by (repeat walk_at "e")) rfl (dk) (dk)]
  exact Qwn hc tb
 have mp:eMeth Qb "period" (fun _=>QX) (e2 dIx (eVar 0) (eC (.int 1))) aNil [some (.k,seatD nm dn c t m ld st k)]=.ok (.int ((t k).length:Int)):=by
  rw[Qe6 (c:=c k) (t:=t k) (m:=m k) hc (xs:=[]) (by (repeat walk_at "e")) rfl (dk) (dk)]
  exact Qmn hc _ _
 have hne:dNe (.int 4) (.int 4)=.ok (.bl false):=by rw[QbC];rfl
 rw[Qtb]
 unfold QfA
 (repeat walk_at "e")
theorem Quv:Qch [rn n (seatD nm dn c t m ld st),rn nd (fun d=>.str (dn d))]=.ok (.bl true):=by
 have n2:=hs.n2
 have d2:=hs.d2
 have h1:=Qg6 (n:=n) (f:=seatD nm dn c t m ld st) (M:=60) hs.n1 (by omega)
 have hc:eComp [none] (itL (eVar 0)) (gN 0) cTrue QeA [some (.k,rn n (seatD nm dn c t m ld st)),some (.k,rn nd (fun d=>.str (dn d)))]=.ok (rl n (fun _=>.bl true)):=by
  refine QK (seatD nm dn c t m ld st) (fun _=>.bl true) rfl (fun k hk=>?_) (by rw[aB];omega)
  have h:=Qwv hs (aV.mp hk)
  refine QN (by walk_at "cap") (by walk_at "s") ?_
  unfold QeA
  (repeat walk_at "e")
 have ha:=Qg3 n
 have hn:eComp [none] (itL (eVar 0)) (gN 0) cTrue Qeu [some (.k,rn n (seatD nm dn c t m ld st)),some (.k,rn nd (fun d=>.str (dn d)))]=.ok (rl n (fun k=>.str (nm k))):=by
  refine QK (seatD nm dn c t m ld st) (fun k=>D.str (nm k)) rfl (fun k hk=>?_) (by rw[aB];omega)
  have x0:dIx (seatD nm dn c t m ld st k) (.int 0)=.ok (.str (nm k)):=ix_t 0 rfl
  refine QN (by walk_at "cap") (by walk_at "s") ?_
  unfold Qeu
  (repeat walk_at "e")
 have hcat:dCat (rl n (fun k=>.str (nm k))) (rn nd (fun d=>.str (dn d)))=.ok (.lst ((((List.range n).map nm)++((List.range nd).map dn)).map .str)):=by
  rw[QuY (by simp;omega),bA, ← Qel, ← Qel]
 have hu:QS [.lst ((((List.range n).map nm)++((List.range nd).map dn)).map .str)]=.ok (.bl true):=by
  refine Qmt ?_ (by simp;omega)
  intro i j hi z
  rw[ae,aC,aC,aB,aB]at hi
  have at':∀ i,(((List.range n).map nm)++((List.range nd).map dn))[i]?=if i<n then some (nm i) else if i - n<nd then some (dn (i - n)) else none:=fun i=>by
   rw[List.getElem?_append,aC,aB]
   split
   ·rw[aM,ao (by assumption)];rfl
   ·split
    ·rw[aM,ao (by assumption)];rfl
    ·simp;omega
  rw[at',at']at z
  by_cases a:i<n
  ·rw[aA a]at z
   by_cases b:j<n
   ·rw[aA b]at z;exact hs.inj i j a b (ai z)
   ·rw[aD b]at z
    by_cases d:j - n<nd
    ·rw[aA d]at z;exact absurd (ai z) (hs.sep i _ a d)
    ·rw[aD d]at z;cases z
  ·rw[aD a,aA (show i - n<nd by omega)]at z
   by_cases b:j<n
   ·rw[aA b]at z;exact absurd (ai z).symm (hs.sep j _ b (by omega))
   ·rw[aD b]at z
    by_cases d:j - n<nd
    ·rw[aA d]at z
     have:=hs.injd _ _ (by omega) d (ai z)
     omega
    ·rw[aD d]at z;cases z
 rw[Qp1]
 unfold Qd3
 (repeat walk_at "e")
theorem QuX{i:Nat}(hi:i<n):dInL (.str (nm i)) (rl n (fun k=>.str (nm k)))=.ok (.bl true):=by
 show(if (_&&((List.range n).map fun k=>D.str (nm k)).all D.scal)=true then Out.ok (D.bl (inV _ _)) else _)=_
 rw[aA (by rw[aH];exact⟨rfl,allR fun i _=>rfl⟩)]
 have:inV (toV (.str (nm i))) (((List.range n).map fun k=>D.str (nm k)).map toV)=true:=by
  unfold inV
  rw[cY]
  refine⟨V.str (nm i),?_,by show(nm i == nm i)=true;exact bD _⟩
  rw[ax,aX]
  exact⟨i,aV.mpr hi,rfl⟩
 rw[this]
end
structure Ent(n ne:Nat)(en:Nat->Str)(ek:Nat->Nat):Prop where
 e1:1<=ne
 e6:ne<=6
 isn:∀ j,j<ne->Qaf [.str (en j)]=.ok (.bl true)
 inj:∀ i j,i<ne->j<ne->en i=en j->i=j
 rng:∀ j,j<ne->ek j<n
noncomputable def entD(nm en:Nat->Str)(ek:Nat->Nat)(j:Nat):D:=.tup [.str (en j),.str (nm (ek j))]
section
variable{n nd ne:Nat}{nm dn c en:Nat->Str}{ek:Nat->Nat}{t:Nat->List (List Int)}{m:Nat->Nat}{ld:Nat->Nat->Int}{st:Nat->Int}(hs:Seats n nd nm dn c t m ld st)(he:Ent n ne en ek)
include hs he
theorem QrX:Qbw [rn ne (entD nm en ek),rl n (fun k=>.str (nm k))]=.ok (.bl true):=by
 have e1:=he.e1
 have e6:=he.e6
 have h1:QaO [rn ne (entD nm en ek),.int 6]=.ok (.bl true):=Qg6 (n:=ne) (f:=entD nm en ek) (M:=6) (by omega) (by omega)
 have hc:eComp [none,some 1] (itL (eVar 0)) (gN 0) cTrue QcV [some (.k,rn ne (entD nm en ek)),some (.k,rl n (fun k=>.str (nm k)))]=.ok (rl ne (fun _=>.bl true)):=by
  refine QK (entD nm en ek) (fun _=>.bl true) rfl (fun j hj=>?_) (by rw[aB];omega)
  have hj:=aV.mp hj
  have hin:=he.isn j hj
  have h0:=hs.isn (ek j) (he.rng j hj)
  have hL:=QuX hs (he.rng j hj)
  have e1':QcU [entD nm en ek j,rl n (fun k=>.str (nm k))]=.ok (.bl true):=by
   have hi:isaT "tuple" (entD nm en ek j)=.ok true:=by simp[isaT,Qaw,entD]
   have hl:fLen [entD nm en ek j]=.ok (.int 2):=by simp[fLen,entD]
   have x0:dIx (entD nm en ek j) (.int 0)=.ok (.str (en j)):=ix_t 0 rfl
   have x1:dIx (entD nm en ek j) (.int 1)=.ok (.str (nm (ek j))):=ix_t 1 rfl
   have hne:dNe (.int 2) (.int 2)=.ok (.bl false):=by rw[QbC];rfl
   rw[QrU]
   unfold QeZ
   (repeat walk_at "e")
  refine QN (by walk_at "cap") (by walk_at "s") ?_
  unfold QcV
  (repeat walk_at "e")
 have ha:=Qg3 ne
 have hn:eComp [none] (itL (eVar 0)) (gN 0) cTrue Qdd [some (.k,rn ne (entD nm en ek)),some (.k,rl n (fun k=>.str (nm k)))]=.ok (.lst (((List.range ne).map en).map .str)):=by
  have e:(.lst (((List.range ne).map en).map .str):D)=rl ne (fun j=>.str (en j)):=by show D.lst _=D.lst _;rw[ax];rfl
  rw[e]
  refine QK (entD nm en ek) (fun j=>.str (en j)) rfl (fun j hj=>?_) (by rw[aB];omega)
  have x0:dIx (entD nm en ek j) (.int 0)=.ok (.str (en j)):=ix_t 0 rfl
  refine QN (by walk_at "cap") (by walk_at "s") ?_
  unfold Qdd
  (repeat walk_at "e")
 have hu:QS [.lst (((List.range ne).map en).map .str)]=.ok (.bl true):=Qmt (by
  intro i j hi z
  rw[aC,aB]at hi
  rw[aM,aM,ao hi]at z
  by_cases hj:j<ne
  ·rw[ao hj]at z
   exact he.inj i j hi hj (ai z)
  ·rw[List.getElem?_eq_none (by rw[aB];omega)]at z;cases z) (by rw[aC,aB];omega)
 rw[QmX]
 unfold Qcx
 (repeat walk_at "e")
end
theorem QtB{i:Nat}{I E:SD->Out D}{ς ς':SD}{kds:List (Key×D)}{d y:D}{k:Key}(a:E ς=.ok d)(e:ς[i]?=some (some (.o,.dic kds)))(a':I ς=.ok y)(hk:dkey y=some k)(hl:kds.length<=1000)
 (l:ς.set i (some (.o,.dic (putKD kds k d)))=ς'):sPutD i I E ς=.ok (.nx ς'):=by
 unfold sPutD
 rw[a,d8,e]
 show(I ς>>=_)=_
 rw[a',d8,hk]
 show(if _ then _ else _)=_
 rw[aA (Qq0 hl),l]
theorem Qyb{A B:SD->Out D}{ς:SD}{kds:List (Key×D)}{y:D}{k:Key}(a:A ς=.ok (.dic kds))(a':B ς=.ok y)(hk:dkey y=some k):eDget A B ς=.ok ((valD kds k).getD .non):=by
 unfold eDget
 rw[a,d8]
 show(B ς>>=_)=_
 rw[a',d8,hk]
theorem r_dix{A B:SD->Out D}{ς:SD}{kds:List (Key×D)}{y d:D}{k:Key}(a:A ς=.ok (.dic kds))(a':B ς=.ok y)(hk:dkey y=some k)(hv:valD kds k=some d):eDix A B ς=.ok d:=by
 unfold eDix
 rw[a,d8]
 show(B ς>>=_)=_
 rw[a',d8,hk]
 show optO (valD kds k)=_
 rw[hv];rfl
theorem Qq1{kds:List (Key×D)}{k:Key}{d:D}(h:∀ kv∈kds,kv.1≠k):putKD kds k d=kds++[(k,d)]:=by
 unfold putKD
 rw[aD]
 intro z
 obtain⟨kv,hk,e⟩:=cY.mp z
 exact h kv hk (aI e)
theorem Qk1{k:Key}{d:D}:∀{kds:List (Key×D)}(i:Nat),kds[i]?=some (k,d)->(∀ j kv,j<i->kds[j]?=some kv->kv.1≠k)->valD kds k=some d
 | [],i,h,_=>by simp at h
 | kv::kds,0,h,_=>by
  simp at h
  subst h
  simp[valD]
 | kv::kds,i+1,h,hn=>by
  have h0:=hn 0 kv (by omega) rfl
  have:valD (kv::kds) k=valD kds k:=by simp[valD,b9,h0]
  rw[this]
  exact Qk1 i (by simpa using h) fun j kv' hj he=>hn (j+1) kv' (by omega) (by simpa using he)
theorem enumR(n:Nat)(f:Nat->D):enumD 0 ((List.range n).map f)=(List.range n).map fun i:Nat=>D.tup [.int (i:Int),f i]:=by
 apply List.ext_getElem?
 intro i
 rw[Qh4,cB]
 by_cases hi:i<n
 ·have r1:((List.range n).map fun i:Nat=>D.tup [.int (i:Int),f i])[i]?=some (D.tup [.int (i:Int),f i]):=atR hi
  rw[atR hi,r1];rfl
 ·have h1:((List.range n).map f)[i]?=none:=by simp;omega
  have h2:((List.range n).map fun i:Nat=>D.tup [.int (i:Int),f i])[i]?=none:=by simp;omega
  rw[h1,h2];rfl
noncomputable def plc(n nd:Nat)(nm dn:Nat->Str):List (Key×D):=((List.range n).map fun i:Nat=>((.inr (nm i):Key),D.int (i:Int)))++((List.range nd).map fun i:Nat=>((.inr (dn i):Key),D.int (-1 - (i:Int))))
theorem Qkx(n nd:Nat)(nm dn:Nat->Str)(i:Nat):(plc n nd nm dn)[i]?=if i<n then some (.inr (nm i),.int (i:Int)) else if i - n<nd then some (.inr (dn (i - n)),.int (-1 - ((i - n:Nat):Int))) else none:=by
 unfold plc
 rw[List.getElem?_append,aC,aB]
 split
 ·rw[aM,ao (by assumption)];rfl
 ·split
  ·rw[aM,ao (by assumption)];rfl
  ·simp;omega
section
variable{n nd:Nat}{nm dn c:Nat->Str}{t:Nat->List (List Int)}{m:Nat->Nat}{ld:Nat->Nat->Int}{st:Nat->Int}(hs:Seats n nd nm dn c t m ld st)
include hs
theorem plc_c{i:Nat}(hi:i<n):valD (plc n nd nm dn) (.inr (nm i))=some (.int (i:Int)):=by
 refine Qk1 i (by rw[Qkx,aA hi]) fun j kv hj he=>?_
 rw[Qkx,aA (by omega)]at he
 cases he
 intro z
 have:=hs.inj j i (by omega) hi (cG z)
 omega
theorem plc_d{d:Nat}(hd:d<nd):valD (plc n nd nm dn) (.inr (dn d))=some (.int (-1 - (d:Int))):=by
 refine Qk1 (n+d) (by rw[Qkx,aD (by omega),aA (by omega),show n+d - n=d by omega]) fun j kv hj he=>?_
 rw[Qkx]at he
 by_cases a:j<n
 ·rw[aA a]at he
  cases he
  intro z
  exact hs.sep j d a hd (cG z)
 ·rw[aD a,aA (by omega)]at he
  cases he
  intro z
  have:=hs.injd _ _ (by omega) hd (cG z)
  omega
theorem Qt2:Qca [rl n (fun k=>.str (nm k)),rn nd (fun d=>.str (dn d))]=.ok (.dic (plc n nd nm dn)):=by
 have n2:=hs.n2
 have d2:=hs.d2
 obtain⟨ς1,hL1,a3,a4,rfl⟩:=QdR (body:=fun x ς=>gT [3,4] x ς>>=fun ς'=>Qct ς') (f:=fun i:Nat=>D.tup [.int (i:Int),.str (nm i)]) (n:=n)
  (P:=fun k ς=>∃(a3 a4:Option (SM×D)),ς=[some (.k,rl n (fun k=>.str (nm k))),some (.k,rn nd (fun d=>.str (dn d))),some (.o,.dic (plc k 0 nm dn)),a3,a4,none,none])
  (by
   rintro k hk ς ⟨a3,a4,rfl⟩
   refine⟨[some (.k,rl n (fun k=>.str (nm k))),some (.k,rn nd (fun d=>.str (dn d))),some (.o,.dic (plc (k+1) 0 nm dn)),some (.k,.int (k:Int)),some (.k,.str (nm k)),none,none],?_,_,_,rfl⟩
   have e:plc (k+1) 0 nm dn=putKD (plc k 0 nm dn) (.inr (nm k)) (.int (k:Int)):=by
    rw[Qq1]
    ·show((List.range (k+1)).map _)++[]=((List.range k).map _++[])++[_]
     rw[aj,aj,bO,bA];rfl
    ·intro kv hkv
     have hkv:kv∈((List.range k).map fun i:Nat=>((.inr (nm i):Key),D.int (i:Int)))++[]:=hkv
     rw[aj]at hkv
     obtain⟨i,hi,rfl⟩:=aX.mp hkv
     have hi:=aV.mp hi
     intro z
     have:=hs.inj i k (by omega) hk (cG z)
     omega
   rw[e]
   refine r_gT (by walk_at "all") ?_
   unfold Qct
   exact QtB (d:=.int (k:Int)) (y:=.str (nm k)) (k:=.inr (nm k)) (by (repeat walk_at "e")) rfl (by (repeat walk_at "e")) rfl (by unfold plc;simp;omega) rfl)
  [some (.k,rl n (fun k=>.str (nm k))),some (.k,rn nd (fun d=>.str (dn d))),some (.o,.dic []),none,none,none,none] ⟨_,_,rfl⟩
 obtain⟨ς2,hL2,a5,a6,rfl⟩:=QdR (body:=fun x ς=>gT [5,6] x ς>>=fun ς'=>Qcs ς') (f:=fun i:Nat=>D.tup [.int (i:Int),.str (dn i)]) (n:=nd)
  (P:=fun k ς=>∃(a5 a6:Option (SM×D)),ς=[some (.k,rl n (fun k=>.str (nm k))),some (.k,rn nd (fun d=>.str (dn d))),some (.o,.dic (plc n k nm dn)),a3,a4,a5,a6])
  (by
   rintro k hk ς ⟨a5,a6,rfl⟩
   refine⟨[some (.k,rl n (fun k=>.str (nm k))),some (.k,rn nd (fun d=>.str (dn d))),some (.o,.dic (plc n (k+1) nm dn)),a3,a4,some (.k,.int (k:Int)),some (.k,.str (dn k))],?_,_,_,rfl⟩
   have e:plc n (k+1) nm dn=putKD (plc n k nm dn) (.inr (dn k)) (.int (-1 - (k:Int))):=by
    rw[Qq1]
    ·unfold plc
     rw[bO,bA,List.append_assoc];rfl
    ·intro kv hkv
     rcases bW.mp hkv with w | w
     ·obtain⟨i,hi,rfl⟩:=aX.mp w
      intro z
      exact hs.sep i k (aV.mp hi) hk (cG z)
     ·obtain⟨i,hi,rfl⟩:=aX.mp w
      have hi:=aV.mp hi
      intro z
      have:=hs.injd i k (by omega) hk (cG z)
      omega
   rw[e]
   refine r_gT (by walk_at "all") ?_
   unfold Qcs
   exact QtB (d:=.int (-1 - (k:Int))) (y:=.str (dn k)) (k:=.inr (dn k)) (by (repeat walk_at "e")) rfl (by (repeat walk_at "e")) rfl (by unfold plc;simp;omega) rfl)
  [some (.k,rl n (fun k=>.str (nm k))),some (.k,rn nd (fun d=>.str (dn d))),some (.o,.dic (plc n 0 nm dn)),a3,a4,none,none] ⟨_,_,rfl⟩
 have hi1:itE (eVar 0) [some (.k,rl n (fun k=>.str (nm k))),some (.k,rn nd (fun d=>.str (dn d))),some (.o,.dic []),none,none,none,none]=.ok ((List.range n).map fun i:Nat=>D.tup [.int (i:Int),.str (nm i)]):=by rw[← enumR];rfl
 have hi2:itE (eVar 1) [some (.k,rl n (fun k=>.str (nm k))),some (.k,rn nd (fun d=>.str (dn d))),some (.o,.dic (plc n 0 nm dn)),a3,a4,none,none]=.ok ((List.range nd).map fun i:Nat=>D.tup [.int (i:Int),.str (dn i)]):=by rw[← enumR];rfl
 have f1':=Qbn (g:=gT [3,4]) (T:=Qct) hi1 hL1
 have f2':=Qbn (g:=gT [5,6]) (T:=Qcs) hi2 hL2
 have s0:sSetO 2 eDic0 [some (.k,rl n (fun k=>.str (nm k))),some (.k,rn nd (fun d=>.str (dn d))),none,none,none,none,none]=.ok (.nx [some (.k,rl n (fun k=>.str (nm k))),some (.k,rn nd (fun d=>.str (dn d))),some (.o,.dic []),none,none,none,none]):=rfl
 rw[QpX]
 unfold Qd7
 (repeat walk_at "e")
theorem Qu7{k:Nat}(hk:k<n):Qda [seatD nm dn c t m ld st k,.dic (plc n nd nm dn)]=.ok (rl (m k) (fun j=>.int (ld k j))):=by
 have m6:=(hs.tb k hk).m6
 have x2:dIx (seatD nm dn c t m ld st k) (.int 2)=.ok (rn (m k) (fun j=>.str (nml nm dn (ld k j)))):=ix_t 2 rfl
 have hc:eComp [none,some 1] (itL (e2 dIx (eVar 0) (eC (.int 2)))) (gN 0) cTrue Qfs [some (.k,seatD nm dn c t m ld st k),some (.k,.dic (plc n nd nm dn))]=.ok (rl (m k) (fun j=>.int (ld k j))):=by
  refine QK (fun j=>D.str (nml nm dn (ld k j))) (fun j=>D.int (ld k j)) (r_itN (by (repeat walk_at "e"))) (fun j hj=>?_) (by rw[aB];omega)
  obtain⟨l1,l2⟩:=hs.ldr k j hk (aV.mp hj)
  refine QN (by walk_at "cap") (by walk_at "s") ?_
  unfold Qfs
  have hv:valD (plc n nd nm dn) (.inr (nml nm dn (ld k j)))=some (.int (ld k j)):=by
   unfold nml
   by_cases h:ld k j<0
   ·rw[aA h,plc_d hs (show(-1 - ld k j).toNat<nd by omega)]
    congr 2;omega
   ·rw[aD h,plc_c hs (show(ld k j).toNat<n by omega)]
    congr 2;omega
  rw[Qyb (kds:=plc n nd nm dn) (y:=.str (nml nm dn (ld k j))) (k:=.inr (nml nm dn (ld k j))) (by (repeat walk_at "e")) (by (repeat walk_at "e")) rfl,hv];rfl
 rw[QrC]
 unfold QeY
 (repeat walk_at "e")
end
theorem Qq4{f:Str}{d:D}:∀{fs:List (Str×D)},(fs.map Prod.fst).contains f=false->putD f d fs=fs++[(f,d)]
 | [],_=>rfl
 | (g,x)::fs,h=>by
  rw[au,List.contains_cons,Bool.or_eq_false_iff]at h
  have ne:¬ g=f:=fun z=>by subst z;simp at h
  show(if g=f then _ else(g,x)::putD f d fs)=_
  rw[aD ne,Qq4 h.2];rfl
theorem QgM{cs:List Str}{f c:Str}{i:Nat}{E:SD->Out D}{ς ς':SD}{d:D}{fds:List (Str×D)}(a:E ς=.ok d)(e:ς[i]?=some (some (.s,.ins c fds)))(hc:cs.contains c=true)(hl:fds.length<=900)(hf:(fds.map Prod.fst).contains f=false)
 (l:ς.set i (some (.s,.ins c (fds++[(f,d)])))=ς'):sFldS cs f i E ς=.ok (.nx ς'):=by
 unfold sFldS
 rw[a,d8,e]
 show(if (cs.contains c&&decide (fds.length<1000))=true then _ else _)=_
 rw[aA (by rw[hc,Bool.true_and];exact aG (by omega)),Qq4 hf,l]
section
variable(n nd ne:Nat)(nm dn c en:Nat->Str)(ek:Nat->Nat)(t:Nat->List (List Int))(m:Nat->Nat)(ld:Nat->Nat->Int)(st:Nat->Int)
def offF:List (Str×D):=[("clerk_names",rl n (fun k=>.str (nm k))),("door_names",rl nd (fun d=>.str (dn d))),("entry_places",rl ne (fun j=>.tup [.str (en j),.int ((ek j:Nat):Int)])),("staff",rl n (fun k=>ck (c k) (t k) (m k))),("first_states",rl n (fun k=>.int (st k))),("ways",rl n (fun k=>rl (m k) (fun j=>.int (ld k j))))]
def offD:D:=.ins "Office" (offF n nd ne nm dn c en ek t m ld st)
end
theorem Qq5:Ql.contains "Office"=true:=dk
section
variable{n nd:Nat}{nm dn c:Nat->Str}{t:Nat->List (List Int)}{m:Nat->Nat}{ld:Nat->Nat->Int}{st:Nat->Int}(hs:Seats n nd nm dn c t m ld st)
include hs
theorem QvQ{k:Nat}(hk:k<n):dInL .non (rl (m k) (fun j=>.int (ld k j)))=.ok (.bl false):=by
 show(if (_&&((List.range (m k)).map fun j=>D.int (ld k j)).all D.scal)=true then Out.ok (D.bl (inV _ _)) else _)=_
 rw[aA (by rw[aH];exact⟨rfl,allR fun i _=>rfl⟩)]
 have:inV (toV .non) (((List.range (m k)).map fun j=>D.int (ld k j)).map toV)=false:=by
  unfold inV
  rw[List.any_eq_false]
  intro v hv
  rw[ax]at hv
  obtain⟨j,_,rfl⟩:=aX.mp hv
  simp[toV,eqV]
 rw[this]
end
section
variable{n nd ne:Nat}{nm dn c en:Nat->Str}{ek:Nat->Nat}{t:Nat->List (List Int)}{m:Nat->Nat}{ld:Nat->Nat->Int}{st:Nat->Int}(hs:Seats n nd nm dn c t m ld st)(he:Ent n ne en ek)
include hs he
theorem Qtk:Qau "Office" [] [rn n (seatD nm dn c t m ld st),rn ne (entD nm en ek),rn nd (fun d=>.str (dn d))]=.ok (offF n nd ne nm dn c en ek t m ld st):=by
 have n1:=hs.n1
 have n2:=hs.n2
 have d2:=hs.d2
 have h1:=Qu1 hs
 have h2:=Quv hs
 have h3:=QrX hs he
 have e6:=he.e6
 have h4:=Qt2 hs
 have oc:=Qq5
 generalize hS:rn n (seatD nm dn c t m ld st)=S at *
 generalize hE:rn ne (entD nm en ek)=E at *
 generalize hDo:rn nd (fun d=>.str (dn d))=Do at *
 generalize hN:rl n (fun k=>.str (nm k))=N at *
 generalize hP:D.dic (plc n nd nm dn)=P at *
 generalize hW:rl n (fun k=>rl (m k) (fun j=>.int (ld k j)))=W
 have q0:eComp [none] (itL (eVar 1)) (gN 0) cTrue QcQ [some (.s,.ins "Office" []),some (.k,S),some (.k,E),some (.k,Do),none,none,none]=.ok N:=by
  subst hS;subst hN
  refine QK (seatD nm dn c t m ld st) (fun k=>D.str (nm k)) rfl (fun k hk=>?_) (by rw[aB];omega)
  have x0:dIx (seatD nm dn c t m ld st k) (.int 0)=.ok (.str (nm k)):=ix_t 0 rfl
  refine QN (τ0:=[none]) (Qem c_nil) (by walk_at "s") ?_
  unfold QcQ
  (repeat walk_at "e")
 have q1:eComp [none,some 5] (itL (eVar 1)) (gN 0) cTrue Qdb [some (.s,.ins "Office" []),some (.k,S),some (.k,E),some (.k,Do),some (.k,N),some (.k,P),none]=.ok W:=by
  subst hS;subst hW;subst hP
  refine QK (seatD nm dn c t m ld st) (fun k=>rl (m k) (fun j=>.int (ld k j))) rfl (fun k hk=>?_) (by rw[aB];omega)
  have hl:=Qu7 hs (aV.mp hk)
  refine QN (τ0:=[none,some (.k,.dic (plc n nd nm dn))]) (Qem (c_k rfl c_nil)) (by walk_at "s") ?_
  unfold Qdb
  (repeat walk_at "e")
 have q2:eComp [none] (itL (eVar 6)) (gN 0) cTrue Qdj [some (.s,.ins "Office" []),some (.k,S),some (.k,E),some (.k,Do),some (.k,N),some (.k,P),some (.k,W)]=.ok (rl n (fun _=>.bl false)):=by
  subst hW
  refine QK (fun k=>rl (m k) (fun j=>.int (ld k j))) (fun _=>D.bl false) rfl (fun k hk=>?_) (by rw[aB];omega)
  have hl:=QvQ hs (aV.mp hk)
  refine QN (τ0:=[none]) (Qem c_nil) (by walk_at "s") ?_
  unfold Qdj
  (repeat walk_at "e")
 have ha:f1 fAny [rl n (fun _=>.bl false)]=.ok (.bl false):=by
  show fAny (.lst ((List.range n).map fun _=>D.bl false))=_
  rw[Quj (fun _=>false)];simp
 have q3:∀ F:List (Str×D),eComp [none,some 5] (itL (eVar 2)) (gN 0) cTrue QbH [some (.s,.ins "Office" F),some (.k,S),some (.k,E),some (.k,Do),some (.k,N),some (.k,P),some (.k,W)]=.ok (rl ne (fun j=>.tup [.str (en j),.int ((ek j:Nat):Int)])):=fun F=>by
  subst hE;subst hP
  refine QK (entD nm en ek) (fun j=>D.tup [.str (en j),.int ((ek j:Nat):Int)]) rfl (fun j hj=>?_) (by rw[aB];omega)
  have p0:=plc_c hs (he.rng j (aV.mp hj))
  have x0:dIx (entD nm en ek j) (.int 0)=.ok (.str (en j)):=ix_t 0 rfl
  have x1:dIx (entD nm en ek j) (.int 1)=.ok (.str (nm (ek j))):=ix_t 1 rfl
  refine QN (τ0:=[none,some (.k,.dic (plc n nd nm dn))]) (Qem (c_k rfl c_nil)) (by walk_at "s") ?_
  unfold QbH
  have hd:eDix (eVar 1) (e2 dIx (eVar 0) (eC (.int 1))) [some (.k,entD nm en ek j),some (.k,.dic (plc n nd nm dn))]=.ok (.int ((ek j:Nat):Int)):=r_dix (kds:=plc n nd nm dn) (y:=.str (nm (ek j))) (k:=.inr (nm (ek j))) (by (repeat walk_at "e")) (by (repeat walk_at "e")) rfl p0
  (repeat walk_at "e")
 have q4:∀ F:List (Str×D),eComp [none] (itL (eVar 1)) (gN 0) cTrue QbK [some (.s,.ins "Office" F),some (.k,S),some (.k,E),some (.k,Do),some (.k,N),some (.k,P),some (.k,W)]=.ok (rl n (fun k=>ck (c k) (t k) (m k))):=fun F=>by
  subst hS
  refine QK (seatD nm dn c t m ld st) (fun k=>ck (c k) (t k) (m k)) rfl (fun k hk=>?_) (by rw[aB];omega)
  have x0:dIx (seatD nm dn c t m ld st k) (.int 1)=.ok (ck (c k) (t k) (m k)):=ix_t 1 rfl
  refine QN (τ0:=[none]) (Qem c_nil) (by walk_at "s") ?_
  unfold QbK
  (repeat walk_at "e")
 have q5:∀ F:List (Str×D),eComp [none] (itL (eVar 1)) (gN 0) cTrue QbJ [some (.s,.ins "Office" F),some (.k,S),some (.k,E),some (.k,Do),some (.k,N),some (.k,P),some (.k,W)]=.ok (rl n (fun k=>.int (st k))):=fun F=>by
  subst hS
  refine QK (seatD nm dn c t m ld st) (fun k=>D.int (st k)) rfl (fun k hk=>?_) (by rw[aB];omega)
  have x0:dIx (seatD nm dn c t m ld st k) (.int 3)=.ok (.int (st k)):=ix_t 3 rfl
  refine QN (τ0:=[none]) (Qem c_nil) (by walk_at "s") ?_
  unfold QbJ
  (repeat walk_at "e")
 have hdl:dList Do=.ok (rl nd (fun d=>.str (dn d))):=by subst hDo;rfl
 let F1:List (Str×D):=[("clerk_names",N)]
 let F2:List (Str×D):=[("clerk_names",N),("door_names",rl nd (fun d=>.str (dn d)))]
 let F3:List (Str×D):=[("clerk_names",N),("door_names",rl nd (fun d=>.str (dn d))),("entry_places",rl ne (fun j=>.tup [.str (en j),.int ((ek j:Nat):Int)]))]
 let F4:List (Str×D):=[("clerk_names",N),("door_names",rl nd (fun d=>.str (dn d))),("entry_places",rl ne (fun j=>.tup [.str (en j),.int ((ek j:Nat):Int)])),("staff",rl n (fun k=>ck (c k) (t k) (m k)))]
 let F5:List (Str×D):=[("clerk_names",N),("door_names",rl nd (fun d=>.str (dn d))),("entry_places",rl ne (fun j=>.tup [.str (en j),.int ((ek j:Nat):Int)])),("staff",rl n (fun k=>ck (c k) (t k) (m k))),("first_states",rl n (fun k=>.int (st k)))]
 have s1:sFldS Ql "clerk_names" 0 (eVar 4) [some (.s,.ins "Office" []),some (.k,S),some (.k,E),some (.k,Do),some (.k,N),some (.k,P),some (.k,W)]=.ok (.nx [some (.s,.ins "Office" F1),some (.k,S),some (.k,E),some (.k,Do),some (.k,N),some (.k,P),some (.k,W)]):=
  QgM (d:=N) (by (repeat walk_at "e")) rfl oc (by decide) (by decide) rfl
 have s2:sFldS Ql "door_names" 0 (e1 dList (eVar 3)) [some (.s,.ins "Office" F1),some (.k,S),some (.k,E),some (.k,Do),some (.k,N),some (.k,P),some (.k,W)]=.ok (.nx [some (.s,.ins "Office" F2),some (.k,S),some (.k,E),some (.k,Do),some (.k,N),some (.k,P),some (.k,W)]):=
  QgM (d:=rl nd (fun d=>.str (dn d))) (by (repeat walk_at "e")) rfl oc (bZ rfl) (by show(["clerk_names"]:List Str).contains "door_names"=false;decide +kernel) rfl
 have s3:sFldS Ql "entry_places" 0 (eComp [none,some 5] (itL (eVar 2)) (gN 0) cTrue QbH) [some (.s,.ins "Office" F2),some (.k,S),some (.k,E),some (.k,Do),some (.k,N),some (.k,P),some (.k,W)]=.ok (.nx [some (.s,.ins "Office" F3),some (.k,S),some (.k,E),some (.k,Do),some (.k,N),some (.k,P),some (.k,W)]):=
  QgM (q3 _) rfl oc (bZ rfl) (by show(["clerk_names","door_names"]:List Str).contains "entry_places"=false;decide +kernel) rfl
 have s4:sFldS Ql "staff" 0 (eComp [none] (itL (eVar 1)) (gN 0) cTrue QbK) [some (.s,.ins "Office" F3),some (.k,S),some (.k,E),some (.k,Do),some (.k,N),some (.k,P),some (.k,W)]=.ok (.nx [some (.s,.ins "Office" F4),some (.k,S),some (.k,E),some (.k,Do),some (.k,N),some (.k,P),some (.k,W)]):=
  QgM (q4 _) rfl oc (bZ rfl) (by show(["clerk_names","door_names","entry_places"]:List Str).contains "staff"=false;decide +kernel) rfl
 have s5:sFldS Ql "first_states" 0 (eComp [none] (itL (eVar 1)) (gN 0) cTrue QbJ) [some (.s,.ins "Office" F4),some (.k,S),some (.k,E),some (.k,Do),some (.k,N),some (.k,P),some (.k,W)]=.ok (.nx [some (.s,.ins "Office" F5),some (.k,S),some (.k,E),some (.k,Do),some (.k,N),some (.k,P),some (.k,W)]):=
  QgM (q5 _) rfl oc (bZ rfl) (by show(["clerk_names","door_names","entry_places","staff"]:List Str).contains "first_states"=false;decide +kernel) rfl
 have s6:sFldS Ql "ways" 0 (eVar 6) [some (.s,.ins "Office" F5),some (.k,S),some (.k,E),some (.k,Do),some (.k,N),some (.k,P),some (.k,W)]=.ok (.nx [some (.s,.ins "Office" (offF n nd ne nm dn c en ek t m ld st)),some (.k,S),some (.k,E),some (.k,Do),some (.k,N),some (.k,P),some (.k,W)]):=
  QgM (d:=W) (by (repeat walk_at "e")) rfl oc (bZ rfl) (by show(["clerk_names","door_names","entry_places","staff","first_states"]:List Str).contains "ways"=false;decide +kernel) (by subst hN;subst hDo;subst hW;rfl)
 have fin:QbP "Office" (.nx [some (.s,.ins "Office" (offF n nd ne nm dn c en ek t m ld st)),some (.k,S),some (.k,E),some (.k,Do),some (.k,N),some (.k,P),some (.k,W)])=.ok (offF n nd ne nm dn c en ek t m ld st):=by
  show(if ("Office":Str)="Office" then Out.ok (offF n nd ne nm dn c en ek t m ld st) else .stuck)=_
  rw[aA rfl]
 rw[Qm4]
 unfold Qcu
 (repeat walk_at "e")
end
structure Tx(x:Str)(n:Nat):Prop where
 ok:PyData.strOk x=true
 len:x.length<=n
theorem QtO{x y:Str}(hx:PyData.strOk x=true)(hy:PyData.strOk y=true):PyData.strOk (x++y)=true:=by
 show(x.cps++y.cps).all _=true
 rw[Array.all_append]
 exact Bool.and_eq_true_iff.mpr ⟨hx,hy⟩
theorem QkS(x y:Str):(x++y).length=x.length+y.length:=by
 show(x.cps++y.cps).size=_
 rw[Array.size_append];rfl
theorem Tx.app{x y:Str}{m n:Nat}(h:Tx x m)(h':Tx y n):Tx (x++y) (m+n):=⟨QtO h.ok h'.ok,by rw[QkS];have:=h.len;have:=h'.len;omega⟩
theorem Tx.le{x:Str}{m n:Nat}(h:Tx x m)(hn:m<=n):Tx x n:=⟨h.ok,aq h.len hn⟩
theorem Qcd{x y:Str}{m n:Nat}(h:Tx x m)(h':Tx y n)(hs:m+n<=100000):dAdd (.str x) (.str y)=.ok (.str (x++y)):=by
 show(if x.length+y.length<=sizeLine then _ else _)=_
 rw[aA]
 have:=h.len
 have:=h'.len
 have h2:(100000:Nat)<=sizeLine:=by decide
 omega
noncomputable def it(k:Int):Str:=((toString k:String):Str)
theorem Qww{i:Int}(h:decide (i.natAbs.log2<1920)=true):dStr (.int i)=.ok (.str (it i)):=by
 show(if decide (i.natAbs.log2<1920)=true then Out.ok (D.str (it i)) else .stuck)=_
 rw[aA h]
theorem f1Str{i:Int}(h:decide (i.natAbs.log2<1920)=true):f1 dStr [.int i]=.ok (.str (it i)):=by
 show dStr (.int i)=_
 exact Qww h
theorem QcR{k:Int}(h0:0<=k)(h1:k<=12):f1 dStr [.int k]=.ok (.str (it k))/\Tx (it k) 2:=by
 have:k=0∨k=1∨k=2∨k=3∨k=4∨k=5∨k=6∨k=7∨k=8∨k=9∨k=10∨k=11∨k=12:=by omega
 rcases this with rfl | rfl | rfl | rfl | rfl | rfl | rfl | rfl | rfl | rfl | rfl | rfl | rfl<;>exact⟨f1Str (dk),dk,dk⟩
theorem QqT{x:Str}{a B:Nat}(hx:Tx x a):∀(l:List Str)(acc:Str)(n:Nat),Tx acc n->(∀ y∈l,Tx y B)->Tx ⟨l.foldl (fun acc p=>acc++x.cps++p.cps) acc.cps⟩ (n+l.length * (a+B))
 | [],acc,n,h,_=>by
  show Tx acc _
  exact h.le (by simp)
 | y::l,acc,n,h,hl=>by
  have:=QqT hx l (acc++x++y) _ ((h.app hx).app (hl y (aL ..))) fun z hz=>hl z (aE _ hz)
  refine Tx.le (show Tx ⟨l.foldl (fun acc p=>acc++x.cps++p.cps) (acc++x++y).cps⟩ _ from this) ?_
  rw[aR,Nat.succ_mul];omega
theorem Qk5{x:Str}{a B:Nat}(hx:Tx x a)(ys:List Str)(h:∀ y∈ys,Tx y B):Tx (Txt.join x ys) (ys.length * (a+B)):=by
 cases ys with
 | nil=>exact⟨(dk:PyData.strOk (⟨Str.empty.cps⟩:Str)=true),av _⟩
 | cons y l=>
  refine Tx.le (QqT hx l y B (h y (aL ..)) fun z hz=>h z (aE _ hz)) ?_
  rw[aR,Nat.succ_mul];omega
theorem Qri{B:Nat}:∀ ys:List Str,(∀ y∈ys,Tx y B)->(ys.map fun y=>y.length).sum<=ys.length * B
 | [],_=>by simp
 | y::l,h=>by
  have h1:=(h y (aL ..)).len
  have h2:=Qri l fun z hz=>h z (aE _ hz)
  rw[au,List.sum_cons,aR,Nat.succ_mul];omega
theorem Qkc{x:Str}{a B:Nat}(hx:Tx x a)(ys:List Str)(h:∀ y∈ys,Tx y B)(hb:ys.length * (a+B)<=1000000):fJoin (.str x) [.lst (ys.map .str)]=.ok (.str (Txt.join x ys)):=by
 unfold fJoin
 show(match strsJ (ys.map D.str) with
  | some ys=>if decide ((ys.map fun(y:Str)=>y.length).sum+ys.length * x.length<=16777216)=true then Out.ok (D.str (Txt.join x ys)) else Out.stuck
  | none=>Out.stuck)=_
 rw[Qmu]
 show(if decide ((ys.map fun y=>y.length).sum+ys.length * x.length<=16777216)=true then Out.ok (D.str (Txt.join x ys)) else Out.stuck)=_
 have h1:=Qri ys h
 have h2:ys.length * x.length<=ys.length * a:=Nat.mul_le_mul_left _ hx.len
 rw[Nat.mul_add]at hb
 rw[aA (aG (by omega))]
theorem Qkk{O E:SD->Out D}{ς:SD}{x:Str}{d:D}{r:Out D}(ho:O ς=.ok (.str x))(he:E ς=.ok d)(h:fJoin (.str x) [d]=r):eSm fJoin O (aCons E aNil) ς=r:=by
 unfold eSm
 rw[ho,d8]
 show(aCons E aNil ς>>=fun ys=>fJoin (.str x) ys)=r
 rw[Qf he r_nil];exact h
def rowT(r:List Int):Str:=if r.length=0 then "-" else Txt.join "," (r.map it)
noncomputable def wordT(c:Str):Str:=if c=("Deal":Str) then "deal" else if c=("Bundle":Str) then "bundle" else if c=("Copy":Str) then "copy" else "rows"
def numT(c:Str)(t:List (List Int)):Str:=if c=("Deal":Str)∨c=("Bundle":Str) then it (t.length:Int) else Txt.join "/" (t.map rowT)
def ctext(c:Str)(t:List (List Int)):Str:=wordT c++(" ":Str)++numT c t
theorem tc:Tx (",":Str) 1:=⟨dk,dk⟩
theorem tsl:Tx ("/":Str) 1:=⟨dk,dk⟩
theorem tbl:Tx (" ":Str) 1:=⟨dk,dk⟩
theorem tmi:Tx ("-":Str) 1:=⟨dk,dk⟩
theorem QlX{r:List Int}(hl:r.length<=6)(h:∀ x∈r,0<=x/\x<=9):Tx (rowT r) 20:=by
 unfold rowT
 split
 ·exact tmi.le (by decide)
 ·refine Tx.le (Qk5 tc (r.map it) (B:=2) fun y hy=>?_) (by rw[aC];omega)
  obtain⟨x,hx,rfl⟩:=aX.mp hy
  obtain⟨h0,h9⟩:=h x hx
  exact(QcR h0 (by omega)).2
theorem Qrm{c:Str}{t:List (List Int)}{m:Nat}(h:Tb t m):Tx (numT c t) 300:=by
 have n1:=h.n1
 have n2:=h.n2
 have m6:=h.m6
 unfold numT
 split
 ·exact((QcR (k:=(t.length:Int)) (by omega) (by omega)).2).le (by decide)
 ·refine Tx.le (Qk5 tsl (t.map rowT) (B:=20) fun y hy=>?_) (by rw[aC];omega)
  obtain⟨r,hr,rfl⟩:=aX.mp hy
  exact QlX (by have:=h.row r hr;omega) (h.ent r hr)
theorem QjD(c:Str):Tx (wordT c) 6:=by
 unfold wordT
 split
 ·exact⟨dk,dk⟩
 ·split
  ·exact⟨dk,dk⟩
  ·split<;>exact⟨dk,dk⟩
theorem QuR{c:Str}{t:List (List Int)}{m:Nat}(h:Tb t m):Tx (ctext c t) 310:=(((QjD c).app tbl).app (Qrm h)).le (by decide)
theorem Qu0{r:List Int}(hl:r.length<=6)(h:∀ x∈r,0<=x/\x<=9):QcX [dl r]=.ok (.str (rowT r)):=by
 have hlen:fLen [dl r]=.ok (.int (r.length:Int)):=by simp[fLen,dl]
 rw[QrD]
 unfold Qe5
 by_cases e:r.length=0
 ·have he:dEq (.int (r.length:Int)) (.int 0)=.ok (.bl true):=by rw[Qag,aG (by omega)]
  have er:rowT r="-":=aA e
  rw[er]
  exact Qad (fl:=.rt false (.str "-")) (r_seq (r_if (QY (r_e2 (r_eA (Qf (r_var rfl) r_nil) hlen) r_C he)) (Qki rfl (r_ret r_C))) Qg2) r_rt
 ·have he:dEq (.int (r.length:Int)) (.int 0)=.ok (.bl false):=by rw[Qag,aQ (by omega)]
  have er:rowT r=Txt.join "," (r.map it):=aD e
  have hc:eComp [none] (itL (eVar 0)) (gN 0) cTrue Qe9 [some (.k,dl r)]=.ok (.lst ((r.map it).map .str)):=by
   rw[ax]
   refine QK (l:=r) (fun x=>D.int x) (fun x=>D.str (it x)) rfl (fun x hx=>?_) (by omega)
   obtain⟨h0,h9⟩:=h x hx
   refine QN (by walk_at "cap") (by walk_at "s") ?_
   unfold Qe9
   exact r_eA (Qf (r_var rfl) r_nil) (QcR h0 (by omega)).1
  have hj:=Qkc tc (r.map it) (B:=2) (fun y hy=>by
   obtain⟨x,hx,rfl⟩:=aX.mp hy
   obtain⟨h0,h9⟩:=h x hx
   exact(QcR h0 (by omega)).2) (by rw[aC];omega)
  rw[er]
  exact Qad (fl:=.rt false (.str (Txt.join "," (r.map it)))) (r_seq (r_if (QY (r_e2 (r_eA (Qf (r_var rfl) r_nil) hlen) r_C he)) (Qkr rfl Qak)) (Qw (r_ret (Qkk r_C hc hj)))) r_rt
theorem QvZ{c:Str}(hc:CK.contains c=true){t:List (List Int)}{m:Nat}(h:Tb t m):Qae [ck c t m]=.ok (.str (Txt.join "/" (t.map rowT))):=by
 have n2:=h.n2
 have m6:=h.m6
 have hf:=fld_t hc t m
 have hcm:eComp [none] (itL (e1 (dFld Ql "table") (eVar 0))) (gN 0) cTrue Qb9 [some (.k,ck c t m)]=.ok (.lst ((t.map rowT).map .str)):=by
  rw[ax]
  refine QK (l:=t) (fun r=>dl r) (fun r=>D.str (rowT r)) (r_itL (r_e1 (r_var rfl) hf)) (fun r hr=>?_) (by omega)
  have hx:=Qu0 (r:=r) (by have:=h.row r hr;omega) (h.ent r hr)
  refine QN (by walk_at "cap") (by walk_at "s") ?_
  unfold Qb9
  exact Qan (xs:=[dl r]) (Qf (r_var rfl) r_nil) rfl hx
 have hj:=Qkc tsl (t.map rowT) (B:=20) (fun y hy=>by
  obtain⟨r,hr,rfl⟩:=aX.mp hy
  exact QlX (by have:=h.row r hr;omega) (h.ent r hr)) (by rw[aC];omega)
 rw[Qj6]
 unfold QbG
 exact Qad (fl:=.rt false (.str (Txt.join "/" (t.map rowT)))) (r_ret (Qkk r_C hcm hj)) r_rt
theorem QwT{c:Str}(hc:CK.contains c=true){t:List (List Int)}{m:Nat}:eMeth Qb "period" (fun _=>QX) (eVar 0) aNil [some (.k,ck c t m)]=.ok (.int (t.length:Int)):=by
 rw[Qe6 (c:=c) (t:=t) (m:=m) hc (xs:=[]) (r_var rfl) rfl (dk) (dk)]
 exact Qmn hc _ _
theorem Qwf{c:Str}(hc:CK.contains c=true){t:List (List Int)}{m:Nat}(h:Tb t m):Qbi [ck c t m]=.ok (.str (ctext c t)):=by
 have n1:=h.n1
 have n2:=h.n2
 have hw:QaQ c [ck c t m]=.ok (.str (wordT c)):=by
  have hm:c∈CK:=by simpa using hc
  simp only[CK,Qb,aF,aT,b6]at hm
  rcases hm with rfl | rfl | rfl | rfl
  ·rw[Qif];unfold wordT;rw[aA rfl];rfl
  ·rw[QgX];unfold wordT;rw[aD (dk),aA rfl];rfl
  ·rw[QhJ];unfold wordT;rw[aD (dk),aD (dk),aA rfl];rfl
  ·rw[QhO];unfold wordT;rw[aD (dk),aD (dk),aD (dk)];rfl
 have hp:=QwT hc (t:=t) (m:=m)
 have hst:=(QcR (k:=(t.length:Int)) (by omega) (by omega)).1
 have hn:Q9 c [ck c t m]=.ok (.str (numT c t)):=by
  have hm:c∈CK:=by simpa using hc
  have hnum:=QvZ hc h
  simp only[CK,Qb,aF,aT,b6]at hm
  rcases hm with rfl | rfl | rfl | rfl
  ·rw[QfS,QlI]
   unfold QbX numT
   rw[aA (.inl rfl)]
   exact Qad (r_ret (r_eA (Qf hp r_nil) hst)) r_rt
  ·rw[QeN,Qjw]
   unfold Qbu numT
   rw[aA (.inr rfl)]
   exact Qad (r_ret (r_eA (Qf hp r_nil) hst)) r_rt
  ·rw[QfN]
   unfold numT
   rw[aD (dk)];exact hnum
  ·rw[QfU]
   unfold numT
   rw[aD (dk)];exact hnum
 have m1:eMeth Qb "word" QaQ (eVar 0) aNil [some (.k,ck c t m)]=.ok (.str (wordT c)):=by
  rw[Qe6 (c:=c) (t:=t) (m:=m) hc (xs:=[]) (r_var rfl) rfl (dk) (dk)]
  exact hw
 have m2:eMeth Qb "numbers" Q9 (eVar 0) aNil [some (.k,ck c t m)]=.ok (.str (numT c t)):=by
  rw[Qe6 (c:=c) (t:=t) (m:=m) hc (xs:=[]) (r_var rfl) rfl (dk) (dk)]
  exact hn
 have a1:=Qcd (QjD c) tbl (by decide)
 have a2:=Qcd ((QjD c).app tbl) (Qrm (c:=c) h) (by decide)
 rw[Qou]
 unfold Qdc
 exact Qad (fl:=.rt false (.str (ctext c t))) (r_ret (r_e2 (r_e2 m1 r_C a1) m2 a2)) r_rt
section
variable{n nd ne:Nat}{nm dn c en:Nat->Str}{ek:Nat->Nat}{t:Nat->List (List Int)}{m:Nat->Nat}{ld:Nat->Nat->Int}{st:Nat->Int}
theorem QrB:(offF n nd ne nm dn c en ek t m ld st).lookup ("staff":Str)=some (rl n (fun k=>ck (c k) (t k) (m k))):=by
 have h1:(("staff":Str) == "clerk_names")=false:=dk
 have h2:(("staff":Str) == "door_names")=false:=dk
 have h3:(("staff":Str) == "entry_places")=false:=dk
 unfold offF
 rw[aJ,h1,aJ,h2,aJ,h3,aJ,bD]
theorem QtQ:(offF n nd ne nm dn c en ek t m ld st).lookup ("ways":Str)=some (rl n (fun k=>rl (m k) (fun j=>.int (ld k j)))):=by
 have h1:(("ways":Str) == "clerk_names")=false:=dk
 have h2:(("ways":Str) == "door_names")=false:=dk
 have h3:(("ways":Str) == "entry_places")=false:=dk
 have h4:(("ways":Str) == "staff")=false:=dk
 have h5:(("ways":Str) == "first_states")=false:=dk
 unfold offF
 rw[aJ,h1,aJ,h2,aJ,h3,aJ,h4,aJ,h5,aJ,bD]
theorem Qtz{x:Str}(h:(["clerk_names","door_names","entry_places","staff","first_states","ways"]:List Str).all (fun y => !(x == y))=true):(offF n nd ne nm dn c en ek t m ld st).lookup x=none:=by
 simp only[bJ,List.all_nil,aH,cU,cV]at h
 obtain⟨h1,h2,h3,h4,h5,h6⟩:=h
 unfold offF
 rw[aJ,h1,aJ,h2,aJ,h3,aJ,h4,aJ,h5,aJ,h6];rfl
theorem fld_o{x:Str}{d:D}(h:(offF n nd ne nm dn c en ek t m ld st).lookup x=some d):dFld Ql x (offD n nd ne nm dn c en ek t m ld st)=.ok d:=by
 show(if Ql.contains "Office"=true then optO ((offF n nd ne nm dn c en ek t m ld st).lookup x) else .stuck)=_
 rw[aA Qq5,h];rfl
theorem QcG{x:Str}{mt:Str->List D->Out D}{O:SD->Out D}{A:SD->Out (List D)}{ς:SD}{xs:List D}(hO:O ς=.ok (offD n nd ne nm dn c en ek t m ld st))(hA:A ς=.ok xs)
 (h:(["clerk_names","door_names","entry_places","staff","first_states","ways"]:List Str).all (fun y => !(x == y))=true):eMeth Qm x mt O A ς=mt "Office" (offD n nd ne nm dn c en ek t m ld st::xs):=by
 have hc:Qm.contains "Office"=true:=dk
 unfold eMeth
 rw[hO,d8]
 show(if (Qm.contains "Office"&&((offF n nd ne nm dn c en ek t m ld st).lookup x).isNone)=true then A ς>>=fun xs=>mt "Office" (.ins "Office" (offF n nd ne nm dn c en ek t m ld st)::xs) else .stuck)=_
 rw[Qtz h,hc,aA (show(true&&(none:Option D).isNone)=true from rfl),hA];rfl
theorem Qtn{k:Nat}(hk:k<n):Qax [offD n nd ne nm dn c en ek t m ld st,.int (k:Int)]=.ok (ck (c k) (t k) (m k)):=by
 have h1:=fld_o (QrB (n:=n) (nd:=nd) (ne:=ne) (nm:=nm) (dn:=dn) (c:=c) (en:=en) (ek:=ek) (t:=t) (m:=m) (ld:=ld) (st:=st))
 have x1:dIx (rl n (fun k=>ck (c k) (t k) (m k))) (.int (k:Int))=.ok (ck (c k) (t k) (m k)):=ixR hk
 rw[QlJ]
 unfold QbY
 (repeat walk_at "e")
theorem Qs0{k:Nat}(hk:k<n):Q5 [offD n nd ne nm dn c en ek t m ld st,.int (k:Int)]=.ok (rl (m k) (fun j=>.int (ld k j))):=by
 have h1:=fld_o (QtQ (n:=n) (nd:=nd) (ne:=ne) (nm:=nm) (dn:=dn) (c:=c) (en:=en) (ek:=ek) (t:=t) (m:=m) (ld:=ld) (st:=st))
 have x1:dIx (rl n (fun k=>rl (m k) (fun j=>.int (ld k j)))) (.int (k:Int))=.ok (rl (m k) (fun j=>.int (ld k j))):=ixR hk
 have hd:dList (rl (m k) (fun j=>.int (ld k j)))=.ok (rl (m k) (fun j=>.int (ld k j))):=rfl
 rw[Qlz]
 unfold QbV
 (repeat walk_at "e")
theorem Quc:(offF n nd ne nm dn c en ek t m ld st).lookup ("clerk_names":Str)=some (rl n (fun k=>.str (nm k))):=by
 unfold offF
 rw[aJ,bD]
theorem Qxj:(offF n nd ne nm dn c en ek t m ld st).lookup ("door_names":Str)=some (rl nd (fun d=>.str (dn d))):=by
 have h1:(("door_names":Str) == "clerk_names")=false:=dk
 unfold offF
 rw[aJ,h1,aJ,bD]
theorem QwY:(offF n nd ne nm dn c en ek t m ld st).lookup ("entry_places":Str)=some (rl ne (fun j=>.tup [.str (en j),.int ((ek j:Nat):Int)])):=by
 have h1:(("entry_places":Str) == "clerk_names")=false:=dk
 have h2:(("entry_places":Str) == "door_names")=false:=dk
 unfold offF
 rw[aJ,h1,aJ,h2,aJ,bD]
theorem QwV:(offF n nd ne nm dn c en ek t m ld st).lookup ("first_states":Str)=some (rl n (fun k=>.int (st k))):=by
 have h1:(("first_states":Str) == "clerk_names")=false:=dk
 have h2:(("first_states":Str) == "door_names")=false:=dk
 have h3:(("first_states":Str) == "entry_places")=false:=dk
 have h4:(("first_states":Str) == "staff")=false:=dk
 unfold offF
 rw[aJ,h1,aJ,h2,aJ,h3,aJ,h4,aJ,bD]
theorem on:Qaa [offD n nd ne nm dn c en ek t m ld st]=.ok (rl n (fun k=>.str (nm k))):=by
 have h1:=fld_o (Quc (n:=n) (nd:=nd) (ne:=ne) (nm:=nm) (dn:=dn) (c:=c) (en:=en) (ek:=ek) (t:=t) (m:=m) (ld:=ld) (st:=st))
 have hd:dList (rl n (fun k=>.str (nm k)))=.ok (rl n (fun k=>.str (nm k))):=rfl
 rw[QlZ]
 unfold Qb1
 exact Qad (Qcj (r_e1 (r_e1 (r_var rfl) h1) hd)) r_rtT
theorem onm{i:Nat}{ς:SD}(h:ς[i]?=some (some (.k,offD n nd ne nm dn c en ek t m ld st))):eMeth Qm "names" (fun _=>Qaa) (eVar i) aNil ς=.ok (rl n (fun k=>.str (nm k))):=by
 rw[QcG (xs:=[]) (r_var h) rfl (dk)]
 exact on
theorem od:Qab [offD n nd ne nm dn c en ek t m ld st]=.ok (rl nd (fun d=>.str (dn d))):=by
 have h1:=fld_o (Qxj (n:=n) (nd:=nd) (ne:=ne) (nm:=nm) (dn:=dn) (c:=c) (en:=en) (ek:=ek) (t:=t) (m:=m) (ld:=ld) (st:=st))
 have hd:dList (rl nd (fun d=>.str (dn d)))=.ok (rl nd (fun d=>.str (dn d))):=rfl
 rw[Qk3]
 unfold Qb3
 exact Qad (Qcj (r_e1 (r_e1 (r_var rfl) h1) hd)) r_rtT
theorem odm{i:Nat}{ς:SD}(h:ς[i]?=some (some (.k,offD n nd ne nm dn c en ek t m ld st))):eMeth Qm "doors" (fun _=>Qab) (eVar i) aNil ς=.ok (rl nd (fun d=>.str (dn d))):=by
 rw[QcG (xs:=[]) (r_var h) rfl (dk)]
 exact od
theorem oe:Q1 [offD n nd ne nm dn c en ek t m ld st]=.ok (rl ne (fun j=>.tup [.str (en j),.int ((ek j:Nat):Int)])):=by
 have h1:=fld_o (QwY (n:=n) (nd:=nd) (ne:=ne) (nm:=nm) (dn:=dn) (c:=c) (en:=en) (ek:=ek) (t:=t) (m:=m) (ld:=ld) (st:=st))
 have hd:dList (rl ne (fun j=>.tup [.str (en j),.int ((ek j:Nat):Int)]))=.ok (rl ne (fun j=>.tup [.str (en j),.int ((ek j:Nat):Int)])):=rfl
 rw[Qjx]
 unfold Qbt
 exact Qad (Qcj (r_e1 (r_e1 (r_var rfl) h1) hd)) r_rtT
theorem oem{i:Nat}{ς:SD}(h:ς[i]?=some (some (.k,offD n nd ne nm dn c en ek t m ld st))):eMeth Qm "entries" (fun _=>Q1) (eVar i) aNil ς=.ok (rl ne (fun j=>.tup [.str (en j),.int ((ek j:Nat):Int)])):=by
 rw[QcG (xs:=[]) (r_var h) rfl (dk)]
 exact oe
theorem ob:Qac [offD n nd ne nm dn c en ek t m ld st]=.ok (rl n (fun k=>.int (st k))):=by
 have h1:=fld_o (QwV (n:=n) (nd:=nd) (ne:=ne) (nm:=nm) (dn:=dn) (c:=c) (en:=en) (ek:=ek) (t:=t) (m:=m) (ld:=ld) (st:=st))
 have hd:dList (rl n (fun k=>.int (st k)))=.ok (rl n (fun k=>.int (st k))):=rfl
 rw[Qk4]
 unfold Qb4
 exact Qad (Qcj (r_e1 (r_e1 (r_var rfl) h1) hd)) r_rtT
theorem obm{i:Nat}{ς:SD}(h:ς[i]?=some (some (.k,offD n nd ne nm dn c en ek t m ld st))):eMeth Qm "begin" (fun _=>Qac) (eVar i) aNil ς=.ok (rl n (fun k=>.int (st k))):=by
 rw[QcG (xs:=[]) (r_var h) rfl (dk)]
 exact ob
theorem om:Qat [offD n nd ne nm dn c en ek t m ld st]=.ok (.int (n:Int)):=by
 have h1:=fld_o (Quc (n:=n) (nd:=nd) (ne:=ne) (nm:=nm) (dn:=dn) (c:=c) (en:=en) (ek:=ek) (t:=t) (m:=m) (ld:=ld) (st:=st))
 have hl:=lenR n (fun k=>D.str (nm k))
 rw[QmW]
 unfold Qcr
 exact Qad (r_ret (r_eA (Qf (r_e1 (r_var rfl) h1) r_nil) hl)) r_rt
theorem omm{i:Nat}{ς:SD}(h:ς[i]?=some (some (.k,offD n nd ne nm dn c en ek t m ld st))):eMeth Qm "many" (fun _=>Qat) (eVar i) aNil ς=.ok (.int (n:Int)):=by
 rw[QcG (xs:=[]) (r_var h) rfl (dk)]
 exact om
theorem ocm{i j k:Nat}{ς:SD}(hk:k<n)(h:ς[i]?=some (some (.k,offD n nd ne nm dn c en ek t m ld st)))(h':ς[j]?=some (some (.k,.int (k:Int)))):eMeth Qm "clerk" (fun _=>Qax) (eVar i) (aCons (eVar j) aNil) ς=.ok (ck (c k) (t k) (m k)):=by
 rw[QcG (xs:=[.int (k:Int)]) (r_var h) (Qf (r_var h') r_nil) (dk)]
 exact Qtn hk
theorem olm{i j k:Nat}{ς:SD}(hk:k<n)(h:ς[i]?=some (some (.k,offD n nd ne nm dn c en ek t m ld st)))(h':ς[j]?=some (some (.k,.int (k:Int)))):eMeth Qm "leads" (fun _=>Q5) (eVar i) (aCons (eVar j) aNil) ς=.ok (rl (m k) (fun j=>.int (ld k j))):=by
 rw[QcG (xs:=[.int (k:Int)]) (r_var h) (Qf (r_var h') r_nil) (dk)]
 exact Qs0 hk
end
theorem Qc6{P:SD->Out Bool}{A B:SD->Out Fl}{ς:SD}{fl:Fl}(h:P ς=.ok false)(hb:B ς=.ok fl):sIf P A B ς=.ok fl:=r_if h (Qkr rfl hb)
theorem neI{i j:Int}(h:i=j):dNe (.int i) (.int j)=.ok (.bl false):=by rw[QbC,aG h];rfl
theorem neS(a:Str)(ha:PyData.strOk a=true:=by decide +kernel):dNe (.str a) (.str a)=.ok (.bl false):=by rw[Qvu ha ha];simp
theorem r_orF{P Q:SD->Out Bool}{ς:SD}{rb:Out Bool}(a:P ς=.ok false)(k:Q ς=rb):tOr' P Q ς=rb:=r_or' a k
theorem QgH:∀ l:List D,(∀ d∈l,layD d=true)->layDs l=true
 | [],_=>rfl
 | x::xs,h=>by
  show(layD x&&layDs xs)=true
  rw[h x (aL ..),QgH xs fun d hd=>h d (aE _ hd)];rfl
theorem QkO{m:Nat}:∀ l:List D,(∀ d∈l,dep d<=m)->deps l<=m
 | [],_=>av _
 | x::xs,h=>by
  show max (dep x) (deps xs)<=m
  have h1:=h x (aL ..)
  have h2:=QkO xs fun d hd=>h d (aE _ hd)
  omega
theorem Qln{d:D}(hl:layD d=true)(hd:dep d<=64):dNe d d=.ok (.bl false):=by
 have hs:=QjZ hl hd
 rw[QoM hs hs,PySem.SeqAt.eqv_refl _ (Qol _ hl)];rfl
theorem QkC{n:Nat}{f:Nat->D}(h:∀ i,i<n->layD (f i)=true):layD (rl n f)=true:=QgH _ fun d hd=>by
 obtain⟨i,hi,rfl⟩:=aX.mp hd
 exact h i (aV.mp hi)
theorem Qkn{n m:Nat}{f:Nat->D}(h:∀ i,i<n->dep (f i)<=m):dep (rl n f)<=m+1:=Nat.succ_le_succ (QkO _ fun d hd=>by
 obtain⟨i,hi,rfl⟩:=aX.mp hd
 exact h i (aV.mp hi))
theorem Qfr{n:Nat}{f:Nat->D}(hl:∀ i,i<n->layD (f i)=true)(hd:∀ i,i<n->dep (f i)<=5)(hb:∀ i,i<n->isaT "bool" (f i)=.ok false):QaN [rl n f,rl n f]=.ok (.bl true):=by
 have hi:isaT "list" (rl n f)=.ok true:=by simp[isaT,Qaw]
 have hne:=Qln (QkC hl) (aq (Qkn hd) (by decide))
 obtain⟨ς',hL,a2,rfl⟩:=QdR (body:=fun x ς=>gN 2 x ς>>=fun ς'=>Qc3 ς') (f:=f) (n:=n) (P:=fun _ ς=>∃ a2,ς=[some (.k,rl n f),some (.k,rl n f),a2])
  (by
   rintro k hk ς ⟨a2,rfl⟩
   refine⟨[some (.k,rl n f),some (.k,rl n f),some (.k,f k)],?_,_,rfl⟩
   refine r_gN (by walk_at "s") ?_
   unfold Qc3
   exact Qc6 (QY (r_isa (r_var rfl) (hb k hk))) Qak)
  [some (.k,rl n f),some (.k,rl n f),none] ⟨none,rfl⟩
 have hfor:=Qbn (g:=gN 2) (T:=Qc3) (its:=itL (eVar 0)) (xs:=(List.range n).map f) (ς:=[some (.k,rl n f),some (.k,rl n f),none]) (r_itL (r_var rfl)) hL
 rw[Qsp]
 unfold QeV
 exact Qad (fl:=.rt false (.bl true)) (r_seq (Qc6 (r_orF (Qdg (QY (r_isa (r_var rfl) hi))) (QY (r_e2 (r_var rfl) (r_var rfl) hne))) Qak) (Qw (r_seq hfor (Qw (r_ret r_C))))) r_rt
noncomputable def inL(c:Nat):Bool := !(Builtin.Str.occurrences ("abcdefghijklmnopqrstuvwxyz":Str) ⟨#[c]⟩ 0 ("abcdefghijklmnopqrstuvwxyz":Str).length 1).isEmpty
theorem compN(z:Str)(hz:z.length<=1000):eComp [none] (itS (eVar 0)) (gN 0) cTrue Qgh [some (.k,.str z)]=.ok (.lst (z.cps.toList.map fun c=>D.bl (inL c))):=by
 unfold eComp
 have h:=Qjv (f:=turnC [none] (gN 0) cTrue Qgh [some (.k,.str z)]) (h:=fun d=>match d with | .str x=>some (.bl (!(Builtin.Str.occurrences ("abcdefghijklmnopqrstuvwxyz":Str) x 0 ("abcdefghijklmnopqrstuvwxyz":Str).length 1).isEmpty)) | _=>none) (xs:=signs z) (by
  intro x hx
  obtain⟨c,_,rfl⟩:=aX.mp hx
  rfl)
 have e:(signs z).filterMap (fun d=>match d with | .str x=>some (D.bl (!(Builtin.Str.occurrences ("abcdefghijklmnopqrstuvwxyz":Str) x 0 ("abcdefghijklmnopqrstuvwxyz":Str).length 1).isEmpty)) | _=>none)=z.cps.toList.map fun c=>D.bl (inL c):=by
  unfold signs
  rw[List.filterMap_map]
  exact List.filterMap_eq_map' (f:=fun c=>D.bl (inL c)) ▸ rfl
 show(compM _ (signs z)>>=_)=_
 rw[h,e,d8,aA (Qds (by rw[aC,Qq3];exact hz))]
def nmB(z:Str):Bool:=decide (1<=z.length)&&decide (z.length<=6)&&z.cps.toList.all inL
theorem Qv0(z:Str)(hz:z.length<=1000):Qaf [.str z]=.ok (.bl (nmB z)):=by
 rw[QsY]
 unfold QfH
 have hf:=Qds hz
 unfold nmB
 by_cases h1:1<=z.length
 ·by_cases h2:z.length<=6
  ·have h1':(1:Int)<=(z.length:Int):=by omega
   have h2':(z.length:Int)<=6:=by omega
   exists"O",Qa6,compN z hz,QdA,hf,h1,h2,h1',h2',bD
  ·have h1':(1:Int)<=(z.length:Int):=by omega
   have h2':¬ (z.length:Int)<=6:=by omega
   exists"O",Qa6,compN z hz,QdA,hf,h1,h2,h1',h2',bD
 ·have h1':¬ (1:Int)<=(z.length:Int):=by omega
  exists"O",Qa6,compN z hz,QdA,hf,h1,h1',bD
theorem ltr{i:Nat}(h:i<26):dIx (.str "abcdefghijklmnopqrstuvwxyz") (.int (i:Int))=.ok (.str ⟨#[97+i]⟩):=by
 have e:("abcdefghijklmnopqrstuvwxyz":Str).cps.toList=(List.range 26).map (97 + ·):=dk
 show(if fits ("abcdefghijklmnopqrstuvwxyz":Str).length=true then optO ((atI ("abcdefghijklmnopqrstuvwxyz":Str).cps.toList (i:Int)).map fun c=>D.str ⟨#[c]⟩) else .stuck)=_
 rw[aA (dk),e,QgB (show((List.range 26).map (97 + ·))[i]?=some (97+i) by rw[aM,ao h];rfl)]
 rfl
theorem QkH{i:Nat}(h:i<26):inL (97+i)=true:=by
 have key:∀ a:Fin 26,inL (97+a)=true:=dk
 exact key ⟨i,h⟩
theorem QgS(x y:Str):(x++y).cps.toList=x.cps.toList++y.cps.toList:=by
 show(x.cps++y.cps).toList=_
 rw[Array.toList_append]
theorem QgF{i:Nat}(h:i<26):Tx (⟨#[97+i]⟩:Str) 1:=by
 refine⟨?_,aP 1⟩
 have key:∀ a:Fin 26,PyData.strOk (⟨#[97+a.1]⟩:Str)=true:=dk
 exact key ⟨i,h⟩
structure Nw(x:Str):Prop where
 nb:nmB x=true
 tx:Tx x 6
theorem Nw.isn{x:Str}(h:Nw x):Qaf [.str x]=.ok (.bl true):=by
 rw[Qv0 x (by have:=h.tx.len;omega),h.nb]
theorem Nw.mk'{x:Str}(h1:1<=x.length)(h2:Tx x 6)(h3:x.cps.toList.all inL=true):Nw x:=by
 refine⟨?_,h2⟩
 unfold nmB
 rw[aG h1,aG h2.len,h3];rfl
theorem r_ifT{P:SD->Out Bool}{T U:SD->Out Fl}{ς:SD}{b:Bool}{rf:Out Fl}(a:P ς=.ok b)(hb:b=true)(k:T ς=rf):sIf P T U ς=rf:=r_if a (Qki hb k)
theorem r_ifF{P:SD->Out Bool}{T U:SD->Out Fl}{ς:SD}{b:Bool}{rf:Out Fl}(a:P ς=.ok b)(hb:b=false)(k:U ς=rf):sIf P T U ς=rf:=r_if a (Qkr hb k)
noncomputable def wds:List Str:=["to","at","door","entry","clerk","bundle","copy","a"]
noncomputable def qs(r:Nat):Str:=if r=0 then "" else if r=1 then "q" else if r=2 then "qq" else "qqq"
def nmb(S k:Nat):Str:=(⟨#[97+(S+k) % 26]⟩:Str)++(⟨#[97+(S / 26+k / 26) % 26]⟩:Str)++qs (S / 676 % 4)
def nmF(S k:Nat):Str:=if S / 2704 % 3=1 then(if k<8 then wds.getD ((k+S) % 8) "" else nmb S k++"w") else nmb S k
def gB(x:Str):Bool:=wds.contains x||(decide (2<=x.cps.toList.length)&&(x.cps.toList.drop 2).all fun c=>c == 113||c == 119)
theorem Qh9:∀ r:Fin 4,(qs r.1).cps.toList.all (fun c=>c == 113)=true/\PyData.strOk (qs r.1)=true/\(qs r.1).length<=3:=dk
theorem QiH(S k:Nat):(nmb S k).cps.toList=[97+(S+k) % 26,97+(S / 26+k / 26) % 26]++(qs (S / 676 % 4)).cps.toList:=by
 unfold nmb
 rw[QgS,QgS];rfl
theorem QxN{r c:Nat}(hr:r<4)(h:c∈(qs r).cps.toList):c=113:=by
 have:=bM.mp (Qh9 ⟨r,hr⟩).1 c h
 exact eq_of_beq this
theorem Qn8(S k:Nat):Tx (nmb S k) 5:=((QgF (ak _ (by decide))).app (QgF (ak _ (by decide)))).app ⟨(Qh9 ⟨S / 676 % 4,ak _ (by decide)⟩).2.1,(Qh9 ⟨S / 676 % 4,ak _ (by decide)⟩).2.2⟩
theorem Qrg(S k:Nat):(nmb S k).cps.toList.all inL=true:=by
 rw[QiH,List.all_append,aH]
 refine⟨?_,bM.mpr fun c h=>?_⟩
 ·simp only[bJ,List.all_nil,QkH (ak (S+k) (show 0<26 by decide)),QkH (ak (S / 26+k / 26) (show 0<26 by decide)),cV]
 ·rw[QxN (ak _ (by decide)) h];decide +kernel
theorem Qq6(S k:Nat):1<=(nmb S k).length:=by
 rw[← Qq3,QiH]
 simp
theorem wd_nw:∀ i:Fin 8,nmB (wds.getD i.1 "")=true/\PyData.strOk (wds.getD i.1 "")=true/\(wds.getD i.1 "").length<=6/\gB (wds.getD i.1 "")=true/\(wds.getD i.1 "").cps.toList.getLast?≠some 119:=dk
theorem Qxn:∀ i j:Fin 8,wds.getD i.1 ""=wds.getD j.1 ""->i=j:=dk
theorem QlT(S k:Nat):(nmb S k++("w":Str)).cps.toList=(nmb S k).cps.toList++[119]:=by rw[QgS];rfl
theorem Qt5(S k:Nat):Nw (nmF S k):=by
 unfold nmF
 split
 ·split
  ·have:=wd_nw ⟨(k+S) % 8,ak _ (by decide)⟩
   exact⟨this.1,this.2.1,this.2.2.1⟩
  ·refine Nw.mk' (by rw[QkS];have:=Qq6 S k;omega) ((Qn8 S k).app (n:=1) ⟨dk,dk⟩) ?_
   rw[QlT,List.all_append,Qrg];decide +kernel
 ·exact Nw.mk' (Qq6 S k) ((Qn8 S k).le (by decide)) (Qrg S k)
theorem QnD{S i j:Nat}{x y:List Nat}(e:(nmb S i).cps.toList++x=(nmb S j).cps.toList++y)(hi:i<100)(hj:j<100):i=j:=by
 rw[QiH,QiH]at e
 obtain⟨h1,h2⟩:=List.cons.inj (show(97+(S+i) % 26)::(97+(S / 26+i / 26) % 26)::_=(97+(S+j) % 26)::(97+(S / 26+j / 26) % 26)::_ from e)
 have h3:=(List.cons.inj h2).1
 omega
theorem Qrk{S i j:Nat}(e:nmF S i=nmF S j)(hi:i<100)(hj:j<100):i=j:=by
 unfold nmF at e
 split at e
 ·have nw:∀ a b:Nat,wds.getD ((a+S) % 8) ""=nmb S b++("w":Str)->False:=fun a b z=>by
   have:=(wd_nw ⟨(a+S) % 8,ak _ (by decide)⟩).2.2.2.2
   rw[show wds.getD (⟨(a+S) % 8,ak _ (by decide)⟩:Fin 8).1 ""=nmb S b++("w":Str) from z,QlT]at this
   exact this (by simp)
  split at e
  ·split at e
   ·have:=Qxn ⟨(i+S) % 8,ak _ (by decide)⟩ ⟨(j+S) % 8,ak _ (by decide)⟩ e
    have:=bg Fin.val this
    simp only at this
    omega
   ·exact(nw _ _ e).elim
  ·split at e
   ·exact(nw _ _ e.symm).elim
   ·have:=bg (fun z:Str=>z.cps.toList) e
    simp only[QlT]at this
    exact QnD this hi hj
 ·have:=bg (fun z:Str=>z.cps.toList++[]) e
  exact QnD this hi hj
theorem nadd(a b:Nat):dAdd (.int (a:Int)) (.int (b:Int))=.ok (.int ((a+b:Nat):Int)):=by rw[Qbo];rfl
theorem nmod(a:Nat){m:Nat}(h:0<m):dMod (.int (a:Int)) (.int (m:Int))=.ok (.int ((a % m:Nat):Int)):=by rw[Qjt (by omega)];rfl
theorem nfdiv(a:Nat){m:Nat}(h:0<m)(h':big (m:Int)=true):dFdiv (.int (a:Int)) (.int (m:Int))=.ok (.int ((a / m:Nat):Int)):=by
 rw[QtA (by omega) h'];rfl
theorem r_slS{A:SD->Out D}{L U:SD->Out (Option Int)}{ς:SD}{x:Str}{p q:Option Int}(ha:A ς=.ok (.str x))(hl:L ς=.ok p)(hu:U ς=.ok q)(hx:x.length<=100000):eSlS A L U ς=.ok (.str (Txt.slice x p q)):=by
 unfold eSlS
 rw[ha,d8,hl,d8,hu,d8]
 show(if decide (x.length<=sizeLine)=true then Out.ok (D.str (Txt.slice x p q)) else .stuck)=_
 have h2:(100000:Nat)<=sizeLine:=by decide
 rw[aA (aG (by omega))]
theorem qs_sl:∀ r:Fin 4,Txt.slice "qqq" none (some ((r.1:Nat):Int))=qs r.1:=dk
theorem Qvh(S:Nat){N:Nat}(hN:N<=100):Qck [.int (N:Int),.int (S:Int)]=.ok (.lst (((List.range N).map (nmF S)).map .str)):=by
 let Z:Nat->Option (SM×D)->Option (SM×D)->Option (SM×D)->SD:=fun k a5 a6 a7=>[some (.k,.int (N:Int)),some (.k,.int (S:Int)),some (.k,.str "abcdefghijklmnopqrstuvwxyz"),some (.k,.lst (wds.map .str)),some (.o,.lst (((List.range k).map (nmF S)).map .str)),a5,a6,a7]
 obtain⟨ς',hL,a5,a6,a7,rfl⟩:=QdZ (body:=fun x ς=>gN 5 x ς>>=fun ς'=>Qcq ς') (n:=N) (P:=fun k ς=>∃ a5 a6 a7,ς=Z k a5 a6 a7)
  (by
   rintro k hk ς ⟨a5,a6,a7,rfl⟩
   have i1:=ltr (i:=(S / 26+k / 26) % 26) (ak _ (by decide))
   have i2:=ltr (i:=(S+k) % 26) (ak _ (by decide))
   have q4:S / 676 % 4<4:=ak _ (by decide)
   have sl:=qs_sl ⟨S / 676 % 4,q4⟩
   have tq:Tx (qs (S / 676 % 4)) 3:=⟨(Qh9 ⟨_,q4⟩).2.1,(Qh9 ⟨_,q4⟩).2.2⟩
   have t1:=QgF (i:=(S / 26+k / 26) % 26) (ak _ (by decide))
   have t2:=QgF (i:=(S+k) % 26) (ak _ (by decide))
   have s6:∀ a6 a7:Option (SM×D),sSet 6 (e2 dIx (eVar 2) (e2 dMod (e2 dAdd (e2 dFdiv (eVar 1) (eC (.int 26))) (e2 dFdiv (eVar 5) (eC (.int 26)))) (eC (.int 26)))) (Z k (some (.k,.int (k:Int))) a6 a7)=.ok (.nx (Z k (some (.k,.int (k:Int))) (some (.k,.str ⟨#[97+(S / 26+k / 26) % 26]⟩)) a7)):=fun a6 a7=>
    r_set (r_e2 (r_var rfl) (r_e2 (r_e2 (r_e2 (r_var rfl) r_C (nfdiv S (m:=26) (by decide) (by decide))) (r_e2 (r_var rfl) r_C (nfdiv k (m:=26) (by decide) (by decide))) (nadd _ _)) r_C (nmod _ (m:=26) (by decide))) i1) rfl
   have s7:∀ a7:Option (SM×D),sSet 7 (e2 dAdd (e2 dAdd (e2 dIx (eVar 2) (e2 dMod (e2 dAdd (eVar 1) (eVar 5)) (eC (.int 26)))) (eVar 6)) (eSlS (eC (.str "qqq")) oNo (oSome (e2 dMod (e2 dFdiv (eVar 1) (eC (.int 676))) (eC (.int 4)))))) (Z k (some (.k,.int (k:Int))) (some (.k,.str ⟨#[97+(S / 26+k / 26) % 26]⟩)) a7)=.ok (.nx (Z k (some (.k,.int (k:Int))) (some (.k,.str ⟨#[97+(S / 26+k / 26) % 26]⟩)) (some (.k,.str (nmb S k))))):=fun a7=>
    r_set (r_e2 (r_e2 (r_e2 (r_var rfl) (r_e2 (r_e2 (r_var rfl) (r_var rfl) (nadd _ _)) r_C (nmod _ (m:=26) (by decide))) i2) (r_var rfl) (Qcd t2 t1 (by decide))) ((r_slS r_C r_oNo (QiF (r_e2 (r_e2 (r_var rfl) r_C (nfdiv S (m:=676) (by decide) (by decide))) r_C (nmod _ (m:=4) (by decide)))) (dk)).trans (by rw[sl])) (Qcd (t2.app t1) tq (by decide))) rfl
   have tst:∀ a6 a7:Option (SM×D),tVal (e2 dEq (e2 dMod (e2 dFdiv (eVar 1) (eC (.int 2704))) (eC (.int 3))) (eC (.int 1))) (Z k (some (.k,.int (k:Int))) a6 a7)=.ok (decide (((S / 2704 % 3:Nat):Int)=1)):=fun a6 a7=>QY (r_e2 (r_e2 (r_e2 (r_var rfl) r_C (nfdiv S (m:=2704) (by decide) (by decide))) r_C (nmod _ (m:=3) (by decide))) r_C (Qag _ _))
   have hle:(((List.range k).map (nmF S)).map D.str).length<=1000:=by rw[aC,aC,aB];omega
   have nxt:∀ a6:Option (SM×D),QaP 4 (eVar 7) (Z k (some (.k,.int (k:Int))) a6 (some (.k,.str (nmF S k))))=.ok (.nx (Z (k+1) (some (.k,.int (k:Int))) a6 (some (.k,.str (nmF S k))))):=fun a6=>
    r_app rfl (r_var rfl) hle (by show _=Z (k+1) _ _ _;simp only[Z];rw[bO,bA,bA];rfl)
   refine⟨Z (k+1) (some (.k,.int (k:Int))) (some (.k,.str ⟨#[97+(S / 26+k / 26) % 26]⟩)) (some (.k,.str (nmF S k))),?_,_,_,_,rfl⟩
   refine r_gN (ς1:=Z k (some (.k,.int (k:Int))) a6 a7) rfl ?_
   unfold Qcq
   refine r_seq (s6 _ _) (Qw (r_seq (s7 _) (Qw (r_seq (fl:=.nx (Z k (some (.k,.int (k:Int))) (some (.k,.str ⟨#[97+(S / 26+k / 26) % 26]⟩)) (some (.k,.str (nmF S k))))) ?_ (Qw (nxt _))))))
   by_cases m:S / 2704 % 3=1
   ·refine r_ifT (tst _ _) (aG (by omega)) ?_
    have aw:=Qcd (Qn8 S k) (y:="w") (n:=1) ⟨dk,dk⟩ (by decide)
    by_cases h8:k<8
    ·have e:nmF S k=wds.getD ((k+S) % 8) "":=by unfold nmF;rw[aA m,aA h8]
     have hw:dIx (.lst (wds.map .str)) (.int (((k+S) % 8:Nat):Int))=.ok (.str (wds.getD ((k+S) % 8) "")):=by
      have hl:(k+S) % 8<wds.length:=ak _ (by decide)
      refine ixL _ ?_
      rw[aM,aS hl,ba,aS hl];rfl
     rw[e]
     exact r_seq (r_set (r_e2 (r_var rfl) r_C aw) rfl) (Qw (r_ifT (QY (r_e2 (r_var rfl) r_C (QaB _ _))) (aG (by omega)) (r_set (r_e2 (r_var rfl) (r_e2 (r_e2 (r_var rfl) (r_var rfl) (nadd _ _)) r_C (nmod _ (m:=8) (by decide))) hw) rfl)))
    ·have e:nmF S k=nmb S k++("w":Str):=by unfold nmF;rw[aA m,aD h8]
     rw[e]
     exact r_seq (r_set (r_e2 (r_var rfl) r_C aw) rfl) (Qw (r_ifF (QY (r_e2 (r_var rfl) r_C (QaB _ _))) (aQ (by omega)) Qak))
   ·have e:nmF S k=nmb S k:=by unfold nmF;rw[aD m]
    rw[e]
    exact r_ifF (tst _ _) (aQ (by omega)) Qak)
  (Z 0 none none none) ⟨_,_,_,rfl⟩
 have hR:itR1 (eVar 0) (Z 0 none none none)=.ok (Qa4 0 N):=Qbj N (r_var rfl) (by omega)
 have hfor:=Qbn (g:=gN 5) (T:=Qcq) hR hL
 rw[QpD]
 unfold Qd4
 exact Qad (fl:=.rt true (.lst (((List.range N).map (nmF S)).map .str))) (r_seq (r_set r_C rfl) (Qw (r_seq (r_set (d:=.lst (wds.map .str)) (r_lst (Qf r_C (Qf r_C (Qf r_C (Qf r_C (Qf r_C (Qf r_C (Qf r_C (Qf r_C r_nil)))))))) (show 8<=1000 by decide)) rfl) (Qw (r_seq (Qeo (d:=.lst []) (r_lst r_nil (show 0<=1000 by decide)) rfl) (Qw (r_seq hfor (Qw (QtJ rfl))))))))) r_rtT
theorem r_slN{A:SD->Out D}{l u:SD->Out (Option Int)}{ς:SD}{xs ys:List D}{p q:Option Int}(a:A ς=.ok (.lln xs))(k1:l ς=.ok p)(k2:u ς=.ok q)(e:cutD xs p q=ys):eSl A l u ς=.ok (.lst ys):=by unfold eSl;rw[a,d8,k1,d8,k2,d8];show Out.ok (D.lst _)=_;rw[e]
theorem ixLn{xs:List D}{d:D}(i:Nat)(h:xs[i]?=some d):dIx (.lln xs) (.int (i:Int))=.ok d:=by
 show optO (atI xs (i:Int))=_
 rw[QgB h];rfl
theorem QnL{ς ς':SD}{i:Nat}{d:D}(e:ς[i]?=some (some (.o,d)))(h:ς.set i (some (.k,d))=ς'):frz i ς=ς':=by
 unfold frz
 rw[e];exact h
theorem Qn1{T:SD->Out Fl}{j:Nat}{ς ς1:SD}{r:Out Fl}(hz:frz j ς=ς1)(h:T ς1=r):(fun ς=>T (frz j ς)) ς=r:=by
 show T (frz j ς)=r
 rw[hz];exact h
theorem QlL(ns:List Int)(k:Nat):∃ v:Int,Qas [.lln (ns.map .int),.int (k:Int)]=.ok (.int v):=by
 have hlen:fLen [.lln (ns.map D.int)]=.ok (.int (ns.length:Int)):=by simp[fLen]
 by_cases h:k<ns.length
 ·have hlt:dLt (.int (k:Int)) (.int (ns.length:Int))=.ok (.bl true):=by rw[QaB,aG (by omega)]
  have hx:dIx (.lln (ns.map D.int)) (.int (k:Int))=.ok (.int ns[k]):=ixLn k (by rw[aM,aS h];rfl)
  refine⟨ns[k],?_⟩
  rw[Qkl]
  unfold Qc9
  (repeat walk_at "e")
 ·have hlt:dLt (.int (k:Int)) (.int (ns.length:Int))=.ok (.bl false):=by rw[QaB,aQ (by omega)]
  refine⟨0,?_⟩
  rw[Qkl]
  unfold Qc9
  (repeat walk_at "e")
theorem dbl(b:Bool):f1 dInt [.bl b]=.ok (.int (if b=true then 1 else 0)):=by cases b<;>rfl
theorem QtX{n:Nat}(hn:n<=100){ς:SD}(h:ς[2]?=some (some (.k,.int (n:Int))))(hc:captD [none,some 2] ς=[none,some (.k,.int (n:Int))]):eComp [none,some 2] (itR1 (eVar 2)) (gN 0) cTrue Qet ς=.ok (tbD (dealT n)):=by
 have e:tbD (dealT n)=.lst ((List.range n).map fun s=>dl (one n s)):=by unfold tbD dealT;rw[ax];rfl
 rw[e]
 refine QK (fun s:Nat=>D.int ((0:Int)+s)) (fun s=>dl (one n s)) (Qbj n (r_var h) (by omega)) (fun s _=>?_) (by rw[aB];omega)
 refine QN hc (by walk_at "s") ?_
 unfold Qet
 have e2':dl (one n s)=.lst ((List.range n).map fun k=>D.int (if k=s then 1 else 0)):=by unfold dl one;rw[ax];rfl
 rw[e2',cP]
 refine QK (fun k:Nat=>D.int ((0:Int)+k)) (fun k=>D.int (if k=s then 1 else 0)) (Qbj n rfl (by omega)) (fun k _=>?_) (by rw[aB];omega)
 refine QN (by walk_at "cap") (by walk_at "s") ?_
 unfold Qhv
 have hd:=dbl (decide (((0:Int)+(k:Int))=(s:Int)))
 have hh:(if decide (((0:Int)+(k:Int))=(s:Int))=true then(1:Int) else 0)=if k=s then 1 else 0:=by
  by_cases q:k=s
  ·rw[aA q,aA (aG (by omega))]
  ·rw[aD q,aQ (by omega)];rfl
 rw[hh]at hd
 (repeat walk_at "e")
theorem QuL{n:Nat}(hn:n<=100){ς:SD}(h:ς[2]?=some (some (.k,.int (n:Int))))(hc:captD [none,some 2] ς=[none,some (.k,.int (n:Int))]):eComp [none,some 2] (itR1 (eVar 2)) (gN 0) cTrue QeG ς=.ok (tbD (bunT n)):=by
 have e:tbD (bunT n)=.lst ((List.range n).map fun s=>dl [if s+1=n then 1 else 0]):=by unfold tbD bunT;rw[ax];rfl
 rw[e]
 refine QK (fun s:Nat=>D.int ((0:Int)+s)) (fun s=>dl [if s+1=n then 1 else 0]) (Qbj n (r_var h) (by omega)) (fun s _=>?_) (by rw[aB];omega)
 refine QN hc (by walk_at "s") ?_
 unfold QeG
 show _=Out.ok (D.lst [.int (if s+1=n then 1 else 0)])
 have hd:=dbl (decide (((0:Int)+(s:Int))=(n:Int) - 1))
 have hh:(if decide (((0:Int)+(s:Int))=(n:Int) - 1)=true then(1:Int) else 0)=if s+1=n then 1 else 0:=by
  by_cases q:s+1=n
  ·rw[aA q,aA (aG (by omega))]
  ·rw[aD q,aQ (by omega)];rfl
 rw[hh]at hd
 (repeat walk_at "e")
theorem Qnt{x:D}{N:Nat}(h:N<=1000):dRep (.lst [x]) (.int (N:Int))=.ok (rl N (fun _=>x)):=by
 have e:(List.replicate N x)=(List.range N).map fun _=>x:=by
  apply List.ext_getElem?
  intro i
  rw[aM,bq]
  by_cases hi:i<N
  ·rw[aA hi,ao hi];rfl
  ·rw[aD hi,List.getElem?_eq_none (by rw[aB];omega)];rfl
 show _=Out.ok (D.lst ((List.range N).map fun _=>x))
 rw[← e]
 unfold dRep
 simp only[Int.toNat_natCast,List.flatten_replicate_singleton,aR,bw]
 rw[aA]
 rw[aH,aH]
 exact⟨⟨aG (by omega),aG (by omega)⟩,Qds (by omega)⟩
theorem nmul{a b:Nat}(ha:a<2 ^ 40)(hb:b<2 ^ 40):dMul (.int (a:Int)) (.int (b:Int))=.ok (.int ((a * b:Nat):Int)):=by
 rw[Qwl (Qrb (n:=40) (show((a:Int)).natAbs<2 ^ 40 by omega)) (Qrb (n:=40) (show((b:Int)).natAbs<2 ^ 40 by omega)) (by decide)];rfl
theorem Qhp(c:Int){k:Nat}(hk:k<=1000):∃ u:Nat,u<2147483629/\QZ [.int c,.int (k:Int)]=.ok (.int (u:Int)):=by
 have c0:=Int.emod_nonneg c (b:=2147483647) (by decide)
 have c1:=Int.emod_lt_of_pos c (b:=2147483647) (by decide)
 obtain⟨v,hv⟩:∃ v:Nat,c % 2147483647=(v:Int):=⟨(c % 2147483647).toNat,by omega⟩
 have kk:2 * k * k<=2000000:=aq (Nat.mul_le_mul (show 2 * k<=2000 by omega) hk) (by decide)
 have m0:dMod (.int c) (.int 2147483647)=.ok (.int (v:Int)):=by rw[Qjt (by decide),hv]
 refine⟨(v+11) * (48271+2 * k * k) % 2147483629,ak _ (by decide),?_⟩
 rw[QpJ]
 unfold QdX
 exact Qad (fl:=.rt false _) (r_ret (r_e2 (r_e2 (r_e2 (r_e2 (r_var rfl) r_C m0) r_C (nadd v 11)) (r_e2 r_C (r_e2 (r_e2 r_C (r_var rfl) (nmul (a:=2) (b:=k) (by decide) (by omega))) (r_var rfl) (nmul (by omega) (by omega))) (nadd 48271 _)) (nmul (by omega) (by omega))) r_C (nmod _ (m:=2147483629) (by decide)))) r_rt
theorem Qya:Tx ("deal ":Str) 5:=⟨dk,dk⟩
theorem t_bun:Tx ("bundle ":Str) 7:=⟨dk,dk⟩
theorem Qw0:Tx ("copy ":Str) 5:=⟨dk,dk⟩
theorem Qxx:Tx ("rows ":Str) 5:=⟨dk,dk⟩
theorem QvR{t:List (List Int)}{n:Nat}(h:t.length=n):ctext "Deal" t=("deal ":Str)++it (n:Int):=by
 have e:(("deal":Str)++(" ":Str))="deal ":=dk
 unfold ctext wordT numT
 rw[aA rfl,aA (.inl rfl),e,h]
theorem QxT{t:List (List Int)}{n:Nat}(h:t.length=n):ctext "Bundle" t=("bundle ":Str)++it (n:Int):=by
 have e:(("bundle":Str)++(" ":Str))="bundle ":=dk
 unfold ctext wordT numT
 rw[aD (dk),aA rfl,aA (.inr rfl),e,h]
theorem Qv4(t:List (List Int)):ctext "Copy" t=("copy ":Str)++Txt.join "/" (t.map rowT):=by
 have e:(("copy":Str)++(" ":Str))="copy ":=dk
 unfold ctext wordT numT
 rw[aD (dk),aD (dk),aA rfl,aD (dk),e]
theorem QwC(t:List (List Int)):ctext "Rows" t=("rows ":Str)++Txt.join "/" (t.map rowT):=by
 have e:(("rows":Str)++(" ":Str))="rows ":=dk
 unfold ctext wordT numT
 rw[aD (dk),aD (dk),aD (dk),aD (dk),e]
theorem QsP{u:Nat}(hu:u<2147483629):∃(c:Str)(t:List (List Int))(m:Nat),CK.contains c=true/\Tb t m/\Qba [.int (u:Int)]=.ok (.lst [ck c t m,tbD t,.str (ctext c t)]):=by
 obtain⟨z,hz⟩:∃ z,z=u / 4:=⟨_,rfl⟩
 have s1:sSet 1 (e2 dFdiv (eVar 0) (eC (.int 4))) [some (.k,.int (u:Int)),none,none,none,none,none]=.ok (.nx [some (.k,.int (u:Int)),some (.k,.int (z:Int)),none,none,none,none]):=by rw[hz];exact r_set (r_e2 (r_var rfl) r_C (nfdiv u (m:=4) (by decide) (by decide))) rfl
 have k4:∀(ς:SD),ς[0]?=some (some (.k,.int (u:Int)))->e2 dMod (eVar 0) (eC (.int 4)) ς=.ok (.int ((u % 4:Nat):Int)):=fun ς h=>r_e2 (r_var h) r_C (nmod u (m:=4) (by decide))
 have tst:∀(q:Int)(ς:SD),ς[0]?=some (some (.k,.int (u:Int)))->tVal (e2 dEq (e2 dMod (eVar 0) (eC (.int 4))) (eC (.int q))) ς=.ok (decide (((u % 4:Nat):Int)=q)):=fun q ς h=>QY (r_e2 (k4 ς h) r_C (Qag _ _))
 rw[QpB]
 unfold Qea
 by_cases h0:u % 4=0
 ·obtain⟨n,hn,n1,n6⟩:∃ n,n=1+z % 6/\1<=n/\n<=6:=⟨_,rfl,by omega,by omega⟩
  have hi:=Qtq (c:="Deal") (dk) n1 n6
  have hst:=QcR (k:=(n:Int)) (by omega) (by omega)
  refine⟨"Deal",dealT n,n,dk,Qrh n1 n6,?_⟩
  rw[QvR (t:=dealT n) (n:=n) (by simp[dealT])]
  refine Qad (fl:=.rt true _) (r_seq s1 (Qw (r_seq (fl:=.rt true (.lst [ck "Deal" (dealT n) n,tbD (dealT n),.str (("deal ":Str)++it (n:Int))])) (r_ifT (tst 0 _ rfl) (aG (by omega)) ?_) Qg2))) r_rtT
  refine r_seq (r_set (d:=.int (n:Int)) (r_e2 r_C (r_e2 (r_var rfl) r_C (nmod z (m:=6) (by decide))) (by rw[hn];exact nadd 1 _)) rfl) (Qw (r_seq (Qeo (QtX (n:=n) (by omega) rfl rfl) rfl) (Qw (Qn1 (QnL rfl rfl) ?_))))
  exact Qcj (r_lst (Qf (Qgv (Qf (r_var rfl) r_nil) hi) (Qf (r_var rfl) (Qf (r_e2 r_C (r_eA (Qf (r_var rfl) r_nil) hst.1) (Qcd Qya hst.2 (by decide))) r_nil))) (show 3<=1000 by decide))
 ·by_cases h1:u % 4=1
  ·obtain⟨n,hn,n1,n12⟩:∃ n,n=1+z % 12/\1<=n/\n<=12:=⟨_,rfl,by omega,by omega⟩
   have hi:=Quu (c:="Bundle") (dk) n1 n12
   have hst:=QcR (k:=(n:Int)) (by omega) (by omega)
   refine⟨"Bundle",bunT n,1,dk,Qs1 n1 n12,?_⟩
   rw[QxT (t:=bunT n) (n:=n) (by simp[bunT])]
   refine Qad (fl:=.rt true _) (r_seq s1 (Qw (r_seq (r_ifF (tst 0 _ rfl) (aQ (by omega)) Qak) (Qw (r_seq (fl:=.rt true (.lst [ck "Bundle" (bunT n) 1,tbD (bunT n),.str (("bundle ":Str)++it (n:Int))])) (r_ifT (tst 1 _ rfl) (aG (by omega)) ?_) Qg2))))) r_rtT
   refine r_seq (r_set (d:=.int (n:Int)) (r_e2 r_C (r_e2 (r_var rfl) r_C (nmod z (m:=12) (by decide))) (by rw[hn];exact nadd 1 _)) rfl) (Qw (r_seq (Qeo (QuL (n:=n) (by omega) rfl rfl) rfl) (Qw (Qn1 (QnL rfl rfl) ?_))))
   exact Qcj (r_lst (Qf (Qgv (Qf (r_var rfl) r_nil) hi) (Qf (r_var rfl) (Qf (r_e2 r_C (r_eA (Qf (r_var rfl) r_nil) hst.1) (Qcd t_bun hst.2 (by decide))) r_nil))) (show 3<=1000 by decide))
  ·obtain⟨sz,hsz,z1,z12,z2⟩:∃ sz:Nat,sz=1+z / 7 % 12 * (if u % 4=3 then 1 else 0)/\1<=sz/\sz<=12/\(u % 4=2->sz=1):=by
    refine⟨_,rfl,by omega,?_,fun q=>by rw[aD (by omega)];omega⟩
    split<;>omega
   obtain⟨ot,hot,o6⟩:∃ o,o=z % 7/\o<=6:=⟨_,rfl,by omega⟩
   obtain⟨R,hR⟩:∃ R:Nat->List Int,∀ s,R s=(List.range ot).map fun k:Nat=>((u * (7 * s+2 * k+3) % 1000003 % 10:Nat):Int):=⟨_,fun _=>rfl⟩
   have hl:∀ s,(R s).length=ot:=fun s=>by rw[hR,aC,aB]
   have h9:∀ s,∀ x∈R s,0<=x/\x<=9:=fun s x hx=>by
    rw[hR]at hx
    obtain⟨k,_,rfl⟩:=aX.mp hx
    omega
   have tbn:Tb ((List.range sz).map R) ot:=by
    refine⟨by rw[aC,aB];exact z1,by rw[aC,aB];exact z12,o6,fun r hr=>?_,fun r hr=>?_⟩
    ·obtain⟨s,_,rfl⟩:=aX.mp hr
     exact hl s
    ·obtain⟨s,_,rfl⟩:=aX.mp hr
     exact h9 s
   have s2:sSet 2 (e2 dAdd (eC (.int 1)) (e2 dMul (e2 dMod (e2 dFdiv (eVar 1) (eC (.int 7))) (eC (.int 12))) (eA (f1 dInt) (aCons (e2 dEq (e2 dMod (eVar 0) (eC (.int 4))) (eC (.int 3))) aNil)))) [some (.k,.int (u:Int)),some (.k,.int (z:Int)),none,none,none,none]=.ok (.nx [some (.k,.int (u:Int)),some (.k,.int (z:Int)),some (.k,.int (sz:Int)),none,none,none]):=by
    have hb:f1 dInt [.bl (decide (((u % 4:Nat):Int)=3))]=.ok (.int (((if u % 4=3 then 1 else 0):Nat):Int)):=by
     rw[dbl]
     congr 2
     by_cases q:u % 4=3
     ·rw[aA q,aA (aG (by omega))];rfl
     ·rw[aD q,aD (by rw[c9];omega)];rfl
    refine r_set (r_e2 r_C (r_e2 (r_e2 (r_e2 (r_var rfl) r_C (nfdiv z (m:=7) (by decide) (by decide))) r_C (nmod _ (m:=12) (by decide))) (r_eA (Qf (r_e2 (k4 _ rfl) r_C (Qag _ _)) r_nil) hb) (nmul (by omega) (by split<;>decide))) (nadd 1 _)) ?_
    rw[← hsz];rfl
   let Z:D->Option (SM×D)->SD:=fun r a4=>[some (.k,.int (u:Int)),some (.k,.int (z:Int)),some (.k,.int (sz:Int)),some (.o,r),a4,none]
   have tbs:∀ k,tbD ((List.range k).map R)=.lst ((List.range k).map fun s=>dl (R s)):=fun k=>by unfold tbD;rw[ax];rfl
   obtain⟨ς',hL,a4,rfl⟩:=QdZ (body:=fun x ς=>gN 4 x ς>>=fun ς'=>Qbx ς') (n:=sz) (P:=fun k ς=>∃ a4,ς=Z (tbD ((List.range k).map R)) a4)
    (by
     rintro s hs ς ⟨a4,rfl⟩
     refine⟨Z (tbD ((List.range (s+1)).map R)) (some (.k,.int (s:Int))),?_,_,rfl⟩
     refine r_gN (ς1:=Z (tbD ((List.range s).map R)) (some (.k,.int (s:Int)))) rfl ?_
     unfold Qbx
     have hc:eComp [none,some 0,some 4] (itR1 (e2 dMod (eVar 1) (eC (.int 7)))) (gN 0) cTrue QeK (Z (tbD ((List.range s).map R)) (some (.k,.int (s:Int))))=.ok (dl (R s)):=by
      have e:dl (R s)=.lst ((List.range ot).map fun k:Nat=>D.int ((u * (7 * s+2 * k+3) % 1000003 % 10:Nat):Int)):=by unfold dl;rw[hR,ax];rfl
      rw[e]
      refine QK (fun k:Nat=>D.int ((0:Int)+k)) (fun k:Nat=>D.int ((u * (7 * s+2 * k+3) % 1000003 % 10:Nat):Int)) (Qbj ot (by rw[hot];exact r_e2 (r_var rfl) r_C (nmod z (m:=7) (by decide))) (by omega)) (fun k hk=>?_) (by rw[aB];omega)
      have hk:=aV.mp hk
      refine QN rfl rfl ?_
      unfold QeK
      rw[cP]
      exact r_e2 (r_e2 (r_e2 (r_var rfl) (r_e2 (r_e2 (r_e2 r_C (r_var rfl) (nmul (a:=7) (b:=s) (by decide) (by omega))) (r_e2 r_C (r_var rfl) (nmul (a:=2) (b:=k) (by decide) (by omega))) (nadd _ _)) r_C (nadd _ 3)) (nmul (by omega) (by omega))) r_C (nmod _ (m:=1000003) (by decide))) r_C (nmod _ (m:=10) (by decide))
     refine r_app (xs:=(List.range s).map fun s=>dl (R s)) (by show some (some (SM.o,tbD _))=_;rw[tbs]) hc (by rw[aC,aB];omega) ?_
     show [_,_,_,some (SM.o,D.lst _),_,_]=[_,_,_,some (SM.o,tbD _),_,_]
     rw[tbs,bO,bA];rfl)
    (Z (.lst []) none) ⟨_,rfl⟩
   have hfor:=Qbn (g:=gN 4) (T:=Qbx) (show itR1 (eVar 2) (Z (.lst []) none)=.ok (Qa4 0 sz) from Qbj sz (r_var rfl) (by omega)) hL
   let Y:D->SD:=fun x=>[some (.k,.int (u:Int)),some (.k,.int (z:Int)),some (.k,.int (sz:Int)),some (.k,tbD ((List.range sz).map R)),a4,some (.k,x)]
   have txs:eComp [none] (itL (eVar 3)) (gN 0) cTrue Qby [some (.k,.int (u:Int)),some (.k,.int (z:Int)),some (.k,.int (sz:Int)),some (.k,tbD ((List.range sz).map R)),a4,none]=.ok (rl sz (fun s=>.str (Txt.join "," ((R s).map it)))):=by
    rw[tbs]
    refine QK (fun s=>dl (R s)) (fun s=>D.str (Txt.join "," ((R s).map it))) (r_itL (r_var rfl)) (fun s hs=>?_) (by rw[aB];omega)
    refine QN rfl rfl ?_
    unfold Qby
    have hcc:eComp [none] (itL (eVar 0)) (gN 0) cTrue Qew [some (.k,dl (R s))]=.ok (.lst (((R s).map it).map .str)):=by
     rw[ax]
     refine QK (l:=R s) (fun x=>D.int x) (fun x=>D.str (it x)) rfl (fun x hx=>?_) (by rw[hl];omega)
     obtain⟨q0,q9⟩:=h9 s x hx
     refine QN rfl rfl ?_
     unfold Qew
     exact r_eA (Qf (r_var rfl) r_nil) (QcR q0 (by omega)).1
    refine Qkk r_C hcc (Qkc tc _ (fun y hy=>?_) (B:=2) (by rw[aC,hl];omega))
    obtain⟨x,hx,rfl⟩:=aX.mp hy
    obtain⟨q0,q9⟩:=h9 s x hx
    exact(QcR q0 (by omega)).2
   have s5:(fun ς=>(sSet 5 (eComp [none] (itL (eVar 3)) (gN 0) cTrue Qby)) (frz 3 ς)) (Z (tbD ((List.range sz).map R)) a4)=.ok (.nx (Y (rl sz (fun s=>.str (Txt.join "," ((R s).map it)))))):=Qn1 (QnL rfl rfl) (r_set txs rfl)
   have dash:sIf (tVal (e2 dEq (e2 dMod (eVar 1) (eC (.int 7))) (eC (.int 0)))) (sSet 5 (e2 dRep (eLst (aCons (eC (.str "-")) aNil)) (eVar 2))) sNil (Y (rl sz (fun s=>.str (Txt.join "," ((R s).map it)))))=.ok (.nx (Y (rl sz (fun s=>.str (rowT (R s)))))):=by
    have tq:tVal (e2 dEq (e2 dMod (eVar 1) (eC (.int 7))) (eC (.int 0))) (Y (rl sz (fun s=>.str (Txt.join "," ((R s).map it)))))=.ok (decide ((ot:Int)=0)):=by rw[hot];exact QY (r_e2 (r_e2 (r_var rfl) r_C (nmod z (m:=7) (by decide))) r_C (Qag _ _))
    by_cases h:ot=0
    ·have e:rl sz (fun s=>D.str (rowT (R s)))=rl sz (fun _=>.str "-"):=QnI fun s hs=>by
      unfold rowT
      rw[aA (by rw[hl];exact h)]
     rw[e]
     exact r_ifT tq (aG (by omega)) (r_set (r_e2 (r_lst (Qf r_C r_nil) (show 1<=1000 by decide)) (r_var rfl) (Qnt (by omega))) rfl)
    ·have e:rl sz (fun s=>D.str (rowT (R s)))=rl sz (fun s=>.str (Txt.join "," ((R s).map it))):=QnI fun s hs=>by
      unfold rowT
      rw[aD (by rw[hl];exact h)]
     rw[e]
     exact r_ifF tq (aQ (by omega)) Qak
   have rtx:∀ s,Tx (rowT (R s)) 20:=fun s=>QlX (by rw[hl];exact o6) (h9 s)
   have run:∀(fl:Fl)(U:SD->Out Fl),U (Y (rl sz (fun s=>.str (rowT (R s)))))=.ok fl->sSeq (sSet 2 (e2 dAdd (eC (.int 1)) (e2 dMul (e2 dMod (e2 dFdiv (eVar 1) (eC (.int 7))) (eC (.int 12))) (eA (f1 dInt) (aCons (e2 dEq (e2 dMod (eVar 0) (eC (.int 4))) (eC (.int 3))) aNil))))) (sSeq (sSetO 3 (eLst aNil)) (sSeq (sFor (gN 4) (itR1 (eVar 2)) Qbx) (sSeq (fun ς=>(sSet 5 (eComp [none] (itL (eVar 3)) (gN 0) cTrue Qby)) (frz 3 ς)) (sSeq (sIf (tVal (e2 dEq (e2 dMod (eVar 1) (eC (.int 7))) (eC (.int 0)))) (sSet 5 (e2 dRep (eLst (aCons (eC (.str "-")) aNil)) (eVar 2))) sNil) U)))) [some (.k,.int (u:Int)),some (.k,.int (z:Int)),none,none,none,none]=.ok fl:=fun fl U h=>
    r_seq s2 (Qw (r_seq (Qeo (d:=.lst []) (r_lst r_nil (show 0<=1000 by decide)) rfl) (Qw (r_seq hfor (Qw (r_seq s5 (Qw (r_seq dash (Qw h)))))))))
   by_cases h2:u % 4=2
   ·have e1:=z2 h2
    subst e1
    have hi:=QtN (c:="Copy") (dk) (r:=R 0) (m:=ot) tbn
    have i0:dIx (tbD ((List.range 1).map R)) (.int 0)=.ok (dl (R 0)):=ixL 0 rfl
    have i4:dIx (rl 1 (fun s=>.str (rowT (R s)))) (.int 0)=.ok (.str (rowT (R 0))):=ixL 0 rfl
    have hdl:dList (dl (R 0))=.ok (dl (R 0)):=rfl
    refine⟨"Copy",(List.range 1).map R,ot,dk,tbn,?_⟩
    have ec:ctext "Copy" ((List.range 1).map R)=("copy ":Str)++rowT (R 0):=by rw[Qv4];rfl
    rw[ec]
    refine Qad (fl:=.rt true _) (r_seq s1 (Qw (r_seq (r_ifF (tst 0 _ rfl) (aQ (by omega)) Qak) (Qw (r_seq (r_ifF (tst 1 _ rfl) (aQ (by omega)) Qak) (Qw (run _ _ (r_seq (r_ifT (tst 2 _ rfl) (aG (by omega)) (Qcj (r_lst (Qf (Qgv (Qf (r_e1 (r_e2 (r_var rfl) r_C i0) hdl) r_nil) hi) (Qf (r_var rfl) (Qf (r_e2 r_C (r_e2 (r_var rfl) r_C i4) (Qcd Qw0 (rtx 0) (by decide))) r_nil))) (show 3<=1000 by decide)))) Qg2)))))))) r_rtT
   ·have hi:=Qtl (c:="Rows") (dk) tbn
    have hcl:eComp [none] (itL (eVar 3)) (gN 0) cTrue Qeq (Y (rl sz (fun s=>.str (rowT (R s)))))=.ok (tbD ((List.range sz).map R)):=by
     refine QK dl dl (r_itL (r_var rfl)) (fun x hx=>?_) (by rw[aC,aB];omega)
     refine QN rfl rfl ?_
     unfold Qeq
     exact r_e1 (r_var rfl) rfl
    have htr:rl sz (fun s=>D.str (rowT (R s)))=.lst (((List.range sz).map fun s=>rowT (R s)).map .str):=by
     show D.lst _=D.lst _
     rw[ax];rfl
    have rtx':∀ y∈(List.range sz).map fun s=>rowT (R s),Tx y 20:=fun y hy=>by
     obtain⟨s,_,rfl⟩:=aX.mp hy
     exact rtx s
    have hj:=Qkc tsl _ rtx' (by rw[aC,aB];omega)
    have hjt:=Qk5 tsl _ rtx'
    rw[aC,aB]at hjt
    rw[← htr]at hj
    have er:ctext "Rows" ((List.range sz).map R)=("rows ":Str)++Txt.join "/" ((List.range sz).map fun s=>rowT (R s)):=by rw[QwC,ax];rfl
    refine⟨"Rows",(List.range sz).map R,ot,dk,tbn,?_⟩
    rw[er]
    exact Qad (fl:=.rt true _) (r_seq s1 (Qw (r_seq (r_ifF (tst 0 _ rfl) (aQ (by omega)) Qak) (Qw (r_seq (r_ifF (tst 1 _ rfl) (aQ (by omega)) Qak) (Qw (run _ _ (r_seq (r_ifF (tst 2 _ rfl) (aQ (by omega)) Qak) (Qw (Qcj (r_lst (Qf (Qgv (Qf hcl r_nil) hi) (Qf (r_var rfl) (Qf (r_e2 r_C (Qkk r_C (r_var rfl) hj) (Qcd Qxx hjt (by omega))) r_nil))) (show 3<=1000 by decide)))))))))))) r_rtT
theorem QvF{a i j N:Nat}(hi:i<N)(hj:j<N)(e:(a+i) % N=(a+j) % N):i=j:=by
 have h1:=Nat.div_add_mod (a+i) N
 have h2:=Nat.div_add_mod (a+j) N
 rw[e]at h1
 have key:∀ x y:Nat,x<N->y<N->x<=y->N * ((a+x) / N)+(a+x) % N=a+x->N * ((a+y) / N)+(a+y) % N=a+y->(a+x) % N=(a+y) % N->x=y:=fun x y hx hy hxy e1 e2 e3=>by
  by_cases q:(a+x) / N=(a+y) / N
  ·rw[q,e3]at e1;omega
  ·have:(a+x) / N<=(a+y) / N:=Nat.div_le_div_right (by omega)
   have:(a+x) / N+1<=(a+y) / N:=by omega
   have:=Nat.mul_le_mul_left N this
   rw[Nat.mul_add,Nat.mul_one]at this
   omega
 have h1':=Nat.div_add_mod (a+i) N
 have h2':=Nat.div_add_mod (a+j) N
 rcases Nat.le_total i j with h | h
 ·exact key i j hi hj h h1' h2' e
 ·exact(key j i hj hi h h2' h1' e.symm).symm
noncomputable def inN(j:Nat):Str:=("in":Str)++(⟨#[97+j]⟩:Str)
theorem QxO{j:Nat}(h:j<26):Nw (inN j):=by
 refine Nw.mk' (by unfold inN;rw[QkS];show 1<=2+1;decide) ((Tx.app (m:=2) ⟨dk,dk⟩ (QgF h)).le (by decide)) ?_
 unfold inN
 rw[QgS,List.all_append]
 show(([105,110]:List Nat).all inL&&[97+j].all inL)=true
 simp only[bJ,List.all_nil,QkH h,cV]
 decide +kernel
theorem QwG{i j:Nat}(e:inN i=inN j):i=j:=by
 have:=bg (fun z:Str=>z.cps.toList) e
 unfold inN at this
 simp only[QgS]at this
 have h2:=(List.cons.inj (List.append_cancel_left this)).1
 omega
theorem six{j:Nat}(h:j<6):dIx (.str "abcdef") (.int (j:Int))=.ok (.str ⟨#[97+j]⟩):=by
 have e:("abcdef":Str).cps.toList=(List.range 6).map (97 + ·):=dk
 show(if fits ("abcdef":Str).length=true then optO ((atI ("abcdef":Str).cps.toList (j:Int)).map fun c=>D.str ⟨#[c]⟩) else .stuck)=_
 rw[aA (dk),e,QgB (show((List.range 6).map (97 + ·))[j]?=some (97+j) by rw[aM,ao h];rfl)]
 rfl
theorem QuM(ns:List Int)(u:Nat):∃ cs:List Int,1<=cs.length/\cs.length<=60/\∀ ς:SD,ς[0]?=some (some (.k,.lln (ns.map D.int)))->ς[1]?=some (some (.k,.int 60))->ς[2]?=some (some (.k,.int (u:Int)))->e2 dCat (eSl (eVar 0) (oSome (eC (.int 2))) (oSome (e2 dAdd (eC (.int 2)) (eVar 1)))) (e2 dRep (eLst (aCons (eVar 2) aNil)) (eA (f1 dInt) (aCons (e2 dLt (eA fLen (aCons (eVar 0) aNil)) (eC (.int 3))) aNil))) ς=.ok (.lst (cs.map D.int)):=by
 have hlen:fLen [.lln (ns.map D.int)]=.ok (.int (ns.length:Int)):=by simp[fLen]
 have hsl:∀ ς:SD,ς[0]?=some (some (.k,.lln (ns.map D.int)))->ς[1]?=some (some (.k,.int 60))->eSl (eVar 0) (oSome (eC (.int 2))) (oSome (e2 dAdd (eC (.int 2)) (eVar 1))) ς=.ok (.lst (((ns.drop 2).take 60).map D.int)):=fun ς h0 h1=>by
  refine r_slN (xs:=ns.map D.int) (p:=some ((2:Nat):Int)) (q:=some ((62:Nat):Int)) (r_var h0) rfl (QiF (r_e2 r_C (r_var h1) (Qbo _ _))) ?_
  rw[QxM,List.map_take,List.map_drop]
 have hd:=dbl (decide ((ns.length:Int)<3))
 by_cases h:ns.length<3
 ·have hr:dRep (.lst [.int (u:Int)]) (.int 1)=.ok (rl 1 (fun _=>.int (u:Int))):=Qnt (N:=1) (by decide)
  rw[aG (show(ns.length:Int)<3 by omega)]at hd
  have hd:f1 dInt [.bl true]=.ok (.int 1):=hd
  have hL:dLt (.int (ns.length:Int)) (.int 3)=.ok (.bl true):=by rw[QaB,aG (by omega)]
  have hcat:dCat (.lst (((ns.drop 2).take 60).map D.int)) (rl 1 (fun _=>.int (u:Int)))=.ok (.lst (((ns.drop 2).take 60++[(u:Int)]).map D.int)):=by
   show dCat (.lst _) (.lst [.int (u:Int)])=_
   rw[QlF (by rw[aC,bF];show _+1<=1000;omega),bA];rfl
  exact⟨(ns.drop 2).take 60++[(u:Int)],by rw[ae];show 1<=_+1;omega,by rw[ae,bF,cE];show _+1<=60;omega,fun ς h0 h1 h2=>r_e2 (hsl ς h0 h1) (r_e2 (r_lst (Qf (r_var h2) r_nil) (show 1<=1000 by decide)) (r_eA (Qf (r_e2 (r_eA (Qf (r_var h0) r_nil) hlen) r_C hL) r_nil) hd) hr) hcat⟩
 ·have hr:dRep (.lst [.int (u:Int)]) (.int 0)=.ok (rl 0 (fun _=>.int (u:Int))):=Qnt (N:=0) (by decide)
  rw[aQ (show ¬ (ns.length:Int)<3 by omega)]at hd
  have hd:f1 dInt [.bl false]=.ok (.int 0):=hd
  have hL:dLt (.int (ns.length:Int)) (.int 3)=.ok (.bl false):=by rw[QaB,aQ (by omega)]
  have hcat:dCat (.lst (((ns.drop 2).take 60).map D.int)) (rl 0 (fun _=>.int (u:Int)))=.ok (.lst (((ns.drop 2).take 60).map D.int)):=by
   show dCat (.lst _) (.lst [])=_
   rw[QlF (by rw[aC,bF];show min 60 _+0<=1000;omega),aj]
  exact⟨(ns.drop 2).take 60,by rw[bF,cE];omega,by rw[bF];omega,fun ς h0 h1 h2=>r_e2 (hsl ς h0 h1) (r_e2 (r_lst (Qf (r_var h2) r_nil) (show 1<=1000 by decide)) (r_eA (Qf (r_e2 (r_eA (Qf (r_var h0) r_nil) hlen) r_C hL) r_nil) hd) hr) hcat⟩
theorem rl_ix{n k:Nat}{f:Nat->Str}(h:k<n):dIx (.lst (((List.range n).map f).map .str)) (.int (k:Int))=.ok (.str (f k)):=ixL k (by rw[aM,aM,ao h];rfl)
theorem Qw7(n:Nat)(f:Nat->Str):fLen [.lst (((List.range n).map f).map D.str)]=.ok (.int (n:Int)):=by simp[fLen]
structure Cl where
 c:Str
 t:List (List Int)
 m:Nat
def seatL(nm:Nat->Str)(f:Nat)(X:Nat->Cl)(li:Nat->Nat->Nat)(st:Nat->Nat)(k:Nat):D:=.lst [.str (nm (f+k)),ck (X k).c (X k).t (X k).m,tbD (X k).t,.str (ctext (X k).c (X k).t),rl (X k).m (fun j=>.int ((li k j:Nat):Int)),.int ((st k:Nat):Int)]
theorem QvI(ns:List Int):∃(S f n ne:Nat)(X:Nat->Cl)(li:Nat->Nat->Nat)(st:Nat->Nat)(en:Nat->Str)(ek:Nat->Nat),1<=f/\f<=6/\1<=n/\n<=60/\1<=ne/\ne<=6/\
 (∀ k,k<n->CK.contains (X k).c=true/\Tb (X k).t (X k).m/\(∀ j,li k j<f+n)/\st k<(X k).t.length)/\(∀ j,ek j<n)/\(∀ j,j<ne->Nw (en j))/\(∀ i j,i<ne->j<ne->en i=en j->i=j)/\
 QcZ [.lln (ns.map .int),.int 60]=.ok (.lst [.lst (((List.range f).map (nmF S)).map .str),rl n (seatL (nmF S) f X li st),rl ne (fun j=>.tup [.str (en j),.int ((ek j:Nat):Int)])]):=by
 obtain⟨v0,hv0⟩:=QlL ns 0
 obtain⟨v1,hv1⟩:=QlL ns 1
 have hv0:Qas [.lln (ns.map .int),.int 0]=.ok (.int v0):=hv0
 have hv1:Qas [.lln (ns.map .int),.int 1]=.ok (.int v1):=hv1
 obtain⟨u0,b0,hu0⟩:=Qhp v0 (k:=0) (by decide)
 obtain⟨u1,b1,hu1⟩:=Qhp v1 (k:=1) (by decide)
 have hu0:QZ [.int v0,.int 0]=.ok (.int (u0:Int)):=hu0
 have hu1:QZ [.int v1,.int 1]=.ok (.int (u1:Int)):=hu1
 obtain⟨cs,c1,c12,hcells⟩:=QuM ns u0
 generalize hn:cs.length=n at *
 obtain⟨f,hf,f1,f6⟩:∃ f,f=1+u0 % 6/\1<=f/\f<=6:=⟨_,rfl,by omega,by omega⟩
 have hnm:=Qvh (u0 / 6) (N:=f+n) (by omega)
 generalize hnF:nmF (u0 / 6)=nm at *
 have MX:∀ k:Nat,∃ u:Nat,k<n->u<2147483629/\QZ [.int (cs.getD k 0),.int ((k+2:Nat):Int)]=.ok (.int (u:Int)):=fun k=>by
  by_cases h:k<n
  ·obtain⟨u,a,b⟩:=Qhp (cs.getD k 0) (k:=k+2) (by omega)
   exact⟨u,fun _=>⟨a,b⟩⟩
  ·exact⟨0,fun z=>absurd z h⟩
 obtain⟨N,hN⟩:=Classical.axiomOfChoice MX
 have CLK:∀ k:Nat,∃ x:Cl,k<n->CK.contains x.c=true/\Tb x.t x.m/\Qba [.int ((N k:Nat):Int)]=.ok (.lst [ck x.c x.t x.m,tbD x.t,.str (ctext x.c x.t)]):=fun k=>by
  by_cases h:k<n
  ·obtain⟨c,t,m,a,b,d⟩:=QsP (hN k h).1
   exact⟨⟨c,t,m⟩,fun _=>⟨a,b,d⟩⟩
  ·exact⟨⟨Str.empty,[],0⟩,fun z=>absurd z h⟩
 obtain⟨X,hX⟩:=Classical.axiomOfChoice CLK
 obtain⟨li,hli⟩:∃ li:Nat->Nat->Nat,∀ k j,li k j=N k * (2 * j+5) % 999983 % (f+n):=⟨_,fun _ _=>rfl⟩
 obtain⟨st,hst⟩:∃ st:Nat->Nat,∀ k,st k=N k / 11 % (X k).t.length:=⟨_,fun _=>rfl⟩
 obtain⟨ek,hek⟩:∃ ek:Nat->Nat,∀ j,ek j=u1 * (2 * j+3) % 999979 % n:=⟨_,fun _=>rfl⟩
 obtain⟨en,hen⟩:∃ en:Nat->Str,∀ j,en j=if u1 / 64 % 2=1 then inN j else nm ((u1 / 7+j) % (f+n)):=⟨_,fun _=>rfl⟩
 obtain⟨mi,hmi,mi1,mi6,min⟩:∃ mi:Nat,mi=min 6 (f+n)/\1<=mi/\mi<=6/\mi<=f+n:=⟨_,rfl,by omega,by omega,by omega⟩
 obtain⟨ne,hne,ne1,nem⟩:∃ ne,ne=1+u1 % mi/\1<=ne/\ne<=mi:=⟨_,rfl,by omega,by have:=ak u1 (show 0<mi by omega);omega⟩
 have hcx:∀ k:Nat,k<n->dIx (.lst (cs.map D.int)) (.int (k:Int))=.ok (.int (cs.getD k 0)):=fun k hk=>ixL k (by rw[aM,aS (by omega),ba,aS (by omega)];rfl)
 have hlc:fLen [.lst (cs.map D.int)]=.ok (.int (n:Int)):=by rw[← hn];simp[fLen]
 have hla:=Qw7 (f+n) nm
 refine⟨u0 / 6,f,n,ne,X,li,st,en,ek,f1,f6,c1,c12,ne1,by omega,fun k hk=>?_,fun j=>by rw[hek];exact ak _ (by omega),fun j hj=>?_,fun i j hi hj e=>?_,?_⟩
 ·obtain⟨a,b,_⟩:=hX k hk
  exact⟨a,b,fun j=>by rw[hli];exact ak _ (by omega),by rw[hst];exact ak _ b.n1⟩
 ·rw[hen]
  split
  ·exact QxO (by omega)
  ·rw[← hnF];exact Qt5 _ _
 ·rw[hen,hen]at e
  split at e
  ·exact QwG e
  ·rw[← hnF]at e
   have a1:=ak (u1 / 7+i) (show 0<f+n by omega)
   have a2:=ak (u1 / 7+j) (show 0<f+n by omega)
   exact QvF (by omega) (by omega) (Qrk e (by omega) (by omega))
 rw[hnF]
 generalize hS:D.lln (ns.map D.int)=S at *
 generalize hCe:D.lst (cs.map D.int)=Ce at *
 generalize hA:D.lst (((List.range (f+n)).map nm).map .str)=A at *
 have hAx:∀ i,i<f+n->dIx A (.int (i:Int))=.ok (.str (nm i)):=fun i hi=>by rw[← hA];exact rl_ix hi
 let Z:D->(a8 a9 a10 a11 a12 a13 a14 a15 a16:Option (SM×D))->SD:=fun s a8 a9 a10 a11 a12 a13 a14 a15 a16=>[some (.k,S),some (.k,.int 60),some (.k,.int (u0:Int)),some (.k,.int (u1:Int)),some (.k,Ce),some (.k,.int (f:Int)),some (.k,A),some (.o,s),a8,a9,a10,a11,a12,a13,a14,a15,a16]
 obtain⟨ς',hL,a8,a9,a10,a11,a12,a13,rfl⟩:=QdZ (body:=fun x ς=>gN 8 x ς>>=fun ς'=>Qc1 ς') (n:=n) (P:=fun k ς=>∃ a8 a9 a10 a11 a12 a13,ς=Z (rl k (seatL nm f X li st)) a8 a9 a10 a11 a12 a13 none none none)
  (by
   rintro k hk ς ⟨a8,a9,a10,a11,a12,a13,rfl⟩
   obtain⟨xc,tb,hck⟩:=hX k hk
   obtain⟨nb,hm⟩:=hN k hk
   have tn1:=tb.n1
   have m6:=tb.m6
   obtain⟨r0,hr0,hrl⟩:∃ r0,(X k).t[0]?=some r0/\r0.length=(X k).m:=by
    have h0:0<(X k).t.length:=by omega
    exact⟨(X k).t[0],aS h0,tb.row _ (bo h0)⟩
   have hx0:dIx (tbD (X k).t) (.int 0)=.ok (dl r0):=ixL 0 (by rw[aM,hr0];rfl)
   have hl0:fLen [dl r0]=.ok (.int ((X k).m:Int)):=by rw[← hrl];simp[fLen,dl]
   have hlt:fLen [tbD (X k).t]=.ok (.int ((X k).t.length:Int)):=by simp[fLen,tbD]
   have q9:∀ a9 a10 a11 a12 a13:Option (SM×D),sSet 9 (eA (fun xs=>QZ (xs++[])) (aCons (e2 dIx (eVar 4) (eVar 8)) (aCons (e2 dAdd (eVar 8) (eC (.int 2))) aNil))) (Z (rl k (seatL nm f X li st)) (some (.k,.int (k:Int))) a9 a10 a11 a12 a13 none none none)=.ok (.nx (Z (rl k (seatL nm f X li st)) (some (.k,.int (k:Int))) (some (.k,.int ((N k:Nat):Int))) a10 a11 a12 a13 none none none)):=fun a9 a10 a11 a12 a13=>
    r_set (Qan (xs:=[.int (cs.getD k 0),.int ((k+2:Nat):Int)]) (Qf (r_e2 (r_var rfl) (r_var rfl) (hcx k hk)) (Qf (r_e2 (r_var rfl) r_C (nadd k 2)) r_nil)) rfl hm) rfl
   have qu:∀ a10 a11 a12 a13:Option (SM×D),sUnpL [10,11,12] (eA (fun xs=>Qba (xs++[])) (aCons (eVar 9) aNil)) (Z (rl k (seatL nm f X li st)) (some (.k,.int (k:Int))) (some (.k,.int ((N k:Nat):Int))) a10 a11 a12 a13 none none none)=.ok (.nx (Z (rl k (seatL nm f X li st)) (some (.k,.int (k:Int))) (some (.k,.int ((N k:Nat):Int))) (some (.k,ck (X k).c (X k).t (X k).m)) (some (.k,tbD (X k).t)) (some (.k,.str (ctext (X k).c (X k).t))) a13 none none none)):=fun a10 a11 a12 a13=>by
    unfold sUnpL
    rw[Qan (xs:=[.int ((N k:Nat):Int)]) (Qf (r_var rfl) r_nil) rfl hck]
    rfl
   have hcm:∀ a13:Option (SM×D),eComp [none,some 9,some 6] (itR1 (eA fLen (aCons (e2 dIx (eVar 11) (eC (.int 0))) aNil))) (gN 0) cTrue Qfc (Z (rl k (seatL nm f X li st)) (some (.k,.int (k:Int))) (some (.k,.int ((N k:Nat):Int))) (some (.k,ck (X k).c (X k).t (X k).m)) (some (.k,tbD (X k).t)) (some (.k,.str (ctext (X k).c (X k).t))) a13 none none none)=.ok (rl (X k).m (fun j=>.int ((li k j:Nat):Int))):=fun a13=>by
    refine QK (fun j:Nat=>D.int ((0:Int)+j)) (fun j=>D.int ((li k j:Nat):Int)) (Qbj (X k).m (r_eA (Qf (r_e2 (r_var rfl) r_C hx0) r_nil) hl0) (by omega)) (fun j hj=>?_) (by rw[aB];omega)
    have hj:=aV.mp hj
    refine QN rfl rfl ?_
    unfold Qfc
    rw[cP,hli]
    exact r_e2 (r_e2 (r_e2 (r_var rfl) (r_e2 (r_e2 r_C (r_var rfl) (nmul (a:=2) (b:=j) (by decide) (by omega))) r_C (nadd _ 5)) (nmul (by omega) (by omega))) r_C (nmod _ (m:=999983) (by decide))) (r_eA (Qf (r_var rfl) r_nil) hla) (nmod _ (by omega))
   refine⟨Z (rl (k+1) (seatL nm f X li st)) (some (.k,.int (k:Int))) (some (.k,.int ((N k:Nat):Int))) (some (.k,ck (X k).c (X k).t (X k).m)) (some (.k,tbD (X k).t)) (some (.k,.str (ctext (X k).c (X k).t))) (some (.k,rl (X k).m (fun j=>.int ((li k j:Nat):Int)))) none none none,?_,_,_,_,_,_,_,rfl⟩
   refine r_gN (ς1:=Z (rl k (seatL nm f X li st)) (some (.k,.int (k:Int))) a9 a10 a11 a12 a13 none none none) rfl ?_
   unfold Qc1
   refine r_seq (q9 _ _ _ _ _) (Qw (r_seq (qu _ _ _ _) (Qw (r_seq (r_set (hcm _) rfl) (Qw ?_)))))
   refine r_app (xs:=(List.range k).map (seatL nm f X li st)) rfl (d:=seatL nm f X li st k) ?_ (by rw[aC,aB];omega) ?_
   ·refine r_lst (Qf (r_e2 (r_var rfl) (r_e2 (r_var rfl) (r_var rfl) (nadd f k)) (hAx _ (by omega))) (Qf (r_var rfl) (Qf (r_var rfl) (Qf (r_var rfl) (Qf (r_var rfl) (Qf (r_e2 (r_e2 (r_var rfl) r_C (nfdiv (N k) (m:=11) (by decide) (by decide))) (r_eA (Qf (r_var rfl) r_nil) hlt) ?_) r_nil)))))) (show 6<=1000 by decide)
    rw[hst];exact nmod _ (by omega)
   ·show(Z _ _ _ _ _ _ _ _ _ _).set 7 _=Z (.lst ((List.range (k+1)).map _)) _ _ _ _ _ _ _ _ _
    rw[bO,bA];rfl)
  (Z (.lst []) none none none none none none none none none) ⟨_,_,_,_,_,_,rfl⟩
 have hfor:=Qbn (g:=gN 8) (T:=Qc1) (show itR1 (eA fLen (aCons (eVar 4) aNil)) (Z (.lst []) none none none none none none none none none)=.ok (Qa4 0 n) from Qbj n (r_eA (Qf (r_var rfl) r_nil) hlc) (by omega)) hL
 let Y:D->(a10 a15 a16:Option (SM×D))->SD:=fun e a10 a15 a16=>Z (rl n (seatL nm f X li st)) a8 a9 a10 a11 a12 a13 (some (.o,e)) a15 a16
 obtain⟨ς',hL2,a10',a15,a16,rfl⟩:=QdZ (body:=fun x ς=>gN 15 x ς>>=fun ς'=>Qdm ς') (n:=ne) (P:=fun j ς=>∃ a10 a15 a16,ς=Y (rl j (fun j=>.tup [.str (en j),.int ((ek j:Nat):Int)])) a10 a15 a16)
  (by
   rintro j hj ς ⟨a10,a15,a16,rfl⟩
   have j6:j<6:=by omega
   have s10:∀ a10 a16:Option (SM×D),sSet 10 (e2 dMod (e2 dMod (e2 dMul (eVar 3) (e2 dAdd (e2 dMul (eC (.int 2)) (eVar 15)) (eC (.int 3)))) (eC (.int 999979))) (eA fLen (aCons (eVar 4) aNil))) (Y (rl j (fun j=>.tup [.str (en j),.int ((ek j:Nat):Int)])) a10 (some (.k,.int (j:Int))) a16)=.ok (.nx (Y (rl j (fun j=>.tup [.str (en j),.int ((ek j:Nat):Int)])) (some (.k,.int ((ek j:Nat):Int))) (some (.k,.int (j:Int))) a16)):=fun a10 a16=>by
    refine r_set (r_e2 (r_e2 (r_e2 (r_var rfl) (r_e2 (r_e2 r_C (r_var rfl) (nmul (a:=2) (b:=j) (by decide) (by omega))) r_C (nadd _ 3)) (nmul (by omega) (by omega))) r_C (nmod _ (m:=999979) (by decide))) (r_eA (Qf (r_var rfl) r_nil) hlc) (nmod _ (by omega))) ?_
    rw[← hek];rfl
   have s16:∀ a10 a16:Option (SM×D),sSet 16 (e2 dIx (eVar 6) (e2 dMod (e2 dAdd (e2 dFdiv (eVar 3) (eC (.int 7))) (eVar 15)) (eA fLen (aCons (eVar 6) aNil)))) (Y (rl j (fun j=>.tup [.str (en j),.int ((ek j:Nat):Int)])) a10 (some (.k,.int (j:Int))) a16)=.ok (.nx (Y (rl j (fun j=>.tup [.str (en j),.int ((ek j:Nat):Int)])) a10 (some (.k,.int (j:Int))) (some (.k,.str (nm ((u1 / 7+j) % (f+n))))))):=fun a10 a16=>
    r_set (r_e2 (r_var rfl) (r_e2 (r_e2 (r_e2 (r_var rfl) r_C (nfdiv u1 (m:=7) (by decide) (by decide))) (r_var rfl) (nadd _ _)) (r_eA (Qf (r_var rfl) r_nil) hla) (nmod _ (by omega))) (hAx _ (ak _ (by omega)))) rfl
   have sif:∀ a10:Option (SM×D),sIf (tVal (e2 dEq (e2 dMod (e2 dFdiv (eVar 3) (eC (.int 64))) (eC (.int 2))) (eC (.int 1)))) (sSet 16 (e2 dAdd (eC (.str "in")) (e2 dIx (eC (.str "abcdef")) (eVar 15)))) sNil (Y (rl j (fun j=>.tup [.str (en j),.int ((ek j:Nat):Int)])) a10 (some (.k,.int (j:Int))) (some (.k,.str (nm ((u1 / 7+j) % (f+n))))))=.ok (.nx (Y (rl j (fun j=>.tup [.str (en j),.int ((ek j:Nat):Int)])) a10 (some (.k,.int (j:Int))) (some (.k,.str (en j))))):=fun a10=>by
    have tq:tVal (e2 dEq (e2 dMod (e2 dFdiv (eVar 3) (eC (.int 64))) (eC (.int 2))) (eC (.int 1))) (Y (rl j (fun j=>.tup [.str (en j),.int ((ek j:Nat):Int)])) a10 (some (.k,.int (j:Int))) (some (.k,.str (nm ((u1 / 7+j) % (f+n))))))=.ok (decide (((u1 / 64 % 2:Nat):Int)=1)):=QY (r_e2 (r_e2 (r_e2 (r_var rfl) r_C (nfdiv u1 (m:=64) (by decide) (by decide))) r_C (nmod _ (m:=2) (by decide))) r_C (Qag _ _))
    by_cases q:u1 / 64 % 2=1
    ·have e:en j=inN j:=by rw[hen,aA q]
     rw[e]
     exact r_ifT tq (aG (by omega)) (r_set (r_e2 r_C (r_e2 r_C (r_var rfl) (six j6)) (Qcd (m:=2) ⟨dk,dk⟩ (QgF (by omega)) (by decide))) rfl)
    ·have e:en j=nm ((u1 / 7+j) % (f+n)):=by rw[hen,aD q]
     rw[e]
     exact r_ifF tq (aQ (by omega)) Qak
   refine⟨Y (rl (j+1) (fun j=>.tup [.str (en j),.int ((ek j:Nat):Int)])) (some (.k,.int ((ek j:Nat):Int))) (some (.k,.int (j:Int))) (some (.k,.str (en j))),?_,_,_,_,rfl⟩
   refine r_gN (ς1:=Y (rl j (fun j=>.tup [.str (en j),.int ((ek j:Nat):Int)])) a10 (some (.k,.int (j:Int))) a16) rfl ?_
   unfold Qdm
   refine r_seq (s10 _ _) (Qw (r_seq (s16 _ _) (Qw (r_seq (sif _) (Qw ?_)))))
   refine r_app (xs:=(List.range j).map fun j=>D.tup [.str (en j),.int ((ek j:Nat):Int)]) rfl (r_tup (Qf (r_var rfl) (Qf (r_var rfl) r_nil)) (show 2<=1000 by decide)) (by rw[aC,aB];omega) ?_
   show(Y _ _ _ _).set 14 _=Y (.lst ((List.range (j+1)).map _)) _ _ _
   rw[bO,bA];rfl)
  (Y (.lst []) a10 none none) ⟨_,_,_,rfl⟩
 have hmn:fMin2 [.int 6,.int ((f+n:Nat):Int)]=.ok (.int (mi:Int)):=by
  show Out.ok (D.int (if ((f+n:Nat):Int)<6 then((f+n:Nat):Int) else 6))=_
  refine bg (fun z=>Out.ok (D.int z)) ?_
  split<;>omega
 have hfor2:=Qbn (g:=gN 15) (T:=Qdm) (show itR1 (e2 dAdd (eC (.int 1)) (e2 dMod (eVar 3) (eA fMin2 (aCons (eC (.int 6)) (aCons (eA fLen (aCons (eVar 6) aNil)) aNil))))) (Y (.lst []) a10 none none)=.ok (Qa4 0 ne) from Qbj ne (r_e2 r_C (r_e2 (r_var rfl) (r_eA (Qf r_C (Qf (r_eA (Qf (r_var rfl) r_nil) hla) r_nil)) hmn) (nmod u1 (by omega))) (by rw[hne];exact nadd 1 _)) (by omega)) hL2
 have hcut:∀ ς:SD,ς[6]?=some (some (.k,A))->ς[5]?=some (some (.k,.int (f:Int)))->eSl (eVar 6) oNo (oSome (eVar 5)) ς=.ok (.lst (((List.range f).map nm).map .str)):=fun ς h6 h5=>by
  refine r_sl (xs:=((List.range (f+n)).map nm).map .str) (r_var (by rw[h6,hA])) r_oNo (QiF (r_var h5)) ?_
  rw[Qx7, ← List.map_take, ← List.map_take,List.take_range,Nat.min_eq_left (by omega)]
 have fin:(fun ς=>(fun ς=>(sRetF (eLst (aCons (eSl (eVar 6) oNo (oSome (eVar 5))) (aCons (eVar 7) (aCons (eVar 14) aNil))))) (frz 14 ς)) (frz 7 ς)) (Y (rl ne (fun j=>.tup [.str (en j),.int ((ek j:Nat):Int)])) a10' a15 a16)=.ok (.rt true (.lst [.lst (((List.range f).map nm).map .str),rl n (seatL nm f X li st),rl ne (fun j=>.tup [.str (en j),.int ((ek j:Nat):Int)])])):=by
  show sRetF _ (frz 14 (frz 7 (Y _ _ _ _)))=_
  exact Qcj (r_lst (Qf (hcut _ rfl rfl) (Qf (r_var rfl) (Qf (r_var rfl) r_nil))) (show 3<=1000 by decide))
 rw[Qsm]
 unfold Qe1
 exact Qad (fl:=.rt true _) (r_seq (r_set (Qan (xs:=[.int v0,.int 0]) (Qf (Qan (xs:=[S,.int 0]) (Qf (r_var rfl) (Qf r_C r_nil)) rfl hv0) (Qf r_C r_nil)) rfl hu0) rfl) (Qw (r_seq (r_set (Qan (xs:=[.int v1,.int 1]) (Qf (Qan (xs:=[S,.int 1]) (Qf (r_var rfl) (Qf r_C r_nil)) rfl hv1) (Qf r_C r_nil)) rfl hu1) rfl) (Qw (r_seq (r_set (hcells _ rfl rfl rfl) rfl) (Qw (r_seq (r_set (d:=.int (f:Int)) (r_e2 r_C (r_e2 (r_var rfl) r_C (nmod u0 (m:=6) (by decide))) (by rw[hf];exact nadd 1 _)) rfl) (Qw (r_seq (r_set (Qan (xs:=[.int ((f+n:Nat):Int),.int ((u0 / 6:Nat):Int)]) (Qf (r_e2 (r_var rfl) (r_eA (Qf (r_var rfl) r_nil) hlc) (nadd f n)) (Qf (r_e2 (r_var rfl) r_C (nfdiv u0 (m:=6) (by decide) (by decide))) r_nil)) rfl hnm) rfl) (Qw (r_seq (Qeo (d:=.lst []) (r_lst r_nil (show 0<=1000 by decide)) rfl) (Qw (r_seq hfor (Qw (r_seq (Qeo (d:=.lst []) (r_lst r_nil (show 0<=1000 by decide)) rfl) (Qw (r_seq hfor2 (Qw fin)))))))))))))))))) r_rtT
section
noncomputable def ldA(f:Nat)(li:Nat->Nat->Nat)(k j:Nat):Int:=if li k j<f then -1 - ((li k j:Nat):Int) else((li k j:Nat):Int) - (f:Int)
variable{nd n ne:Nat}{nm:Nat->Str}{X:Nat->Cl}{li:Nat->Nat->Nat}{st:Nat->Nat}{en:Nat->Str}{ek:Nat->Nat}
theorem Qxy{k:Nat}{O Pl Ds En:D}(hnd:nd<=1000)(hm:(X k).m<=6){Sd:D}(hSd:dIx Sd (.int (k:Int))=.ok (seatL nm nd X li st k))(hDs:fLen [Ds]=.ok (.int (nd:Int)))(a7:Option (SM×D)):
 ∃ b7,sFor (gN 7) (itL (e2 dIx (e2 dIx (eVar 3) (eVar 5)) (eC (.int 4)))) Qco [some (.k,O),some (.k,Pl),some (.k,Ds),some (.k,Sd),some (.k,En),some (.k,.int (k:Int)),some (.o,.lst []),a7]=
  .ok (.nx [some (.k,O),some (.k,Pl),some (.k,Ds),some (.k,Sd),some (.k,En),some (.k,.int (k:Int)),some (.o,rl (X k).m (fun j=>.int (ldA nd li k j))),b7]):=by
 have s4:dIx (seatL nm nd X li st k) (.int 4)=.ok (rl (X k).m (fun j=>.int ((li k j:Nat):Int))):=ixL 4 rfl
 obtain⟨ς',hL,b7,rfl⟩:=QdR (body:=fun x ς=>gN 7 x ς>>=fun ς'=>Qco ς') (f:=fun j=>D.int ((li k j:Nat):Int)) (n:=(X k).m)
  (P:=fun j ς=>∃ b7,ς=[some (.k,O),some (.k,Pl),some (.k,Ds),some (.k,Sd),some (.k,En),some (.k,.int (k:Int)),some (.o,rl j (fun j=>.int (ldA nd li k j))),b7])
  (by
   rintro j hj ς ⟨b7,rfl⟩
   refine⟨[some (.k,O),some (.k,Pl),some (.k,Ds),some (.k,Sd),some (.k,En),some (.k,.int (k:Int)),some (.o,rl (j+1) (fun j=>.int (ldA nd li k j))),some (.k,.int ((li k j:Nat):Int))],?_,_,rfl⟩
   have ea:rl (j+1) (fun j=>D.int (ldA nd li k j))=.lst ((List.range j).map (fun j=>D.int (ldA nd li k j))++[.int (ldA nd li k j)]):=by
    show D.lst _=_
    rw[bO,bA];rfl
   rw[ea]
   refine r_gN (by walk_at "s") ?_
   unfold Qco
   have hlen:eA fLen (aCons (eVar 2) aNil) [some (.k,O),some (.k,Pl),some (.k,Ds),some (.k,Sd),some (.k,En),some (.k,.int (k:Int)),some (.o,rl j (fun j=>.int (ldA nd li k j))),some (.k,.int ((li k j:Nat):Int))]=.ok (.int (nd:Int)):=r_eA (Qf (r_var rfl) r_nil) hDs
   have hl1:((List.range j).map (fun j=>D.int (ldA nd li k j))).length<=1000:=by rw[aC,aB];omega
   by_cases h:li k j<nd
   ·have el:ldA nd li k j = -1 - ((li k j:Nat):Int):=by unfold ldA;rw[aA h]
    rw[el]
    exact r_if (QY (r_e2 (r_var rfl) hlen (by rw[QaB,aG (by omega)]))) (Qki rfl (r_app rfl (r_e2 (r_e1 r_C (Qbp _)) (r_var rfl) (Qbr _ _)) hl1 (by walk_at "s")))
   ·have el:ldA nd li k j=((li k j:Nat):Int) - (nd:Int):=by unfold ldA;rw[aD h]
    rw[el]
    exact Qc6 (QY (r_e2 (r_var rfl) hlen (by rw[QaB,aQ (by omega)]))) (r_app rfl (r_e2 (r_var rfl) hlen (Qbr _ _)) hl1 (by walk_at "s")))
  [some (.k,O),some (.k,Pl),some (.k,Ds),some (.k,Sd),some (.k,En),some (.k,.int (k:Int)),some (.o,.lst []),a7] ⟨a7,rfl⟩
 exact⟨b7,Qbn (r_itL (r_e2 (r_e2 (r_var rfl) (r_var rfl) hSd) r_C s4)) hL⟩
end
section
variable{nd n ne:Nat}{nm:Nat->Str}{X:Nat->Cl}{li:Nat->Nat->Nat}{st:Nat->Nat}{en:Nat->Str}{ek:Nat->Nat}
variable(d1:1<=nd)(d6:nd<=6)(n1:1<=n)(n60:n<=60)(hN:∀ i,i<nd+n->Nw (nm i))
 (hX:∀ k,k<n->CK.contains (X k).c=true/\Tb (X k).t (X k).m/\(∀ j,li k j<nd+n)/\st k<(X k).t.length) (hE:Ent n ne en ek) (hW:∀ j,j<ne->Nw (en j))
include d1 d6 n1 n60 hN hX hE hW
theorem Qwb:Qbe [offD n nd ne (fun k=>nm (nd+k)) nm (fun k=>(X k).c) en ek (fun k=>(X k).t) (fun k=>(X k).m) (ldA nd li) (fun k=>((st k:Nat):Int)),.lst [.lst (((List.range nd).map nm).map .str),rl n (seatL nm nd X li st),rl ne (fun j=>.tup [.str (en j),.int ((ek j:Nat):Int)])]]=.ok (.bl true):=by
 have e6:=hE.e6
 have gA':=hN
 have ht:(.lst (((List.range nd).map nm).map .str):D)=rl nd (fun d=>.str (nm d)):=by rw[← Qel]
 have s0:∀ k,dIx (seatL nm nd X li st k) (.int 0)=.ok (.str (nm (nd+k))):=fun k=>ixL 0 rfl
 have s3:∀ k,dIx (seatL nm nd X li st k) (.int 3)=.ok (.str (ctext (X k).c (X k).t)):=fun k=>ixL 3 rfl
 have s5:∀ k,dIx (seatL nm nd X li st k) (.int 5)=.ok (.int ((st k:Nat):Int)):=fun k=>ixL 5 rfl
 have hxS:∀ k,k<n->dIx (rl n (seatL nm nd X li st)) (.int (k:Int))=.ok (seatL nm nd X li st k):=fun k hk=>ixR hk
 rw[ht]
 have lS:∀ x:Str,Nw x->layD (.str x)=true:=fun x h=>h.tx.ok
 have L1:=Qfr (n:=nd) (f:=fun d=>.str (nm d)) (fun i hi=>lS _ (gA' i (by omega))) (fun i _=>av _) (fun i _=>rfl)
 have L2:=Qfr (n:=n) (f:=fun k=>.str (nm (nd+k))) (fun i hi=>lS _ (gA' (nd+i) (by omega))) (fun i _=>av _) (fun i _=>rfl)
 have L3:=Qfr (n:=ne) (f:=fun j=>.tup [.str (en j),.int ((ek j:Nat):Int)]) (fun i hi=>by
  show layDs [.str (en i),.int _]=true
  exact QgH _ fun d hd=>by
   simp only[aF,aT,b6]at hd
   rcases hd with rfl | rfl
   ·exact lS _ (hW i hi)
   ·rfl) (fun i _=>by simp[dep,deps]) (fun i _=>rfl)
 have L4:=Qfr (n:=n) (f:=fun k=>.int ((st k:Nat):Int)) (fun i _=>rfl) (fun i _=>av _) (fun i _=>rfl)
 generalize hO:offD n nd ne (fun k=>nm (nd+k)) nm (fun k=>(X k).c) en ek (fun k=>(X k).t) (fun k=>(X k).m) (ldA nd li) (fun k=>((st k:Nat):Int))=O
 have hn':∀(ς:SD),ς[0]?=some (some (.k,O))->eMeth Qm "names" (fun _=>Qaa) (eVar 0) aNil ς=.ok (rl n (fun k=>.str (nm (nd+k)))):=fun ς h=>onm (by rw[hO];exact h)
 have hd':∀(ς:SD),ς[0]?=some (some (.k,O))->eMeth Qm "doors" (fun _=>Qab) (eVar 0) aNil ς=.ok (rl nd (fun d=>.str (nm d))):=fun ς h=>odm (by rw[hO];exact h)
 have he':∀(ς:SD),ς[0]?=some (some (.k,O))->eMeth Qm "entries" (fun _=>Q1) (eVar 0) aNil ς=.ok (rl ne (fun j=>.tup [.str (en j),.int ((ek j:Nat):Int)])):=fun ς h=>oem (by rw[hO];exact h)
 have hb':∀(ς:SD),ς[0]?=some (some (.k,O))->eMeth Qm "begin" (fun _=>Qac) (eVar 0) aNil ς=.ok (rl n (fun k=>.int ((st k:Nat):Int))):=fun ς h=>obm (by rw[hO];exact h)
 have hm':∀(ς:SD),ς[0]?=some (some (.k,O))->eMeth Qm "many" (fun _=>Qat) (eVar 0) aNil ς=.ok (.int (n:Int)):=fun ς h=>omm (by rw[hO];exact h)
 have hl':∀(ς:SD)(k:Nat),k<n->ς[0]?=some (some (.k,O))->ς[5]?=some (some (.k,.int (k:Int)))->eMeth Qm "leads" (fun _=>Q5) (eVar 0) (aCons (eVar 5) aNil) ς=.ok (rl (X k).m (fun j=>.int (ldA nd li k j))):=fun ς k hk h h'=>olm hk (by rw[hO];exact h) h'
 have ht':∀(ς:SD)(k:Nat),k<n->ς[0]?=some (some (.k,O))->ς[5]?=some (some (.k,.int (k:Int)))->eMeth Qb "text" (fun _=>Qbi) (eMeth Qm "clerk" (fun _=>Qax) (eVar 0) (aCons (eVar 5) aNil)) aNil ς=.ok (.str (ctext (X k).c (X k).t)):=fun ς k hk h h'=>by
  have hc:=ocm (ne:=ne) (nd:=nd) (nm:=fun k=>nm (nd+k)) (dn:=nm) (c:=fun k=>(X k).c) (en:=en) (ek:=ek) (t:=fun k=>(X k).t) (m:=fun k=>(X k).m) (ld:=ldA nd li) (st:=fun k=>((st k:Nat):Int)) hk (by rw[hO];exact h) h'
  rw[Qe6 (c:=(X k).c) (t:=(X k).t) (m:=(X k).m) (hX k hk).1 (xs:=[]) hc rfl (dk) (dk)]
  exact Qwf (hX k hk).1 (hX k hk).2.1
 generalize hSd:rl n (seatL nm nd X li st)=Sd at *
 generalize hEn:rl ne (fun j=>D.tup [.str (en j),.int ((ek j:Nat):Int)])=En at *
 generalize hDs:rl nd (fun d=>D.str (nm d))=Ds at *
 generalize hPl:D.lst [Ds,Sd,En]=Pl
 have hlD:fLen [Ds]=.ok (.int (nd:Int)):=by rw[← hDs];simp[fLen]
 have hlS:fLen [Sd]=.ok (.int (n:Int)):=by rw[← hSd];simp[fLen]
 have hun:sUnpL [2,3,4] (eVar 1) [some (.k,O),some (.k,Pl),none,none,none,none,none,none]=.ok (.nx [some (.k,O),some (.k,Pl),some (.k,Ds),some (.k,Sd),some (.k,En),none,none,none]):=by rw[← hPl];rfl
 have hc0:eComp [none] (itL (eVar 3)) (gN 0) cTrue QeE [some (.k,O),some (.k,Pl),some (.k,Ds),some (.k,Sd),some (.k,En),none,none,none]=.ok (rl n (fun k=>.str (nm (nd+k)))):=by
  refine QK (seatL nm nd X li st) (fun k=>.str (nm (nd+k))) (r_itL (r_var (by rw[← hSd];rfl))) (fun k hk=>?_) (by rw[aB];omega)
  refine QN (by walk_at "cap") (by walk_at "s") ?_
  unfold QeE
  exact r_e2 (r_var rfl) r_C (s0 k)
 have hc1:eComp [none] (itL (eVar 3)) (gN 0) cTrue Qev [some (.k,O),some (.k,Pl),some (.k,Ds),some (.k,Sd),some (.k,En),none,none,none]=.ok (rl n (fun k=>.int ((st k:Nat):Int))):=by
  refine QK (seatL nm nd X li st) (fun k=>.int ((st k:Nat):Int)) (r_itL (r_var (by rw[← hSd];rfl))) (fun k hk=>?_) (by rw[aB];omega)
  refine QN (by walk_at "cap") (by walk_at "s") ?_
  unfold Qev
  exact r_e2 (r_var rfl) r_C (s5 k)
 have hw:Qcb [.int (n:Int)]=.ok (.bl true):=by rw[QoX];exists"E",Qee
 obtain⟨ς',hL,a5,a6,a7,rfl⟩:=QdR (body:=fun x ς=>gN 5 x ς>>=fun ς'=>Qcn ς') (f:=fun k=>D.int (0+(k:Int))) (n:=n)
  (P:=fun _ ς=>∃ a5 a6 a7,ς=[some (.k,O),some (.k,Pl),some (.k,Ds),some (.k,Sd),some (.k,En),a5,a6,a7])
  (by
   rintro k hk ς ⟨a5,a6,a7,rfl⟩
   have tb:=(hX k hk).2.1
   rw[cP]
   obtain⟨b7,hlt⟩:=Qxy (nm:=nm) (nd:=nd) (X:=X) (li:=li) (st:=st) (k:=k) (O:=O) (Pl:=Pl) (Ds:=Ds) (En:=En) (by omega) tb.m6 (hxS k hk) hlD a7
   have LL:=Qfr (n:=(X k).m) (f:=fun j=>.int (ldA nd li k j)) (fun i _=>rfl) (fun i _=>av _) (fun i _=>rfl)
   have hct:=QuR (c:=(X k).c) tb
   refine⟨[some (.k,O),some (.k,Pl),some (.k,Ds),some (.k,Sd),some (.k,En),some (.k,.int (k:Int)),some (.o,rl (X k).m (fun j=>.int (ldA nd li k j))),b7],?_,_,_,_,rfl⟩
   refine r_gN (by walk_at "s") ?_
   unfold Qcn
   refine r_seq (Qeo (d:=.lst []) (by (repeat walk_at "e")) (by walk_at "s")) (Qw (r_seq hlt (Qw ?_)))
   exact Qc6 (r_orF (by refine Qdg (b:=true) (QY ?_);exact QoH (Qan (xs:=[_,_]) (Qf (hl' _ k hk rfl rfl) (Qf (QsC rfl) r_nil)) rfl LL) rfl) (QY (r_e2 (ht' _ k hk rfl rfl) (r_e2 (r_e2 (r_var rfl) (r_var rfl) (hxS k hk)) r_C (s3 k)) (neS _ hct.ok)))) Qak)
  [some (.k,O),some (.k,Pl),some (.k,Ds),some (.k,Sd),some (.k,En),none,none,none] ⟨_,_,_,rfl⟩
 have hfor:=Qbn (g:=gN 5) (T:=Qcn) (its:=itR1 (eA fLen (aCons (eVar 3) aNil))) (ς:=[some (.k,O),some (.k,Pl),some (.k,Ds),some (.k,Sd),some (.k,En),none,none,none]) (Qbj n (r_eA (Qf (r_var rfl) r_nil) hlS) (by omega)) hL
 rw[QqM]
 unfold Qd5
 refine Qad (fl:=.rt false (.bl true)) ?_ r_rt
 refine r_seq hun (Qw (r_seq (Qc6 (r_orF (Qdg (QY (Qan (xs:=[_,_]) (Qf (hd' _ rfl) (Qf (r_var rfl) r_nil)) rfl L1))) (Qdg (QY (Qan (xs:=[_,_]) (Qf (hn' _ rfl) (Qf hc0 r_nil)) rfl L2)))) Qak) (Qw ?_)))
 refine r_seq (Qc6 (r_orF (Qdg (QY (Qan (xs:=[_,_]) (Qf (he' _ rfl) (Qf (r_var rfl) r_nil)) rfl L3))) (Qdg (QY (Qan (xs:=[_,_]) (Qf (hb' _ rfl) (Qf hc1 r_nil)) rfl L4)))) Qak) (Qw ?_)
 refine r_seq (Qc6 (r_orF (Qdg (QY (Qan (xs:=[_]) (Qf (hm' _ rfl) r_nil) rfl hw))) (QY (r_e2 (hm' _ rfl) (r_eA (Qf (r_var rfl) r_nil) hlS) (neI rfl)))) Qak) (Qw ?_)
 exact r_seq hfor (Qw (r_ret r_C))
end
theorem Qj1:∀{l:List D},(∀ d∈l,noL d=true)->noLs l=true
 | [],_=>rfl
 | d::l,h=>by
  show(noL d&&noLs l)=true
  rw[h d (aL ..),Qj1 fun x hx=>h x (aE _ hx)];rfl
theorem QaF{α:Type}{l:List α}{f:α->D}(h:∀ x∈l,noL (f x)=true):noLs (l.map f)=true:=Qj1 fun d hd=>by
 obtain⟨x,hx,rfl⟩:=aX.mp hd
 exact h x hx
theorem nl_rl{n:Nat}{f:Nat->D}(h:∀ i,i<n->noL (f i)=true):noL (rl n f)=true:=QaF fun i hi=>h i (aV.mp hi)
theorem nl_dl(r:List Int):noL (dl r)=true:=QaF fun _ _=>rfl
theorem nl_ck(c:Str)(t:List (List Int))(m:Nat):noL (ck c t m)=true:=by
 show noLf [("table",tbD t),("heads",hdD t m t.length)]=true
 show(noL (tbD t)&&(noL (hdD t m t.length)&&true))=true
 have h1:noL (tbD t)=true:=QaF fun r _=>nl_dl r
 have h2:noL (hdD t m t.length)=true:=by unfold hdD;exact QaF fun k _=>nl_dl _
 rw[h1,h2];rfl
theorem QuW{js:List (Option Nat)}{its:SD->Out (List D)}{g:D->SD->Out SD}{e:SD->Out D}{ς:SD}{ys:List D}(h:eComp js its g cTrue e ς=.ok (.lst ys)):QgC js its g e ς=.ok (.lln ys):=by
 unfold eComp at h
 unfold QgC
 cases h1:its ς with
 | stuck=>rw[h1]at h;cases h
 | exc x=>rw[h1]at h;cases h
 | ok xs=>
  rw[h1,d8]at h
  rw[d8]
  cases h2:compM (turnC js g cTrue e ς) xs with
  | stuck=>rw[h2]at h;cases h
  | exc x=>rw[h2]at h;cases h
  | ok zs=>
   rw[h2,d8]at h
   rw[d8]
   by_cases hf:fits zs.length=true
   ·rw[aA hf]at h ⊢
    cases h;rfl
   ·rw[aD hf]at h;cases h
theorem QoB{E:SD->Out D}{ς:SD}{d:D}(a:E ς=.ok d)(h:noL d=true):(fun ς=>noLO (E ς)) ς=.ok d:=by
 show(E ς>>=fun d=>if noL d=true then Out.ok d else .stuck)=_
 rw[a,d8,aA h]
theorem r_lnO{E:SD->Out D}{ς:SD}{xs:List D}(a:E ς=.ok (.lst xs))(h:noLs xs=true):(fun ς=>lnO (E ς)) ς=.ok (.lln xs):=by
 show(E ς>>=fun d=>match d with | .lst xs=>if noLs xs=true then Out.ok (D.lln xs) else .stuck | _=>.stuck)=_
 rw[a,d8]
 show(if noLs xs=true then Out.ok (D.lln xs) else .stuck)=_
 rw[aA h]
theorem Qxw{i:Nat}{E:SD->Out D}{A:SD->Out (List D)}{ς:SD}{d:D}{ds:List D}(a:E ς=.ok d)(b:A (ς.set i none)=.ok ds)(h:ds.length+1<=1000)(hi:i<ς.length):yEnd i E A ς=.ok (.lln (d::ds)):=by
 unfold yEnd
 rw[a,d8,b,d8,aA]
 rw[aH]
 exact⟨Qao h,aG hi⟩
theorem QsO{T:SD->Out Fl}{U:SD->Out D}{ς ς':SD}{r:Out D}(a:T ς=.ok (.nx ς'))(b:U ς'=r):DL.tSeq T U ς=r:=by
 unfold DL.tSeq
 rw[a,d8];exact b
theorem Qte{nm:Nat->Str}{f k j:Nat}{li:Nat->Nat->Nat}:nml (fun k=>nm (f+k)) nm (ldA f li k j)=nm (li k j):=by
 unfold nml ldA
 by_cases h:li k j<f
 ·rw[aA h,aA (by omega)]
  congr 1;omega
 ·rw[aD h,aD (by omega)]
  show nm (f+_)=nm _
  congr 1;omega
section
variable{nd n ne:Nat}{nm:Nat->Str}{X:Nat->Cl}{li:Nat->Nat->Nat}{st:Nat->Nat}{en:Nat->Str}{ek:Nat->Nat}
variable(d6:nd<=6)(n60:n<=60)(ne6:ne<=6)(hX:∀ k,k<n->CK.contains (X k).c=true/\Tb (X k).t (X k).m/\(∀ j,li k j<nd+n)/\st k<(X k).t.length)(hek:∀ j,ek j<n)
abbrev sdD(nd:Nat)(nm:Nat->Str)(X:Nat->Cl)(li:Nat->Nat->Nat)(st:Nat->Nat):Nat->D:=seatD (fun k=>nm (nd+k)) nm (fun k=>(X k).c) (fun k=>(X k).t) (fun k=>(X k).m) (ldA nd li) (fun k=>((st k:Nat):Int))
abbrev hndD(nd n ne:Nat)(nm:Nat->Str)(X:Nat->Cl)(li:Nat->Nat->Nat)(st:Nat->Nat)(en:Nat->Str)(ek:Nat->Nat):List D:=[rn n (sdD nd nm X li st),rn ne (entD (fun k=>nm (nd+k)) en ek),rn nd (fun d=>.str (nm d))]
include d6 n60 ne6 hX hek
theorem Qs4:QaZ [.lst [.lst (((List.range nd).map nm).map .str),rl n (seatL nm nd X li st),rl ne (fun j=>.tup [.str (en j),.int ((ek j:Nat):Int)])]]=.ok (.lln (hndD nd n ne nm X li st en ek)):=by
 generalize hDo:D.lst (((List.range nd).map nm).map .str)=Do
 have s0:∀ k,dIx (seatL nm nd X li st k) (.int 0)=.ok (.str (nm (nd+k))):=fun k=>ixL 0 rfl
 have s1:∀ k,dIx (seatL nm nd X li st k) (.int 1)=.ok (ck (X k).c (X k).t (X k).m):=fun k=>ixL 1 rfl
 have s4:∀ k,dIx (seatL nm nd X li st k) (.int 4)=.ok (rl (X k).m (fun j=>.int ((li k j:Nat):Int))):=fun k=>ixL 4 rfl
 have s5:∀ k,dIx (seatL nm nd X li st k) (.int 5)=.ok (.int ((st k:Nat):Int)):=fun k=>ixL 5 rfl
 have hxS:∀ k,k<n->dIx (rl n (seatL nm nd X li st)) (.int (k:Int))=.ok (seatL nm nd X li st k):=fun k hk=>ixR hk
 generalize hSe:rl n (seatL nm nd X li st)=Se at *
 generalize hEn:rl ne (fun j=>D.tup [.str (en j),.int ((ek j:Nat):Int)])=En
 have hSi:∀ ς:SD,ς[2]?=some (some (.k,Se))->itL (eVar 2) ς=.ok ((List.range n).map (seatL nm nd X li st)):=fun ς h=>r_itL (r_var (by rw[h, ← hSe]))
 have c0:∀ a4 a5:Option (SM×D),eComp [none] (itL (eVar 2)) (gN 0) cTrue QdI [some (.k,.lst [Do,Se,En]),some (.k,Do),some (.k,Se),some (.k,En),a4,a5]=.ok (rl n (fun k=>.str (nm (nd+k)))):=fun a4 a5=>by
  refine QK (seatL nm nd X li st) (fun k=>.str (nm (nd+k))) (hSi _ rfl) (fun k _=>?_) (by rw[aB];omega)
  refine QN rfl rfl ?_
  unfold QdI
  exact r_e2 (r_var rfl) r_C (s0 k)
 have hcat:dCat Do (rl n (fun k=>.str (nm (nd+k))))=.ok (.lst (((List.range (nd+n)).map nm).map .str)):=by
  rw[← hDo]
  show dCat (.lst _) (.lst _)=_
  rw[QlF (by rw[aC,aC,aB,aC,aB];omega),List.range_add,bA,bA]
  simp only[ax];rfl
 have c1:∀ a5:Option (SM×D),eComp [none,some 4] (itL (eVar 2)) (gN 0) cTrue QdM [some (.k,.lst [Do,Se,En]),some (.k,Do),some (.k,Se),some (.k,En),some (.k,.lst (((List.range (nd+n)).map nm).map .str)),a5]=.ok (rl n (sdD nd nm X li st)):=fun a5=>by
  refine QK (seatL nm nd X li st) (sdD nd nm X li st) (hSi _ rfl) (fun k hk=>?_) (by rw[aB];omega)
  obtain⟨_,tb,hl,_⟩:=hX k (aV.mp hk)
  have m6:=tb.m6
  refine QN rfl rfl ?_
  unfold QdM
  have cc:eComp [none,some 1] (itL (e2 dIx (eVar 0) (eC (.int 4)))) (gN 0) cTrue QdN [some (.k,seatL nm nd X li st k),some (.k,.lst (((List.range (nd+n)).map nm).map .str))]=.ok (rl (X k).m (fun j=>.str (nml (fun k=>nm (nd+k)) nm (ldA nd li k j)))):=by
   refine QK (fun j=>D.int ((li k j:Nat):Int)) (fun j=>.str (nml (fun k=>nm (nd+k)) nm (ldA nd li k j))) (r_itL (r_e2 (r_var rfl) r_C (s4 k))) (fun j _=>?_) (by rw[aB];omega)
   refine QN rfl rfl ?_
   unfold QdN
   rw[Qte]
   exact r_e2 (r_var rfl) (r_var rfl) (rl_ix (hl j))
  exact r_tup (Qf (QoB (r_e2 (r_var rfl) r_C (s0 k)) rfl) (Qf (QoB (r_e2 (r_var rfl) r_C (s1 k)) (nl_ck _ _ _)) (Qf (r_lnO cc (QaF fun _ _=>rfl)) (Qf (QoB (r_e2 (r_var rfl) r_C (s5 k)) rfl) r_nil)))) (show 4<=1000 by decide)
 have c2:∀ a4 a5:Option (SM×D),eComp [none,none,some 2] (itL (eVar 3)) (gT [0,1]) cTrue Qdo [some (.k,.lst [Do,Se,En]),some (.k,Do),some (.k,Se),some (.k,En),a4,a5]=.ok (rl ne (entD (fun k=>nm (nd+k)) en ek)):=fun a4 a5=>by
  rw[← hEn]
  refine QK (fun j=>D.tup [.str (en j),.int ((ek j:Nat):Int)]) (entD (fun k=>nm (nd+k)) en ek) (r_itL (r_var rfl)) (fun j hj=>?_) (by rw[aB];omega)
  refine Qq2 rfl rfl ?_
  unfold Qdo
  exact r_tup (Qf (r_var rfl) (Qf (r_e2 (r_e2 (r_var rfl) (r_var rfl) (hxS _ (hek j))) r_C (s0 _)) r_nil)) (show 2<=1000 by decide)
 have hd:dList Do=.ok (rl nd (fun d=>.str (nm d))):=by rw[← hDo, ← Qel];rfl
 rw[Qno]
 unfold QcY
 exact QsO (ς':=[some (.k,.lst [Do,Se,En]),some (.k,Do),some (.k,Se),some (.k,En),none,none]) rfl (QsO (r_set (r_e2 (r_var rfl) (c0 _ _) hcat) rfl) (Qxw (QuW (c1 _)) (Qf (r_lnO (c2 _ _) (QaF fun _ _=>rfl)) (Qf (r_lnO (r_e1 (r_var rfl) hd) (QaF fun _ _=>rfl)) r_nil)) (show 3<=1000 by decide) (show 5<6 by decide)))
end
open Classical in
theorem Qkp{i:Nat}{T Z:SD->Out Fl}{ς ς':SD}{r:Out Fl}(a:T ς=.ok (.nx ς'))(h:ς'[i]?=ς[i]?)(b:Z ς'=r):mSeq i T Z ς=r:=by
 unfold mSeq
 rw[a,d8]
 show(if ς'[i]?=ς[i]? then Z ς' else .stuck)=r
 rw[aA h];exact b
theorem Qxr{i:Nat}{m:List D->Out D}{A:SD->Out (List D)}{Z:SD->Out Fl}{ς:SD}{ds xs:List D}{r:Out Fl}(a:A ς=.ok ds)(b:m ds=.ok (.lln xs))(h:(okS i ς&&decide (i<ς.length))=true)(k:Z (ς.set i (some (.l,.lln xs)))=r):sLend i m A Z ς=r:=by
 unfold sLend
 rw[a,d8,b,d8]
 show(if (okS i ς&&decide (i<ς.length))=true then Z (ς.set i (some (.l,.lln xs))) else .stuck)=r
 rw[aA h];exact k
theorem r_mSp{i jo:Nat}{EK:SD->Out D}{ms:D->D->Out (List D)}{T:SD->Out Fl}{ς ς':SD}{d dO dk:D}{ds:List D}{r:Out Fl}(e:ς[i]?=some (some (.l,d)))(h:okHd d=true)(hd:dropL ς=ς')(a:eVar jo ς=.ok dO)(b:EK ς=.ok dk)(hn:(noL dO&&noL dk)=true)(c:ms dO dk=.ok ds)(h2:(ds.all okLn&&decide (ds.length<=10000))=true)(k:T ς'=r):mSp i jo EK ms T ς=r:=by
 unfold mSp
 rw[e]
 show(if okHd d=true then eVar jo ς>>=fun dO=>EK ς>>=fun dk=>if (noL dO&&noL dk)=true then ms dO dk>>=fun ds=>if (ds.all okLn&&decide (ds.length<=10000))=true then T (dropL ς) else .stuck else .stuck else .stuck)=r
 rw[aA h,a,d8,b,d8,aA hn,c,d8,aA h2,hd];exact k
theorem r_lnV{o:Out D}{xs:List D}(a:o=.ok (.lst xs))(h:noLs xs=true):lnO (QaS o)=.ok (.lln xs):=r_lnO (E:=fun _=>QaS o) (ς:=[]) (Qme a rfl) h
theorem QhK{i:Nat}{ς:SD}{d:D}(e:ς[i]?=some (some (.l,d))):eVarL i ς=.ok d:=by unfold eVarL;rw[e]
theorem QxL{A B:SD->Out D}{ς:SD}{xs ys:List D}(a:A ς=.ok (.lln xs))(a':B ς=.ok (.lln ys)):itZ A B ς=.ok (List.zipWith (fun a b=>.tup [a,b]) xs ys):=by unfold itZ;rw[a,d8,a'];rfl
theorem QoJ{α:Type}(g:α->D):∀ l:List α,List.zipWith (fun a b=>D.tup [a,b]) (l.map g) (l.map g)=l.map fun x=>.tup [g x,g x]
 | []=>rfl
 | x::l=>by
  rw[au,List.zipWith_cons_cons,QoJ g l];rfl
theorem ne_ln(xs:List D):dNe (.lln xs) (.lln xs)=dNe (.lst xs) (.lst xs):=rfl
theorem QxV(xs ys:List D):dNe (.lst [.lln xs,.lln ys]) (.lst [.lln xs,.lln ys])=dNe (.lst [.lst xs,.lst ys]) (.lst [.lst xs,.lst ys]):=rfl
theorem Qh0{n:Nat}{f:Nat->D}(h:n<=1000):okLn (rn n f)=true:=aG (by rw[aC,aB];omega)
section
variable{nd n ne:Nat}{nm:Nat->Str}{X:Nat->Cl}{li:Nat->Nat->Nat}{st:Nat->Nat}{en:Nat->Str}{ek:Nat->Nat}
variable(d1:1<=nd)(d6:nd<=6)(n1:1<=n)(n60:n<=60)(hN:∀ i,i<nd+n->Nw (nm i))(inj:∀ i j,i<nd+n->j<nd+n->nm i=nm j->i=j)
 (hX:∀ k,k<n->CK.contains (X k).c=true/\Tb (X k).t (X k).m/\(∀ j,li k j<nd+n)/\st k<(X k).t.length)
include d1 d6 n1 n60 hN inj hX
theorem Qv7:Seats n nd (fun k=>nm (nd+k)) nm (fun k=>(X k).c) (fun k=>(X k).t) (fun k=>(X k).m) (ldA nd li) (fun k=>((st k:Nat):Int)) where
 n1:=n1
 n2:=n60
 d1:=d1
 d2:=d6
 ck:=fun k hk=>(hX k hk).1
 tb:=fun k hk=>(hX k hk).2.1
 ldr:=fun k j hk _=>by
  have:=(hX k hk).2.2.1 j
  unfold ldA
  split<;>omega
 str:=fun k hk=>by
  have:=(hX k hk).2.2.2
  exact⟨by omega,by omega⟩
 isn:=fun k hk=>(hN _ (by omega)).isn
 isd:=fun d hd=>(hN _ (by omega)).isn
 inj:=fun i j hi hj e=>by
  have:=inj _ _ (by omega) (by omega) e
  omega
 injd:=fun i j hi hj e=>inj _ _ (by omega) (by omega) e
 sep:=fun i d hi hd e=>by
  have:=inj _ _ (by omega) (by omega) e
  omega
end
theorem the_law(ns:List Int)(hl:ns.length<=63)(hb:∀ z∈ns,bitsI z<=1048576):Qfy [.lln (ns.map .int)]=.ok (.bl true):=by
 obtain⟨S0,nd,n,ne,X,li,st,en,ek,d1,d6,n1,n60,e1,e6,hX,hek,hW,hei,hp⟩:=QvI ns
 have hN:∀ i,i<nd+n->Nw (nmF S0 i):=fun i _=>Qt5 _ _
 have inj:∀ i j,i<nd+n->j<nd+n->nmF S0 i=nmF S0 j->i=j:=fun i j hi hj e=>Qrk e (by omega) (by omega)
 have hE:Ent n ne en ek:=⟨e1,e6,fun j hj=>(hW j hj).isn,hei,fun j _=>hek j⟩
 have hs:=Qv7 d1 d6 n1 n60 hN inj hX
 have hh:=Qs4 (nd:=nd) (n:=n) (ne:=ne) (nm:=nmF S0) (X:=X) (li:=li) (st:=st) (en:=en) (ek:=ek) d6 n60 e6 hX hek
 have hF:=Qtk hs hE
 have hT:=Qwb d1 d6 n1 n60 hN hX hE hW
 obtain⟨v1,hv1⟩:=QlL ns 1
 have hv1:Qas [.lln (ns.map .int),.int 1]=.ok (.int v1):=hv1
 obtain⟨u,bu,hu⟩:=Qhp v1 (k:=7) (by decide)
 have hu:QZ [.int v1,.int 7]=.ok (.int (u:Int)):=hu
 have nmk:=ak u (show 0<n by omega)
 generalize hnm:nmF S0=nm at *
 have hlayn:∀ i,i<nd+n->layD (.str (nm i))=true:=fun i hi=>(hN i hi).tx.ok
 have hne2:∀ k,k<n->dNe (rn (X k).m (fun j=>.str (nml (fun k=>nm (nd+k)) nm (ldA nd li k j)))) (rn (X k).m (fun j=>.str (nml (fun k=>nm (nd+k)) nm (ldA nd li k j))))=.ok (.bl false):=fun k hk=>by
  rw[ne_ln]
  refine Qln (QkC fun j _=>?_) (aq (Qkn (m:=0) fun _ _=>av _) (by decide))
  rw[Qte]
  exact hlayn _ ((hX k hk).2.2.1 j)
 have hne3:dNe (.lst [rn ne (entD (fun k=>nm (nd+k)) en ek),rn nd (fun d=>.str (nm d))]) (.lst [rn ne (entD (fun k=>nm (nd+k)) en ek),rn nd (fun d=>.str (nm d))])=.ok (.bl false):=by
  rw[QxV]
  refine Qln (QgH _ fun d hd=>?_) (aq (Nat.succ_le_succ (QkO (m:=2) _ fun d hd=>?_)) (by decide))
  ·simp only[aF,aT,b6]at hd
   rcases hd with rfl | rfl
   ·refine QkC fun j hj=>QgH _ fun d hd=>?_
    simp only[aF,aT,b6]at hd
    rcases hd with rfl | rfl
    ·exact(hW j hj).tx.ok
    ·exact hlayn _ (by have:=hek j;omega)
   ·exact QkC fun j hj=>hlayn _ (by omega)
  ·simp only[aF,aT,b6]at hd
   rcases hd with rfl | rfl
   ·exact Qkn (m:=1) fun j _=>by simp[entD,dep,deps]
   ·exact aq (Qkn (m:=0) fun _ _=>av _) (by decide)
 have q0:∀ k,dIx (sdD nd nm X li st k) (.int 0)=.ok (.str (nm (nd+k))):=fun k=>ix_t 0 rfl
 have q2:∀ k,dIx (sdD nd nm X li st k) (.int 2)=.ok (rn (X k).m (fun j=>.str (nml (fun k=>nm (nd+k)) nm (ldA nd li k j)))):=fun k=>ix_t 2 rfl
 have q3:∀ k,dIx (sdD nd nm X li st k) (.int 3)=.ok (.int ((st k:Nat):Int)):=fun k=>ix_t 3 rfl
 obtain⟨O,hO⟩:∃ O,O=offD n nd ne (fun k=>nm (nd+k)) nm (fun k=>(X k).c) en ek (fun k=>(X k).t) (fun k=>(X k).m) (ldA nd li) (fun k=>((st k:Nat):Int)):=⟨_,rfl⟩
 have nlO:noL O=true:=by
  rw[hO]
  show noLf (offF _ _ _ _ _ _ _ _ _ _ _ _)=true
  unfold offF
  have a1:noL (rl n (fun k=>.str (nm (nd+k))))=true:=nl_rl fun _ _=>rfl
  have a2:noL (rl nd (fun d=>.str (nm d)))=true:=nl_rl fun _ _=>rfl
  have a3:noL (rl ne (fun j=>.tup [.str (en j),.int ((ek j:Nat):Int)]))=true:=nl_rl fun _ _=>rfl
  have a4:noL (rl n (fun k=>ck (X k).c (X k).t (X k).m))=true:=nl_rl fun k _=>nl_ck _ _ _
  have a5:noL (rl n (fun k=>.int ((st k:Nat):Int)))=true:=nl_rl fun _ _=>rfl
  have a6:noL (rl n (fun k=>rl (X k).m (fun j=>.int (ldA nd li k j))))=true:=nl_rl fun k _=>nl_rl fun _ _=>rfl
  show(noL (rl n (fun k=>.str (nm (nd+k))))&&(noL (rl nd (fun d=>.str (nm d)))&&(noL (rl ne (fun j=>.tup [.str (en j),.int ((ek j:Nat):Int)]))&&(noL (rl n (fun k=>ck (X k).c (X k).t (X k).m))&&(noL (rl n (fun k=>.int ((st k:Nat):Int)))&&(noL (rl n (fun k=>rl (X k).m (fun j=>.int (ldA nd li k j))))&&true))))))=true
  rw[a1,a2,a3,a4,a5,a6];rfl
 have hsp:Qbz O (.int ((u % n:Nat):Int))=.ok [rn n (fun k=>.str (nm (nd+k))),rn nd (fun d=>.str (nm d)),rn ne (fun j=>.tup [.str (en j),.int ((ek j:Nat):Int)]),rn n (fun k=>.int ((st k:Nat):Int)),rn (X (u % n)).m (fun j=>.int (ldA nd li (u % n) j))]:=by
  have ol:eMeth Qm "leads" (fun _=>Q5) (eVar 0) (aCons (eVar 2) aNil) [some (.k,O),none,some (.k,.int ((u % n:Nat):Int)),none,none,none,none,none,none]=.ok (rl (X (u % n)).m (fun j=>.int (ldA nd li (u % n) j))):=by rw[hO];exact olm (i:=0) (j:=2) (k:=u % n) (m:=fun k=>(X k).m) (ld:=ldA nd li) nmk rfl rfl
  rw[hO]at ol
  rw[QoW,hO]
  unfold Qd9
  exact Qf (r_lnV (onm rfl) (QaF fun _ _=>rfl)) (Qf (r_lnV (odm rfl) (QaF fun _ _=>rfl)) (Qf (r_lnV (oem rfl) (QaF fun _ _=>rfl)) (Qf (r_lnV (obm rfl) (QaF fun _ _=>rfl)) (Qf (r_lnV ol (QaF fun _ _=>rfl)) r_nil))))
 have m6:=((hX _ nmk).2.1).m6
 obtain⟨P,hP⟩:∃ P,P=D.lst [.lst (((List.range nd).map nm).map .str),rl n (seatL nm nd X li st),rl ne (fun j=>.tup [.str (en j),.int ((ek j:Nat):Int)])]:=⟨_,rfl⟩
 have nlP:noL P=true:=by
  rw[hP]
  refine Qj1 fun d hd=>?_
  simp only[aF,aT,b6]at hd
  rcases hd with rfl | rfl | rfl
  ·exact QaF fun _ _=>rfl
  ·refine nl_rl fun k _=>Qj1 fun d hd=>?_
   simp only[aF,aT,b6]at hd
   rcases hd with rfl | rfl | rfl | rfl | rfl | rfl
   ·rfl
   ·exact nl_ck _ _ _
   ·exact QaF fun r _=>nl_dl r
   ·rfl
   ·exact nl_rl fun _ _=>rfl
   ·rfl
  ·exact nl_rl fun _ _=>rfl
 have hP1:fLen [rl n (seatL nm nd X li st)]=.ok (.int (n:Int)):=lenR _ _
 have hPx:dIx P (.int 1)=.ok (rl n (seatL nm nd X li st)):=by rw[hP];exact ixL 1 rfl
 rw[← hP]at hp hh hT
 rw[← hO]at hT
 have nlS:noL (D.lln (ns.map D.int))=false:=rfl
 generalize hS:D.lln (ns.map D.int)=S at *
 obtain⟨Hd,hHd⟩:∃ Hd,Hd=hndD nd n ne nm X li st en ek:=⟨_,rfl⟩
 have h0:dIx (.lln Hd) (.int 0)=.ok (rn n (sdD nd nm X li st)):=by rw[hHd];exact ixLn 0 rfl
 have h1:dIx (.lln Hd) (.int 1)=.ok (rn ne (entD (fun k=>nm (nd+k)) en ek)):=by rw[hHd];exact ixLn 1 rfl
 have h2:dIx (.lln Hd) (.int 2)=.ok (rn nd (fun d=>.str (nm d))):=by rw[hHd];exact ixLn 2 rfl
 have hcut:cutD Hd (some 1) none=[rn ne (entD (fun k=>nm (nd+k)) en ek),rn nd (fun d=>.str (nm d))]:=by rw[hHd];rfl
 have hok:okHd (.lln Hd)=true:=by
  rw[hHd]
  show(((List.range n).map (sdD nd nm X li st)).all okSt&&decide (((List.range n).map (sdD nd nm X li st)).length<=10000)&&decide (((List.range ne).map (entD (fun k=>nm (nd+k)) en ek)).length<=10000)&&decide (((List.range nd).map (fun d=>D.str (nm d))).length<=10000))=true
  rw[aG (by rw[aC,aB];omega),aG (by rw[aC,aB];omega),aG (by rw[aC,aB];omega),bM.mpr]
  ·rfl
  ·intro d hd
   obtain⟨k,hk,rfl⟩:=aX.mp hd
   have:=((hX k (aV.mp hk)).2.1).m6
   exact aG (by rw[aC,aB];show(X k).m<=10000;omega)
 rw[← hHd]at hh
 let Z:(a3 a4 a5 a6:Option (SM×D))->SD:=fun a3 a4 a5 a6=>[some (.k,S),some (.k,P),some (.l,.lln Hd),a3,a4,a5,a6]
 have hmk:eMake "Office" Qau (aCons (e2 dIx (eVarL 2) (eC (.int 0))) (aCons (e2 dIx (eVarL 2) (eC (.int 1))) (aCons (e2 dIx (eVarL 2) (eC (.int 2))) aNil))) (Z (some (.k,.lln Hd)) none none none)=.ok O:=by
  rw[hO]
  exact Qgv (Qf (r_e2 (QhK rfl) r_C h0) (Qf (r_e2 (QhK rfl) r_C h1) (Qf (r_e2 (QhK rfl) r_C h2) r_nil))) hF
 obtain⟨ς',hL,a5,a6,rfl⟩:=QdR (body:=fun x ς=>gT [5,6] x ς>>=fun ς'=>QiK ς') (f:=fun k=>D.tup [sdD nd nm X li st k,sdD nd nm X li st k]) (n:=n) (P:=fun _ ς=>∃ a5 a6,ς=Z (some (.k,.lln Hd)) (some (.k,O)) a5 a6)
  (by
   rintro k hk ς ⟨a5,a6,rfl⟩
   refine⟨Z (some (.k,.lln Hd)) (some (.k,O)) (some (.k,sdD nd nm X li st k)) (some (.k,sdD nd nm X li st k)),?_,_,_,rfl⟩
   refine r_gT rfl ?_
   unfold QiK
   exact Qc6 (r_orF (QY (r_e2 (r_e2 (r_var rfl) r_C (q0 k)) (r_e2 (r_var rfl) r_C (q0 k)) (neS _ (hlayn _ (by omega))))) (r_orF (QY (r_e2 (r_e2 (r_var rfl) r_C (q2 k)) (r_e2 (r_var rfl) r_C (q2 k)) (hne2 k hk))) (QY (r_e2 (r_e2 (r_var rfl) r_C (q3 k)) (r_e2 (r_var rfl) r_C (q3 k)) (neI rfl))))) Qak)
  (Z (some (.k,.lln Hd)) (some (.k,O)) none none) ⟨_,_,rfl⟩
 have hfor:=Qbn (g:=gT [5,6]) (T:=QiK) (its:=itZ (e2 dIx (eVarL 2) (eC (.int 0))) (e2 dIx (eVar 3) (eC (.int 0)))) (ς:=Z (some (.k,.lln Hd)) (some (.k,O)) none none) (by rw[QxL (r_e2 (QhK rfl) r_C h0) (r_e2 (r_var rfl) r_C h0),QoJ]) hL
 have ht:∀ ς:SD,ς[4]?=some (some (.k,O))->ς[1]?=some (some (.k,P))->eA (fun xs=>Qbe (xs++[])) (aCons (eVar 4) (aCons (eVar 1) aNil)) ς=.ok (.bl true):=fun ς h4 h1=>Qan (xs:=[O,P]) (Qf (r_var h4) (Qf (r_var h1) r_nil)) rfl hT
 have hdr:dropL (Z (some (.k,.lln Hd)) (some (.k,O)) a5 a6)=[none,some (.k,P),none,none,some (.k,O),dropS a5,dropS a6]:=by
  show [(if noL S=true then some (SM.k,S) else none),(if noL P=true then some (SM.k,P) else none),none,none,(if noL O=true then some (SM.k,O) else none),dropS a5,dropS a6]=_
  rw[aD (by rw[nlS];decide),aA nlP,aA nlO]
 rw[Qyj]
 unfold Qnn
 refine Qad (fl:=.rt false (.bl true)) (r_seq (r_set (Qan (xs:=[S,.int 60]) (Qf (r_var rfl) (Qf r_C r_nil)) rfl hp) rfl) (Qw (Qxr (Qf (r_var rfl) r_nil) hh rfl ?_))) r_rt
 unfold QqY
 refine Qkp (ς':=Z (some (.k,.lln Hd)) none none none) (r_set (r_eA (Qf (r_var rfl) r_nil) hh) rfl) rfl (Qkp (ς':=Z (some (.k,.lln Hd)) (some (.k,O)) none none) (r_set hmk rfl) rfl (Qkp hfor rfl (Qkp (ς':=Z (some (.k,.lln Hd)) (some (.k,O)) a5 a6) ?_ rfl ?_)))
 ·exact Qc6 (r_orF (QY (r_e2 (r_slN (QhK rfl) rfl rfl hcut) (r_slN (r_var rfl) rfl rfl hcut) hne3)) (Qdg (QY (ht _ rfl rfl)))) Qak
 ·refine r_mSp (d:=.lln Hd) rfl hok hdr (r_var rfl) (r_e2 (Qan (xs:=[.int v1,.int 7]) (Qf (Qan (xs:=[S,.int 1]) (Qf (r_var rfl) (Qf r_C r_nil)) rfl hv1) (Qf r_C r_nil)) rfl hu) (r_eA (Qf (r_e2 (r_var rfl) r_C hPx) r_nil) hP1) (nmod u (by omega))) (by rw[nlO];rfl) hsp ?_ (r_ret (ht _ rfl rfl))
  show(okLn (rn n _)&&(okLn (rn nd _)&&(okLn (rn ne _)&&(okLn (rn n _)&&(okLn (rn _ _)&&true))))&&true)=true
  rw[Qh0 (by omega),Qh0 (by omega),Qh0 (by omega),Qh0 (by omega),Qh0 (by omega)];rfl
end My
namespace My
open PySem PySem.Spec L2 DL
set_option hygiene false
local macro_rules
 | `("N"^$x $s) => `(W.nsIn K mainGlobals $s=some (some (.ref $x)))
 | `("Z"^$s) => `(W.nsIn K mainGlobals $s=some none)
 | `("K"^$x) => `(W.keepIn K (.ref $x)=true)
 | `("G"^$x $s $y) => `(W.findIn K (.ref $x) $s=some (some (.ref $y)))
 | `("T"^$x $y $b) => `(W.kitOne K (.ref $x) (.ref $y)=some $b)
 | `("F"^$k $l $b $q) => `(FnOk l.prog w K mg base CX0 $k _ _ $l (SpD K (ctOf K) $b $q))
 | `("A"^$x) => `(W.mg_of X G $x)
set_option hygiene true
theorem all_mk{l:W.OpenLaw}{w:World}{K:W.Frag}{h:Heap}{mg:Str->Option Value}{fa:Addr}(X:K.In h)(G:h.Ns mainGlobals mg)(hfa:mg "law"=some (.ref fa))
 {QC Qv QE QD QI QeO Qgm Qgj Qey Qge Qh2 QgV Qex QgU Qgt Qfp Qgy Qgu QhD Qdt QcD Qa3 Qf5 QeF Qf2 Qgq Qil QgW Qim Qi3 Qsc:Addr} {Qxg Qs9:Option Addr} {Qxl:Array (Option Value)} {Qxh QsZ Qsw Qtx Qnp Qth:Value} {vi vj vk ve vo vb v8 vf:Tok}
 (QsL:"N"^QC "Deal")
 (QgK:Cls K QC)
 (Qod:"N"^Qv "Bundle")
 (Qeh:Cls K Qv)
 (Qsv:"N"^QE "Copy")
 (QgY:Cls K QE)
 (QsV:"N"^QD "Rows")
 (QgR:Cls K QD)
 (Qnx:"N"^QI "Office")
 (Qia:Cls K QI)
 (no_table:Vf K "table" none [QC,Qv,QE,QD,QI])
 (no_heads:Vf K "heads" none [QC,Qv,QE,QD,QI])
 (no_clerk_names:Vf K "clerk_names" none [QC,Qv,QE,QD,QI])
 (no_door_names:Vf K "door_names" none [QC,Qv,QE,QD,QI])
 (no_entry_places:Vf K "entry_places" none [QC,Qv,QE,QD,QI])
 (no_staff:Vf K "staff" none [QC,Qv,QE,QD,QI])
 (no_first_states:Vf K "first_states" none [QC,Qv,QE,QD,QI])
 (no_ways:Vf K "ways" none [QC,Qv,QE,QD,QI])
 (q_outs:Vf K "outs" (some (.ref Qh2)) [QC,Qv,QE,QD])
 (q_period:Vf K "period" (some (.ref QgV)) [QC,Qv,QE,QD])
 (q_leads:Vf K "leads" (some (.ref Qgu)) [QI])
 (q_begin:Vf K "begin" (some (.ref Qgy)) [QI])
 (q_entries:Vf K "entries" (some (.ref Qfp)) [QI])
 (q_doors:Vf K "doors" (some (.ref Qgt)) [QI])
 (q_names:Vf K "names" (some (.ref QgU)) [QI])
 (q_many:Vf K "many" (some (.ref QhD)) [QI])
 (q_text:Vf K "text" (some (.ref Qil)) [QC,Qv,QE,QD])
 (q_clerk:Vf K "clerk" (some (.ref QgW)) [QI])
 (q_keep_rows:Vf K "keep_rows" (some (.ref QeO)) [QC,Qv,QE,QD])
 (QoY:"G"^QC "word" Qf5)
 (Qnm:"G"^Qv "word" QeF)
 (Qpx:"G"^QE "word" Qf2)
 (Qpt:"G"^QD "word" Qgq)
 (Qk7:"G"^QC "numbers" Qdt)
 (Qjo:"G"^Qv "numbers" QcD)
 (QlR:"G"^QE "numbers" Qa3)
 (QlO:"G"^QD "numbers" Qa3)
 (Qqm:"G"^QC "__init__" Qgj)
 (Qm6:"G"^Qv "__init__" Qey)
 (QqQ:"G"^QE "__init__" Qge)
 (QqC:"G"^QD "__init__" Qgm)
 (Qm1:"G"^QI "__init__" Qex)
 (Qur:W.makesIn K QC=true)
 (Qun:"K"^QC)
 (QrW:W.makesIn K Qv=true)
 (Qr9:"K"^Qv)
 (QuA:W.makesIn K QE=true)
 (Qul:"K"^QE)
 (Quw:W.makesIn K QD=true)
 (Quz:"K"^QD)
 (Qrz:W.makesIn K QI=true)
 (Qrq:"K"^QI)
 (y1:W.specialIn K (.builtin "object.__class__") "__get__"=some (some (.builtin "getset_descriptor.__get__")))
 (y2:W.takesIn K (.builtin "object.__class__")=some true)
 (Qwu:W.findIn K (.ref QC) "__class__"=some (some (.builtin "object.__class__")))
 (QvD:W.mroIn K QC (.type "object")=some true)
 (Qt8:W.findIn K (.ref Qv) "__class__"=some (some (.builtin "object.__class__")))
 (QtT:W.mroIn K Qv (.type "object")=some true)
 (Qwy:W.findIn K (.ref QE) "__class__"=some (some (.builtin "object.__class__")))
 (QvS:W.mroIn K QE (.type "object")=some true)
 (QwB:W.findIn K (.ref QD) "__class__"=some (some (.builtin "object.__class__")))
 (QwI:W.mroIn K QD (.type "object")=some true)
 (Qtg:W.findIn K (.ref QI) "__class__"=some (some (.builtin "object.__class__")))
 (Qsy:W.mroIn K QI (.type "object")=some true)
 (Qo4:Dn K "_law_mixed" Qgb)
 (QpM:Dn K "_law_names" Qf3)
 (Qr8:Dn K "_law_cell" Qhc)
 (Qtr:Dn K "sums_of" QfC)
 (QkE:Dn K "running_sums" QbZ)
 (QiW:Mn K "keep_rows" "Clerk.keep_rows" Qbf QeO)
 (Qsg:Dn K "is_whole" Qhe)
 (Qo8:Dn K "is_within" Qgf)
 (Qum:Dn K "is_row" Qhl)
 (Qrr:Dn K "is_table" Qdi)
 (Qpc:Mn K "__init__" "Rows.__init__" Qgi Qgm)
 (QnQ:Dn K "single_row" Qc5)
 (QqK:Mn K "__init__" "Deal.__init__" Qd6 Qgj)
 (Qnj:Mn K "__init__" "Bundle.__init__" Qcp Qey)
 (Qqc:Mn K "__init__" "Copy.__init__" Qgp Qge)
 (Qpn:Dn K "_law_clerk" Qam)
 (Qr1:Dn K "_law_plan" QeT)
 (Qoe:"N"^Qim "_law_handed")
 (QoD:∃ fd,FunV K "_law_handed" "_law_handed" QaU Qim fd .none)
 (Qo0:Dn K "places_of" Qga)
 (QsB:Dn K "is_list" QhZ)
 (Qoh:Dn K "all_unlike" Qfo)
 (Qtp:Dn K "is_name" QfD)
 (Qp2:Dn K "are_names" Qeb)
 (QpK:Dn K "are_texts" Qed)
 (QrT:Dn K "is_clerk" Qg5)
 (QnR:Mn K "outs" "Clerk.outs" Qfb Qh2)
 (Ql1:Mn K "period" "Clerk.period" Qdz QgV)
 (QsW:Dn K "is_seat" Qio)
 (Qph:Dn K "are_seats" Qci)
 (Qr3:Dn K "is_entry" Qg7)
 (Qnb:Dn K "are_entries" Qbv)
 (Qsq:Dn K "leads_to" Qe3)
 (Qmz:Mn K "__init__" "Office.__init__" Qai Qex)
 (Qlk:Mn K "names" "Office.names" Qdu QgU)
 (QlK:Mn K "doors" "Office.doors" QdL Qgt)
 (Qjy:Mn K "entries" "Office.entries" Qcy Qfp)
 (QlS:Mn K "begin" "Office.begin" QdQ Qgy)
 (Ql7:Mn K "leads" "Office.leads" QdP Qgu)
 (Qqh:"N"^Qi3 "_law_spoil")
 (QpI:∃ fd,FunV K "_law_spoil" "_law_spoil" Qgo Qi3 fd .none)
 (Qr7:Dn K "_law_list" Qhn)
 (Qo6:Dn K "_law_whole" Qgc)
 (QmY:Mn K "many" "Office.many" QeL QhD)
 (QlQ:Mn K "numbers" "Deal.numbers" Qdp Qdt)
 (QjP:Mn K "numbers" "Bundle.numbers" QcC QcD)
 (Qse:Dn K "row_text" Qe0)
 (Qj8:Mn K "numbers" "Clerk.numbers" QbI Qa3)
 (QpO:Mn K "word" "Deal.word" Qf1 Qf5)
 (Qmy:Mn K "word" "Bundle.word" Qer QeF)
 (Qp0:Mn K "word" "Copy.word" Qgl Qf2)
 (Qpb:Mn K "word" "Rows.word" Qgg Qgq)
 (Qn5:Mn K "text" "Clerk.text" Qfg Qil)
 (QkP:Mn K "clerk" "Office.clerk" Qdq QgW)
 (QpT:Dn K "_law_tells" Qcm)
 (Qyk:"N"^Qsc "law")
 (Qyl:K.lookup Qsc=some ⟨Qxh,Qxg,.func (W.fnOf "law" "law" (QcK QeS) (QaT QeS) (Qd QeS) .none QsZ Qsw Qtx Qs9 Qnp Qth),Qxl⟩)
 (Qym:W.codeIn K Qnp "law"=true)
 (Qyi:"K"^Qsc)
 (z_range:"Z"^"range")
 (z_len:"Z"^"len")
 (z_zip:"Z"^"zip")
 (z_list:"Z"^"list")
 (z_isinstance:"Z"^"isinstance")
 (z_int:"Z"^"int")
 (z_bool:"Z"^"bool")
 (z_all:"Z"^"all")
 (z_str:"Z"^"str")
 (z_min:"Z"^"min")
 (z_enumerate:"Z"^"enumerate")
 (z_set:"Z"^"set")
 (z_tuple:"Z"^"tuple")
 (z_any:"Z"^"any")
 (c_MOST_OUTS:W.nsIn K mainGlobals "MOST_OUTS"=some (some (.int 6 vi)))
 (c_MOST_SENT:W.nsIn K mainGlobals "MOST_SENT"=some (some (.int 9 vj)))
 (c_MOST_ROWS:W.nsIn K mainGlobals "MOST_ROWS"=some (some (.int 12 vk)))
 (c_MOST_SIGNS:W.nsIn K mainGlobals "MOST_SIGNS"=some (some (.int 6 ve)))
 (c_LETTERS:W.nsIn K mainGlobals "LETTERS"=some (some (.str "abcdefghijklmnopqrstuvwxyz" vo)))
 (c_MOST_CLERKS:W.nsIn K mainGlobals "MOST_CLERKS"=some (some (.int 60 vb)))
 (c_MOST_ENTRIES:W.nsIn K mainGlobals "MOST_ENTRIES"=some (some (.int 6 v8)))
 (c_MOST_DOORS:W.nsIn K mainGlobals "MOST_DOORS"=some (some (.int 6 vf)))
 (Qna:"T"^QI QC false)
 (QqN:"T"^QD QC false)
 (Qp5:"T"^QE QC false)
 (Qng:"T"^Qv QC false)
 (QqD:"T"^QC QC true)
 (QjS:"T"^QI Qv false)
 (QmE:"T"^QD Qv false)
 (QmQ:"T"^QE Qv false)
 (Qkt:"T"^Qv Qv true)
 (Qnd:"T"^QC Qv false)
 (QmM:"T"^QI QE false)
 (Qqa:"T"^QD QE false)
 (Qqr:"T"^QE QE true)
 (QmJ:"T"^Qv QE false)
 (Qps:"T"^QC QE false)
 (Qm5:"T"^QI QD false)
 (QpV:"T"^QD QD true)
 (Qo2:"T"^QE QD false)
 (Qni:"T"^Qv QD false)
 (Qqb:"T"^QC QD false):
 ∃ fd:FuncData,(∀(s:Shared)(v:Value),BindsTo s fd ⟨[v],[]⟩ [("_law_script",v)])/\∀ base:Heap,K.In base->base.Ns mainGlobals mg->FnOk l.prog w K mg base CX0 9 fa fd ["_law_script"] (SpD K (ctOf K) false Qfy):=by
 have ee:=hfa.symm.trans ("A"^Qyk)
 cases ee
 have Qq7:="A"^QsL
 have Qb0:=ct_of QsL
 have Qma:="A"^Qod
 have Qa5:=ct_of Qod
 have Qrl:="A"^Qsv
 have Qb6:=ct_of Qsv
 have QqX:="A"^QsV
 have Qb2:=ct_of QsV
 have QsG:="A"^Qnx
 have QbR:=ct_of Qnx
 have ks_all:Ks K Ql [QC,Qv,QE,QD,QI]:=(QbA Qb0 QgK (QbA Qa5 Qeh (QbA Qb6 QgY (QbA Qb2 QgR (QbA QbR Qia QoS)))))
 have fo_table:FldOk K (ctOf K) Ql "table":=fo_of ks_all no_table
 have fo_heads:FldOk K (ctOf K) Ql "heads":=fo_of ks_all no_heads
 have fo_clerk_names:FldOk K (ctOf K) Ql "clerk_names":=fo_of ks_all no_clerk_names
 have fo_door_names:FldOk K (ctOf K) Ql "door_names":=fo_of ks_all no_door_names
 have fo_entry_places:FldOk K (ctOf K) Ql "entry_places":=fo_of ks_all no_entry_places
 have fo_staff:FldOk K (ctOf K) Ql "staff":=fo_of ks_all no_staff
 have fo_first_states:FldOk K (ctOf K) Ql "first_states":=fo_of ks_all no_first_states
 have fo_ways:FldOk K (ctOf K) Ql "ways":=fo_of ks_all no_ways
 have Qis:ClsD K QC:=⟨QgK,Qwu,y1,y2,QvD⟩
 have Qfz:ClsD K Qv:=⟨Qeh,Qt8,y1,y2,QtT⟩
 have QiJ:ClsD K QE:=⟨QgY,Qwy,y1,y2,QvS⟩
 have QiN:ClsD K QD:=⟨QgR,QwB,y1,y2,QwI⟩
 have QfL:ClsD K QI:=⟨Qia,Qtg,y1,y2,Qsy⟩
 obtain⟨QiU,QhV,Qb8⟩:=QiW
 have QiQ:=Qb8.kp
 have QiY:Binds K QhV ["self","rows"] []:=Qb8.b2 fun _ _ _ _ _ _ _ _=>rfl
 obtain⟨QpU,QnU,Qf8⟩:=Qpc
 have Qyf:=Qf8.kp
 have QpC:Binds K QnU ["self","rows"] []:=Qf8.b2 fun _ _ _ _ _ _ _ _=>rfl
 obtain⟨Qpr,Qny,Qgk⟩:=QqK
 have Qyg:=Qgk.kp
 have QpE:Binds K Qny ["self","many"] []:=Qgk.b2 fun _ _ _ _ _ _ _ _=>rfl
 obtain⟨Qm9,Qk8,QeD⟩:=Qnj
 have QwN:=QeD.kp
 have QmS:Binds K Qk8 ["self","size"] []:=QeD.b2 fun _ _ _ _ _ _ _ _=>rfl
 obtain⟨Qpl,QoI,Qgn⟩:=Qqc
 have Qyd:=Qgn.kp
 have QpN:Binds K QoI ["self","counts"] []:=Qgn.b2 fun _ _ _ _ _ _ _ _=>rfl
 obtain⟨QwP,Qfi⟩:=QoD
 obtain⟨QnE,QwM,Qfn⟩:=QnR
 obtain⟨QlP,Qvq,QdK⟩:=Ql1
 obtain⟨QmV,Qlq,QeJ⟩:=Qmz
 have QwL:=QeJ.kp
 have QmH:Binds K Qlq ["self","clerks","entries","doors"] []:=QeJ.b4 fun _ _ _ _ _ _ _ _ _ _=>rfl
 obtain⟨QkL,Qvr,QdG⟩:=Qlk
 obtain⟨QkI,Qvs,QdJ⟩:=QlK
 obtain⟨Qjn,Qui,QcB⟩:=Qjy
 obtain⟨QkU,Qvp,Qdr⟩:=QlS
 obtain⟨Ql2,Qvm,QdC⟩:=Ql7
 obtain⟨Qxa,Qf7⟩:=QpI
 obtain⟨QmA,Qwm,QeH⟩:=QmY
 obtain⟨QlG,Qj7,Qdw⟩:=QlQ
 have Ql6:=Qdw.kp
 have QkX:Binds K Qj7 ["self"] []:=Qdw.b1 fun _ _ _ _ _ _ _=>rfl
 obtain⟨QjG,QiP,QcH⟩:=QjP
 have Qje:=QcH.kp
 have Qjq:Binds K QiP ["self"] []:=QcH.b1 fun _ _ _ _ _ _ _=>rfl
 obtain⟨QfJ,QjC,QcW⟩:=Qj8
 have QfW:=QcW.kp
 have QfE:Binds K QjC ["self"] []:=QcW.b1 fun _ _ _ _ _ _ _=>rfl
 obtain⟨Qqi,QnS,Qf4⟩:=QpO
 have Qo1:=Qf4.kp
 have Qpg:Binds K QnS ["self"] []:=Qf4.b1 fun _ _ _ _ _ _ _=>rfl
 obtain⟨QmP,Qlr,Qes⟩:=Qmy
 have Qmx:=Qes.kp
 have QmB:Binds K Qlr ["self"] []:=Qes.b1 fun _ _ _ _ _ _ _=>rfl
 obtain⟨QqF,QoA,Qgd⟩:=Qp0
 have Qpv:=Qgd.kp
 have QpG:Binds K QoA ["self"] []:=Qgd.b1 fun _ _ _ _ _ _ _=>rfl
 obtain⟨QpY,Qn7,Qf6⟩:=Qpb
 have Qpi:=Qf6.kp
 have Qqy:Binds K Qn7 ["self"] []:=Qf6.b1 fun _ _ _ _ _ _ _=>rfl
 obtain⟨QoP,QwO,Qfe⟩:=Qn5
 obtain⟨Qlt,Qvo,QdD⟩:=QkP
 have Qvn:=funV_mk (st:=QeS) Qyl Qym Qyi
 have Qyq:=Qvn.binds (ps:=["_law_script"]) fun _ _ _ _ _ _ us hl=>match us,hl with | [_],_=>rfl
 have v3:mg "range"=none:=W.mg_none_of X G z_range
 have v2:mg "len"=none:=W.mg_none_of X G z_len
 have vq:mg "zip"=none:=W.mg_none_of X G z_zip
 have v1:mg "list"=none:=W.mg_none_of X G z_list
 have v0:mg "isinstance"=none:=W.mg_none_of X G z_isinstance
 have v9:mg "int"=none:=W.mg_none_of X G z_int
 have vc:mg "bool"=none:=W.mg_none_of X G z_bool
 have v4:mg "all"=none:=W.mg_none_of X G z_all
 have v5:mg "str"=none:=W.mg_none_of X G z_str
 have vr:mg "min"=none:=W.mg_none_of X G z_min
 have vl:mg "enumerate"=none:=W.mg_none_of X G z_enumerate
 have vs:mg "set"=none:=W.mg_none_of X G z_set
 have vm:mg "tuple"=none:=W.mg_none_of X G z_tuple
 have vt:mg "any"=none:=W.mg_none_of X G z_any
 have v6:="A"^c_MOST_OUTS
 have vn:="A"^c_MOST_SENT
 have v7:="A"^c_MOST_ROWS
 have vg:="A"^c_MOST_SIGNS
 have vp:="A"^c_LETTERS
 have vd:="A"^c_MOST_CLERKS
 have va:="A"^c_MOST_ENTRIES
 have vh:="A"^c_MOST_DOORS
 have QkQ:KitI K (ctOf K) (.ref QC) [("Deal",true),("Bundle",false),("Copy",false),("Rows",false),("Office",false)]:=(QP Qb0 Qis QqD (QP Qa5 Qfz Qng (QP Qb6 QiJ Qp5 (QP Qb2 QiN QqN (QP QbR QfL Qna Qg4)))))
 have Qii:KitI K (ctOf K) (.ref Qv) [("Deal",false),("Bundle",true),("Copy",false),("Rows",false),("Office",false)]:=(QP Qb0 Qis Qnd (QP Qa5 Qfz Qkt (QP Qb6 QiJ QmQ (QP Qb2 QiN QmE (QP QbR QfL QjS Qg4)))))
 have Qlp:KitI K (ctOf K) (.ref QE) [("Deal",false),("Bundle",false),("Copy",true),("Rows",false),("Office",false)]:=(QP Qb0 Qis Qps (QP Qa5 Qfz QmJ (QP Qb6 QiJ Qqr (QP Qb2 QiN Qqa (QP QbR QfL QmM Qg4)))))
 have Qld:KitI K (ctOf K) (.ref QD) [("Deal",false),("Bundle",false),("Copy",false),("Rows",true),("Office",false)]:=(QP Qb0 Qis Qqb (QP Qa5 Qfz Qni (QP Qb6 QiJ Qo2 (QP Qb2 QiN QpV (QP QbR QfL Qm5 Qg4)))))
 have Qaq:Ks K Qb [QC,Qv,QE,QD]:=(QbA Qb0 QgK (QbA Qa5 Qeh (QbA Qb6 QgY (QbA Qb2 QgR QoS))))
 have QbL:Ks K Qm [QI]:=(QbA QbR Qia QoS)
 refine⟨W.fnOf "law" "law" (QcK QeS) (QaT QeS) (Qd QeS) .none QsZ Qsw Qtx Qs9 Qnp Qth,fun s v=>.of_eq rfl,fun base _ _=>?_⟩
 have de := @dn_e l.prog w K h mg base (ctOf K) X G
 have mt := @mt_d l.prog w K mg base
 have Qi8:=de Qo4 (fun F=>QqP F) fun F=>F.b2 fun _ _ _ _ _ _ _ _=>rfl
 have Qql:=de QpM (fun F=>QqL F v3) fun F=>F.b2 fun _ _ _ _ _ _ _ _=>rfl
 have Qj0:=de Qr8 (fun F=>QrR F v2) fun F=>F.b2 fun _ _ _ _ _ _ _ _=>rfl
 have QtZ:=de Qtr (fun F=>Qug F vq) fun F=>F.b2 fun _ _ _ _ _ _ _ _=>rfl
 have Qls:=de QkE (fun F=>QlA F QtZ) fun F=>F.b1 fun _ _ _ _ _ _ _=>rfl
 have QiX:FnOk l.prog w K mg base (CXR l.prog w) 3 _ _ ["self","rows"] (SpI K (ctOf K) QG):=QiR Qb8 Qls v1 fo_table fo_heads
 have ms_keep_rows:MtOk l.prog w K mg base (ctOf K) (CXR l.prog w) "keep_rows" 3 Qb (fun _=>SpI K (ctOf K) QG):=mt_of Qaq q_keep_rows QiU QiQ QiX QiY
 have Qr5:=de Qsg (fun F=>Qsi F v0 v9 vc) fun F=>F.b1 fun _ _ _ _ _ _ _=>rfl
 have QdT:=de Qo8 (fun F=>QqH F Qr5) fun F=>F.b3 fun _ _ _ _ _ _ _ _ _=>rfl
 have Qoo:=de Qum (fun F=>QuP F QdT v0 v1 v2 v4 v6 ⟨_,rfl⟩ vn ⟨_,rfl⟩) fun F=>F.b1 fun _ _ _ _ _ _ _=>rfl
 have Qr2:=de Qrr (fun F=>QrK F Qoo v0 v1 v2 v4 v7 ⟨_,rfl⟩) fun F=>F.b1 fun _ _ _ _ _ _ _=>rfl
 have QpS:FnOk l.prog w K mg base (CXR l.prog w) 5 _ _ ["self","rows"] (SpI K (ctOf K) Qa7):=Qo9 Qf8 Qr2 ms_keep_rows
 have QkF:MkOk l.prog w K mg base (ctOf K) "Rows" 5 Qa7:=⟨QD,Qgm,_,_,Qb2,QqX,⟨Quw,QqC,QpU,Quz⟩,QpS,QpC⟩
 have Qn6:=de QnQ (fun F=>Qnu F v3) fun F=>F.b2 fun _ _ _ _ _ _ _ _=>rfl
 have Qpe:FnOk l.prog w K mg base (CXR l.prog w) 4 _ _ ["self","many"] (SpI K (ctOf K) Qbc):=QpP Qgk QdT Qn6 v3 v6 ⟨_,rfl⟩ ms_keep_rows
 have QlE:MkOk l.prog w K mg base (ctOf K) "Deal" 4 Qbc:=⟨QC,Qgj,_,_,Qb0,Qq7,⟨Qur,Qqm,Qpr,Qun⟩,Qpe,QpE⟩
 have QmU:FnOk l.prog w K mg base (CXR l.prog w) 4 _ _ ["self","size"] (SpI K (ctOf K) QaH):=QmN QeD QdT v3 v7 ⟨_,rfl⟩ ms_keep_rows
 have Qip:MkOk l.prog w K mg base (ctOf K) "Bundle" 4 QaH:=⟨Qv,Qey,_,_,Qa5,Qma,⟨QrW,Qm6,Qm9,Qr9⟩,QmU,QmS⟩
 have QoZ:FnOk l.prog w K mg base (CXR l.prog w) 4 _ _ ["self","counts"] (SpI K (ctOf K) Qa8):=QpF Qgn Qoo ms_keep_rows
 have Qlm:MkOk l.prog w K mg base (ctOf K) "Copy" 4 Qa8:=⟨QE,Qge,_,_,Qb6,Qrl,⟨QuA,QqQ,Qpl,Qul⟩,QoZ,QpN⟩
 have QpA:=de Qpn (fun F=>QpR F v3 v9 v5 v1 QlE Qip Qlm QkF) fun F=>F.b1 fun _ _ _ _ _ _ _=>rfl
 have Qst:=de Qr1 (fun F=>QrJ F Qi8 Qj0 Qql QpA v9 v2 v3 vr) fun F=>F.b2 fun _ _ _ _ _ _ _ _=>rfl
 have QnZ:DefH l.prog w K mg base (ctOf K) "_law_handed" 1 QaZ:=⟨_,_,_,QoO Qfi v1,"A"^Qoe,Qfi.kp,Qfi.b1 fun _ _ _ _ _ _ _=>rfl⟩
 have Qqo:=de Qo0 (fun F=>QqR F vl) fun F=>F.b2 fun _ _ _ _ _ _ _ _=>rfl
 have Qin:=de QsB (fun F=>QsD F v0 v1 v2) fun F=>F.b2 fun _ _ _ _ _ _ _ _=>rfl
 have Qfh:=de Qoh (fun F=>Qn3 F v2 vs) fun F=>F.b1 fun _ _ _ _ _ _ _=>rfl
 have Qig:=de Qtp (fun F=>QtK F v0 v5 v2 v4 vg ⟨_,rfl⟩ vp ⟨_,rfl⟩) fun F=>F.b1 fun _ _ _ _ _ _ _=>rfl
 have Qpk:=de Qp2 (fun F=>Qp3 F Qin Qig Qfh v4) fun F=>F.b2 fun _ _ _ _ _ _ _ _=>rfl
 have Qqp:=de QpK (fun F=>Qpm F v0 v1 v2 v4 v5) fun F=>F.b2 fun _ _ _ _ _ _ _ _=>rfl
 have Qsu:=de QrT (fun F=>QrG F v0 Qq7 Qma Qrl QqX QkQ Qii Qlp Qld) fun F=>F.b1 fun _ _ _ _ _ _ _=>rfl
 have mt_outs:=mt Qaq q_outs QnE Qfn (QnM Qfn v2 fo_table) (Qfn.b1 fun _ _ _ _ _ _ _=>rfl)
 have mt_period:=mt Qaq q_period QlP QdK (Qla QdK v2 fo_table) (QdK.b1 fun _ _ _ _ _ _ _=>rfl)
 have QsU:=de QsW (fun F=>Qs8 F Qig Qsu Qqp QdT v0 vm v2 mt_outs mt_period) fun F=>F.b1 fun _ _ _ _ _ _ _=>rfl
 have Qp4:=de Qph (fun F=>Qqj F Qin QsU Qfh v4 vd ⟨_,rfl⟩) fun F=>F.b2 fun _ _ _ _ _ _ _ _=>rfl
 have QrF:=de Qr3 (fun F=>QrZ F Qig v0 vm v2) fun F=>F.b2 fun _ _ _ _ _ _ _ _=>rfl
 have Qnk:=de Qnb (fun F=>Qm0 F Qin QrF Qfh v4 va ⟨_,rfl⟩) fun F=>F.b2 fun _ _ _ _ _ _ _ _=>rfl
 have Qsh:=de Qsq (fun F=>Qsn F) fun F=>F.b2 fun _ _ _ _ _ _ _ _=>rfl
 have QmI:FnOk l.prog w K mg base (CXR l.prog w) 5 _ _ ["self","clerks","entries","doors"] (SpI K (ctOf K) Qau):=Qne QeJ Qpk Qp4 Qnk Qqo Qsh vt v1 vh ⟨_,rfl⟩ fo_clerk_names fo_door_names fo_entry_places fo_staff fo_first_states fo_ways
 have Qic:MkOk l.prog w K mg base (ctOf K) "Office" 5 Qau:=⟨QI,Qex,_,_,QbR,QsG,⟨Qrz,Qm1,QmV,Qrq⟩,QmI,QmH⟩
 have mt_names:=mt QbL q_names QkL QdG (QkR QdG v1 fo_clerk_names) (QdG.b1 fun _ _ _ _ _ _ _=>rfl)
 have mt_doors:=mt QbL q_doors QkI QdJ (Qlo QdJ v1 fo_door_names) (QdJ.b1 fun _ _ _ _ _ _ _=>rfl)
 have mt_entries:=mt QbL q_entries Qjn QcB (Qjh QcB v1 fo_entry_places) (QcB.b1 fun _ _ _ _ _ _ _=>rfl)
 have mt_begin:=mt QbL q_begin QkU Qdr (Qli Qdr v1 fo_first_states) (Qdr.b1 fun _ _ _ _ _ _ _=>rfl)
 have mt_leads:=mt QbL q_leads Ql2 QdC (QkY QdC v1 fo_ways) (QdC.b2 fun _ _ _ _ _ _ _ _=>rfl)
 have Qqd:DefS l.prog w K mg base (ctOf K) "_law_spoil" 2 Qbz:=⟨_,_,_,QqO Qf7 mt_leads mt_begin mt_entries mt_doors mt_names,"A"^Qqh,Qf7.kp,Qf7.b3 fun _ _ _ _ _ _ _ _ _=>rfl⟩
 have QrI:=de Qr7 (fun F=>Qry F v0 v1 vc) fun F=>F.b2 fun _ _ _ _ _ _ _ _=>rfl
 have QqI:=de Qo6 (fun F=>Qpj F v0 v9 vc) fun F=>F.b1 fun _ _ _ _ _ _ _=>rfl
 have mt_many:=mt QbL q_many QmA QeH (QmO QeH v2 fo_clerk_names) (QeH.b1 fun _ _ _ _ _ _ _=>rfl)
 have Ql0:"F"^2 ["self"] false Qbm:=Qk9 Qdw v5 mt_period
 have Qjd:"F"^2 ["self"] false QaX:=QjI QcH v5 mt_period
 have Qsd:=de Qse (fun F=>Qsk F v2 v5) fun F=>F.b1 fun _ _ _ _ _ _ _=>rfl
 have Qf0:"F"^2 ["self"] false Qae:=Qj9 QcW Qsd fo_table
 have mt_numbers:MtOk l.prog w K mg base (ctOf K) CX0 "numbers" 2 Qb (fun c=>SpD K (ctOf K) false (Q9 c)):=by
  intro c hc
  have hm:c∈Qb:=by simpa using hc
  simp only[Qb,aF,aT,b6]at hm
  rcases hm with rfl | rfl | rfl | rfl
  ·exact⟨QC,Qdt,_,_,Qb0,QgK,⟨Qk7,QlG,Ql6⟩,(by simp only[QfS];exact Ql0.mono (by decide)),QkX⟩
  ·exact⟨Qv,QcD,_,_,Qa5,Qeh,⟨Qjo,QjG,Qje⟩,(by simp only[QeN];exact Qjd.mono (by decide)),Qjq⟩
  ·exact⟨QE,Qa3,_,_,Qb6,QgY,⟨QlR,QfJ,QfW⟩,(by simp only[QfN];exact Qf0.mono (by decide)),QfE⟩
  ·exact⟨QD,Qa3,_,_,Qb2,QgR,⟨QlO,QfJ,QfW⟩,(by simp only[QfU];exact Qf0.mono (by decide)),QfE⟩
 have Qqz:"F"^1 ["self"] false Qd0:=Qo3 Qf4
 have QmL:"F"^1 ["self"] false Qcw:=Qnf Qes
 have Qpd:"F"^1 ["self"] false QdV:=Qp9 Qgd
 have Qqe:"F"^1 ["self"] false Qec:=QqE Qf6
 have mt_word:MtOk l.prog w K mg base (ctOf K) CX0 "word" 1 Qb (fun c=>SpD K (ctOf K) false (QaQ c)):=by
  intro c hc
  have hm:c∈Qb:=by simpa using hc
  simp only[Qb,aF,aT,b6]at hm
  rcases hm with rfl | rfl | rfl | rfl
  ·exact⟨QC,Qf5,_,_,Qb0,QgK,⟨QoY,Qqi,Qo1⟩,(by simp only[Qif];exact Qqz.mono (by decide)),Qpg⟩
  ·exact⟨Qv,QeF,_,_,Qa5,Qeh,⟨Qnm,QmP,Qmx⟩,(by simp only[QgX];exact QmL.mono (by decide)),QmB⟩
  ·exact⟨QE,Qf2,_,_,Qb6,QgY,⟨Qpx,QqF,Qpv⟩,(by simp only[QhJ];exact Qpd.mono (by decide)),QpG⟩
  ·exact⟨QD,Qgq,_,_,Qb2,QgR,⟨Qpt,QpY,Qpi⟩,(by simp only[QhO];exact Qqe.mono (by decide)),Qqy⟩
 have mt_text:=mt Qaq q_text QoP Qfe (Qoy Qfe mt_word mt_numbers) (Qfe.b1 fun _ _ _ _ _ _ _=>rfl)
 have mt_clerk:=mt QbL q_clerk Qlt QdD (QkV QdD fo_staff) (QdD.b2 fun _ _ _ _ _ _ _ _=>rfl)
 have QpL:=de QpT (fun F=>Qqq F QrI QqI v2 v3 mt_doors mt_names mt_entries mt_begin mt_many mt_leads mt_text mt_clerk) fun F=>F.b2 fun _ _ _ _ _ _ _ _=>rfl
 have Qyh:"F"^9 ["_law_script"] false Qfy:=Qyn Qvn Qst QnZ QpL Qqd Qi8 Qj0 vq v2 Qic
 exact Qyh
theorem walk{l:W.OpenLaw}{q:Program}{loose:List Str}{XP:(Str->Option Value)->Heap->Prop}{YP:World->Heap->Prop}{d:DefRec}{K:Params->W.Frag}(hn:l.most=some 63)(hdf:d.params.defaults=[])
 (hY:∀(w:World)(h:Heap),YP w h->(K w.params).In h) (hlaw:∀ ns:List Int,ns.length<=63->(∀ z∈ns,bitsI z<=1048576)->Qfy [.lln (ns.map .int)]=.ok (.bl true))
 (F:∀(w:World)(mg:Str->Option Value)(fa:Addr)(h:Heap),(K w.params).In h->h.Ns mainGlobals mg->mg d.name=some (.ref fa)->
  ∃ fd:FuncData,(∀(s:Shared)(u:Value),BindsTo s fd ⟨[u],[]⟩ [("_law_script",u)])/\∀ base:Heap,(K w.params).In base->base.Ns mainGlobals mg->FnOk l.prog w (K w.params) mg base CX0 9 fa fd ["_law_script"] (SpD (K w.params) (ctOf (K w.params)) false Qfy)):
 W.WalkO q loose XP YP l.row.toRowW d [] (fun f vs=>PySem.call f vs):=
 DL.walk_of (n:=63) (k:=9) (x:="_law_script") (CX:=fun _=>CX0) (sp:=fun w=>SpD (K w.params) (ctOf (K w.params)) false Qfy) hn (by decide) hdf ⟨rfl,by decide,by decide⟩ hY F
  (fun w H a ns hl hbits _ hS=>⟨[.lln (ns.map .int)],H,cf H,⟨.ref a,[],rfl,⟨a,_,rfl,hS,RepL.map_int ns⟩,rfl⟩,by rw[hlaw ns hl hbits];exact fun v H' G' _ _ _ _ r=>r⟩) fun _ _ _ _ _ z=>z
end My
end
open PySem PySem.W PyProof.Rows
set_option maxRecDepth 100000 in
set_option maxHeartbeats 0 in
theorem PySem.Challenge.cw_dockethall_k22_an_office_tells_holds : PySem.Challenge.rw_dockethall_k22_an_office_tells.Holds := by
 w_on;o_law;k_head;(case hw=>w_witness2)
 k_fill
 refine My.walk (l:=PySem.Challenge.rw_dockethall_k22_an_office_tells) rfl rfl (fun w h Y=>PySem.W.kIn_of Y) My.the_law ?F
 case F=>
  intro w mg fa h KX G hmg
  refine' My.all_mk KX G hmg ..
  all_goals try first | k_is | kit_is | k_exc | kernel_rfl | rfl | (refine' ⟨_,DL.funV_mk ?_ ?_ ?_⟩<;>try k_is) | (refine' ⟨_,_,?_,DL.funV_mk ?_ ?_ ?_⟩<;>try k_is) | (refine' ⟨?_,_,DL.funV_mk ?_ ?_ ?_⟩<;>try k_is) | (refine' DL.vf_cons ?_ ?_<;>(repeat' first | exact DL.vf_nil | refine' DL.vf_cons ?_ ?_)<;>try k_is) | (refine' ⟨?_,?_,?_,?_⟩<;>try k_is)
