import PyProof.Rows.All
import Wide.All
import OpenK.AllK
import Wide.FinOn
import Lean
import PyProof.EqAt
import PyProof.EqKinds
import PyProof.TupleCall
import PyProof.ListRange
import PyProof.PureStr
import PyProof.MeetsStr3
import PyProof.Draws
import PySem.Challenge.RW_dockethall_k34_served_by_picks
namespace PySem.W.Fast
def tw12447610639500746714:=0
def tw5867503195317477853:=0
def tw10496553023394719565:=0
def tw576500149137014924:=0
def tw398924630464804248:=0
def tw8433137179180859384:=0
def tw6511451882926425451:=0
def tw17867999274657957532:=0
def tw7678447982000534408:=0
def tw3875043467799733507:=0
def tw15496471966383650692:=0
def tw4879644320441304720:=0
def tw15722992083467081206:=0
def tw75592731622239199:=0
def tw11111570828643524253:=0
def tw6086691958585740407:=0
def tw1298240921083130868:=0
def tw721787394015833106:=0
def tw14010275297210162901:=0
def tw3269872035531042194:=0
def tw8348051208148346967:=0
def tw3164644665768126423:=0
def tw771989445426919061:=0
def tw6728585591012568172:=0
def tw12932661909762640397:=0
def tw11921048190519703620:=0
def tw2832802856214840606:=0
def tw264739595359949404:=0
def tw17872033611208228268:=0
def tw17351240881796592064:=0
def tw254035500342303119:=0
def tw11843960302632577661:=0
def tw3574180964700866764:=0
def tw6461067389381042381:=0
def tw9879072880337244739:=0
def tw1693011774873260311:=0
def tw18289128874494318212:=0
def tw1795150599946080488:=0
def tw3586522059987095969:=0
def tw1407979103412261309:=0
def tw10049718820108757869:=0
def tw8464297486587521062:=0
def tw8964090010809435691:=0
def tw13913906691026952526:=0
def tw454508835219052636:=0
def tw10032074776736412437:=0
def tw13351023653589808035:=0
def tw4663748689468740206:=0
def tw9566295950305531841:=0
def tw10290915107235276845:=0
def tw14543201220984288462:=0
def tw4879353777348577265:=0
def tw15602931398736232981:=0
def tw6246724804434093:=0
def tw15947739011274983376:=0
def tw3782246282270415395:=0
def tw4312037015534258282:=0
def tw1983841198084023871:=0
def tw4362277217162188360:=0
def tw15747640243733568203:=0
def tw18267776076711028731:=0
def tw12112143225553985709:=0
def tw8589599365489344613:=0
def tw6599493031474028829:=0
def tw15277784107898765530:=0
def tw9795651784279372415:=0
def tw10715496862514421216:=0
def tw16810093148726566108:=0
def tw9177692997303875160:=0
def tw917785275098071731:=0
def tw771410091003096804:=0
def tw13497745785595898390:=0
def tw8206052879131293169:=0
def tw14516646430084050686:=0
def tw10858154506151399181:=0
def tw4102255480259616476:=0
def tw14842807220383838703:=0
def tw14626473124840244424:=0
def tw4127724034710947720:=0
def tw14050531951047861084:=0
def tw11951601982509925942:=0
def tw16596187000888070074:=0
def tw956780897943294190:=0
def tw344650020887627802:=0
def tw6132614058924757859:=0
def tw14959012694151364713:=0
def tw12032169829266052500:=0
def tw16361632609986782477:=0
def tw10139087253915633927:=0
def tw17295176627585137344:=0
def tw136888254988503666:=0
def tw852284686284958588:=0
def tw5473508038147993011:=0
def tw16660622841165693022:=0
def tw4949469775083137770:=0
def tw13479532454319358728:=0
def tw4836749450170272820:=0
def tw4153337783069379707:=0
def tw4129079269259601551:=0
def tw15670391639770748154:=0
def tw15768919050231520504:=0
def tw15762164340462950095:=0
def tw17922125392874941711:=0
def tw4632839993177526171:=0
def tw16533363337988968264:=0
def tw4916959091502873281:=0
def tw17832138337451939312:=0
def tw2578565084714508126:=0
def tw13587235877900803743:=0
def tw15353212234465022551:=0
def tw16386932583925770302:=0
def tw5729810487803807004:=0
def tw1898444852872208133:=0
def tw616022123367936769:=0
end PySem.W.Fast
set_option hygiene false
local macro_rules
 | `(‹"a"›) => `([some (.k,O),some (.k,Sd),some (.k,Kd),some (.k,Pd),some (.k,.int (M:Int)),some (.o,rl n (fun i=>.int ((run n t m ld pk s0 z).S i))),some (.o,rl n (fun i=>.int ((run n t m ld pk s0 z).K i))),some (.o,rl nd (fun i=>.int ((run n t m ld pk s0 z).G i))),some (.o,nz (rlog n t m ld pk s0 z)),some (.k,nz (rdK n (run n t m ld pk s0 z).K)),a10])
 | `(‹"b"›) => `(starEach (e::es) C.X.env=(false,eval e C.X.env)::starEach es C.X.env)
 | `(‹"c"›) => `(fun ys=>(if fits (acc++ys).length=true then Out.ok (D.lst (acc++ys)) else .stuck).post (fun d=>∀ H' G',StR C G' H' σ ς->Same H H'->Same G G'->G' p=none->Own C.X.K C.CT G' H' p d->Q (.ref p) H') C.XD)
 | `(‹"d"›) => `(.tup [rl n (fun i=>.int ((run n t m ld pk s0 L).S i)),rl n (fun i=>.int ((run n t m ld pk s0 L).K i)),rl nd (fun i=>.int ((run n t m ld pk s0 L).G i)),nz (rlog n t m ld pk s0 L)])
 | `(‹"e"›) => `(rdK n (run n t m ld pk s0 j).K)
 | `(‹"f"›) => `((x == ("__debug__":Str))=false)
 | `(‹"g"›) => `(eTup (aCons (eVar 6) (aCons (eVar 7) (aCons (eVar 8) (aCons (e2 dMod (e2 dIx (eVar 5) (eC (.int 3))) (eA fLen (aCons (eVar 7) aNil))) (aCons (eA (fun xs=>QaO (xs++[])) (aCons (eVar 1) (aCons (e2 dIx (eVar 5) (eC (.int 22))) (aCons (e2 dIx (eVar 5) (eC (.int 23))) aNil)))) aNil))))))
 | `(‹"h"›) => `(Inv X pins σ H s)
 | `(‹"i"›) => `(fun ς=>QL (Qx rfl ς))
 | `(‹"j"›) => `(starEach (e::es) X.env=(false,eval e X.env)::starEach es X.env)
 | `(‹"k"›) => `(model X.prog X.w)
 | `(‹"l"›) => `(Qe (r_var rfl) r_nil)
 | `(‹"m"›) => `(Value->Shared->Prop)
 | `(‹"n"›) => `(eMake "Office" Qbr (aCons (eVar 5) (aCons (eLst (aCons (eTup (aCons (eC (.str "in")) (aCons (e2 dIx (e2 dIx (eVar 1) (eC (.int 0))) (eC (.int 4))) aNil))) aNil)) (aCons (eVar 4) aNil))))
 | `(‹"o"›) => `(uIf (tVal (e2 dEq (eVar 10) (eC (.int 1)))) (Qo3 11 3 [.non] QaY (aCons (eVar 3) (aCons (e2 dIx (eVar 9) (eC (.int 0))) (aCons (e2 dIx (eVar 9) (eC (.int 1))) aNil))) (eVar 8)) (uSeq (sSet 8 (eC (.int 2000))) (uCall 11 (fun xs=>QaY (xs++[.non,(.int 2000)])) (aCons (eVar 3) (aCons (e2 dIx (eVar 9) (eC (.int 0))) (aCons (e2 dIx (eVar 9) (eC (.int 1))) aNil))))))
 | `(‹"p"›) => `(.builtin "object.__class__")
 | `(‹"q"›) => `(planD kd t m ld st nm)
 | `(‹"r"›) => `(List (Addr×Obj))
 | `(‹"s"›) => `(.ListComp elt [⟨tg,iter,ifs,0⟩] scope pos)
 | `(‹"t"›) => `((x == ("__classdict__":Str))=false)
 | `(‹"u"›) => `(fun d=>.str (dn d))
 | `(‹"v"›) => `([some (.k,S),some (.k,.int (n:Int)),some (.o,rl k (fun i=>.int (K i))),some (.k,.int (k:Int)),some (.k,.int w),some (.k,G),some (.k,.int (g 24 % 6))])
 | `(‹"w"›) => `(0+dkt (m (pkN pk ‹"e"› j)) (ld (pkN pk ‹"e"› j)) (rw' (t (pkN pk ‹"e"› j)) ((run n t m ld pk s0 j).S (pkN pk ‹"e"› j))) (-1 - (i:Int)))
 | `(‹"x"›) => `([some (.k,P),some (.k,.int (nd:Int)),some (.k,rl n (fun i=>.int (S i))),some (.k,rl n (fun i=>.int (K i))),some (.k,.int (k:Int)),some (.k,Tk),some (.k,Ls),some (.k,Rs),some (.o,rl n (fun i=>.int (up1 t S k i))),some (.o,rl n (fun i=>.int (F i))),some (.o,rl nd (fun _=>.int 0)),none])
 | `(‹"y"›) => `(e2 dIx (eVar 0) (eC (.int 1)))
 | `(‹"z"›) => `(QV (DE.db (de_ix (Qb 0 rfl (Or.inr (oi Qbi))) (DE.db Qd))) (DE.db (de_ix (DF.de (Qay (Qc Qd (Qc Qd Qj)))) (DE.db (Qb 1 rfl (Or.inr (oi QeJ)))))))
 | `(‹"A"›) => `(seatD nm dn c t m ld st)
 | `(‹"B"›) => `(ccOf C N' scope fp s H G p)
 | `(‹"C"›) => `([some (.k,P),some (.k,.int (nd:Int)),some (.k,Sd),some (.k,Kd),some (.k,.int (k:Int)),some (.k,Tk),some (.k,Ls),some (.k,Rs),some (.o,Ud),some (.o,rl n (fun i=>.int (F i+dkt j l w (i:Int)))),some (.o,rl nd (fun i=>.int (0+dkt j l w (-1 - (i:Int))))),some (.k,.int (j:Int))])
 | `(‹"D"›) => `(.Call (.Name x p) (e::es) [] pos)
 | `(‹"E"›) => `(.tup [rl n (fun i=>.int ((run n t m ld pk ⟨st,K,fun _=>0⟩ L).S i)),rl n (fun i=>.int ((run n t m ld pk ⟨st,K,fun _=>0⟩ L).K i)),rl nd (fun i=>.int ((run n t m ld pk ⟨st,K,fun _=>0⟩ L).G i)),nz (rlog n t m ld pk ⟨st,K,fun _=>0⟩ L)])
 | `(‹"F"›) => `(fun c hc=>⟨(fp c hc).2.2.2.1,(fp c hc).2.1,(fp c hc).2.2.2.2.1,(fp c hc).2.2.2.2.2⟩)
 | `(‹"G"›) => `(eA fLen (aCons (eVar 0) aNil))
 | `(‹"H"›) => `(e2 dIx (eVar 0) (eC (.int 0)))
 | `(‹"I"›) => `([some (.k,P),some (.k,.int (nd:Int)),some (.k,rl n (fun i=>.int (s0.S i))),some (.k,rl n (fun i=>.int (s0.K i))),some (.k,Pk),some (.k,.int (M:Int)),some (.k,F),some (.k,rl nd (fun i=>.int ((run n t m ld pk s0 0).G i))),none,none,none,none])
 | `(‹"J"›) => `(fun i=>.int (g i))
 | `(‹"K"›) => `([some (.k,d0),some (.k,d1)])
 | `(‹"L"›) => `((.k,rl n (fun k=>.str (nm k))))
 | `(‹"M"›) => `([some (.k,.int cell),some (.k,.int (k:Int)),some (.k,.int (n:Int)),some (.k,.int (nd:Int)),some (.k,.bl ring),some (.k,G),some (.k,.int w),some (.k,Td),some (.o,rl j (fun j=>.int (ld j))),some (.k,.int (j:Int)),some (.k,.int z)])
 | `(‹"N"›) => `([some (.k,.int cell),some (.k,.int (k:Int)),some (.k,.int (n:Int)),some (.k,.int (nd:Int)),some (.k,.bl ring),some (.k,G),some (.k,.int w),some (.k,Td),some (.o,rl j (fun j=>.int (ld j))),some (.k,.int (j:Int)),some (.k,.int y)])
 | `(‹"O"›) => `(List (Option Nat))
 | `(‹"P"›) => `(de_ix (Qb 6 rfl (oi QJ)) (DE.db Qd))
 | `(‹"Q"›) => `(DE.db (de_ix (Qb 6 rfl (oi QaI)) (DE.db (Qb 11 rfl (oi QaU)))))
 | `(‹"R"›) => `(Str->Option Value)
 | `(‹"S"›) => `(e2 dAdd (e2 dAdd (e2 dMul (e2 dAdd (e2 dMod (eVar 0) (eC (.int 1000000007))) (eC (.int 1))) (eC (.int 6364136223846793005))) (e2 dMul (e2 dMul (eC (.int 7919)) (eVar 1)) (eVar 1))) (e2 dMul (eC (.int 31)) (eVar 1)))
 | `(‹"T"›) => `(fun j=>.int (ld k j))
 | `(‹"U"›) => `(planD (fun i=>if i<k then kd i else w') (fun i=>if i<k then t i else t') (fun i=>if i<k then m i else m') (fun i=>if i<k then ld i else ld') (fun i=>if i<k then st i else s') (fun i=>if i<k then nm i else x'))
 | `(‹"V"›) => `(Qe (r_var rfl) (Qe (r_var rfl) ‹"l"›))
 | `(‹"W"›) => `(sRet (eC (.bl false)))
 | `(‹"X"›) => `(aCons (eVar 1) aNil)
local macro_rules
 | `(‹"Y"›) => `(Str->List (Str×D)->List D->Out (List (Str×D)))
 | `(‹"Z"›) => `(FnOk X.prog X.w X.K X.mg X.base CX k f fd ps sp)
 | `(‹"aa"›) => `(fun i=>.int (K i))
 | `(‹"ab"›) => `((.k,.int (k:Int)))
 | `(‹"ac"›) => `(uCall 11 (fun xs=>QaY (xs++[])) (aCons (eVar 3) (aCons (e2 dIx (eVar 9) (eC (.int 0))) (aCons (e2 dIx (eVar 9) (eC (.int 1))) (aCons (e2 dIx (eVar 9) (eC (.int 2))) (aCons (eVar 8) aNil))))))
 | `(‹"ad"›) => `([some (.s,.ins "Office" F),some (.k,S),some (.k,E),some (.k,Do),some (.k,N),some (.k,P),some (.k,W)])
 | `(‹"ae"›) => `(A.deeper (envOfC qual (Qa st) s.heap.objs.size f cdv))
 | `(‹"af"›) => `(MtOk P w K mg base CT (CXR P w) "keep_rows" 3 Qf (fun _=>SpI K CT QS))
 | `(‹"ag"›) => `(PyData.eqvAll (D.pys (a.map D.int)) (D.pys (a.map D.int))&&(PyData.eqvAll (D.pys (b.map D.int)) (D.pys (b.map D.int))&&(PyData.eqvAll (D.pys (c.map D.int)) (D.pys (c.map D.int))&&true)))
 | `(‹"ah"›) => `((.k,.int (nd:Int)))
 | `(‹"ai"›) => `(fun x ς=>g x ς>>=fun ς'=>T ς')
 | `(‹"aj"›) => `([some (.s,rl n (fun i=>D.int (F i+dkt j l w (i:Int)))),some (.s,rl nd (fun i=>.int (G i+dkt j l w (-1 - (i:Int))))),some (.k,Nu),some (.k,Wu),some (.k,.int (l j)),some (.k,.int (w j))])
 | `(‹"ak"›) => `(SD->Out (List D))
 | `(‹"al"›) => `(fun i=>.int (dn1 K k i+dkt (m k) (ld k) (rw' (t k) (S k)) (i:Int)))
 | `(‹"am"›) => `(MtOk C.X.prog C.X.w C.X.K C.X.mg C.X.base C.CT CX0 name k cs (fun c=>SpD C.X.K C.CT fr (mt c)))
 | `(‹"an"›) => `(some (.builtin "object.__setattr__"))
 | `(‹"ao"›) => `(de_ix (Qb 9 rfl (oi Qat)) (DE.db Qd))
 | `(‹"ap"›) => `(.builtin "getset_descriptor.__get__")
 | `(‹"aq"›) => `(dkt j l w (-1 - (i:Int))+if l j = -1 - (i:Int) then w j else 0)
 | `(‹"ar"›) => `(Nat.le_refl _)
 | `(‹"as"›) => `(List.mem_append_right _ (List.mem_append_right _ (QkT hb e)))
 | `(‹"at"›) => `(.tup [.lst (a.map .int),.lst (b.map .int),.lst (c.map .int)])
 | `(‹"au"›) => `(StR C G H σ ς)
 | `(‹"av"›) => `(KD.later kd (a1.trans a2) (b1.trans b2))
 | `(‹"aw"›) => `((.k,.int (n:Int)))
 | `(‹"ax"›) => `(seatD nm dn c t m ld st k)
 | `(‹"ay"›) => `(tAnd' (tVal (e2 dEq (e2 dMod (eVar 4) (eC (.int 2))) (eC (.int 0)))) (tVal (e2 dEq (e2 dMod (e2 dIx (eVar 5) (eC (.int 25))) (eC (.int 4))) (eC (.int 3)))))
 | `(‹"az"›) => `(some (.k,.tup (xss.map .lst)))
 | `(‹"aA"›) => `(Qe (r_var rfl) (Qe r_C r_nil))
 | `(‹"aB"›) => `(e2 dMod (e2 dAdd (e2 dAdd (e2 dMul (eVar 2) (eVar 2)) (e2 dMul (e2 dMul (eC (.int 69621)) (eVar 1)) (eVar 1))) (eVar 1)) (eC (.int 2305843009213693951)))
 | `(‹"aC"›) => `(starEach es C.X.env)
 | `(‹"aD"›) => `([some ‹"L"›,some (.k,rl nd ‹"u"›),some (.o,.dic []),none,none,none,none])
 | `(‹"aE"›) => `(de_ix (Qb 0 rfl (oi Qbj)) (DE.db Qd))
 | `(‹"aF"›) => `(F i+(dkt j l w (i:Int)+if l j=(i:Int) then w j else 0))
 | `(‹"aG"›) => `([some (.k,.int cell),some ‹"ab"›,some ‹"aw"›,some ‹"ah"›,some (.k,.bl ring),some (.k,G),some (.k,.int w),some (.k,Td),some (.o,.lst []),none,none])
 | `(‹"aH"›) => `(if ([]:List Keyword).isEmpty then 0 else 1)
 | `(‹"aI"›) => `(Qdy (i:=i) hN hv hd hcd)
 | `(‹"aJ"›) => `(eA fLen (aCons (e2 dIx (eVar 6) (eC (.int 3))) aNil))
 | `(‹"aK"›) => `(e1 dNeg (eC (.int 1)))
 | `(‹"aL"›) => `(PassesOwn (model C.X.prog C.X.w) C.X.A C.X.env C.X.xe)
 | `(‹"aM"›) => `(fun i=>.int ((run n t m ld pk s0 L).S i))
 | `(‹"aN"›) => `(fun i=>.int ((run n t m ld pk s0 L).K i))
 | `(‹"aO"›) => `(fun i=>.int ((run n t m ld pk s0 L).G i))
 | `(‹"aP"›) => `(Nat.ne_of_lt (Nat.lt_of_lt_of_le (Heap.lt_size e) (I.ok.cab x c hfn hc)))
 | `(‹"aQ"›) => `([some (.k,.int (f:Int)),some (.k,.int d),some (.k,.int g),some (.k,.str "abcdefghijklmnopqrstuvwxyz"),some (.k,.str ⟨#[97+f]⟩),none])
 | `(‹"aR"›) => `(∀ fp s H G p,DG ‹"B"› tg g/\DIf ‹"B"› ifs c/\DE ‹"B"› elt e)
 | `(‹"aS"›) => `(ds.map (fun d=>some (.k,d))++List.replicate (N.length - ps.length) none)
 | `(‹"aT"›) => `(some (.ref p))
 | `(‹"aU"›) => `([some (.k,S),some (.k,.int 12),some (.k,.int v),some (.k,G),some ‹"aw"›,some ‹"ah"›,some (.k,.bl ring),some (.o,.lst []),none])
 | `(‹"aV"›) => `(.nx [some (.s,.ins "Office" (offF n nd nm dn c t m ld st)),some (.k,S),some (.k,E),some (.k,Do),some (.k,N),some (.k,P),some (.k,W)])
local macro_rules
 | `(‹"aW"›) => `(-1 - (i:Int))
 | `(‹"aX"›) => `(eA (fun xs=>QY (xs++[])) (aCons (eA (fun xs=>Q7 (xs++[])) (aCons (eVar 0) (aCons (eC (.int 0)) aNil))) (aCons (eC (.int 6)) aNil)))
 | `(‹"aY"›) => `(List (List Int))
 | `(‹"aZ"›) => `(r_e2 (r_var rfl) r_C x3)
 | `(‹"ba"›) => `(ha pins s σ H _ I h)
 | `(‹"bb"›) => `(fun j=>.str (nml nm dn (ld k j)))
 | `(‹"bc"›) => `(fun i=>D.int (K i))
 | `(‹"bd"›) => `(fun i=>.int (st i))
 | `(‹"be"›) => `((fun d=>∀ v H' G',Same G0 G'->Same H H'->Same G' H'->(∀ b,G0 b=none->G' b≠none->H b=none)->RetG K CT fr H G' H' d v->Q v H'))
 | `(‹"bf"›) => `(e2 dLt (eA fLen (aCons (eVarB 8) aNil)) (eVar 4))
 | `(‹"bg"›) => `(SD->Out (SD×List (List D)))
 | `(‹"bh"›) => `(e2 dIx (eVar 9) (e2 dMod (e2 dIx (eVar 4) (e2 dMod (eVar 8) (eA fLen (aCons (eVar 4) aNil)))) (eA fLen (aCons (eVar 9) aNil))))
 | `(‹"bi"›) => `(F i+dkt j l w (i:Int))
 | `(‹"bj"›) => `(QV (DE.db (Qio (DE.db (Qb 7 rfl (oi QcK))) (DE.db Qd))) (DE.db Qd))
 | `(‹"bk"›) => `(sSet 4 (e2 dMod (e2 dIx (eVar 0) (eC (.int 2))) (e2 dIx (eLst (aCons (eC (.int 7)) (aCons (eC (.int 4)) aNil))) (eVar 1))))
 | `(‹"bl"›) => `(fun k=>ck (c k) (t k) (m k))
 | `(‹"bm"›) => `(Nat.lt_of_lt_of_le (Heap.lt_size e) I.ok.above)
 | `(‹"bn"›) => `(ha pos pins s σ H _ I h)
 | `(‹"bo"›) => `(mg "isinstance"=none)
 | `(‹"bp"›) => `(rdK n (run n t m ld pk s0 z).K)
 | `(‹"bq"›) => `(fun i=>.int (G i+dkt (m k) (ld k) (rw' (t k) (S k)) ‹"aW"›))
 | `(‹"br"›) => `(starEach [a] C.X.env=(false,eval a C.X.env)::starEach [] C.X.env)
 | `(‹"bs"›) => `(e2 dAdd (eC (.int 1)) (e2 dMod ‹"y"› (e2 dIx (eLst (aCons (eC (.int 12)) (aCons (eC (.int 4)) aNil))) (eVar 1))))
 | `(‹"bt"›) => `(.builtin "type.__call__" ⟨.ref C::us,kw⟩)
 | `(‹"bu"›) => `(e2 dAdd (eC (.int 1)) (e2 dMod ‹"y"› (e2 dIx (eLst (aCons (eC (.int 6)) (aCons (eC (.int 4)) aNil))) (eVar 1))))
 | `(‹"bv"›) => `(onTheHeap (Value.ref D)&&Value.builtin "BaseException.__getattribute__" == Value.builtin "object.__getattribute__")
 | `(‹"bw"›) => `((["clerk_names","door_names","entry_places","staff","first_states","ways"]:List Str).all (fun y => !(x == y))=true)
 | `(‹"bx"›) => `(rlog n t m ld pk s0 L)
 | `(‹"by"›) => `(QbR fun _ _=>rfl)
 | `(‹"bz"›) => `(sRet (eTup (aCons (eVar 2) (aCons (eComp [none,some 0,some 4,some 1] (itR1 (eVar 3)) (gN 0) cTrue Qie) aNil))))
 | `(‹"bA"›) => `(DI.b (QaD Qg2 z_range (DE.db (Qb 3 rfl (Or.inr (oi Qbd))))))
 | `(‹"bB"›) => `(DE.db (Qb 8 rfl (oi Qal)))
 | `(‹"bC"›) => `(DE.db (Qb 4 rfl (oi Qbg)))
 | `(‹"bD"›) => `([some (.s,.ins c fds),some (.k,d1)])
 | `(‹"bE"›) => `(Nat->List (List Int))
 | `(‹"bF"›) => `(eA (f1 dInt) (aCons (e2 dGt (e2 dMod (e2 dFdiv (eVar 7) (eC (.int 604))) (eC (.int 8))) (eC (.int 0))) aNil))
 | `(‹"bG"›) => `(.tup [.str "in",.str (nm 0)])
 | `(‹"bH"›) => `(.str "abcdefghijklmnopqrstuvwxyz")
 | `(‹"bI"›) => `(Vis C.X.env.scope x)
 | `(‹"bJ"›) => `(r.1.set i (some (.k,.tup (r.2.map .lst))))
 | `(‹"bK"›) => `(r_e2 (r_eA (Qe (Qdg rfl) r_nil) h2) (r_var rfl) (QbC _ _))
 | `(‹"bL"›) => `(model prog w)
 | `(‹"bM"›) => `((fun x y H Q=>∃ i j,x=.str i/\y=.str j/\Q (.bl (!(Builtin.Str.occurrences j i 0 j.length 1).isEmpty)) H))
 | `(‹"bN"›) => `(QbD X.env scope.names [])
 | `(‹"bO"›) => `(.Call (.Attribute (.Name x px) name apos) (e::es) [] pos)
 | `(‹"bP"›) => `(fun o=>(compM (turnC js g c e ς) (xs.drop (i+1))>>=fun ys=>Out.ok (o.toList++ys)).post ‹"c"› C.XD)
 | `(‹"bQ"›) => `(cxOf CX P w K mg base N qual scope f cdv A outer s H E)
 | `(‹"bR"›) => `([some (.s,.ins "Office" []),some (.k,S),some (.k,E),some (.k,Do),some (.k,N),some (.k,P),some (.k,W)])
 | `(‹"bS"›) => `([some (.s,.ins "Office" F5),some (.k,S),some (.k,E),some (.k,Do),some (.k,N),some (.k,P),some (.k,W)])
 | `(‹"bT"›) => `([some (.s,.ins "Office" F4),some (.k,S),some (.k,E),some (.k,Do),some (.k,N),some (.k,P),some (.k,W)])
local macro_rules
 | `(‹"bU"›) => `([some (.s,.ins "Office" F3),some (.k,S),some (.k,E),some (.k,Do),some (.k,N),some (.k,P),some (.k,W)])
 | `(‹"bV"›) => `([some (.s,.ins "Office" F2),some (.k,S),some (.k,E),some (.k,Do),some (.k,N),some (.k,P),some (.k,W)])
 | `(‹"bW"›) => `([some (.s,.ins "Office" F1),some (.k,S),some (.k,E),some (.k,Do),some (.k,N),some (.k,P),some (.k,W)])
 | `(‹"bX"›) => `((.k,.int (M:Int)))
 | `(‹"bY"›) => `(dt_eq hr.units (DE.db (Qb 2 rfl (oi QaM))) (DE.db Qd))
 | `(‹"bZ"›) => `(dt_eq hr.units (DE.db (Qb 0 rfl (oi Qed))) (DE.db Qd))
 | `(‹"ca"›) => `(aCons (eVar 4) (aCons (eVar 5) (aCons (eVar 6) aNil)))
 | `(‹"cb"›) => `(Qe (r_var rfl) (Qe (r_e2 (r_var rfl) r_C (x0 _ _ _)) (Qe (r_e2 (r_var rfl) r_C (x1 _ _ _)) r_nil)))
 | `(‹"cc"›) => `(Qaj (xs:=[S,.int (1+(k:Int))]) (Qe (r_var rfl) (Qe (r_e2 r_C (r_var rfl) (Qae _ _)) r_nil)) rfl hw)
 | `(‹"cd"›) => `(HT.sIx xs.length xs.length hi - HT.sIx xs.length 0 lo)
 | `(‹"ce"›) => `((.k,rl nd ‹"u"›))
 | `(‹"cf"›) => `(List D->Out (D×Option (List D)))
 | `(‹"cg"›) => `(CK.contains c=true)
 | `(‹"ch"›) => `(e2 dGt (eA fLen (aCons (eVar 9) aNil)) (eC (.int 0)))
 | `(‹"ci"›) => `((fun ds=>∀ vs H' G',StR C G' H' σ ς->Same H H'->Same G G'->RepL C.X.K C.CT H' ds vs->Q vs H'))
 | `(‹"cj"›) => `((fun ds=>∀ vs H' G',StR C G' H' σ ς->Same H H'->Same G G'->RepL C.X.K C.CT G' ds vs->Q vs H'))
 | `(‹"ck"›) => `((fun ds=>∀ J H1 G1,StR C G1 H1 σ ς->Same H H1->Same G G1->DItB C.X.K C.CT H1 G1 J ds->R J H1))
 | `(‹"cl"›) => `([some (.k,d0),some (.k,d1),some (.k,d2),some (.k,d3),some (.k,d4),none,none,none,none,none,none])
 | `(‹"cm"›) => `(Qaj (xs:=[.int v,.int 6]) (Qe (Qaj (xs:=[S,.int 0]) ‹"aA"› rfl hv) (Qe r_C r_nil)) rfl hdg)
 | `(‹"cn"›) => `(fun k=>rl (m k) ‹"T"›)
 | `(‹"co"›) => `(fun i=>.int (up1 t S k i))
 | `(‹"cp"›) => `(e2 dIx (eVar 6) (eVar 11))
 | `(‹"cq"›) => `(F i+dkt (j+1) l w (i:Int))
 | `(‹"cr"›) => `(DE.db (Qb 1 rfl (oi Qbz)))
 | `(‹"cs"›) => `([some (.s,.ins c [("table",tbD t)]),some (.k,tbD t)])
 | `(‹"ct"›) => `([some (.k,tbD t),some (.o,hdD t m k),some (.k,dl r)])
 | `(‹"cu"›) => `(he pins s σ H _ I h)
 | `(‹"cv"›) => `(DE.db (QlG (DE.db Qd)))
 | `(‹"cw"›) => `(.int (k:Int))
 | `(‹"cx"›) => `(fun r s'=>r=.ok (.ret (.bool true))/\OldK s₁.heap s'.heap/\s'.os=s₁.os/\AllBare s'.gens)
 | `(‹"cy"›) => `(s.heap.push { cls:=.type "dict",data:=.dict #[] })
 | `(‹"cz"›) => `(starEach es X.env)
 | `(‹"cA"›) => `(DE.db (Qe8 (Qc (Qb 4 rfl (oi QcG)) (Qc (Qb 5 rfl (oi QbB)) (Qc (Qb 6 rfl (oi Qbu)) Qj)))))
 | `(‹"cB"›) => `(.int ((S k+1) % ((t k).length:Int)))
 | `(‹"cC"›) => `(rl (m k) ‹"T"›)
 | `(‹"cD"›) => `(fun i=>D.int (g i))
 | `(‹"cE"›) => `(Qh (QE de_bl))
 | `(‹"cF"›) => `(.Subscript (.Name x p1) a p2)
 | `(‹"cG"›) => `(starEach (.Name x px::es) C.X.env=(false,eval (.Name x px) C.X.env)::starEach es C.X.env)
 | `(‹"cH"›) => `(if (p:Int)=(i:Int) then w j else 0)
 | `(‹"cI"›) => `(e2 dMod (e2 dIx (eVar 5) (e2 dAdd (eC (.int 4)) (eVar 9))) (e2 dAdd (eVar 2) (eVar 3)))
 | `(‹"cJ"›) => `(r_or' (QH (r_e2 (r_var rfl) r_C his)) (QbO rfl (QH (r_e2 (r_eA ‹"l"› h2) r_C e))))
 | `(‹"cK"›) => `(fun _=>.bl true)
 | `(‹"cL"›) => `(offF n nd nm dn c t m ld st)
 | `(‹"cM"›) => `(offD n nd nm dn c t m ld st)
 | `(‹"cN"›) => `(eIsa (isaT "list") (eVar 0))
 | `(‹"cO"›) => `(DE.db (Q6 Qbt z_len (Qu (DE.db ‹"P"›) Qz)))
 | `(‹"cP"›) => `(W.fnOf "served" "served" (Qq QT) (Qp QT) (Qa QT) (.ref QpY) Qtu Qse Qtp Qr4 Qni QtH)
 | `(‹"cQ"›) => `(DE.db (Qwd (DE.db Qd) (DE.db Qd)))
 | `(‹"cR"›) => `(binT ha hb I h fun v u s2 x y H2 I2 rx ry q=>ho pins s2 σ H2 x y v u Q I2 rx ry q)
local macro_rules
 | `(‹"cS"›) => `(tOr' (tVal (e2 dNe (eVar 6) (eLst aNil))) (tVal (e2 dEq (eVar 10) (eC (.int 0)))))
 | `(‹"cT"›) => `(.lst (((List.range n).filter fun i=>decide (0<f i)).map fun i:Nat=>D.int (i:Int)))
 | `(‹"cU"›) => `(List (List Key×Addr×Value))
 | `(‹"cV"›) => `(turnC js g c e ς)
 | `(‹"cW"›) => `(thn ‹"bn"› fun us s1 ⟨vs,H1,I1,r1,q1⟩=>hc pins s1 σ H1 vs us Q I1 r1 q1)
 | `(‹"cX"›) => `(itL (eVar 0))
 | `(‹"cY"›) => `(EP X pins σ Q)
 | `(‹"cZ"›) => `(DE.db (de_ix (Qb 3 rfl (oi Qcu)) (DE.db Qd)))
 | `(‹"da"›) => `(.Assign [.Subscript (.Name x p1) a p2] e pos)
 | `(‹"db"›) => `([some (.k,.int d),some (.k,.int (m:Int)),some (.k,.int T),some (.o,.lst []),none])
 | `(‹"dc"›) => `([some (.k,.int c),some ‹"bX"›,some (.o,.lst []),some (.k,.int (c / 2)),none])
 | `(‹"dd"›) => `(∀ x,foldedSetIterable iter C.X.env x=pure x)
 | `(‹"de"›) => `(MtOk P w K mg base CT CX0 "period" 1 Qf (fun c=>SpD K CT false ((fun _=>QaE) c)))
 | `(‹"df"›) => `(List V->Hp->VK->Prop)
 | `(‹"dg"›) => `(C.X.A.units+64<cLine)
 | `(‹"dh"›) => `(sSet 9 (fun ς=>flatL ((eA (fun xs=>QgE (xs++[])) (aCons (eVarB 6) aNil)) ς)))
 | `(‹"di"›) => `(keywordEach [] C.X.env)
 | `(‹"dj"›) => `(fun k=>.str (nm k))
 | `(‹"dk"›) => `(eTup (aCons (eVar 7) (aCons (eVar 5) aNil)))
 | `(‹"dl"›) => `([some ‹"L"›,some ‹"ce"›,some (.o,.dic (plc n 0 nm dn)),a3,a4,none,none])
 | `(‹"dm"›) => `(∀ G H σ ς Q,StR C G H σ ς->(B ς).post (KB C G H σ ς Q) C.XD->tb σ H Q)
 | `(‹"dn"›) => `(∀ G H σ ς Q,StR C G H σ ς->(A ς).post (KB C G H σ ς Q) C.XD->ta σ H Q)
 | `(‹"do"›) => `(sRet (eAnd (eIsa (isaT "int") (eVar 0)) (eNot (eIsa (isaT "bool") (eVar 0)))))
 | `(‹"dp"›) => `(kvs.any fun kv=>decide (kv.1=k))
 | `(‹"dq"›) => `(fun d=>d.scal=true/\Q (toV d) H)
 | `(‹"dr"›) => `((.k,offD n nd nm dn cl t m ld st))
 | `(‹"ds"›) => `("e"^QY "_law_digits" 2 true)
 | `(‹"dt"›) => `(itL (eVar 1))
 | `(‹"du"›) => `(Out.post_mono (show(loopD _ xs ς').post _ _ from k) fun f k=>FlK.later k s')
 | `(‹"dv"›) => `(Nat.le_of_ble_eq_true rfl)
 | `(‹"dw"›) => `(DE.db (Qb 4 rfl (oi QfQ)))
 | `(‹"dx"›) => `(DE.db (Qb 4 rfl (oi QeK)))
 | `(‹"dy"›) => `(DE.db (Qb 2 rfl (oi Qaf)))
 | `(‹"dz"›) => `(.Call (.Attribute (.Name y p6) "append" p7) [.Constant (.int c) cj p8] [] p9)
 | `(‹"dA"›) => `([some (.k,G),some (.k,.int T),some (.k,.int w),some (.k,.int (sz:Int)),none])
 | `(‹"dB"›) => `(∀ x,foldedSetIterable iter X.env x=pure x)
 | `(‹"dC"›) => `(r_eA (Qe ‹"aZ"› r_nil) hll)
 | `(‹"dD"›) => `(if k=f then(k,v)::r else(k,x)::putF f v r)
 | `(‹"dE"›) => `(fun i=>xs.getD i "")
 | `(‹"dF"›) => `(fun i=>D.int (st i))
 | `(‹"dG"›) => `(aCons (eVar 0) aNil)
 | `(‹"dH"›) => `(DI.b (Qaw (Qb 1 rfl (oi QbS))))
 | `(‹"dI"›) => `(.tup (as.map V.ref))
 | `(‹"dJ"›) => `((.k,offD n nd nm dn c t m ld st))
 | `(‹"dK"›) => `(.builtin "BaseException.__getattribute__")
 | `(‹"dL"›) => `(mg "range"=none)
 | `(‹"dM"›) => `(Value->Value->Sem Value)
 | `(‹"dN"›) => `(Qe r_C (Qe r_C r_nil))
 | `(‹"dO"›) => `(List.mem_cons_self ..)
 | `(‹"dP"›) => `(.ref s.heap.objs.size)
local macro_rules
 | `(‹"dQ"›) => `([some (.k,tbD t),some (.o,hdD t m 0),none])
 | `(‹"dR"›) => `(swapsWithSole [.Subscript (.Name x p1) a p2] e pos.line C.X.env=pure false)
 | `(‹"dS"›) => `(List (List Key×V))
 | `(‹"dT"›) => `(upd H s.heap.objs.size (.tup [.int i,x]))
 | `(‹"dU"›) => `(Qe (r_var rfl) ‹"l"›)
 | `(‹"dV"›) => `(Qc Qd (Qc Qd (Qc Qd (Qc Qd (Qc Qd Qj)))))
 | `(‹"dW"›) => `(KD C G H σ ς Q)
 | `(‹"dX"›) => `(G i+dkt j l w ‹"aW"›)
 | `(‹"dY"›) => `(r_e2 (r_e2 (Qdg rfl) hi hx) (r_e2 (r_var rfl) (r_var rfl) ew) (Qae _ _))
 | `(‹"dZ"›) => `(fun i=>.int (S i))
 | `(‹"ea"›) => `(eA fLen ‹"X"›)
 | `(‹"eb"›) => `(.Compare a [op,op'] [b,c] pos)
 | `(‹"ec"›) => `(.BoolOp .And (a::b::rest) pos)
 | `(‹"ed"›) => `(envOfC qual scope s.heap.objs.size f cd)
 | `(‹"ee"›) => `(lastMarks [op,op'] [b,c]=false)
 | `(‹"ef"›) => `(QI N' js scope X.env.scope X.N)
 | `(‹"eg"›) => `(List (Str×NameKind))
 | `(‹"eh"›) => `(r_e2 (r_eA ‹"l"› h1) r_C (Qee _ _))
 | `(‹"ei"›) => `(plc n nd nm dn)
 | `(‹"ej"›) => `(planD kd t m ld st nm k)
 | `(‹"ek"›) => `(ho pins s2 σ H2 x y v u _ I2 r1 r2 q2)
 | `(‹"el"›) => `(fun i=>D.int (f i))
 | `(‹"em"›) => `(fun i=>D.int (S i))
 | `(‹"en"›) => `(fun b o e hb=>S'.fr b o e hb)
 | `(‹"eo"›) => `(ck (c k) (t k) (m k))
 | `(‹"ep"›) => `(W.instObj C s.heap.objs.size)
 | `(‹"eq"›) => `(QG (i:=3) Qfd.nd rfl (Or.inr Qbd) (QaH (DE.db Qd) (DE.db ‹"z"›)))
 | `(‹"er"›) => `(I1.hok.fresh ‹"ar"›)
 | `(‹"es"›) => `(.int (pk.length:Int))
 | `(‹"et"›) => `(.int ((t k).length:Int))
 | `(‹"eu"›) => `(.Name "set" p2)
 | `(‹"ev"›) => `(L2.tDrop (tBM C.X.K "list" QxT (tVar j) (tCons (tC (.int c)) tNil)))
 | `(‹"ew"›) => `(V->Option Int->Option Int->Hp->VK->Prop)
 | `(‹"ex"›) => `([some (.k,S),some ‹"aw"›,some (.o,.lst []),none,none,none,none])
set_option hygiene true
set_option Elab.async false
set_option linter.all false
set_option maxRecDepth 100000
theorem oi{a b:Prop}(h:a):a∨b:=Or.inl h
theorem dk{p:Prop}(h:p:=by decide +kernel):p:=h
namespace L2
open PySem PySem.Spec PyProof.Rows
abbrev Key:=Sum Int Str
def keyIs:Key->Value->Bool
 | .inl k,v=>Value.isInt k v
 | .inr x,v=>Value.isStrOf x v
def keyH(w:World):Key->Int
 | .inl k=>hashInt k
 | .inr x=>hashStr w x
theorem Qci:∀{k:Key}{v:Value},keyIs k v=true->(∃ i t,k=Sum.inl i/\v=Value.int i t)∨(∃ x t,k=Sum.inr x/\v=Value.str x t)
 | .inl i,v,h=>by
  obtain⟨t,e⟩:=Value.isInt_shape (k:=i) (v:=v) h
  exact .inl ⟨i,t,rfl,e⟩
 | .inr x,v,h=>by
  obtain⟨t,e⟩:=Value.isStrOf_shape (x:=x) (v:=v) h
  exact .inr ⟨x,t,rfl,e⟩
theorem QLG(i:Int)(t:Tok):keyIs (.inl i) (.int i t)=true:=by simp[keyIs,Value.isInt]
theorem QLt(x:Str)(t:Tok):keyIs (.inr x) (.str x t)=true:=by simp[keyIs,Value.isStrOf]
theorem QPy(a b:Int):decide ((Sum.inl a:Key)=Sum.inl b)=(a == b):=by
 by_cases e:a=b
 ·subst e;simp
 ·have h:¬ (Sum.inl a:Key)=Sum.inl b:=fun q=>e (Sum.inl.inj q)
  rw[decide_eq_false h]
  exact(beq_eq_false_iff_ne.mpr e).symm
theorem QPG(a b:Str):decide ((Sum.inr a:Key)=Sum.inr b)=decide (a=b):=by
 by_cases e:a=b
 ·subst e;simp
 ·have h:¬ (Sum.inr a:Key)=Sum.inr b:=fun q=>e (Sum.inr.inj q)
  rw[decide_eq_false h,decide_eq_false e]
theorem QP0(a:Int)(b:Str):decide ((Sum.inl a:Key)=Sum.inr b)=false:=decide_eq_false (fun q=>nomatch q)
theorem QQF(a:Str)(b:Int):decide ((Sum.inr a:Key)=Sum.inl b)=false:=decide_eq_false (fun q=>nomatch q)
def Qcc(prog:Program)(w:World):PySem.KeyKind prog w Key where
 is:=keyIs
 hash:=keyH w
 inj:=fun v a b ha hb=>by
  rcases Qci ha with⟨i,t,rfl,rfl⟩ | ⟨x,t,rfl,rfl⟩
  ·rcases Qci hb with⟨j,u,rfl,e⟩ | ⟨y,u,rfl,e⟩
   ·injection e with e1 _;rw[e1]
   ·exact nomatch e
  ·rcases Qci hb with⟨j,u,rfl,e⟩ | ⟨y,u,rfl,e⟩
   ·exact nomatch e
   ·injection e with e1 _;rw[e1]
 byValue:=fun k v h=>by
  rcases Qci h with⟨i,t,rfl,rfl⟩ | ⟨x,t,rfl,rfl⟩<;>rfl
 pyHash:=fun hv h=>by
  rcases Qci hv with⟨i,t,rfl,rfl⟩ | ⟨x,t,rfl,rfl⟩
  ·exact wpAny_pyHash_int h
  ·exact wpAny_pyHash_str h
 eqBool:=fun hu hv h=>by
  rcases Qci hu with⟨i,t,rfl,rfl⟩ | ⟨x,t,rfl,rfl⟩
  ·rcases Qci hv with⟨j,u,rfl,rfl⟩ | ⟨y,u,rfl,rfl⟩
   ·rw[QPy]at h;exact wpAny_eqBool_int h
   ·rw[QP0]at h;exact SeqAt.EqAt.int_str i t y u _ _ _ _ h
  ·rcases Qci hv with⟨j,u,rfl,rfl⟩ | ⟨y,u,rfl,rfl⟩
   ·rw[QQF]at h;exact SeqAt.EqAt.str_int x t j u _ _ _ _ h
   ·rw[QPG]at h;exact wpAny_eqBool_str h
 «strs»:=fun k x t v h=>by
  rcases Qci h with⟨i,u,rfl,e⟩ | ⟨y,u,rfl,e⟩
  ·exact nomatch e
  ·injection e with e1 _
   subst e1
   cases v<;>rfl
theorem QFZ(prog:Program)(w:World)(i:Int)(t:Tok):(Qcc prog w).is (.inl i) (.int i t)=true:=QLG i t
theorem QGw(prog:Program)(w:World)(x:Str)(t:Tok):(Qcc prog w).is (.inr x) (.str x t)=true:=QLt x t
end L2
namespace L2
open PySem PySem.Spec PyProof.Rows
inductive V where
 | non | bl (b:Bool) | int (i:Int) | str (x:Str) | byt (b:Array UInt8) | flt (b:UInt64) | ref (a:Addr) | ty (n:String)
 deriving DecidableEq
def RelV:V->Value->Prop
 | .non,u=>u=Value.none
 | .bl b,u=>u=Value.bool b
 | .int i,u=>∃ t,u=Value.int i t
 | .str x,u=>∃ t,u=Value.str x t
 | .byt b,u=>∃ t,u=Value.bytes b t
 | .flt b,u=>∃ t,u=Value.float b t
 | .ref a,u=>u=Value.ref a
 | .ty n,u=>u=Value.type n
abbrev Vals:List V->List Value->Prop:=Paired RelV
theorem Vals.length{xs:List V}{us:List Value}(r:Vals xs us):xs.length=us.length:=Paired.length r
theorem Vals.get:∀{xs:List V}{us:List Value}{i:Nat}{x:V},Vals xs us->xs[i]?=some x->∃ u,us[i]?=some u/\RelV x u
 | _,_,_,_,.nil,e=>by simp at e
 | _,_,0,_,.cons r _,e=>by simp at e;subst e;exact⟨_,rfl,r⟩
 | _,_,i+1,x,.cons _ t,e=>by
  obtain⟨u,h1,h2⟩:=Vals.get (i:=i) (x:=x) t (by simpa using e)
  exact⟨u,by simpa using h1,h2⟩
theorem Vals.set{x:V}{u:Value}(r:RelV x u):∀{xs:List V}{us:List Value}(i:Nat),Vals xs us->Vals (xs.set i x) (us.set i u)
 | _,_,_,.nil=>.nil
 | _,_,0,.cons _ t=>.cons r t
 | _,_,i+1,.cons q t=>.cons q (Vals.set r i t)
theorem Vals.append:∀{xs ys:List V}{us ws:List Value},Vals xs us->Vals ys ws->Vals (xs++ys) (us++ws)
 | _,_,_,_,.nil,s=>s
 | _,_,_,_,.cons r t,s=>.cons r (Vals.append t s)
theorem Vals.take:∀{xs:List V}{us:List Value}(n:Nat),Vals xs us->Vals (xs.take n) (us.take n)
 | _,_,0,_=>.nil
 | _,_,_+1,.nil=>.nil
 | _,_,n+1,.cons r t=>.cons r (Vals.take n t)
theorem Vals.drop:∀{xs:List V}{us:List Value}(n:Nat),Vals xs us->Vals (xs.drop n) (us.drop n)
 | _,_,0,r=>r
 | _,_,_+1,.nil=>.nil
 | _,_,n+1,.cons _ t=>Vals.drop n t
def RelO:Option V->Option Value->Prop
 | some v,some u=>RelV v u
 | none,none=>True
 | _,_=>False
def KV{κ:Type}:List (κ×V)->List (κ×Value)->Prop:=Paired fun(p:κ×V) (q:κ×Value)=>p.1=q.1/\RelV p.2 q.2
def kV:Key->V
 | .inl i=>.int i
 | .inr x=>.str x
inductive HO where
 /-- a list -/
 | lst (xs:List V)
 /-- a tuple (never changes) -/
 | tup (xs:List V)
 /-- a dict whose keys are ints and texts;one whose keys are tuples of ints and texts (the empty one is both) -/
 | dK (kvs:List (Key×V)) | dT (kvs:List (List Key×V))
 /-- a set of ints: its members,its size -/
 | set (S:Int->Bool) (n:Nat)
 /-- an instance of the class at C,its dict at dx,its attributes -/
 | ins (C dx:Addr) (fs:List (Str×V))
 /-- the dict of the instance at x -/
 | own (x:Addr)
 /-- the dict of an exception -/
 | xd (fs:List (Str×V))
 /-- a bound method,f of x -/
 | met (f x:Addr)
 /-- a range object lo,lo+1, .. below hi -/
 | rng (lo hi:Int)
 /-- a thing that is known to the object (the script;a dict while a loop walks it): read,never written while it is so -/
 | frz (o:Obj) (u:HO)
 /-- a code object's table -/
 | tbl (ps:Array Value)
 /-- any other thing,by what is true of its one object (a def of one's own: SetO a S n:=HO.ext fun h => ..) -/
 | ext (φ : Heap->Prop)
abbrev Hp:=Addr->Option HO
def upd(H:Hp)(a:Addr)(o:HO):Hp:=fun b=>if b=a then some o else H b
theorem QM{H:Hp}{a:Addr}{o:HO}:upd H a o a=some o:=by unfold upd;rw[if_pos rfl]
theorem Qk{H:Hp}{a b:Addr}{o:HO}(h:b≠a):upd H a o b=H b:=by unfold upd;rw[if_neg h]
theorem QOc{H:Hp}{a:Addr}{o u:HO}:upd (upd H a o) a u=upd H a u:=by
 funext b;unfold upd;split<;>rfl
theorem ne_of{H:Hp}{a b:Addr}{o u:HO}(h:H a=some o)(h':H b=some u)(d:o≠u):a≠b:=by
 intro e;subst e;rw[h]at h';exact d (Option.some.inj h')
theorem Q3{H:Hp}{a b:Addr}{o:HO}(h:H a=some o)(h':H b=none):a≠b:=by
 intro e;subst e;rw[h]at h';cases h'
section
variable(P:Program)(w:World)
def ObjOk(H:Hp)(h:Heap)(a:Addr):HO->Prop
 | .lst xs=>xs.length<=sizeLine/\∃(its:List Value)(n:Nat),Vals xs its/\h.get? a=some { cls:=.type "list",data:=.seq its.toArray n }
 | .tup xs=>xs.length<=sizeLine/\∃ its:List Value,Vals xs its/\IsTup h a its.toArray
 | .dK kvs=>kvs.length<=sizeLine/\(a == sysModules)=false/\∃ vs,KV kvs vs/\h.DictOf (Qcc P w) a vs
 | .dT kvs=>kvs.length<=sizeLine/\(a == sysModules)=false/\∃ xs:List (List Key×Addr×Value),
  Paired (fun(p:List Key×V) (q:List Key×Addr×Value)=>p.1=q.1/\H q.2.1=some (.tup (p.1.map kV))/\RelV p.2 q.2.2) kvs xs/\
  ∃ o es ep,h.get? a=some o/\o.ExactDict/\o.data=.dict es ep/\es.toList=xs.map (entryOfKey (tupleKind (Qcc P w)))/\(xs.map (·.1)).Nodup
 | .set S n=>h.SetOf (intKind P w) a S n
 | .ins C dx fs=>H dx=some (.own a)/\fs.length<=1000/\dx≠a/\h.get? a=some (W.instObj C dx)/\
  ∃ mA,h.Ns1 dx mA/\(∀ f,RelO (fs.lookup f) (mA f))/\PySem.Within mA (fs.map (·.1))
 | .own _=>∃ o,h.get? a=some o
 | .xd fs=>∃ mA,h.Ns1 a mA/\∀ f,RelO (fs.lookup f) (mA f)
 | .rng lo hi=>∃ t u v,h.get? a=some { cls:=.type "range",data:=.fields #[.int lo t,.int hi u,.int 1 v] }
 | .frz o u=>h.get? a=some o/\ObjOk H h a u
 | .tbl ps=>h.get? a=some { cls:=.none,data:=.fields ps }
 | .met f x=>h.get? a=some (W.methodObj (.ref f) (.ref x))
 | .ext φ => φ h/\(∃ o,h.get? a=some o)/\∀ h1 h2:Heap, φ h1->(∀ o,h1.get? a=some o->h2.get? a=some o) -> φ h2
def HOk(H:Hp)(h:Heap):Prop:=∀ a o,H a=some o->ObjOk P w H h a o
end
section
variable{P:Program}{w:World}{H H':Hp}{h h':Heap}{a:Addr}{o:HO}
theorem ObjOk.lt(x:ObjOk P w H h a o):a<h.objs.size:=by
 cases o with
 | lst xs=>obtain⟨_,_,_,_,e⟩:=x;exact Heap.lt_size e
 | tup xs=>obtain⟨_,_,_,p⟩:=x;exact p.lt
 | dK kvs=>obtain⟨_,_,_,_,o,_,_,e,_⟩:=x;exact Heap.lt_size e
 | dT kvs=>obtain⟨_,_,_,_,o,_,_,e,_⟩:=x;exact Heap.lt_size e
 | set S n=>obtain⟨o,_,_,_,e,_⟩:=x;exact Heap.lt_size e
 | ins C dx fs=>obtain⟨_,_,_,e,_⟩:=x;exact Heap.lt_size e
 | own y=>obtain⟨_,e⟩:=x;exact Heap.lt_size e
 | xd fs=>obtain⟨_,⟨_,_,_,e,_⟩,_⟩:=x;exact Heap.lt_size e
 | rng lo hi=>obtain⟨_,_,_,e⟩:=x;exact Heap.lt_size e
 | frz ob u=>obtain⟨e,_⟩:=x;exact Heap.lt_size e
 | tbl ps=>exact Heap.lt_size (show h.get? a=some _ from x)
 | met f y=>exact Heap.lt_size (show h.get? a=some _ from x)
 | ext φ => obtain⟨_,⟨_,e⟩,_⟩:=x;exact Heap.lt_size e
theorem Paired.mapP{α β:Type}{F G:α->β->Prop}:∀{l₁:List α}{l₂ : List β},Paired F l₁ l₂ -> (∀ a b,F a b->G a b)->Paired G l₁ l₂
 | _,_,.nil,_=>.nil
 | _,_,.cons r t,f=>.cons (f _ _ r) (Paired.mapP t f)
theorem ObjOk.stay(x:ObjOk P w H h a o)(k:∀ b u,(b=a∨H b=some (.own a))->h.get? b=some u->h'.get? b=some u)
 (ho:∀ b,H b=some (.own a)->H' b=some (.own a)) (ht:∀ b xs,H b=some (.tup xs)->H' b=some (.tup xs)):ObjOk P w H' h' a o:=by
 induction o with
 | lst xs=>obtain⟨z,its,n,r,e⟩:=x;exact⟨z,its,n,r,k _ _ (.inl rfl) e⟩
 | tup xs=>obtain⟨z,its,r,ob,e,c⟩:=x;exact⟨z,its,r,ob,k _ _ (.inl rfl) e,c⟩
 | dK kvs=>obtain⟨z,y,vs,r,ob,es,ep,e,c⟩:=x;exact⟨z,y,vs,r,ob,es,ep,k _ _ (.inl rfl) e,c⟩
 | dT kvs=>
  obtain⟨z,y,xs,r,ob,es,ep,e,c⟩:=x
  exact⟨z,y,xs,Paired.mapP r fun p q z=>⟨z.1,ht _ _ z.2.1,z.2.2⟩,ob,es,ep,k _ _ (.inl rfl) e,c⟩
 | set S n=>obtain⟨ob,es,ep,t,e,c⟩:=x;exact⟨ob,es,ep,t,k _ _ (.inl rfl) e,c⟩
 | ins C dx fs=>
  obtain⟨d,z,ne,e,mA,⟨od,es,ep,e2,c⟩,r⟩:=x
  exact⟨ho _ d,z,ne,k _ _ (.inl rfl) e,mA,⟨od,es,ep,k _ _ (.inr d) e2,c⟩,r⟩
 | own y=>obtain⟨ob,e⟩:=x;exact⟨ob,k _ _ (.inl rfl) e⟩
 | xd fs=>obtain⟨mA,⟨od,es,ep,e,c⟩,r⟩:=x;exact⟨mA,⟨od,es,ep,k _ _ (.inl rfl) e,c⟩,r⟩
 | rng lo hi=>obtain⟨t,u,v,e⟩:=x;exact⟨t,u,v,k _ _ (.inl rfl) e⟩
 | frz ob u ih=>obtain⟨e,q⟩:=x;exact⟨k _ _ (.inl rfl) e,ih q⟩
 | tbl ps=>
  have e:h.get? a=some { cls:=.none,data:=.fields ps }:=x
  show h'.get? a=some { cls:=.none,data:=.fields ps }
  exact k a _ (.inl rfl) e
 | met f y=>
  have e:h.get? a=some (W.methodObj (.ref f) (.ref y)):=x
  show h'.get? a=some (W.methodObj (.ref f) (.ref y))
  exact k a _ (.inl rfl) e
 | ext φ => obtain⟨p,⟨o,e⟩,st⟩:=x;exact⟨st _ _ p fun o q=>k _ _ (.inl rfl) q,⟨o,k _ _ (.inl rfl) e⟩,st⟩
theorem HOk.lt(x:HOk P w H h)(e:H a=some o):a<h.objs.size:=(x a o e).lt
theorem HOk.fresh(x:HOk P w H h)(e:h.objs.size<=a):H a=none:=by
 cases q:H a with
 | none=>rfl
 | some u=>exact absurd (Nat.lt_of_lt_of_le (x.lt q) e) (Nat.lt_irrefl _)
theorem HOk.kept(x:HOk P w H h)(k:∀ b u,h.get? b=some u->h'.get? b=some u):HOk P w H h':=fun a o e=>
 (x a o e).stay (fun b u _ q=>k b u q) (fun _ q=>q) fun _ _ q=>q
theorem HOk.laid(x:HOk P w H h)(k:∀ b u,h.get? b=some u->h'.get? b=some u)(hp:h.objs.size<=a)(new:ObjOk P w (upd H a o) h' a o):HOk P w (upd H a o) h':=fun b u e=>by
 have hn:=x.fresh hp
 by_cases hb:b=a
 ·subst hb;rw[QM]at e;cases e;exact new
 ·rw[Qk hb]at e
  exact(x b u e).stay (fun c v _ q=>k c v q) (fun c q=>by rw[Qk (Q3 q hn)];exact q) fun c xs q=>by rw[Qk (Q3 q hn)];exact q
end
def Rd(H:Hp)(a:Addr)(u:HO):Prop:=H a=some u∨∃ o,H a=some (.frz o u)
theorem Rd.of{H:Hp}{a:Addr}{u:HO}(h:H a=some u):Rd H a u:=.inl h
theorem Rd.ok{P:Program}{w:World}{H:Hp}{h:Heap}{a:Addr}{u:HO}(r:Rd H a u)(x:HOk P w H h):ObjOk P w H h a u:=by
 rcases r with r | ⟨o,r⟩
 ·exact x a u r
 ·obtain⟨_,q⟩:=x a _ r
  exact q
def Mut:Option HO->Prop
 | some (.lst _)=>True
 | some (.dK _)=>True
 | some (.dT _)=>True
 | some (.set _ _)=>True
 | some (.ins _ _ _)=>True
 | some (.ext _)=>True
 | _=>False
section
variable{P:Program}{w:World}{H:Hp}{h h':Heap}{x e:Addr}{o':HO}
theorem HOk.write(ok:HOk P w H h)(mu:Mut (H x))(he:e=x∨H e=some (.own x))(k:∀ b u,b≠e->h.get? b=some u->h'.get? b=some u)(heo:∃ u,h'.get? e=some u)
 (new:ObjOk P w (upd H x o') h' x o'):HOk P w (upd H x o') h':=fun b u q=>by
 have nown:∀ c y,H c=some (.own y)->c≠x:=fun c y r z=>by subst z;rw[r]at mu;exact mu
 have ntup:∀ c xs,H c=some (.tup xs)->c≠x:=fun c xs r z=>by subst z;rw[r]at mu;exact mu
 by_cases hb:b=x
 ·subst hb;rw[QM]at q;cases q;exact new
 ·rw[Qk hb]at q
  by_cases hbe:b=e
  ·have q':H b=some (.own x):=by
    rcases he with z | z
    ·exact absurd (hbe.trans z) hb
    ·rw[hbe];exact z
   rw[q]at q';cases q'
   obtain⟨v,hv⟩:=heo
   exact⟨v,by rw[hbe];exact hv⟩
  ·refine(ok b u q).stay (fun c v hc r=>k c v ?_ r) (fun c r=>by rw[Qk (nown c b r)];exact r) fun c xs r=>by rw[Qk (ntup c xs r)];exact r
   rcases hc with rfl | hc
   ·exact hbe
   ·rintro rfl
    rcases he with z | z
    ·exact nown c b hc z
    ·rw[hc]at z;cases z;exact hb rfl
end
structure Un(fs ex:List Addr)(H H':Hp)(h h':Heap):Prop where
 keep:∀ b o,h.get? b=some o->H b=none->b∉fs->b∉ex->h'.get? b=some o
 slot:∀ b o,h.get? b=some o->H b=none->b∈fs->b∉ex->∃ sl,h'.get? b=some { o with slots:=sl }
 free:∀ b o,h.get? b=some o->H b=none->b∉ex->H' b=none
 there:∀ b o,h.get? b=some o->b∉ex->∃ o',h'.get? b=some o'
 tups:∀ b xs,H b=some (.tup xs)->H' b=some (.tup xs)
 frzs:∀ b o u,H b=some (.frz o u)->H' b=some (.frz o u)
 tbls:∀ b ps,H b=some (.tbl ps)->∃ more,H' b=some (.tbl (ps++more))
section
variable{fs fs' ex ex':List Addr}{H H1 H2:Hp}{h h1 h2 h':Heap}{a x e:Addr}{o:HO}
theorem Un.any(u:Un fs ex H H1 h h1){b:Addr}{ob:Obj}(q:h.get? b=some ob)(n:H b=none)(hx:b∉ex):∃ sl,h1.get? b=some { ob with slots:=sl }:=by
 by_cases hb:b∈fs
 ·exact u.slot b ob q n hb hx
 ·exact⟨ob.slots,u.keep b ob q n hb hx⟩
theorem Un.trans(a:Un fs ex H H1 h h1)(b:Un fs ex H1 H2 h1 h2):Un fs ex H H2 h h2 where
 keep:=fun c ob q n hc hx=>b.keep c ob (a.keep c ob q n hc hx) (a.free c ob q n hx) hc hx
 slot:=fun c ob q n hc hx=>by
  obtain⟨sl,e1⟩:=a.slot c ob q n hc hx
  obtain⟨sl',e2⟩:=b.slot c _ e1 (a.free c ob q n hx) hc hx
  exact⟨sl',e2⟩
 free:=fun c ob q n hx=>by
  obtain⟨o',e1⟩:=a.there c ob q hx
  exact b.free c o' e1 (a.free c ob q n hx) hx
 there:=fun c ob q hx=>by
  obtain⟨o',e1⟩:=a.there c ob q hx
  exact b.there c o' e1 hx
 tups:=fun c xs q=>b.tups c xs (a.tups c xs q)
 frzs:=fun c ob xs q=>b.frzs c ob xs (a.frzs c ob xs q)
 tbls:=fun c ps q=>by
  obtain⟨m1,e1⟩:=a.tbls c ps q
  obtain⟨m2,e2⟩:=b.tbls c _ e1
  exact⟨m1++m2,by rw[e2,Array.append_assoc]⟩
theorem Un.kept(k:∀ b u,h.get? b=some u->h'.get? b=some u):Un fs ex H H h h':=
 ⟨fun b ob q _ _ _=>k b ob q,fun b ob q _ _ _=>⟨ob.slots,k b ob q⟩,fun _ _ _ n _=>n,fun b ob q _=>⟨ob,k b ob q⟩,fun _ _ q=>q,fun _ _ _ q=>q,fun _ ps q=>⟨#[],by rw[q];simp⟩⟩
theorem Un.refl:Un fs ex H H h h:=Un.kept fun _ _ q=>q
theorem Un.laid(k:∀ b u,h.get? b=some u->h'.get? b=some u)(hp:h.objs.size<=a)(hn:H a=none):Un fs ex H (upd H a o) h h' where
 keep:=fun b u q _ _ _=>k b u q
 slot:=fun b u q _ _ _=>⟨u.slots,k b u q⟩
 free:=fun b u q n _=>by rw[Qk (Nat.ne_of_lt (Nat.lt_of_lt_of_le (Heap.lt_size q) hp))];exact n
 there:=fun b u q _=>⟨u,k b u q⟩
 tups:=fun b xs q=>by rw[Qk (Q3 q hn)];exact q
 frzs:=fun b u xs q=>by rw[Qk (Q3 q hn)];exact q
 tbls:=fun b ps q=>⟨#[],by rw[Qk (Q3 q hn),q];simp⟩
theorem Un.write(mu:Mut (H x))(he:e=x∨H e=some (.own x))(k:∀ b u,b≠e->h.get? b=some u->h'.get? b=some u)(heo:∃ u,h'.get? e=some u):Un fs ex H (upd H x o) h h':=by
 have hx:∀ b,H b=none->b≠x:=fun b n z=>by subst z;rw[n]at mu;exact mu
 have hb:∀ b,H b=none->b≠e:=fun b n z=>by
  subst z
  rcases he with r | r
  ·exact hx b n r
  ·rw[n]at r;cases r
 have hm:∀ b u,H b=some u->¬ Mut (some u)->b≠x:=fun b u q nm z=>by subst z;rw[q]at mu;exact nm mu
 refine⟨fun b u q n _ _=>k b u (hb b n) q,fun b u q n _ _=>⟨u.slots,k b u (hb b n) q⟩,fun b u q n _=>by rw[Qk (hx b n)];exact n,fun b u q _=>?_,
  fun b xs q=>by rw[Qk (hm b _ q fun z=>z)];exact q,fun b u xs q=>by rw[Qk (hm b _ q fun z=>z)];exact q,fun b ps q=>⟨#[],by rw[Qk (hm b _ q fun z=>z),q];simp⟩⟩
 by_cases hbe:b=e
 ·subst hbe;exact heo
 ·exact⟨u,k b u hbe q⟩
end
def trk(h:Heap)(H:Hp):List Addr:=(List.range h.objs.size).filter fun a=>(H a).isSome
def hidT(h:Heap)(H:Hp):Heap:=W.hideAll h (trk h H)
theorem QLY(h:Heap)(H:Hp):(hidT h H).objs.size=h.objs.size:=W.hideAll_size _ _
theorem QNz{h:Heap}{H:Hp}{b:Addr}{o:Obj}(e:h.get? b=some o)(n:H b=none):(hidT h H).get? b=some o:=
 W.hideAll_get _ e fun hm=>by
  have q:(H b).isSome=true:=(List.mem_filter.mp hm).2
  rw[n]at q;simp at q
theorem QO5{h:Heap}{H:Hp}{b:Addr}{o:Obj}(e:(hidT h H).get? b=some o):h.get? b=some o/\H b=none:=by
 have e':h.get? b=some o:=W.of_hideAll (trk h H) e
 refine⟨e',?_⟩
 cases q:H b with
 | none=>rfl
 | some x=>
  have hm:b∈trk h H:=List.mem_filter.mpr ⟨List.mem_range.mpr (Heap.lt_size e'),by simp[q]⟩
  have z:(hidT h H).get? b=none:=W.hideAll_none (trk h H) hm
  rw[z]at e;cases e
def QPa(g h:Heap)(L:Addr):List (Addr×Obj):=(List.range h.objs.size).filterMap fun a=>if a=L∨(g.get? a).isSome=true then none else(h.get? a).map fun o=>(a,o)
def rest(g h:Heap)(L d:Addr):List (Addr×Obj):=(QPa g h L).filter fun p=>decide (p.1≠d)
end L2
namespace L2
open PySem PySem.Spec PyProof.Rows
structure Mod(K:W.Frag)(mg:Str->Option Value)(base:Heap):Prop where
 kin:K.In base
 glob:base.Ns mainGlobals mg
 blt:∃ mb,base.Ns builtinsNs mb/\∀ x:Str,x≠"__name__"->mb x=bootBuiltins x
 nolimit:base.NoLimit
structure Cx where
 prog:Program
 w:World
 K:W.Frag
 mg:Str->Option Value
 base:Heap
 A:Around
 N:List Str
 s₀:Shared
 H₀:Hp
 env:Env
 outer:List Env
 stack:List Env
 ex:List Addr
 fn:Str->Bool
 calm:Bool
 pn:List (Addr×Obj)
 xe:Value->Shared->Prop
def frs(l:List Env):List Addr:=l.filterMap (·.frame)
abbrev Cx.fs(X:Cx):List Addr:=frs X.outer
def Vis(sc:Scope)(x:Str):Prop:=sc.names.lookup x=some .local∨sc.names.lookup x=some .cell∨sc.names.lookup x=some .free
def Loc(sc:Scope)(x:Str):Prop:=sc.names.lookup x=some .local∨sc.names.lookup x=some .cell
def Look(env:Env)(h:Heap)(m:‹"R"›)(x:Str)(u:Value):Prop:=
 (env.kindOf x=some .local/\m x=some u)∨((env.kindOf x=some .cell∨env.kindOf x=some .free)/\∃ c,env.cells.lookup x=some c/\h.IsCell c (some u))
structure Cx.Ok(X:Cx):Prop where
 mod:Mod X.K X.mg X.base
 kind:X.env.scope.kind=.function
 glob:X.env.globals=mainGlobals
 blt:X.env.builtins=builtinsNs
 above:X.s₀.heap.objs.size<=X.env.locals
 inj:∀ x y c,X.env.cells.lookup x=some c->X.env.cells.lookup y=some c->x=y
 has:∀ x,(X.env.kindOf x=some .cell∨X.env.kindOf x=some .free)->∃ c,X.env.cells.lookup x=some c
 cab:∀ x c,X.fn x=true->X.env.cells.lookup x=some c->X.s₀.heap.objs.size<=c
 hd:X.calm=true->X.A.handled=none
 frames:X.A.frames=some X.stack
 stk:X.stack=X.outer∨(X.stack=X.env::X.outer/\X.env.frame=some X.env.locals)
 exf:∀ b∈X.ex,b≠X.env.locals/\∀ x c,X.env.cells.lookup x=some c->c≠b
 bs:∀ b o,X.base.get? b=some o->X.s₀.heap.get? b=some o/\X.H₀ b=none
 bsz:X.base.objs.size<=X.s₀.heap.objs.size
 noex:∀ b o,X.base.get? b=some o->b∉X.ex
 exfs:∀ b∈X.ex,b∉X.fs
 funs:X.s₀.heap.FunFrames X.base X.outer
 frf:∀ b∈X.fs,X.H₀ b=none
structure Inv(X:Cx)(pins:List (Addr×Obj))(σ:List (Option V))(H:Hp)(s:Shared):Prop where
 ok:X.Ok
 os:s.os=X.s₀.os
 bare:AllBare s.gens
 base:Un X.fs X.ex X.H₀ H X.s₀.heap s.heap
 loc:∃ m,s.heap.Ns X.env.locals m/\∀(i:Nat)(x:Str)(v:V),X.N[i]?=some x->σ[i]?=some (some v)->Vis X.env.scope x->∃ u,RelV v u/\Look X.env s.heap m x u
 cell:∀ x c,X.env.cells.lookup x=some c->∃ v,s.heap.IsCell c v
 free:H X.env.locals=none
 freeC:∀ x c,X.env.cells.lookup x=some c->H c=none
 pin:∀ p∈X.pn++pins,s.heap.get? p.1=some p.2/\H p.1=none/\p.1≠X.env.locals/\p.1∉X.fs/\∀ v,p.2.data≠.cell v
 hok:HOk X.prog X.w H s.heap
 len:σ.length=X.N.length
section
variable{X:Cx}{pins:List (Addr×Obj)}{σ:List (Option V)}{H H':Hp}{s:Shared}{h':Heap}
theorem Cx.Ok.nofr(ok:X.Ok){b:Addr}{o:Obj}(e:X.base.get? b=some o):b∉X.fs:=fun hb=>by
 have:=(ok.funs.mem hb).1
 rw[e]at this;cases this
theorem Inv.bs(I:‹"h"›):∀ b o,X.base.get? b=some o->s.heap.get? b=some o/\H b=none:=fun b o e=>
 ⟨I.base.keep b o (I.ok.bs b o e).1 (I.ok.bs b o e).2 (I.ok.nofr e) (I.ok.noex b o e),I.base.free b o (I.ok.bs b o e).1 (I.ok.bs b o e).2 (I.ok.noex b o e)⟩
theorem Inv.bk(I:‹"h"›):∀ b o,X.base.get? b=some o->s.heap.get? b=some o:=fun b o e=>(I.bs b o e).1
theorem Inv.mod(I:‹"h"›):Mod X.K X.mg X.base:=I.ok.mod
theorem Inv.kIn(I:‹"h"›):X.K.In s.heap:=I.ok.mod.kin.keeps I.bk
theorem Inv.lt(I:‹"h"›):X.env.locals<s.heap.objs.size:=let ⟨_,hn,_⟩:=I.loc;hn.lt
theorem Inv.sz(I:‹"h"›):X.s₀.heap.objs.size<=s.heap.objs.size:=Nat.le_trans I.ok.above (Nat.le_of_lt I.lt)
theorem Inv.nofs(I:‹"h"›){a:Addr}(h:s.heap.objs.size<=a):a∉X.fs:=fun hb=>by
 obtain⟨_,o,ho,_⟩:=I.ok.funs.mem hb
 exact absurd (Nat.lt_of_lt_of_le (Heap.lt_size ho) (Nat.le_trans I.sz h)) (Nat.lt_irrefl _)
theorem Inv.cne(I:‹"h"›):∀ x c,X.env.cells.lookup x=some c->c≠X.env.locals:=fun x c e z=>by
 obtain⟨v,o,ho,hd⟩:=I.cell x c e
 obtain⟨m,⟨o',es,ep,ho',hd',_⟩,_⟩:=I.loc
 rw[z,ho']at ho;cases ho;rw[hd']at hd;cases hd
theorem Inv.funs(I:‹"h"›):s.heap.FunFrames X.base X.outer:=by
 have all:∀(l:List Env),(∀ b∈frs l,b∈X.fs)->X.s₀.heap.FunFrames X.base l->s.heap.FunFrames X.base l:=by
  intro l
  induction l with
  | nil=>intro _ _;trivial
  | cons env r ih=>
   intro hs hl
   obtain⟨hk,⟨L,o,hf,hn,ho,hd⟩,hr⟩:=hl
   have hL:L∈X.fs:=hs L (by unfold frs;rw[List.filterMap_cons,hf];exact List.mem_cons_self)
   obtain⟨sl,e⟩:=I.base.slot L o ho (I.ok.frf L hL) hL fun z=>I.ok.exfs L z hL
   exact⟨hk,⟨L,_,hf,hn,e,hd⟩,ih (fun b hb=>hs b (by unfold frs;rw[List.filterMap_cons,hf];exact List.mem_cons_of_mem _ hb)) hr⟩
 exact all X.outer (fun _ hb=>hb) I.ok.funs
theorem Inv.stack(I:‹"h"›):s.heap.FunFrames X.base X.stack:=by
 rcases I.ok.stk with e | ⟨e,hf⟩
 ·rw[e];exact I.funs
 ·rw[e]
  obtain⟨m,hn,_⟩:=I.loc
  refine .cons (by rw[I.ok.kind];decide) hf hn ?_ I.funs
  exact Heap.get?_none_of_le (Nat.le_trans I.ok.bsz I.ok.above)
theorem Inv.stkSub(I:‹"h"›):∀ b∈frs X.stack,b∈X.env.locals::X.fs:=fun b hb=>by
 rcases I.ok.stk with e | ⟨e,hf⟩
 ·rw[e]at hb;exact List.mem_cons_of_mem _ hb
 ·rw[e]at hb
  unfold frs at hb
  rw[List.filterMap_cons,hf]at hb
  exact hb
theorem Inv.stkFree(I:‹"h"›):∀ b∈frs X.stack,H b=none:=fun b hb=>by
 rcases List.mem_cons.mp (I.stkSub b hb) with e | hb
 ·rw[e];exact I.free
 ·obtain⟨_,o,ho,_⟩:=I.ok.funs.mem hb
  exact I.base.free b o ho (I.ok.frf b hb) fun z=>I.ok.exfs b z hb
theorem Inv.step{g':Array GenState}{t':Nat}{d':Drawn}{ch:List Addr}(I:‹"h"›)
 (hch:∀ b∈ch,(b∈X.ex∨X.s₀.heap.objs.size<=b)/\b≠X.env.locals/\(∀ x c,X.env.cells.lookup x=some c->c≠b)/\∀ p∈X.pn++pins,p.1≠b)
 (keep:∀ b o,b≠X.env.locals->b∉X.fs->b∉ch->s.heap.get? b=some o->H b=none->h'.get? b=some o)
 (slot:∀ b o,b≠X.env.locals->b∈X.fs->b∉ch->s.heap.get? b=some o->H b=none->∃ sl,h'.get? b=some { o with slots:=sl }) (free:∀ b o,b∉ch->s.heap.get? b=some o->H b=none->H' b=none)
 (there:∀ b o,b∉ch->s.heap.get? b=some o->∃ o',h'.get? b=some o')
 (tups:∀ b xs,H b=some (.tup xs)->H' b=some (.tup xs)) (frzs:∀ b o u,H b=some (.frz o u)->H' b=some (.frz o u)) (tbls:∀ b ps,H b=some (.tbl ps)->∃ more,H' b=some (.tbl (ps++more)))
 (ns:∀ m,s.heap.Ns X.env.locals m->h'.Ns X.env.locals m) (hok:HOk X.prog X.w H' h') (hg:AllBare g'):
 Inv X pins σ H' { s with heap:=h',gens:=g',drawn:=d',toks:=t' }:=by
 have neL:∀ b o,X.s₀.heap.get? b=some o->b≠X.env.locals:=fun b o e=>Nat.ne_of_lt ‹"bm"›
 have neC:∀ b o,X.s₀.heap.get? b=some o->b∉X.ex->b∉ch:=fun b o e hx hb=>by
  rcases(hch b hb).1 with z | z
  ·exact hx z
  ·exact absurd (Nat.lt_of_lt_of_le (Heap.lt_size e) z) (Nat.lt_irrefl _)
 have cellK:∀ x c,X.env.cells.lookup x=some c->∀ v,s.heap.IsCell c v->h'.IsCell c v:=fun x c e v ⟨o,ho,hd⟩=>by
  have nch:c∉ch:=fun z=>(hch c z).2.2.1 x c e rfl
  by_cases hc:c∈X.fs
  ·obtain⟨sl,q⟩:=slot c o (I.cne x c e) hc nch ho (I.freeC x c e)
   exact⟨_,q,hd⟩
  ·exact⟨o,keep c o (I.cne x c e) hc nch ho (I.freeC x c e),hd⟩
 refine⟨I.ok,I.os,hg,⟨fun b o e n hb hx=>?_,fun b o e n hb hx=>?_,fun b o e n hx=>?_,fun b o e hx=>?_,fun b xs e=>tups b xs (I.base.tups b xs e),fun b o xs e=>frzs b o xs (I.base.frzs b o xs e),fun b ps e=>?_⟩,?_,fun x c e=>?_,?_,fun x c e=>?_,fun p hp=>?_,hok,I.len⟩
 ·exact keep b o (neL b o e) hb (neC b o e hx) (I.base.keep b o e n hb hx) (I.base.free b o e n hx)
 ·obtain⟨sl,e1⟩:=I.base.slot b o e n hb hx
  obtain⟨sl',e2⟩:=slot b _ (neL b o e) hb (neC b o e hx) e1 (I.base.free b o e n hx)
  exact⟨sl',e2⟩
 ·obtain⟨o',e1⟩:=I.base.there b o e hx
  exact free b o' (neC b o e hx) e1 (I.base.free b o e n hx)
 ·obtain⟨o',e1⟩:=I.base.there b o e hx
  exact there b o' (neC b o e hx) e1
 ·obtain⟨m1,e1⟩:=I.base.tbls b ps e
  obtain⟨m2,e2⟩:=tbls b _ e1
  exact⟨m1++m2,by rw[e2,Array.append_assoc]⟩
 ·obtain⟨m,hn,hl⟩:=I.loc
  refine⟨m,ns m hn,fun i x v e1 e2 e3=>?_⟩
  obtain⟨u,r,l⟩:=hl i x v e1 e2 e3
  refine⟨u,r,?_⟩
  rcases l with l | ⟨k,c,e,z⟩
  ·exact .inl l
  ·exact .inr ⟨k,c,e,cellK x c e _ z⟩
 ·obtain⟨v,z⟩:=I.cell x c e
  exact⟨v,cellK x c e v z⟩
 ·obtain⟨m,⟨o,_,_,ho,_⟩,_⟩:=I.loc
  exact free _ o (fun z=>(hch _ z).2.1 rfl) ho I.free
 ·obtain⟨v,o,ho,hd⟩:=I.cell x c e
  exact free c o (fun z=>(hch c z).2.2.1 x c e rfl) ho (I.freeC x c e)
 ·obtain⟨e,n,ne,nf,d⟩:=I.pin p hp
  have nch:p.1∉ch:=fun z=>(hch p.1 z).2.2.2 p hp rfl
  exact⟨keep p.1 p.2 ne nf nch e n,free p.1 p.2 nch e n,ne,nf,d⟩
theorem Inv.un{t':Nat}(I:‹"h"›)(u:Un X.fs [] H H' s.heap h')(hok:HOk X.prog X.w H' h'):Inv X pins σ H' { s with heap:=h',toks:=t' }:=by
 obtain⟨m,⟨o,es,ep,ho,r⟩,_⟩:=id I.loc
 obtain⟨sl,hL⟩:=u.any ho I.free (by simp)
 exact I.step (g':=s.gens) (d':=s.drawn) (ch:=[]) (fun _ z=>nomatch z) (fun b o _ hb _ e n=>u.keep b o e n hb (by simp)) (fun b o _ hb _ e n=>u.slot b o e n hb (by simp)) (fun b o _ e n=>u.free b o e n (by simp)) (fun b o _ e=>u.there b o e (by simp)) u.tups u.frzs u.tbls (fun m' hm=>by
  obtain⟨o',es',ep',ho',r'⟩:=hm
  rw[ho]at ho';cases ho'
  exact⟨_,es',ep',hL,r'⟩) hok I.bare
theorem Inv.call{g':Array GenState}{t':Nat}{d':Drawn}{ch:List Addr}(I:‹"h"›)(u:Un (frs X.stack) ch H H' s.heap h')(hok:HOk X.prog X.w H' h')(hg:AllBare g')
 (hch:∀ b∈ch,(b∈X.ex∨X.s₀.heap.objs.size<=b)/\b≠X.env.locals/\(∀ x c,X.env.cells.lookup x=some c->c≠b)/\∀ p∈X.pn++pins,p.1≠b):
 Inv X pins σ H' { s with heap:=h',gens:=g',drawn:=d',toks:=t' }:=by
 obtain⟨m,⟨o,es,ep,ho,r⟩,_⟩:=id I.loc
 obtain⟨sl,hL⟩:=u.any ho I.free fun z=>(hch _ z).2.1 rfl
 exact I.step (ch:=ch) hch (fun b o hL hb hc e n=>u.keep b o e n (fun z=>(List.mem_cons.mp (I.stkSub b z)).elim hL hb) hc) (fun b o _ _ hc e n=>u.any e n hc) (fun b o hc e n=>u.free b o e n hc) (fun b o hc e=>u.there b o e hc) u.tups u.frzs u.tbls (fun m' hm=>by
  obtain⟨o',es',ep',ho',r'⟩:=hm
  rw[ho]at ho';cases ho'
  exact⟨_,es',ep',hL,r'⟩) hok hg
theorem Inv.turned{t':Nat}{it:Addr}(I:‹"h"›)(k:∀ b o,b≠it->s.heap.get? b=some o->h'.get? b=some o)(hn:H it=none)(hL:it≠X.env.locals)
 (h1:it∈X.ex∨X.s₀.heap.objs.size<=it) (h2:∀ x c,X.env.cells.lookup x=some c->c≠it) (h3:∀ p∈X.pn++pins,p.1≠it):Inv X pins σ H { s with heap:=h',toks:=t' }:=by
 have nit:∀ b u,H b=some u->b≠it:=fun b u e z=>by rw[z,hn]at e;cases e
 refine I.step (g':=s.gens) (d':=s.drawn) (ch:=[it]) (fun b hb=>?_) (fun b o _ _ hc e _=>k b o (fun z=>hc (by simp[z])) e) (fun b o _ _ hc e _=>⟨o.slots,k b o (fun z=>hc (by simp[z])) e⟩) (fun _ _ _ _ n=>n)
  (fun b o hc e=>⟨o,k b o (fun z=>hc (by simp[z])) e⟩) (fun _ _ e=>e) (fun _ _ _ e=>e) (fun b ps e=>⟨#[],by rw[e];simp⟩) (fun m hm=>?_) (fun b u e=>?_) I.bare
 ·have e:b=it:=by simpa using hb
  subst e
  exact⟨h1,hL,h2,h3⟩
 ·obtain⟨o,es,ep,ho,r⟩:=hm
  exact⟨o,es,ep,k _ o (Ne.symm hL) ho,r⟩
 ·refine(I.hok b u e).stay (fun c v hc q=>k c v ?_ q) (fun _ q=>q) fun _ _ q=>q
  rcases hc with z | z
  ·rw[z];exact nit b u e
  ·exact nit c _ z
theorem Inv.tok(I:‹"h"›)(t:Nat):Inv X pins σ H { s with toks:=t }:=I.un (h':=s.heap) (t':=t) Un.refl I.hok
theorem Inv.kept{t':Nat}(I:‹"h"›)(k:∀ b u,s.heap.get? b=some u->h'.get? b=some u):Inv X pins σ H { s with heap:=h',toks:=t' }:=I.un (Un.kept k) (I.hok.kept k)
theorem Inv.laid{a:Addr}{o:HO}{t':Nat}(I:‹"h"›)(k:∀ b u,s.heap.get? b=some u->h'.get? b=some u)(hp:s.heap.objs.size<=a)(new:ObjOk X.prog X.w (upd H a o) h' a o):
 Inv X pins σ (upd H a o) { s with heap:=h',toks:=t' }:=I.un (Un.laid k hp (I.hok.fresh hp)) (I.hok.laid k hp new)
theorem Inv.write{x e:Addr}{o:HO}{t':Nat}(I:‹"h"›)(mu:Mut (H x))(he:e=x∨H e=some (.own x))(k:∀ b u,b≠e->s.heap.get? b=some u->h'.get? b=some u)(heo:∃ u,h'.get? e=some u)
 (new:ObjOk X.prog X.w (upd H x o) h' x o):Inv X pins σ (upd H x o) { s with heap:=h',toks:=t' }:=I.un (Un.write mu he k heo) (I.hok.write mu he k heo new)
theorem Inv.pins_of{pins':‹"r"›}(I:‹"h"›)(h:∀ p∈pins',s.heap.get? p.1=some p.2/\H p.1=none/\p.1≠X.env.locals/\p.1∉X.fs/\∀ v,p.2.data≠.cell v):Inv X pins' σ H s:=
 ⟨I.ok,I.os,I.bare,I.base,I.loc,I.cell,I.free,I.freeC,fun p hp=>(List.mem_append.mp hp).elim (fun z=>I.pin p (List.mem_append_left _ z)) (h p),I.hok,I.len⟩
theorem QDs{N:List Str}(hN:N.Nodup){i j:Nat}{x:Str}(a:N[i]?=some x)(b:N[j]?=some x):i=j:=by
 obtain⟨h1,e1⟩:=List.getElem?_eq_some_iff.mp a
 obtain⟨h2,e2⟩:=List.getElem?_eq_some_iff.mp b
 exact(List.getElem_inj hN).mp (e1.trans e2.symm)
theorem QzB{M:Model}{A:Around}{E:‹"m"›}{i:Nat}{x:Str}{v:V}{u:Value}{Q:Unit->Shared->Prop}(I:‹"h"›)(hN:X.N.Nodup)(hi:X.N[i]?=some x)(hx:Loc X.env.scope x)(r:RelV v u)
 (h:∀ s',Inv X pins (σ.set i (some v)) H s'->(∃ a,Heap.SameBut a s.heap s'.heap/\(a=X.env.locals∨X.env.cells.lookup x=some a))->Q () s') (hf:X.fn x=true∨X.env.scope.names.lookup x=some .local:=by first | exact .inl rfl | exact .inr rfl | assumption):wpAny M A (storeName X.env x u) Q E s:=by
 obtain⟨m,hn,hl⟩:=id I.loc
 have hcls:(X.env.scope.kind == .class||(X.env.scope.kind == .module&&X.env.locals != X.env.globals))=false:=by rw[I.ok.kind];rfl
 have hiσ:i<σ.length:=by rw[I.len];exact(List.getElem?_eq_some_iff.mp hi).1
 have cne:=I.cne
 have tracked:∀{a:Addr}{h':Heap},(∃ o,s.heap.get? a=some o/\H a=none)->Heap.SameBut a s.heap h'->HOk X.prog X.w H h':=fun {a h'} ha hs b ob e=>by
  obtain⟨_,_,hfree⟩:=ha
  refine(I.hok b ob e).stay (fun c w' hc q=>(hs.2 c ?_).trans q) (fun _ q=>q) fun _ _ q=>q
  rintro rfl
  rcases hc with rfl | hc
  ·rw[hfree]at e;cases e
  ·rw[hfree]at hc;cases hc
 rcases hx with hk | hk
 ·refine wpAny_storeName_local hk hn (fun h' hn' hs=>?_) hcls
  obtain⟨oL,_,_,hoL,_⟩:=id hn
  refine h _ ⟨I.ok,I.os,I.bare,⟨fun b o e n hb hx=>?_,fun b o e n hb hx=>?_,I.base.free,fun b o e hx=>?_,I.base.tups,I.base.frzs,I.base.tbls⟩,⟨_,hn',fun j y v' e1 e2 e3=>?_⟩,fun y c e=>?_,I.free,I.freeC,fun p hp=>?_,tracked ⟨oL,hoL,I.free⟩ hs,by simpa using I.len⟩ ⟨_,hs,.inl rfl⟩
  ·exact(hs.2 b (Nat.ne_of_lt ‹"bm"›)).trans (I.base.keep b o e n hb hx)
  ·obtain⟨sl,e1⟩:=I.base.slot b o e n hb hx
   exact⟨sl,(hs.2 b (Nat.ne_of_lt ‹"bm"›)).trans e1⟩
  ·obtain⟨o',e1⟩:=I.base.there b o e hx
   exact⟨o',(hs.2 b (Nat.ne_of_lt ‹"bm"›)).trans e1⟩
  ·by_cases hj:j=i
   ·subst hj
    rw[hi]at e1;cases e1
    rw[List.getElem?_set_self hiσ]at e2
    cases e2
    exact⟨u,r,.inl ⟨hk,by simp⟩⟩
   ·rw[List.getElem?_set_ne (Ne.symm hj)]at e2
    obtain⟨u',r',q⟩:=hl j y v' e1 e2 e3
    refine⟨u',r',?_⟩
    rcases q with⟨k,e⟩ | ⟨k,c,e,z⟩
    ·refine .inl ⟨k,?_⟩
     have:y≠x:=fun e=>hj (QDs hN e1 (e ▸ hi))
     simp[this,e]
    ·exact .inr ⟨k,c,e,z.sameBut hs (cne y c e)⟩
  ·obtain⟨w',z⟩:=I.cell y c e
   exact⟨w',z.sameBut hs (cne y c e)⟩
  ·obtain⟨e,n,ne,nf,d⟩:=I.pin p hp
   exact⟨(hs.2 p.1 ne).trans e,n,ne,nf,d⟩
 ·have hfn:X.fn x=true:=by
   rcases hf with z | z
   ·exact z
   ·rw[z]at hk;cases hk
  obtain⟨c,hc⟩:=I.ok.has x (.inl hk)
  obtain⟨w',z⟩:=I.cell x c hc
  refine wpAny_storeName_cell I.ok.kind hk hc z (fun h' hc' hs=>?_)
  obtain⟨oc,hoc,hocd⟩:=id z
  refine h { s with heap:=h' } ⟨I.ok,I.os,I.bare,⟨fun b o e n hb hx=>?_,fun b o e n hb hx=>?_,I.base.free,fun b o e hx=>?_,I.base.tups,I.base.frzs,I.base.tbls⟩,⟨m,hn.sameBut hs (Ne.symm (cne x c hc)),fun j y v' e1 e2 e3=>?_⟩,fun y c' e=>?_,I.free,I.freeC,fun p hp=>?_,tracked ⟨oc,hoc,I.freeC x c hc⟩ hs,by simpa using I.len⟩ ⟨c,hs,.inr hc⟩
  ·exact(hs.2 b ‹"aP"›).trans (I.base.keep b o e n hb hx)
  ·obtain⟨sl,e1⟩:=I.base.slot b o e n hb hx
   exact⟨sl,(hs.2 b ‹"aP"›).trans e1⟩
  ·obtain⟨o',e1⟩:=I.base.there b o e hx
   exact⟨o',(hs.2 b ‹"aP"›).trans e1⟩
  ·by_cases hj:j=i
   ·subst hj
    rw[hi]at e1;cases e1
    rw[List.getElem?_set_self hiσ]at e2
    cases e2
    exact⟨u,r,.inr ⟨.inl hk,c,hc,hc'⟩⟩
   ·rw[List.getElem?_set_ne (Ne.symm hj)]at e2
    obtain⟨u',r',q⟩:=hl j y v' e1 e2 e3
    refine⟨u',r',?_⟩
    rcases q with q | ⟨k,c',e,z'⟩
    ·exact .inl q
    ·refine .inr ⟨k,c',e,z'.sameBut hs ?_⟩
     rintro rfl
     exact hj (QDs hN e1 (I.ok.inj _ _ _ e hc ▸ hi))
  ·by_cases hcc:c'=c
   ·subst hcc;exact⟨_,hc'⟩
   ·obtain⟨w2,z2⟩:=I.cell y c' e
    exact⟨w2,z2.sameBut hs hcc⟩
  ·obtain⟨e,n,ne,nf,d⟩:=I.pin p hp
   refine⟨(hs.2 p.1 ?_).trans e,n,ne,nf,d⟩
   intro q
   rw[q,hoc]at e
   have q':oc=p.2:=Option.some.inj e
   exact d w' (by rw[← q'];exact hocd)
theorem QCI{M:Model}{A:Around}{E:‹"m"›}{i:Nat}{x:Str}{v:V}{u:Value}{Q:Unit->Shared->Prop}(I:‹"h"›)(hN:X.N.Nodup)(hi:X.N[i]?=some x)(hx:Loc X.env.scope x)(r:RelV v u)
 (h:∀ s',Inv X pins (σ.set i (some v)) H s'->Q () s') (hf:X.fn x=true∨X.env.scope.names.lookup x=some .local:=by first | exact .inl rfl | exact .inr rfl | assumption):wpAny M A (storeName X.env x u) Q E s:=
 QzB I hN hi hx r (fun s' I' _=>h s' I') hf
theorem Inv.call'{s':Shared}{ch:List Addr}(I:‹"h"›)(ho:s'.os=s.os)(u:Un (frs X.stack) ch H H' s.heap s'.heap)(hok:HOk X.prog X.w H' s'.heap)(hg:AllBare s'.gens)
 (hch:∀ b∈ch,(b∈X.ex∨X.s₀.heap.objs.size<=b)/\b≠X.env.locals/\(∀ x c,X.env.cells.lookup x=some c->c≠b)/\∀ p∈X.pn++pins,p.1≠b):Inv X pins σ H' s':=by
 obtain⟨h',g',d',t',o'⟩:=s'
 have e:o'=s.os:=ho
 subst e
 exact I.call (g':=g') (t':=t') (d':=d') u hok hg hch
end
abbrev XK:=Value->Option Addr->Hp->Prop
abbrev St:=List (Option V)
abbrev VK:=V->Hp->Prop
abbrev TE:=St->Hp->VK->Prop
abbrev TT:=St->Hp->(Bool->Hp->Prop)->Prop
abbrev TA:=St->Hp->(List V->Hp->Prop)->Prop
structure Ends where
 nx:St->Hp->Prop
 rt:VK
 bk:St->Hp->Prop:=fun _ _=>False
 ct:St->Hp->Prop:=fun _ _=>False
abbrev TS:=Ends->St->Hp->Prop
def EP(X:Cx)(pins:‹"r"›)(σ:St)(Q:VK)(u:Value)(s':Shared):Prop:=∃ v H',Inv X pins σ H' s'/\RelV v u/\Q v H'
def TP(X:Cx)(pins:‹"r"›)(σ:St)(Q:Bool->Hp->Prop)(b:Bool)(s':Shared):Prop:=∃ H',Inv X pins σ H' s'/\Q b H'
def AP(X:Cx)(pins:‹"r"›)(σ:St)(Q:List V->Hp->Prop)(us:List Value)(s':Shared):Prop:=∃ vs H',Inv X pins σ H' s'/\Vals vs us/\Q vs H'
def SP(X:Cx)(pins:‹"r"›)(D:Ends)(f:Flow)(s':Shared):Prop:=
 match f with
 | .next=>∃ σ' H',Inv X pins σ' H' s'/\D.nx σ' H'
 | .brk=>∃ σ' H',Inv X pins σ' H' s'/\D.bk σ' H'
 | .cont=>∃ σ' H',Inv X pins σ' H' s'/\D.ct σ' H'
 | .ret u=>∃ v σ' H',Inv X pins σ' H' s'/\RelV v u/\D.rt v H'
def PE(X:Cx)(e:Expr)(t:TE):Prop:=
 ∀(pins:‹"r"›)(s:Shared)(σ:St)(H:Hp)(Q:VK),Inv X pins σ H s->t σ H Q->wpAny ‹"k"› X.A (eval e X.env) ‹"cY"› X.xe s
def PT(X:Cx)(e:Expr)(t:TT):Prop:=
 ∀(pins:‹"r"›)(s:Shared)(σ:St)(H:Hp)(Q:Bool->Hp->Prop),Inv X pins σ H s->t σ H Q->wpAny ‹"k"› X.A (isTrue e X.env (eval e X.env)) (TP X pins σ Q) X.xe s
def PW(X:Cx)(e:Expr)(t:TT):Prop:=
 ∀(whole:Sem Value)(pins:‹"r"›)(s:Shared)(σ:St)(H:Hp)(Q:Bool->Hp->Prop),Inv X pins σ H s->t σ H Q->wpAny ‹"k"› X.A (isTrue e X.env whole) (TP X pins σ Q) X.xe s
theorem PW.pt{X:Cx}{e:Expr}{t:TT}(h:PW X e t):PT X e t:=h _
def PA(X:Cx)(es:List Expr)(t:TA):Prop:=
 ∀(pos:Pos)(pins:‹"r"›)(s:Shared)(σ:St)(H:Hp)(Q:List V->Hp->Prop),Inv X pins σ H s->t σ H Q->wpAny ‹"k"› X.A (spliced (backTo pos ‹"cz"›)) (AP X pins σ Q) X.xe s
def PS(X:Cx)(st:Stmt)(t:TS):Prop:=
 ∀(pins:‹"r"›)(s:Shared)(σ:St)(H:Hp)(D:Ends),Inv X pins σ H s->t D σ H->wpAny ‹"k"› X.A (exec st X.env) (SP X pins D) X.xe s
def PSs(X:Cx)(st:List Stmt)(t:TS):Prop:=
 ∀(pins:‹"r"›)(s:Shared)(σ:St)(H:Hp)(D:Ends),Inv X pins σ H s->t D σ H->wpAny ‹"k"› X.A (execs st X.env) (SP X pins D) X.xe s
theorem thn{α:Type}{t:Sem α}{Q Q':α->Shared->Prop}{M:Model}{A:Around}{E:‹"m"›}{s:Shared}(h:wpAny M A t Q E s)(hQ:∀ a s,Q a s->Q' a s):wpAny M A t Q' E s:=wpAny_mono h hQ fun _ _ x=>x
end L2
namespace L2
open PySem PySem.Spec PyProof.Rows
section
variable{X:Cx}
def tVar(i:Nat):TE:=fun σ H Q=>∃ v,σ[i]?=some (some v)/\Q v H
def tC(v:V):TE:=fun _ H Q=>Q v H
theorem Qdy{i:Nat}{x:Str}{pos:Pos}(hN:X.N[i]?=some x)(hv:Vis X.env.scope x)(hd:‹"f"›:=by decide)(hcd:‹"t"›:=by decide):PE X (.Name x pos) (tVar i):=by
 intro pins s σ H Q I h
 obtain⟨v,e,h⟩:=h
 obtain⟨m,hn,hl⟩:=I.loc
 obtain⟨u,r,l⟩:=hl i x v hN e hv
 have fin:EP X pins σ Q u s:=⟨v,H,I,r,h⟩
 rcases l with⟨hk,hm⟩ | ⟨hk,c,hc,hcell⟩
 ·exact wpAny_Name (wpAny_loadName_local I.ok.kind hk hn hm fin) hd
 ·rcases hk with hk | hk
  ·exact wpAny_Name (wpAny_loadName_cell I.ok.kind hk hc hcell fin) hd
  ·exact wpAny_Name (wpAny_loadName_free I.ok.kind hk hc hcell fin hcd) hd
theorem QMv{i j pos}:PE X (.Constant (.int i) j pos) (tC (.int i)):=fun _ _ _ H _ I h=>wpAny_Constant_int ⟨.int i,H,I.tok _,⟨_,rfl⟩,h⟩
theorem pe_bl{b j pos}:PE X (.Constant (.bool b) j pos) (tC (.bl b)):=fun _ _ _ H _ I h=>Constant_bool ⟨.bl b,H,I,rfl,h⟩
theorem QP3{j pos}:PE X (.Constant .none j pos) (tC .non):=fun _ _ _ H _ I h=>Constant_none ⟨.non,H,I,rfl,h⟩
theorem QPn{x j pos}:PE X (.Constant (.str x) j pos) (tC (.str x)):=fun _ _ _ H _ I h=>Calls.Constant_str ⟨.str x,H,I.tok _,⟨_,rfl⟩,h⟩
def Gl(X:Cx)(x:Str):Prop:=X.env.kindOf x=some .globalImplicit
theorem QtU{E:‹"m"›}{pins:‹"r"›}{s:Shared}{σ:St}{H:Hp}{x:Str}{u:Value}{pos:Pos}{Q:‹"m"›}(I:‹"h"›)(hg:Gl X x)(hm:X.mg x=some u)(h:Q u s)
 (hd:‹"f"›:=by decide):wpAny ‹"k"› X.A (eval (.Name x pos) X.env) Q E s:=
 Calls.Name_function_global I.ok.kind hg (Calls.loadGlobal_global (by rw[I.ok.glob];exact I.mod.glob.keeps I.bk) hm h) hd
theorem Qjy{E:‹"m"›}{pins:‹"r"›}{s:Shared}{σ:St}{H:Hp}{x:Str}{u:Value}{pos:Pos}{Q:‹"m"›}(I:‹"h"›)(hg:Gl X x)(hm:X.mg x=none)(hv:bootBuiltins x=some u)(h:Q u s)
 (hn:x≠"__name__":=by decide) (hd:‹"f"›:=by decide):wpAny ‹"k"› X.A (eval (.Name x pos) X.env) Q E s:=by
 obtain⟨mb,h1,h2⟩:=I.mod.blt
 exact Calls.Name_function_global I.ok.kind hg (Calls.loadGlobal_builtin (by rw[I.ok.glob];exact I.mod.glob.keeps I.bk) hm (by rw[I.ok.blt];exact h1.keeps I.bk) ((h2 x hn).trans hv) h) hd
theorem QpG{x:Str}{v:V}{u:Value}{pos:Pos}(hg:Gl X x)(hm:X.mg x=some u)(r:RelV v u)(hd:‹"f"›:=by decide):PE X (.Name x pos) (tC v):=
 fun _ _ _ H _ I h=>QtU I hg hm ⟨v,H,I,r,h⟩ hd
theorem QOz{x:Str}{v:V}{u:Value}{pos:Pos}(hg:Gl X x)(hm:X.mg x=none)(hv:bootBuiltins x=some u)(r:RelV v u)(hn:x≠"__name__":=by decide)(hd:‹"f"›:=by decide):PE X (.Name x pos) (tC v):=
 fun _ _ _ H _ I h=>Qjy I hg hm hv ⟨v,H,I,r,h⟩ hn hd
variable{a b:Expr}{ta tb:TE}{pos:Pos}
def tB(t:TE):TT:=fun σ H Q=>t σ H fun x H1=>∃ c,x=.bl c/\Q c H1
theorem QQN{e:Expr}{t:TE}(h:PE X e t)(he:∀ whole,isTrue e X.env whole=(do let v ← whole;standAt e.pos;holding [v] (truthy v)):=by intro _;rfl):PT X e (tB t):=by
 intro pins s σ H Q I hw
 refine isTrue_plain (thn (h pins s σ H _ I hw) fun v s1 ⟨x,H1,I1,r1,q1⟩=>?_) (he _)
 obtain⟨d,rfl,q⟩:=q1
 cases r1
 exact wpAny_truthy_bool ⟨H1,I1,q⟩
variable{tA tB':TT}{rest:List Expr}
def tAnd(t u:TT):TT:=fun σ H Q=>t σ H fun c H1=>if c=true then u σ H1 Q else Q false H1
def tOr(t u:TT):TT:=fun σ H Q=>t σ H fun c H1=>if c=true then Q true H1 else u σ H1 Q
def tNot(t:TT):TT:=fun σ H Q=>t σ H fun c H1=>Q (!c) H1
theorem QPl(ha:PT X a tA):PW X (.BoolOp .And [a] pos) tA:=by
 intro wh pins s σ H Q I h
 refine isTrue_and (thn (ha pins s σ H Q I h) fun c s1 e=>?_)
 cases c with
 | true=>exact isTrue_and_nil e
 | false=>exact e
theorem QQL(ha:PT X a tA):PW X (.BoolOp .Or [a] pos) tA:=by
 intro wh pins s σ H Q I h
 refine isTrue_or (thn (ha pins s σ H Q I h) fun c s1 e=>?_)
 cases c with
 | false=>exact isTrue_or_nil e
 | true=>exact e
theorem QQq(ha:PT X a tA)(hb:PW X (.BoolOp .And (b::rest) pos) tB'):PW X ‹"ec"› (tAnd tA tB'):=by
 intro wh pins s σ H Q I h
 refine isTrue_and (thn ‹"ba"› fun c s1 ⟨H1,I1,q1⟩=>?_)
 cases c with
 | true=>exact hb wh pins s1 σ H1 Q I1 q1
 | false=>exact⟨H1,I1,q1⟩
theorem pw_or(ha:PT X a tA)(hb:PW X (.BoolOp .Or (b::rest) pos) tB'):PW X (.BoolOp .Or (a::b::rest) pos) (tOr tA tB'):=by
 intro wh pins s σ H Q I h
 refine isTrue_or (thn ‹"ba"› fun c s1 ⟨H1,I1,q1⟩=>?_)
 cases c with
 | true=>exact⟨H1,I1,q1⟩
 | false=>exact hb wh pins s1 σ H1 Q I1 q1
theorem QQJ(ha:PT X a tA):PT X (.UnaryOp .Not a pos) (tNot tA):=by
 intro pins s σ H Q I h
 exact isTrue_not (ha pins s σ H (fun c H1=>Q (!c) H1) I h)
def tAndV(ta tb:TE):TE:=fun σ H Q=>ta σ H fun x H1=>∃ c,x=.bl c/\if c=true then tb σ H1 Q else Q (.bl false) H1
def tNotV(ta:TE):TE:=fun σ H Q=>ta σ H fun x H1=>∃ c,x=.bl c/\Q (.bl (!c)) H1
theorem QQo{op}{t:TE}(h:PE X a t):PE X (.BoolOp op [a] pos) t:=fun pins s σ H Q I hw=>BoolOp_one (h pins s σ H Q I hw)
theorem QPF(ha:PE X a ta)(hb:PE X (.BoolOp .And (b::rest) pos) tb):PE X ‹"ec"› (tAndV ta tb):=by
 intro pins s σ H Q I h
 refine BoolOp_and (thn ‹"ba"› fun v s1 ⟨x,H1,I1,r1,q1⟩=>?_)
 obtain⟨c,rfl,q1⟩:=q1
 cases r1
 refine wpAny_truthy_bool ?_
 cases c with
 | true=>exact hb pins s1 σ H1 Q I1 q1
 | false=>exact⟨.bl false,H1,I1,rfl,q1⟩
theorem QQh(ha:PE X a ta):PE X (.UnaryOp .Not a pos) (tNotV ta):=by
 intro pins s σ H Q I h
 refine UnaryOp_ (thn ‹"ba"› fun v s1 ⟨x,H1,I1,r1,q1⟩=>?_)
 obtain⟨c,rfl,q1⟩:=q1
 cases r1
 exact not_of (wpAny_truthy_bool ⟨.bl (!c),H1,I1,rfl,q1⟩)
def tIf(t:TT)(ta tb:TE):TE:=fun σ H Q=>t σ H fun c H1=>if c=true then ta σ H1 Q else tb σ H1 Q
theorem QNM{c:Expr}(hc:PT X c tA)(ha:PE X a ta)(hb:PE X b tb):PE X (.IfExp c a b pos) (tIf tA ta tb):=by
 intro pins s σ H Q I h
 refine wpAny_IfExp (thn (hc pins s σ H _ I h) fun d s1 ⟨H1,I1,q1⟩=>?_)
 cases d with
 | true=>exact ha pins s1 σ H1 Q I1 q1
 | false=>exact hb pins s1 σ H1 Q I1 q1
end
end L2
namespace L2
open PySem PySem.Spec PyProof.Rows
def SqL(K:W.Frag)(H:Hp)(a:Addr)(xs:List V):Prop:=
 Rd H a (.lst xs)∨
  ∃(o:Obj)(its:Array Value)(n:Nat),K.lookup a=some o/\o.cls=.type "list"/\o.dict=none/\o.data=.seq its n/\its.size<=sizeLine/\Vals xs its.toList
def SqT(K:W.Frag)(H:Hp)(a:Addr)(xs:List V):Prop:=
 Rd H a (.tup xs)∨
  ∃(o:Obj)(its:Array Value)(n:Nat),K.lookup a=some o/\o.cls=.type "tuple"/\o.data=.seq its n/\its.size<=sizeLine/\Vals xs its.toList
def absV:Value->Option V
 | .none=>some .non
 | .bool b=>some (.bl b)
 | .int i _=>some (.int i)
 | .str x _=>some (.str x)
 | .bytes b _=>some (.byt b)
 | .float b _=>some (.flt b)
 | .ref a=>some (.ref a)
 | .type n=>some (.ty n)
 | _=>none
theorem RelV.abs{x:V}{u:Value}(r:RelV x u):absV u=some x:=by
 cases x with
 | non=>cases r;rfl
 | bl _=>cases r;rfl
 | int _=>obtain⟨t,rfl⟩:=r;rfl
 | str _=>obtain⟨t,rfl⟩:=r;rfl
 | byt _=>obtain⟨t,rfl⟩:=r;rfl
 | flt _=>obtain⟨t,rfl⟩:=r;rfl
 | ref _=>cases r;rfl
 | ty _=>cases r;rfl
theorem RelV.inj{x y:V}{u:Value}(r:RelV x u)(q:RelV y u):x=y:=Option.some.inj (r.abs.symm.trans q.abs)
theorem Vals.inj:∀{xs ys:List V}{us:List Value},Vals xs us->Vals ys us->xs=ys
 | _,_,_,.nil,.nil=>rfl
 | _,_,_,.cons r t,.cons r' t'=>by rw[r.inj r',Vals.inj t t']
section
variable{X:Cx}{pins:List (Addr×Obj)}{σ:St}{H:Hp}{s:Shared}{a:Addr}{xs ys:List V}
theorem SqL.of{K:W.Frag}(h:H a=some (.lst xs)):SqL K H a xs:=.inl (.inl h)
theorem SqT.of{K:W.Frag}(h:H a=some (.tup xs)):SqT K H a xs:=.inl (.inl h)
theorem Inv.list(I:‹"h"›)(h:SqL X.K H a xs):∃ its:List Value,Vals xs its/\PlainL s.heap a its.toArray/\xs.length<=sizeLine:=by
 rcases h with h | ⟨o,its,n,hk,hc,hd,hs,hz,r⟩
 ·obtain⟨z,its,n,r,e⟩:=h.ok I.hok
  exact⟨its,r,⟨_,n,e,rfl,rfl,rfl⟩,z⟩
 ·refine⟨its.toList,r,⟨o,n,I.kIn a o hk,hc,hd,by simpa using hs⟩,?_⟩
  have e:=r.length
  simp only[Array.length_toList]at e
  omega
theorem Inv.tuple(I:‹"h"›)(h:SqT X.K H a xs):∃ its:List Value,Vals xs its/\IsTup s.heap a its.toArray/\xs.length<=sizeLine:=by
 rcases h with h | ⟨o,its,n,hk,hc,hs,hz,r⟩
 ·obtain⟨z,its,r,p⟩:=h.ok I.hok
  exact⟨its,r,p,z⟩
 ·refine⟨its.toList,r,⟨o,I.kIn a o hk,hc,n,by simpa using hs⟩,?_⟩
  have e:=r.length
  simp only[Array.length_toList]at e
  omega
theorem Inv.list_inj(I:‹"h"›)(h:SqL X.K H a xs)(h':SqL X.K H a ys):xs=ys:=by
 obtain⟨its,r,⟨o,n,e,_,_,d⟩,_⟩:=I.list h
 obtain⟨its',r',⟨o',n',e',_,_,d'⟩,_⟩:=I.list h'
 rw[e]at e';cases e'
 rw[d]at d'
 injection d' with d1 _
 have:its=its':=by simpa using congrArg Array.toList d1
 subst this
 exact r.inj r'
theorem Inv.tuple_inj(I:‹"h"›)(h:SqT X.K H a xs)(h':SqT X.K H a ys):xs=ys:=by
 obtain⟨its,r,⟨o,e,_,n,d⟩,_⟩:=I.tuple h
 obtain⟨its',r',⟨o',e',_,n',d'⟩,_⟩:=I.tuple h'
 rw[e]at e';cases e'
 rw[d]at d'
 injection d' with d1 _
 have:its=its':=by simpa using congrArg Array.toList d1
 subst this
 exact r.inj r'
end
abbrev Cx.wish(X:Cx)(E:‹"m"›):Cx:={ X with xe:=E }
abbrev Cx.nox(X:Cx):Cx:=X.wish fun _ _=>False
theorem Cx.Ok.wish{X:Cx}(ok:X.Ok)(E:‹"m"›):(X.wish E).Ok:=
 ⟨ok.mod,ok.kind,ok.glob,ok.blt,ok.above,ok.inj,ok.has,ok.cab,ok.hd,ok.frames,ok.stk,ok.exf,ok.bs,ok.bsz,ok.noex,ok.exfs,ok.funs,ok.frf⟩
theorem Cx.Ok.unwish{X:Cx}{E:‹"m"›}(ok:(X.wish E).Ok):X.Ok:=
 ⟨ok.mod,ok.kind,ok.glob,ok.blt,ok.above,ok.inj,ok.has,ok.cab,ok.hd,ok.frames,ok.stk,ok.exf,ok.bs,ok.bsz,ok.noex,ok.exfs,ok.funs,ok.frf⟩
section
variable{X:Cx}{pins:List (Addr×Obj)}{σ:St}{H:Hp}{s:Shared}{E:Value->Shared->Prop}
theorem Inv.wish(I:‹"h"›)(E:‹"m"›):Inv (X.wish E) pins σ H s:=⟨I.ok.wish E,I.os,I.bare,I.base,I.loc,I.cell,I.free,I.freeC,I.pin,I.hok,I.len⟩
theorem Inv.unwish(I:Inv (X.wish E) pins σ H s):Inv X pins σ H s:=⟨I.ok.unwish,I.os,I.bare,I.base,I.loc,I.cell,I.free,I.freeC,I.pin,I.hok,I.len⟩
theorem SP.unwish{D:Ends}{f:Flow}{s':Shared}(h:SP (X.wish E) pins D f s'):SP X pins D f s':=by
 cases f with
 | next=>obtain⟨σ',H',I,q⟩:=h;exact⟨σ',H',I.unwish,q⟩
 | brk=>obtain⟨σ',H',I,q⟩:=h;exact⟨σ',H',I.unwish,q⟩
 | cont=>obtain⟨σ',H',I,q⟩:=h;exact⟨σ',H',I.unwish,q⟩
 | ret u=>obtain⟨v,σ',H',I,r,q⟩:=h;exact⟨v,σ',H',I.unwish,r,q⟩
theorem PE.nox{e:Expr}{t:TE}(h:PE X.nox e t):PE X e t:=fun pins s σ H Q I hw=>
 wpAny_mono (h pins s σ H Q (I.wish _) hw) (fun _ _ ⟨v,H',I',r,q⟩=>⟨v,H',I'.unwish,r,q⟩) fun _ _ z=>False.elim z
theorem PT.nox{e:Expr}{t:TT}(h:PT X.nox e t):PT X e t:=fun pins s σ H Q I hw=>
 wpAny_mono (h pins s σ H Q (I.wish _) hw) (fun _ _ ⟨H',I',q⟩=>⟨H',I'.unwish,q⟩) fun _ _ z=>False.elim z
theorem PSs.nox{st:List Stmt}{t:TS}(h:PSs X.nox st t):PSs X st t:=fun pins s σ H D I hw=>
 wpAny_mono (h pins s σ H D (I.wish _) hw) (fun _ _ q=>q.unwish) fun _ _ z=>False.elim z
end
section
variable{X:Cx}{st:Stmt}{rest:List Stmt}{t u:TS}{e:Expr}{te:TE}{pos:Pos}
def tNext:TS:=fun D σ H=>D.nx σ H
def tSeq(t u:TS):TS:=fun D σ H=>t { D with nx:=u D } σ H
theorem Qzi:PSs X [] tNext:=fun _ _ σ H _ I h=>wpAny_execs_nil ⟨σ,H,I,h⟩
theorem Qg8(h1:PS X st t)(h2:PSs X rest u):PSs X (st::rest) (tSeq t u):=by
 intro pins s σ H D I h
 refine wpAny_execs_cons (thn (h1 pins s σ H { D with nx:=u D } I h) fun f s1 q=>?_)
 cases f with
 | next=>
  obtain⟨σ',H',I',q⟩:=q
  exact h2 pins s1 σ' H' D I' q
 | ret v=>exact q
 | brk=>exact q
 | cont=>exact q
theorem QtZ(h1:PS X st t):PSs X [st] t:=by
 intro pins s σ H D I h
 refine wpAny_execs_cons (thn (h1 pins s σ H D I h) fun f s1 q=>?_)
 cases f with
 | next=>exact wpAny_execs_nil q
 | ret v=>exact q
 | brk=>exact q
 | cont=>exact q
theorem Inv.quiet{pins:‹"r"›}{σ:St}{H:Hp}{s:Shared}(I:‹"h"›):interactive X.env=false:=by simp[interactive,I.ok.kind]
def tDrop(te:TE):TS:=fun D σ H=>te σ H fun _ H1=>D.nx σ H1
theorem QtY(he:PE X e te)(hs:swapsWith e none pos.line X.env=pure false:=by rfl):PS X (.Expr e pos) (tDrop te):=by
 intro pins s σ H D I h
 exact wpAny_Expr_any (thn ‹"cu"› fun v s1 ⟨x,H1,I1,r1,q1⟩=>⟨σ,H1,I1,q1⟩) I.quiet hs
def tRet(te:TE):TS:=fun D σ H=>te σ H D.rt
theorem Qv4(he:PE X e te):PS X (.Return (some e) pos) (tRet te):=by
 intro pins s σ H D I h
 exact wpAny_Return_some (thn ‹"cu"› fun v s1 ⟨x,H1,I1,r1,q1⟩=>⟨x,σ,H1,I1,r1,q1⟩)
def tIfS(c:TT)(t u:TS):TS:=fun D σ H=>c σ H fun b H1=>if b=true then t D σ H1 else u D σ H1
theorem ps_if{c:Expr}{a b:List Stmt}{tc:TT}(hc:PT X c tc)(ha:PSs X a t)(hb:PSs X b u):PS X (.If c a b pos) (tIfS tc t u):=by
 intro pins s σ H D I h
 refine wpAny_If (thn (hc pins s σ H _ I h) fun d s1 ⟨H1,I1,q1⟩=>?_)
 cases d with
 | true=>exact ha pins s1 σ H1 D I1 q1
 | false=>exact hb pins s1 σ H1 D I1 q1
def QPR:TS:=fun _ _ _=>False
theorem QNk:PS X st QPR:=fun _ _ _ _ _ _ h=>h.elim
end
abbrev TG:=V->St->Hp->(St->Hp->Prop)->Prop
abbrev TGs:=List V->St->Hp->(St->Hp->Prop)->Prop
def PG(X:Cx)(target:Expr)(t:TG):Prop:=
 ∀(pins:‹"r"›)(s:Shared)(σ:St)(H:Hp)(v:V)(u:Value)(Q:St->Hp->Prop),Inv X pins σ H s->RelV v u->t v σ H Q->
  wpAny ‹"k"› X.A (assign target X.env u) (fun _ s'=>∃ σ' H',Inv X pins σ' H' s'/\Q σ' H') X.xe s
def PGs(X:Cx)(ts:List Expr)(t:TGs):Prop:=
 ∀(pins:‹"r"›)(s:Shared)(σ:St)(H:Hp)(vs:List V)(us:List Value)(Q:St->Hp->Prop),Inv X pins σ H s->Vals vs us->t vs σ H Q->
  wpAny ‹"k"› X.A (assignInOrder ((assignEach ts X.env).map (·.2)) us) (fun _ s'=>∃ σ' H',Inv X pins σ' H' s'/\Q σ' H') X.xe s
abbrev TSet:=V->V->V->Hp->(Hp->Prop)->Prop
def PSet(X:Cx)(t:TSet):Prop:=
 ∀(pins:‹"r"›)(s:Shared)(σ:St)(H:Hp)(o i v:V)(ov iv u:Value)(Q:Hp->Prop),Inv X pins σ H s->RelV o ov->RelV i iv->RelV v u->t o i v H Q->
  wpAny ‹"k"› X.A (setItem ov iv u) (fun _ s'=>∃ H',Inv X pins σ H' s'/\Q H') X.xe s
section
variable{X:Cx}{pos:Pos}
def gName(i:Nat):TG:=fun v σ H Q=>Q (σ.set i (some v)) H
theorem QyN{i:Nat}{x:Str}(hN:X.N.Nodup)(hi:X.N[i]?=some x)(hx:Loc X.env.scope x)(hf:X.fn x=true∨X.env.scope.names.lookup x=some .local:=by first | exact .inl rfl | exact .inr rfl | assumption):PG X (.Name x pos) (gName i):=by
 intro pins s σ H v u Q I r h
 exact wpAny_assign_Name (QCI I hN hi hx r (fun s' I'=>⟨_,H,I',h⟩) hf)
def gNil:TGs:=fun vs σ H Q=>vs=[]/\Q σ H
def gCons(t:TG)(u:TGs):TGs:=fun vs σ H Q=>∃ v r,vs=v::r/\t v σ H fun σ' H'=>u r σ' H' Q
theorem QOg:PGs X [] gNil:=by
 intro pins s σ H vs us Q I r h
 obtain⟨e,h⟩:=h
 subst e
 cases r
 exact assignInOrder_nil ⟨σ,H,I,h⟩
theorem QNV{e:Expr}{es:List Expr}{t:TG}{u:TGs}(h1:PG X e t)(h2:PGs X es u)
 (hs:(assignEach (e::es) X.env).map (·.2)=assign e X.env::(assignEach es X.env).map (·.2):=by rfl):PGs X (e::es) (gCons t u):=by
 intro pins s σ H vs us Q I r h
 obtain⟨v,vr,e1,h⟩:=h
 subst e1
 cases r with
 | cons r rr=>
  rw[hs]
  refine assignInOrder_cons (thn (h1 pins s σ H _ _ _ I r h) fun _ s1 ⟨σ1,H1,I1,q1⟩=>?_)
  exact h2 pins s1 σ1 H1 _ _ Q I1 rr q1
def gTup(K:W.Frag)(n:Nat)(t:TGs):TG:=fun v σ H Q=>∃ a xs,v=.ref a/\SqT K H a xs/\xs.length=n/\t xs σ H Q
theorem QKz{es:List Expr}{k:Nat}{t:TGs}{n:Nat}(hc:X.calm=true)(h:PGs X es t)
 (hn:(assignEach es X.env).length=n:=by rfl) (hst:(assignEach es X.env).findIdx? (·.1)=none:=by rfl):PG X (.Tuple es k pos) (gTup X.K n t):=by
 intro pins s σ H v u Q I r hw
 obtain⟨a,xs,e1,hq,hl,hw⟩:=hw
 subst e1
 cases r
 obtain⟨its,rv,ht,hz⟩:=I.tuple hq
 refine assign_Tuple_tuple (I.ok.hd hc) ht (by simp[hn, ← hl,rv.length]) hst fun h' hx=>?_
 have I1:Inv X pins σ H { s with heap:=h' }:=I.kept (t':=s.toks) fun b o e=>hx b o (Nat.ne_of_lt (Heap.lt_size e)) e
 exact h pins _ σ H xs _ Q I1 (by simpa using rv) hw
def gSub(to ti:TE)(t:TSet):TG:=fun v σ H Q=>to σ H fun o H1=>ti σ H1 fun i H2=>t o i v H2 fun H3=>Q σ H3
theorem QKZ{o i:Expr}{to ti:TE}{t:TSet}(ho:PE X o to)(hi:PE X i ti)(hs:PSet X t)
 (ha:∀ v,assign (.Subscript o i pos) X.env v=(do
  let ov ← holding [v] (eval o X.env)
  let iv ← holding [v,ov] (eval i X.env)
  standAt pos
  holding [v,ov,iv] (setItem ov iv v)
  release [v,ov,iv] []):=by intro _;rfl):PG X (.Subscript o i pos) (gSub to ti t):=by
 intro pins s σ H v u Q I r h
 rw[ha]
 refine wpAny_bind (wpAny_holding (thn (ho pins s σ H _ I h) fun ov s1 ⟨x,H1,I1,r1,q1⟩=>?_))
 refine wpAny_bind (wpAny_holding (thn (hi pins s1 σ H1 _ I1 q1) fun iv s2 ⟨y,H2,I2,r2,q2⟩=>?_))
 refine wpAny_bind (wpAny_standAt (wpAny_bind (wpAny_holding (thn (hs pins s2 σ H2 x y v ov iv u _ I2 r1 r2 r q2) fun _ s3 ⟨H3,I3,q3⟩=>?_))))
 exact wpAny_release ⟨σ,H3,I3,q3⟩
def tAsg(te:TE)(g:TG):TS:=fun D σ H=>te σ H fun x H1=>g x σ H1 D.nx
theorem QEL{tg e:Expr}{te:TE}{g:TG}(he:PE X e te)(hg:PG X tg g)(hs:swapsWithSole [tg] e pos.line X.env=pure false:=by rfl)(hw:swappedStores [tg] e X.env=pure none:=by rfl)
 (h1:(assignEach [tg] X.env).map (·.2)=[assign tg X.env]:=by rfl):PS X (.Assign [tg] e pos) (tAsg te g):=by
 intro pins s σ H D I h
 refine wpAny_Assign_stores (thn ‹"cu"› fun v s1 ⟨x,H1,I1,r1,q1⟩=>?_) hs hw
 rw[h1]
 exact thn (hg pins s1 σ H1 x v _ I1 r1 q1) fun _ s2 q=>q
theorem QwA{i:Nat}{x:Str}{e:Expr}{te:TE}{pos':Pos}(hN:X.N.Nodup)(hi:X.N[i]?=some x)(hx:Loc X.env.scope x)(he:PE X e te)(hs:swapsWith e (some (.Name x pos')) pos.line X.env=pure false:=by rfl)(hf:X.fn x=true∨X.env.scope.names.lookup x=some .local:=by first | exact .inl rfl | exact .inr rfl | assumption):
 PS X (.Assign [.Name x pos'] e pos) (tAsg te (gName i)):=by
 intro pins s σ H D I h
 refine wpAny_Assign_Name (thn ‹"cu"› fun v s1 ⟨y,H1,I1,r1,q1⟩=>?_) hs
 exact QCI I1 hN hi hx r1 (fun s2 I2=>⟨_,H1,I2,q1⟩) hf
end
section
variable{X:Cx}{pos:Pos}
def QPZ(c:TT)(tb:TS):TS:=fun D σ H=>∃ W:Nat->St->Hp->Prop,(∃ m,W m σ H)/\∀ m σ H,W m σ H->
 c σ H fun b H1=>if b=true then ∃ N:St->Hp->Prop,(∀ σ' H',N σ' H'->∃ m',m'<m/\W m' σ' H')/\tb { D with nx:=N,ct:=N,bk:=D.nx } σ H1 else D.nx σ H1
theorem QNu{c:Expr}{body:List Stmt}{tc:TT}{tb:TS}(hp:PassesOwn ‹"k"› X.A X.env X.xe)(hc:PT X c tc)(hb:PSs X body tb):PS X (.While c body [] pos) (QPZ tc tb):=by
 intro pins s σ H D I h
 obtain⟨W,⟨m0,w0⟩,turn⟩:=h
 refine wpAny_While (codeAny_whileLoop (fun n s'=>∃ σ' H',Inv X pins σ' H' s'/\W n σ' H') ?_ m0 ⟨σ,H,I,w0⟩)
 rintro n s1 ⟨σ1,H1,I1,w1⟩
 refine wpAny_passesOwn hp (thn (hc pins s1 σ1 H1 _ I1 (turn n σ1 H1 w1)) fun b s2 ⟨H2,I2,q2⟩=>?_)
 cases b with
 | true=>
  obtain⟨N,hN,q2⟩:=q2
  rw[if_pos rfl]
  refine wpAny_passesOwn hp (thn (hb pins s2 σ1 H2 _ I2 q2) fun f s3 q3=>?_)
  cases f with
  | next=>
   obtain⟨σ3,H3,I3,n3⟩:=q3
   obtain⟨m',hm,w3⟩:=hN σ3 H3 n3
   exact⟨m',hm,σ3,H3,I3,w3⟩
  | cont=>
   obtain⟨σ3,H3,I3,n3⟩:=q3
   obtain⟨m',hm,w3⟩:=hN σ3 H3 n3
   exact⟨m',hm,σ3,H3,I3,w3⟩
  | brk=>exact q3
  | ret v=>exact q3
 | false=>
  rw[if_neg Bool.false_ne_true]
  exact wpAny_execs_nil ⟨σ1,H2,I2,q2⟩
end
structure It where
 go:Nat->Hp->Prop
 yld:Nat->Hp->V->Hp->Prop
 stop:Nat->Hp->Prop
def FpOk(X:Cx)(pins:‹"r"›)(H:Hp)(b:Addr):Prop:=
 H b=none/\b≠X.env.locals/\b∉X.fs/\(b∈X.ex∨X.s₀.heap.objs.size<=b)/\(∀ x c,X.env.cells.lookup x=some c->c≠b)/\∀ p∈X.pn++pins,p.1≠b
theorem Inv.fpOk{X:Cx}{pins:‹"r"›}{σ:St}{H H':Hp}{s:Shared}{b:Addr}(I:‹"h"›)(hb:s.heap.objs.size<=b)(hn:H' b=none):FpOk X pins H' b:=by
 refine⟨hn,Nat.ne_of_gt (Nat.lt_of_lt_of_le I.lt hb),I.nofs hb,.inr (Nat.le_trans I.sz hb),fun x c e z=>?_,fun p hp z=>?_⟩
 ·obtain⟨v,q⟩:=I.cell x c e
  exact absurd (Nat.lt_of_lt_of_le q.lt (by rw[z];exact hb)) (Nat.lt_irrefl _)
 ·exact absurd (Nat.lt_of_lt_of_le (Heap.lt_size (I.pin p hp).1) (by rw[z];exact hb)) (Nat.lt_irrefl _)
structure Turn(P:Program)(w:World)(K:W.Frag)(tg:Expr)(J:It)(fp:List Addr)(it:Addr)(tn:Nat->Heap->Prop):Prop where
 mem:it∈fp
 obj:∀ i h,tn i h->∀ b∈fp,∃ o,h.get? b=some o/\∀ v,o.data≠.cell v
 keep:∀ i h h',tn i h->(∀ b∈fp,∀ o,h.get? b=some o->h'.get? b=some o)->tn i h'
 item:∀(X:Cx),X.prog=P->X.w=w->X.K=K->X.calm=true->∀(i:Nat)(pins:‹"r"›)(s:Shared)(σ:St)(H:Hp)(E:‹"m"›),Inv X pins σ H s->(∀ b∈fp,FpOk X pins H b)->tn i s.heap->J.go i H->
  wpAny (model P w) X.A (pyNext (.ref it)) (fun r s1=>∃ u,r=some u/\
   wpAny (model P w) X.A (letOwnedTupleGo tg (.ref it) u) (fun _ s2=>∃ x H',Inv X pins σ H' s2/\RelV x u/\J.yld i H x H'/\tn (i+1) s2.heap/\∀ b∈fp,H' b=none) E s1) E s
 done:∀(X:Cx),X.prog=P->X.w=w->X.K=K->X.calm=true->∀(i:Nat)(pins:‹"r"›)(s:Shared)(σ:St)(H:Hp)(E:‹"m"›),Inv X pins σ H s->(∀ b∈fp,FpOk X pins H b)->tn i s.heap->J.stop i H->
  wpAny (model P w) X.A (pyNext (.ref it)) (fun r s1=>r=none/\Inv X pins σ H s1) E s
 self:∀(A:Around)(i:Nat)(s:Shared)(Q:‹"m"›)(E:‹"m"›),tn i s.heap->Q (.ref it) s->wpAny (model P w) A (pyIter (.ref it)) Q E s
abbrev TI:=St->Hp->(It->Hp->Prop)->Prop
def PIE(X:Cx)(pins:‹"r"›)(σ:St)(tg:Expr)(R:It->Hp->Prop)(itv:Value)(s2:Shared):Prop:=
 ∃(it:Addr)(fp:List Addr)(tn:Nat->Heap->Prop)(J:It)(H':Hp),itv=.ref it/\Inv X pins σ H' s2/\Turn X.prog X.w X.K tg J fp it tn/\tn 0 s2.heap/\(∀ b∈fp,FpOk X pins H' b)/\R J H'
def PI(X:Cx)(tg iter:Expr)(wi:TI):Prop:=
 ∀(pins:‹"r"›)(s:Shared)(σ:St)(H:Hp)(R:It->Hp->Prop),Inv X pins σ H s->wi σ H R->
  wpAny ‹"k"› X.A (eval iter X.env) (fun v s1=>wpAny ‹"k"› X.A (pyIter v) (PIE X pins σ tg R) X.xe s1) X.xe s
theorem go_of{M:Model}{A:Around}{E:‹"m"›}{s:Shared}{tg:Expr}{it:Addr}{u:Value}{o:Obj}{n:String}{vs:Array Value}{Q:Unit->Shared->Prop}(ho:s.heap.get? it=some o)(hc:o.cls=.type n)(hd:o.data=.fields vs)
 (hn:["enumerate","zip","dict_itemiterator","dict_reverseitemiterator","odict_iterator","itertools.zip_longest","itertools.pairwise"].contains n=false) (hQ:Q () s):wpAny M A (letOwnedTupleGo tg (.ref it) u) Q E s:=by
 unfold letOwnedTupleGo
 cases tg<;>first
  | exact wpAny_pure hQ
  | (cases u<;>first
   | exact wpAny_pure hQ
   | (refine wpAny_bind (wpAny_load ho ?_)
      rw[hc,hd]
      show wpAny M A (if (["enumerate","zip","dict_itemiterator","dict_reverseitemiterator","odict_iterator","itertools.zip_longest","itertools.pairwise"].contains n&&vs[0]? == some (rawInt _))=true then _ else _) Q E s
      rw[if_neg (by intro h;rw[hn,Bool.false_and]at h;cases h)]
      exact wpAny_pure hQ))
def Itl(K:W.Frag)(a:Addr):It:=
 ⟨fun i H=>∃ xs x,SqL K H a xs/\xs[i]?=some x,fun i H x H'=>H'=H/\∀ xs,SqL K H a xs->xs[i]?=some x,fun i H=>∃ xs,SqL K H a xs/\xs.length<=i⟩
def Itt(K:W.Frag)(a:Addr):It:=
 ⟨fun i H=>∃ xs x,SqT K H a xs/\xs[i]?=some x,fun i H x H'=>H'=H/\∀ xs,SqT K H a xs->xs[i]?=some x,fun i H=>∃ xs,SqT K H a xs/\xs.length<=i⟩
def Itr(lo:Int)(n:Nat):It:=⟨fun i _=>i<n,fun i H x H'=>H'=H/\x=.int (lo+i),fun i _=>n<=i⟩
theorem QMA{P:Program}{w:World}{K:W.Frag}{tg:Expr}(a it:Addr):Turn P w K tg (Itl K a) [it] it (fun i h=>h.IsListIter it a i) where
 mem:=by simp
 obj:=fun i h st b hb=>by
  have e:b=it:=by simpa using hb
  subst e
  obtain⟨o,e,c,d⟩:=st
  exact⟨o,e,fun v z=>by rw[d]at z;cases z⟩
 keep:=fun i h h' st k=>st.at fun o e=>k it (by simp) o e
 item:=by
  intro X hP hw hK hc i pins s σ H E I hf st hg
  subst hP hw hK
  obtain⟨xs,x,hq,hx⟩:=hg
  obtain⟨its,rv,p,hz⟩:=I.list hq
  obtain⟨u,hu,ru⟩:=rv.get hx
  obtain⟨f0,f1,f2,f3,f4,f5⟩:=hf it (by simp)
  refine wpAny_pyNext_list_item st p.isList (x:=u) (by simpa using hu) fun h' st' sb=>?_
  have I1:Inv X pins σ H { s with heap:=h' }:=I.turned (t':=s.toks) (fun b o hb e=>(sb.2 b hb).trans e) f0 f1 f3 f4 f5
  obtain⟨o,e,c,d⟩:=id st'
  exact⟨u,rfl,go_of (s:={ s with heap:=h' }) e c d (by decide) ⟨x,H,I1,ru,⟨rfl,fun ys hy=>by rw[I.list_inj hy hq];exact hx⟩,st',fun b hb=>(hf b hb).1⟩⟩
 done:=by
  intro X hP hw hK hc i pins s σ H E I hf st hg
  subst hP hw hK
  obtain⟨xs,hq,hx⟩:=hg
  obtain⟨its,rv,p,hz⟩:=I.list hq
  obtain⟨f0,f1,f2,f3,f4,f5⟩:=hf it (by simp)
  have hl:=rv.length
  exact wpAny_pyNext_list_end (I.ok.hd hc) st p.isList (by simp;omega) fun h' eb=>⟨rfl,I.turned (t':=s.toks) (fun b o hb e=>eb b o hb e) f0 f1 f3 f4 f5⟩
 self:=fun _ _ _ _ _ st h=>wpAny_pyIter_listiter st h
theorem QI2{P:Program}{w:World}{K:W.Frag}{tg:Expr}(a it:Addr):Turn P w K tg (Itt K a) [it] it (fun i h=>h.IsTupleIter it a i) where
 mem:=by simp
 obj:=fun i h st b hb=>by
  have e:b=it:=by simpa using hb
  subst e
  obtain⟨o,e,c,d⟩:=st
  exact⟨o,e,fun v z=>by rw[d]at z;cases z⟩
 keep:=fun i h h' st k=>st.at fun o e=>k it (by simp) o e
 item:=by
  intro X hP hw hK hc i pins s σ H E I hf st hg
  subst hP hw hK
  obtain⟨xs,x,hq,hx⟩:=hg
  obtain⟨its,rv,p,hz⟩:=I.tuple hq
  obtain⟨u,hu,ru⟩:=rv.get hx
  obtain⟨f0,f1,f2,f3,f4,f5⟩:=hf it (by simp)
  refine wpAny_pyNext_tuple_item st (show s.heap.IsTuple a its.toArray from p) (x:=u) (by simpa using hu) fun h' st' sb=>?_
  have I1:Inv X pins σ H { s with heap:=h' }:=I.turned (t':=s.toks) (fun b o hb e=>(sb.2 b hb).trans e) f0 f1 f3 f4 f5
  obtain⟨o,e,c,d⟩:=id st'
  exact⟨u,rfl,go_of (s:={ s with heap:=h' }) e c d (by decide) ⟨x,H,I1,ru,⟨rfl,fun ys hy=>by rw[I.tuple_inj hy hq];exact hx⟩,st',fun b hb=>(hf b hb).1⟩⟩
 done:=by
  intro X hP hw hK hc i pins s σ H E I hf st hg
  subst hP hw hK
  obtain⟨xs,hq,hx⟩:=hg
  obtain⟨its,rv,p,hz⟩:=I.tuple hq
  obtain⟨f0,f1,f2,f3,f4,f5⟩:=hf it (by simp)
  have hl:=rv.length
  exact wpAny_pyNext_tuple_end (I.ok.hd hc) st (show s.heap.IsTuple a its.toArray from p) (by simp;omega) fun h' eb=>⟨rfl,I.turned (t':=s.toks) (fun b o hb e=>eb b o hb e) f0 f1 f3 f4 f5⟩
 self:=fun _ _ _ _ _ st h=>wpAny_pyIter_tupleiter st h
theorem QJL{P:Program}{w:World}{K:W.Frag}{tg:Expr}(it:Addr)(lo:Int)(n:Nat):Turn P w K tg (Itr lo n) [it] it (fun i h=>IsRangeIter h it (lo+(i:Nat) * 1) ((n:Int) - (i:Nat)) 1) where
 mem:=by simp
 obj:=fun i h st b hb=>by
  have e:b=it:=by simpa using hb
  subst e
  exact⟨_,st,fun v z=>by
   have z':Data.fields _=Data.cell v:=z
   cases z'⟩
 keep:=fun i h h' st k=>k it (by simp) _ st
 item:=by
  intro X hP hw hK hc i pins s σ H E I hf st hg
  subst hP hw hK
  obtain⟨f0,f1,f2,f3,f4,f5⟩:=hf it (by simp)
  have W:=Walks.range (prog:=X.prog) (w:=X.w) (I.ok.hd hc) it lo 1 n
  refine W.item i s _ _ hg st fun v h' tk hv st' kk=>?_
  obtain⟨t,rfl⟩:=hv
  have I1:Inv X pins σ H { s with heap:=h',toks:=tk }:=I.turned (fun b o hb e=>kk b o (by simpa using hb) e) f0 f1 f3 f4 f5
  refine⟨_,rfl,go_of (s:={ s with heap:=h',toks:=tk }) (n:="range_iterator") st' rfl rfl (by decide) ⟨.int (lo+i),H,I1,⟨t,?_⟩,⟨rfl,rfl⟩,st',fun b hb=>(hf b hb).1⟩⟩
  rw[Int.mul_one]
 done:=by
  intro X hP hw hK hc i pins s σ H E I hf st hg
  subst hP hw hK
  obtain⟨f0,f1,f2,f3,f4,f5⟩:=hf it (by simp)
  exact wpAny_pyNext_range_end (I.ok.hd hc) st (by have:n<=i:=hg;omega) fun h' eb=>⟨rfl,I.turned (t':=s.toks) (fun b o hb e=>eb b o hb e) f0 f1 f3 f4 f5⟩
 self:=fun _ _ _ _ _ st h=>wpAny_pyIter_rangeiter st h
end L2
namespace L2
open PySem PySem.Spec PyProof.Rows
section
variable{X:Cx}{tg:Expr}
def iList(K:W.Frag)(tl:TE):TI:=fun σ H R=>tl σ H fun x H1=>∃ a,x=.ref a/\(∃ xs,SqL K H1 a xs)/\R (Itl K a) H1
def iTup(K:W.Frag)(tl:TE):TI:=fun σ H R=>tl σ H fun x H1=>∃ a,x=.ref a/\(∃ xs,SqT K H1 a xs)/\R (Itt K a) H1
theorem QO2{l:Expr}{tl:TE}(hl:PE X l tl):PI X tg l (iList X.K tl):=by
 intro pins s σ H R I h
 refine thn (hl pins s σ H _ I h) fun v s1 ⟨x,H1,I1,r1,q1⟩=>?_
 obtain⟨a,e,⟨xs,hq⟩,q⟩:=q1
 subst e
 cases r1
 obtain⟨its,rv,p,hz⟩:=I1.list hq
 refine wpAny_pyIter_list p.isList ?_
 refine⟨s1.heap.objs.size,[s1.heap.objs.size],_,_,H1,rfl,I1.kept (t':=s1.toks) fun b o e=>Heap.get?_push_of_some _ e,QMA a _,⟨_,Heap.get?_push_size _ rfl,rfl,rfl⟩,fun b hb=>?_,q⟩
 have e:b=s1.heap.objs.size:=by simpa using hb
 subst e
 exact I1.fpOk ‹"ar"› ‹"er"›
theorem QPu{l:Expr}{tl:TE}(hl:PE X l tl):PI X tg l (iTup X.K tl):=by
 intro pins s σ H R I h
 refine thn (hl pins s σ H _ I h) fun v s1 ⟨x,H1,I1,r1,q1⟩=>?_
 obtain⟨a,e,⟨xs,hq⟩,q⟩:=q1
 subst e
 cases r1
 obtain⟨its,rv,p,hz⟩:=I1.tuple hq
 refine wpAny_pyIter_tuple (show s1.heap.IsTuple a its.toArray from p) ?_
 refine⟨s1.heap.objs.size,[s1.heap.objs.size],_,_,H1,rfl,I1.kept (t':=s1.toks) fun b o e=>Heap.get?_push_of_some _ e,QI2 a _,⟨_,Heap.get?_push_size _ rfl,rfl,rfl⟩,fun b hb=>?_,q⟩
 have e:b=s1.heap.objs.size:=by simpa using hb
 subst e
 exact I1.fpOk ‹"ar"› ‹"er"›
theorem QM3{pins:‹"r"›}{σ:St}{H:Hp}{s:Shared}{R:It->Hp->Prop}{E:‹"m"›}{lo hi:Int}{t u v:Tok}{tk:Nat}(I:‹"h"›)(h1 : -(2 ^ 62)<=lo)(h2:lo<2 ^ 62)(h3 : -(2 ^ 62)<=hi)(h4:hi<2 ^ 62)
 (q:R (Itr lo (hi - lo).toNat) H):wpAny ‹"k"› X.A (pyIter ‹"dP"›) (PIE X pins σ tg R) E { s with heap:=s.heap.push { cls:=.type "range",data:=.fields #[.int lo t,.int hi u,.int 1 v] },toks:=tk }:=by
 refine wpAny_pyIter_range (IsRange.new ..) (small_one h1 h2 h3 h4) ?_
 have I1:Inv X pins σ H { s with heap:=s.heap.push { cls:=.type "range",data:=.fields #[.int lo t,.int hi u,.int 1 v] },toks:=tk }:=I.kept fun b o e=>Heap.get?_push_of_some _ e
 refine⟨(s.heap.push { cls:=.type "range",data:=.fields #[.int lo t,.int hi u,.int 1 v] }).objs.size,[(s.heap.push { cls:=.type "range",data:=.fields #[.int lo t,.int hi u,.int 1 v] }).objs.size],_,_,H,rfl,
  I1.kept (t':=tk) fun b o e=>Heap.get?_push_of_some _ e,QJL _ lo (hi - lo).toNat,?_,fun b hb=>?_,q⟩
 ·have e1:lo+((0:Nat):Int) * 1=lo:=by simp
  have e2:(((hi - lo).toNat:Nat):Int) - ((0:Nat):Int)=Builtin.Range.rangeSize lo hi 1:=by rw[rangeSize_one];split<;>omega
  show IsRangeIter _ _ (lo+((0:Nat):Int) * 1) ((((hi - lo).toNat:Nat):Int) - ((0:Nat):Int)) 1
  rw[e1,e2]
  exact Heap.get?_push_size _ rfl
 ·have e:b=(s.heap.push { cls:=.type "range",data:=.fields #[.int lo t,.int hi u,.int 1 v] }).objs.size:=by simpa using hb
  subst e
  exact I1.fpOk ‹"ar"› ‹"er"›
def iRng1(ta:TA):TI:=fun σ H R=>ta σ H fun vs H1=>∃ j:Int,vs=[.int j] /\ -(2 ^ 62)<=j/\j<2 ^ 62/\R (Itr 0 j.toNat) H1
theorem QKW{a:Expr}{ta:TA}{p pos:Pos}(hg:Gl X "range")(hm:X.mg "range"=none)(ha:PA X [a] ta)(hs:starEach [a] X.env=[(false,eval a X.env)]:=by rfl):PI X tg (.Call (.Name "range" p) [a] [] pos) (iRng1 ta):=by
 intro pins s σ H R I h
 refine Call_ (Qjy I hg hm boot_range (PyProof.Rows.callWith_type1 (thn ‹"bn"› fun us s1 ⟨vs,H1,I1,r1,q1⟩=>?_) hs rfl))
 obtain⟨j,e,q1,q2,q⟩:=q1
 subst e
 cases r1 with
 | cons r rr=>
  cases rr
  obtain⟨t,rfl⟩:=r
  exact call_range_1 (QM3 I1 (by omega) (by omega) q1 q2 (by simpa using q))
def tFor(wi:TI)(g:TG)(tb:TS):TS:=fun D σ H=>wi σ H fun J H1=>∃ W:Nat->Nat->St->Hp->Prop,(∃ m,W 0 m σ H1)/\∀ i m σ H,W i m σ H->
 (J.stop i H/\D.nx σ H)∨(J.go i H/\∃ N:St->Hp->Prop,(∀ σ' H',N σ' H'->∃ m',m'<m/\W (i+1) m' σ' H')/\∀ x H',J.yld i H x H'->g x σ H' fun σ2 H2=>tb { D with nx:=N,ct:=N,bk:=D.nx } σ2 H2)
def Qst(fp:List Addr)(h:Heap):List (Addr×Obj):=fp.filterMap fun b=>(h.get? b).map fun o=>(b,o)
theorem QkT{fp:List Addr}{h:Heap}{b:Addr}{o:Obj}(hb:b∈fp)(e:h.get? b=some o):(b,o)∈Qst fp h:=List.mem_filterMap.mpr ⟨b,hb,by rw[e];rfl⟩
theorem QLH{fp:List Addr}{h:Heap}{p:Addr×Obj}(hp:p∈Qst fp h):p.1∈fp/\h.get? p.1=some p.2:=by
 obtain⟨b,hb,e⟩:=List.mem_filterMap.mp hp
 cases q:h.get? b with
 | none=>rw[q]at e;cases e
 | some o=>
  rw[q]at e
  have e':(b,o)=p:=Option.some.inj e
  subst e'
  exact⟨hb,q⟩
theorem Inv.pinned{pins:‹"r"›}{σ:St}{H:Hp}{s:Shared}{fp:List Addr}(I:‹"h"›)(hf:∀ b∈fp,FpOk X pins H b)(ho:∀ b∈fp,∃ o,s.heap.get? b=some o/\∀ v,o.data≠.cell v):Inv X (pins++Qst fp s.heap) σ H s:=
 I.pins_of fun p hp=>(List.mem_append.mp hp).elim (fun z=>I.pin p (List.mem_append_right _ z)) fun z=>by
  obtain⟨hb,e⟩:=QLH z
  obtain⟨f0,f1,f2,_⟩:=hf p.1 hb
  obtain⟨o,e',d⟩:=ho p.1 hb
  rw[e]at e';cases e'
  exact⟨e,f0,f1,f2,d⟩
theorem Inv.unpinned{pins pl:‹"r"›}{σ:St}{H:Hp}{s:Shared}(I:Inv X (pins++pl) σ H s):Inv X pins σ H s:=I.pins_of fun p hp=>I.pin p (List.mem_append_right _ (List.mem_append_left _ hp))
theorem QL4{iter:Expr}{body:List Stmt}{wi:TI}{g:TG}{tb:TS}{pos:Pos}(hp:PassesOwn ‹"k"› X.A X.env X.xe)(hc:X.calm=true)(hi:PI X tg iter wi)(hg:PG X tg g)(hb:PSs X body tb)
 (hs:‹"dB"›:=by intro _;rfl):PS X (.For tg iter body [] pos) (tFor wi g tb):=by
 intro pins s σ H D I h
 refine wpAny_For (thn (hi pins s σ H _ I h) fun v s1 h1=>thn h1 fun itv s2 h2=>?_) hs
 obtain⟨it,fp,tn,J,H2,e,I2,T,st2,f2,W,⟨m0,w0⟩,turn⟩:=h2
 subst e
 -- what stays true of the iterator's objects through the loop
 have stat:∀{H':Hp},(∀ b∈fp,H' b=none)->∀ b∈fp,FpOk X pins H' b:=fun hn b hb=>⟨hn b hb,(f2 b hb).2⟩
 refine codeAny_forLoop_any (fun n s'=>∃ i σ' H',Inv X pins σ' H' s'/\tn i s'.heap/\(∀ b∈fp,H' b=none)/\W i n σ' H') ?_ m0 ⟨0,σ,H2,I2,st2,fun b hb=>(f2 b hb).1,w0⟩
 rintro n s3 ⟨i,σ3,H3,I3,st3,fr3,w3⟩
 rcases turn i n σ3 H3 w3 with⟨stop,qn⟩ | ⟨go,N,hN,step⟩
 ·refine wpAny_passesOwn hp (thn (T.done X rfl rfl rfl hc i pins s3 σ3 H3 X.xe I3 (stat fr3) st3 stop) fun r s4 ⟨hr,I4⟩=>?_)
  subst hr
  exact wpAny_execs_nil ⟨σ3,H3,I4,qn⟩
 ·refine wpAny_passesOwn hp (thn (T.item X rfl rfl rfl hc i pins s3 σ3 H3 X.xe I3 (stat fr3) st3 go) fun r s4 ⟨u,hr,h4⟩=>?_)
  subst hr
  refine wpAny_passesOwn hp (thn h4 fun _ s5 ⟨x,H5,I5,r5,y5,st5,fr5⟩=>?_)
  have I5':=I5.pinned (stat fr5) (T.obj _ _ st5)
  refine wpAny_passesOwn hp (thn (hg _ s5 σ3 H5 x u _ I5' r5 (step x H5 y5)) fun _ s6 ⟨σ6,H6,I6,q6⟩=>?_)
  refine wpAny_passesOwn hp (thn (hb _ s6 σ6 H6 _ I6 q6) fun f s7 q7=>?_)
  have again:∀{σ7:St}{H7:Hp},Inv X (pins++Qst fp s5.heap) σ7 H7 s7->N σ7 H7->∃ m,m<n/\∃ i σ' H',Inv X pins σ' H' s7/\tn i s7.heap/\(∀ b∈fp,H' b=none)/\W i m σ' H':=fun {σ7 H7} I7 n7=>by
   obtain⟨m',hm,w7⟩:=hN σ7 H7 n7
   refine⟨m',hm,i+1,σ7,H7,I7.unpinned,T.keep _ _ _ st5 fun b hb o e=>(I7.pin (b,o) ‹"as"›).1,fun b hb=>?_,w7⟩
   obtain⟨o,e,d⟩:=T.obj _ _ st5 b hb
   exact(I7.pin (b,o) ‹"as"›).2.1
  cases f with
  | next=>obtain⟨σ7,H7,I7,n7⟩:=q7;exact again I7 n7
  | cont=>obtain⟨σ7,H7,I7,n7⟩:=q7;exact again I7 n7
  | brk=>obtain⟨σ7,H7,I7,q7⟩:=q7;exact⟨σ7,H7,I7.unpinned,q7⟩
  | ret v=>obtain⟨x7,σ7,H7,I7,r7,q7⟩:=q7;exact⟨x7,σ7,H7,I7.unpinned,r7,q7⟩
end
end L2
namespace L2
open PySem PySem.Spec PyProof.Rows
abbrev R2:=V->V->Hp->VK->Prop
def OpR(X:Cx)(f:‹"dM"›)(r:R2):Prop:=
 ∀(pins:‹"r"›)(s:Shared)(σ:St)(H:Hp)(x y:V)(v u:Value)(Q:VK),Inv X pins σ H s->RelV x v->RelV y u->r x y H Q->
  wpAny ‹"k"› X.A (f v u) ‹"cY"› X.xe s
def UnR(X:Cx)(f:Value->Sem Value)(r:V->Hp->VK->Prop):Prop:=
 ∀(pins:‹"r"›)(s:Shared)(σ:St)(H:Hp)(x:V)(v:Value)(Q:VK),Inv X pins σ H s->RelV x v->r x H Q->
  wpAny ‹"k"› X.A (f v) ‹"cY"› X.xe s
def CallR(X:Cx)(f:Value)(r:‹"df"›):Prop:=
 ∀(pins:‹"r"›)(s:Shared)(σ:St)(H:Hp)(xs:List V)(us:List Value)(Q:VK),Inv X pins σ H s->Vals xs us->r xs H Q->
  wpAny ‹"k"› X.A (call f us) ‹"cY"› X.xe s
def tOp(r:R2)(ta tb:TE):TE:=fun σ H Q=>ta σ H fun x H1=>tb σ H1 fun y H2=>r x y H2 Q
def tUn(r:V->Hp->VK->Prop)(ta:TE):TE:=fun σ H Q=>ta σ H fun x H1=>r x H1 Q
def rI(C:Int->Int->Prop)(g:Int->Int->V):R2:=fun x y H Q=>∃ i j,x=.int i/\y=.int j/\C i j/\Q (g i j) H
def rI0(g:Int->Int->V):R2:=fun x y H Q=>∃ i j,x=.int i/\y=.int j/\Q (g i j) H
def rU(g:Int->V):V->Hp->VK->Prop:=fun x H Q=>∃ i,x=.int i/\Q (g i) H
section
variable{X:Cx}{a b c:Expr}{ta tb tc:TE}{pos:Pos}
theorem binT(ha:PE X a ta)(hb:PE X b tb){pins:‹"r"›}{s:Shared}{σ:St}{H:Hp}{R:V->V->Hp->Prop}(I:‹"h"›)
 (h:ta σ H fun x H1=>tb σ H1 fun y H2=>R x y H2) {Q:‹"m"›} {f:‹"dM"›}
 (hf:∀ v u s2 x y H2,Inv X pins σ H2 s2->RelV x v->RelV y u->R x y H2->wpAny ‹"k"› X.A (f v u) Q X.xe s2):
 wpAny ‹"k"› X.A (eval a X.env) (fun v s₁=>wpAny ‹"k"› X.A (eval b X.env) (fun u s₂ => wpAny ‹"k"› X.A (f v u) Q X.xe s₂) X.xe s₁) X.xe s:=by
 refine thn ‹"ba"› fun v s1 ⟨x,H1,I1,r1,q1⟩=>?_
 refine thn (hb pins s1 σ H1 _ I1 q1) fun u s2 ⟨y,H2,I2,r2,q2⟩=>?_
 exact hf v u s2 x y H2 I2 r1 r2 q2
theorem pe_op{op:Operator}{r:R2}(ho:OpR X (binaryOp op) r)(ha:PE X a ta)(hb:PE X b tb):PE X (.BinOp a op b pos) (tOp r ta tb):=by
 intro pins s σ H Q I h
 exact wpAny_BinOp ‹"cR"›
theorem pe_un{op:UnaryOp}{r:V->Hp->VK->Prop}(ho:UnR X (unaryOp op) r)(ha:PE X a ta):PE X (.UnaryOp op a pos) (tUn r ta):=by
 intro pins s σ H Q I h
 exact UnaryOp_ (thn ‹"ba"› fun v s1 ⟨x,H1,I1,r1,q1⟩=>ho pins s1 σ H1 x v Q I1 r1 q1)
theorem opI{f:‹"dM"›}{C:Int->Int->Prop}{g:Int->Int->Int}
 (rule:∀(i j:Int)(t u:Tok)(s:Shared)(Q:‹"m"›)(E:‹"m"›),C i j->Q (.int (g i j) s.toks) { s with toks:=s.toks+1 }->wpAny ‹"k"› X.A (f (.int i t) (.int j u)) Q E s):
 OpR X f (rI C fun i j=>.int (g i j)):=by
 intro pins s σ H x y v u Q I rx ry h
 obtain⟨i,j,rfl,rfl,hc,q⟩:=h
 obtain⟨t,rfl⟩:=rx
 obtain⟨t',rfl⟩:=ry
 exact rule i j t t' s _ _ hc ⟨.int (g i j),H,I.tok _,⟨_,rfl⟩,q⟩
theorem opI0{f:‹"dM"›}{g:Int->Int->Int}
 (rule:∀(i j:Int)(t u:Tok)(s:Shared)(Q:‹"m"›)(E:‹"m"›),Q (.int (g i j) s.toks) { s with toks:=s.toks+1 }->wpAny ‹"k"› X.A (f (.int i t) (.int j u)) Q E s):
 OpR X f (rI0 fun i j=>.int (g i j)):=by
 intro pins s σ H x y v u Q I rx ry h
 obtain⟨i,j,rfl,rfl,q⟩:=h
 obtain⟨t,rfl⟩:=rx
 obtain⟨t',rfl⟩:=ry
 exact rule i j t t' s _ _ ⟨.int (g i j),H,I.tok _,⟨_,rfl⟩,q⟩
theorem opB0{f:‹"dM"›}{g:Int->Int->Bool}
 (rule:∀(i j:Int)(t u:Tok)(s:Shared)(Q:‹"m"›)(E:‹"m"›),Q (.bool (g i j)) s->wpAny ‹"k"› X.A (f (.int i t) (.int j u)) Q E s):
 OpR X f (rI0 fun i j=>.bl (g i j)):=by
 intro pins s σ H x y v u Q I rx ry h
 obtain⟨i,j,rfl,rfl,q⟩:=h
 obtain⟨t,rfl⟩:=rx
 obtain⟨t',rfl⟩:=ry
 exact rule i j t t' s _ _ ⟨.bl (g i j),H,I,rfl,q⟩
def CPow(i j:Int):Prop:=0<=j/\j<=1000000/\i.natAbs<2 ^ 64
def CMul(i j:Int):Prop:=(-(2 ^ 64)<i/\i<2 ^ 64)∨(-(2 ^ 64)<j/\j<2 ^ 64)
theorem CMul.ok{i j:Int}(h:CMul i j):IntMulOk i j:=by
 rcases h with⟨h1,h2⟩ | ⟨h1,h2⟩
 ·exact .of_left (intBits_le_64 h1 h2)
 ·exact .of_right (intBits_le_64 h1 h2)
theorem QP5:OpR X (binaryOp .Add) (rI0 fun i j=>.int (i+j)):=opI0 fun _ _ _ _ _ _ _ q=>add_int q
theorem QPJ:OpR X (binaryOp .Sub) (rI0 fun i j=>.int (i - j)):=opI0 fun _ _ _ _ _ _ _ q=>sub_int q
theorem QOP:OpR X (binaryOp .Mod) (rI (fun _ j=>j≠0) fun i j=>.int (i.fmod j)):=opI fun _ _ _ _ _ _ _ hc q=>mod_int' hc q
theorem QPo:OpR X (binaryOp .Pow) (rI CPow fun i j=>.int (i ^ j.toNat)):=opI fun _ _ _ _ _ _ _ hc q=>pow_int_small hc.1 hc.2.1 hc.2.2 q
theorem unI{f:Value->Sem Value}{g:Int->Int}
 (rule:∀(i:Int)(t:Tok)(s:Shared)(Q:‹"m"›)(E:‹"m"›),Q (.int (g i) s.toks) { s with toks:=s.toks+1 }->wpAny ‹"k"› X.A (f (.int i t)) Q E s):
 UnR X f (rU fun i=>.int (g i)):=by
 intro pins s σ H x v Q I rx h
 obtain⟨i,rfl,q⟩:=h
 obtain⟨t,rfl⟩:=rx
 exact rule i t s _ _ ⟨.int (g i),H,I.tok _,⟨_,rfl⟩,q⟩
theorem QQD:UnR X (unaryOp .USub) (rU fun i=>.int (-i)):=unI fun _ _ _ _ _ q=>neg_int q
end
def scal:V->V->Bool
 | .non,.non=>true | .non,.int _=>true | .int _,.non=>true | .non,.bl _=>true | .bl _,.non=>true | .non,.str _=>true | .str _,.non=>true
 | .int _,.int _=>true | .bl _,.bl _=>true | .str _,.str _=>true | .byt _,.byt _=>true
 | .int _,.str _=>true | .str _,.int _=>true | .bl _,.str _=>true | .str _,.bl _=>true
 | _,_=>false
section
variable{X:Cx}{a b c:Expr}{ta tb tc:TE}{pos:Pos}
theorem QQg{pins:‹"r"›}{σ:St}{H:Hp}{s:Shared}{Q:VK}{k k':Bool}(I:‹"h"›)(q:Q (.bl k) H)(e:k=k'):EP X pins σ Q (.bool k') s:=by
 subst e
 exact⟨.bl k,H,I,rfl,q⟩
theorem op_lt:OpR X (compareOp .Lt) (rI0 fun i j=>.bl (decide (i<j))):=opB0 fun _ _ _ _ _ _ _ q=>lt_int q
theorem op_le:OpR X (compareOp .LtE) (rI0 fun i j=>.bl (decide (i<=j))):=opB0 fun _ _ _ _ _ _ _ q=>le_int q
theorem op_gt:OpR X (compareOp .Gt) (rI0 fun i j=>.bl (decide (j<i))):=opB0 fun _ _ _ _ _ _ _ q=>gt_int q
theorem op_ge:OpR X (compareOp .GtE) (rI0 fun i j=>.bl (decide (j<=i))):=opB0 fun _ _ _ _ _ _ _ q=>ge_int q
theorem QKG:OpR X (compareOp .In) ‹"bM"›:=by
 intro pins s σ H x y v u Q I rx ry h
 obtain⟨i,j,rfl,rfl,q⟩:=h
 obtain⟨t,rfl⟩:=rx
 obtain⟨t',rfl⟩:=ry
 exact in_str (QQg I q rfl)
theorem OpR.or{f:‹"dM"›}{r r':R2}(h:OpR X f r)(h':OpR X f r'):OpR X f (fun x y H Q=>r x y H Q∨r' x y H Q):=by
 intro pins s σ H x y v u Q I rx ry q
 rcases q with q | q
 ·exact h pins s σ H x y v u Q I rx ry q
 ·exact h' pins s σ H x y v u Q I rx ry q
theorem Qib(b:Expr){op:CmpOp}(h:op≠.In:=by decide)(h2:op≠.NotIn:=by decide):behindInMarks op b=false:=by
 have e1:(op == CmpOp.In)=false:=by cases op<;>first | rfl | exact absurd rfl h
 have e2:(op == CmpOp.NotIn)=false:=by cases op<;>first | rfl | exact absurd rfl h2
 cases b<;>simp[behindInMarks,e1,e2]
theorem QOZ{op:CmpOp}{r:R2}(ho:OpR X (compareOp op) r)(ha:PE X a ta)(hb:PE X b tb)(hm:behindInMarks op b=false):PE X (.Compare a [op] [b] pos) (tOp r ta tb):=by
 intro pins s σ H Q I h
 exact wpAny_Compare1 ‹"cR"› hm
def tTest(t:TE):TT:=fun σ H Q=>t σ H fun x H'=>∃ k,x=.bl k/\Q k H'
theorem QOI{op:CmpOp}{r:R2}(ho:OpR X (compareOp op) r)(ha:PE X a ta)(hb:PE X b tb)(hm:behindInMarks op b=false):PT X (.Compare a [op] [b] pos) (tTest (tOp r ta tb)):=by
 intro pins s σ H Q I h
 refine wpAny_isTrue_Compare1 (thn ‹"ba"› fun v s1 ⟨x,H1,I1,r1,q1⟩=>thn (hb pins s1 σ H1 _ I1 q1) fun u s2 ⟨y,H2,I2,r2,q2⟩=>
  thn ‹"ek"› fun c s3 ⟨z,H3,I3,r3,k,e,q3⟩=>?_) hm
 subst e
 cases r3
 exact wpAny_truthy_bool ⟨H3,I3,q3⟩
def QD2(r r':R2)(ta tb tc:TE):TE:=fun σ H Q=>ta σ H fun x H1=>tb σ H1 fun y H2=>r x y H2 fun z H3=>∃ k,z=.bl k/\
 (if k=true then tc σ H3 fun w' H4=>r' y w' H4 Q else Q (.bl false) H3)
theorem QM8{op op':CmpOp}{r r':R2}(ho:OpR X (compareOp op) r)(ho':OpR X (compareOp op') r')(ha:PE X a ta)(hb:PE X b tb)(hc:PE X c tc)
 (hm:‹"ee"›:=by with_unfolding_all rfl):PE X ‹"eb"› (QD2 r r' ta tb tc):=by
 intro pins s σ H Q I h
 refine Compare_chain (thn ‹"ba"› fun v s1 ⟨x,H1,I1,r1,q1⟩=>chain_link (thn (hb pins s1 σ H1 _ I1 q1) fun u s2 ⟨y,H2,I2,r2,q2⟩=>
  thn ‹"ek"› fun d s3 ⟨z,H3,I3,r3,k,e,q3⟩=>?_)) hm
 subst e
 cases r3
 refine wpAny_truthy_bool ?_
 cases k with
 | false=>exact ite_ff ⟨.bl false,H3,I3,rfl,q3⟩
 | true=>exact ite_tt (chain_last (thn (hc pins s3 σ H3 _ I3 q3) fun w' s4 ⟨z',H4,I4,r4,q4⟩=>ho' pins s4 σ H4 y z' u w' Q I4 r2 r4 q4))
theorem QM4{op op':CmpOp}{r r':R2}(ho:OpR X (compareOp op) r)(ho':OpR X (compareOp op') r')(ha:PE X a ta)(hb:PE X b tb)(hc:PE X c tc)
 (hm:‹"ee"›:=by with_unfolding_all rfl):PT X ‹"eb"› (tTest (QD2 r r' ta tb tc)):=by
 intro pins s σ H Q I h
 refine isTrue_chain (thn ‹"ba"› fun v s1 ⟨x,H1,I1,r1,q1⟩=>test_link (thn (hb pins s1 σ H1 _ I1 q1) fun u s2 ⟨y,H2,I2,r2,q2⟩=>
  thn ‹"ek"› fun d s3 ⟨z,H3,I3,r3,k,e,q3⟩=>?_)) hm
 subst e
 cases r3
 refine wpAny_truthy_bool ?_
 cases k with
 | false=>
  obtain⟨k',e',q'⟩:=q3
  cases e'
  exact ite_ff ⟨H3,I3,q'⟩
 | true=>
  refine ite_tt (test_last (thn (hc pins s3 σ H3 _ I3 q3) fun w' s4 ⟨z',H4,I4,r4,q4⟩=>thn (ho' pins s4 σ H4 y z' u w' _ I4 r2 r4 q4) fun d' s5 ⟨z2,H5,I5,r5,k2,e2,q5⟩=>?_))
  subst e2
  cases r5
  exact wpAny_truthy_bool ⟨H5,I5,q5⟩
theorem Qpn:(sizeLine:Nat)<2 ^ 63:=by rw[sizeLine_eq];decide
theorem QJ8:OpR X (binaryOp .Add) (fun x y H Q=>∃ i j,x=.str i/\y=.str j/\i.length+j.length<=sizeLine/\Q (.str (i++j)) H):=by
 intro pins s σ H x y v u Q I rx ry h
 obtain⟨i,j,rfl,rfl,hz,q⟩:=h
 obtain⟨t,rfl⟩:=rx
 obtain⟨t',rfl⟩:=ry
 exact add_str (fun t' tk=>⟨.str (i++j),H,I.tok _,⟨_,rfl⟩,q⟩) hz
theorem vals1{x:V}{us:List Value}(r:Vals [x] us):∃ u,us=[u]/\RelV x u:=by
 cases r with
 | cons r1 r2=>cases r2;exact⟨_,rfl,r1⟩
theorem vals2{x y:V}{us:List Value}(r:Vals [x,y] us):∃ u w',us=[u,w']/\RelV x u/\RelV y w':=by
 cases r with
 | cons r1 r2=>
  cases r2 with
  | cons r3 r4=>cases r4;exact⟨_,_,rfl,r1,r3⟩
theorem QMz:CallR X (.type "int") (fun xs H Q=>(∃ i,xs=[.int i]/\Q (.int i) H)∨∃ k,xs=[.bl k]/\Q (.int (if k then 1 else 0)) H):=by
 intro pins s σ H xs us Q I r h
 rcases h with⟨i,rfl,q⟩ | ⟨k,rfl,q⟩
 ·obtain⟨u,rfl,t,rfl⟩:=vals1 r
  exact call_int_int ⟨.int i,H,I,⟨_,rfl⟩,q⟩
 ·obtain⟨u,rfl,r1⟩:=vals1 r
  cases r1
  exact call_int_bool ⟨.int (if k then 1 else 0),H,I.tok _,⟨_,rfl⟩,q⟩
end
end L2
namespace L2
open PySem PySem.Spec PyProof.Rows
structure ObjM(h:Heap)(x dx C:Addr)(mA:Str->Option Value):Prop where
 obj:h.get? x=some (W.instObj C dx)
 ns:h.Ns1 dx mA
 ne:dx≠x
theorem QMy{h:Heap}{dx:Addr}{mA:‹"R"›}(n:h.Ns1 dx mA):∃ od,h.get? dx=some od/\∀ name,W.lookIn name od=some (mA name):=by
 obtain⟨o,es,ep,ho,hd,hk,_,hm⟩:=n
 refine⟨o,ho,fun name=>?_⟩
 have e:=hm name
 unfold nsFind findBy at e
 rw[← Array.find?_toList]at e
 unfold W.lookIn
 rw[hd]
 dsimp only
 split
 ·rename_i y q
  rw[q]at e
  exact congrArg some e
 ·rename_i q
  rw[q]at e
  have a:es.toList.any (·.refKey)=false:=by
   rw[List.any_eq_false]
   intro y hy
   obtain⟨z,t,hkey⟩:=hk y (Array.mem_toList_iff.mp hy)
   simp[DictEntry.refKey,hkey]
  have a':¬ es.toList.any (·.refKey)=true:=by rw[a];exact Bool.false_ne_true
  rw[if_neg a']
  exact congrArg some e
theorem ObjM.look{h:Heap}{x dx C:Addr}{mA:‹"R"›}(I:ObjM h x dx C mA):∃ od,W.InstAt h x (W.instObj C dx) C (some od)/\∀ name,W.lookIn name od=some (mA name):=
 let ⟨od,ho,hl⟩:=QMy I.ns
 ⟨od,⟨I.obj,rfl,rfl,ho⟩,hl⟩
section
variable{prog:Program}{w:World}{A:Around}{E:Value->Shared->Prop}{s:Shared}{K:W.Frag}{x dx C f:Addr}{mA:Str->Option Value}{name:Str}{v:Value}
theorem QOh{expr:Bool}{Q:‹"m"›}(X:K.In s.heap)(I:ObjM s.heap x dx C mA)(hg:W.plainGet K C name=true)(hh:W.hasDictIn K C=true)
 (ha:W.findIn K (.ref C) name=some none) (hv:mA name=some v) (hv':W.handedIn v=true) (h:Q v { s with toks:=s.toks+1 }):
 wpAny ‹"bL"› A (getAttr (.ref x) name expr) Q E s:=by
 obtain⟨od,J,hl⟩:=I.look
 exact W.get_value X J (W.plainGet_of hg).1 (W.findObj_own hh ha rfl (by rw[hl,hv])) hv' h
theorem QNK{pl:Sem Bool}{Q:Value×List Value->Shared->Prop}(X:K.In s.heap)(I:ObjM s.heap x dx C mA)(hg:W.plainGet K C name=true)
 (hf:W.findIn K (.ref C) name=some (some (.ref f))) (ht:W.isFn K (.ref f)=true) (hv:mA name=none) (h:Q (.ref f,[.ref x]) s):
 wpAny ‹"bL"› A (getMethod (.ref x) name pl) Q E s:=by
 obtain⟨od,J,hl⟩:=I.look
 exact W.method_fn X J (W.plainGet_of hg).1 (W.plainGet_of hg).2 hf (beq_iff_eq.mp ht) (by show(W.lookIn name od).map (·.isSome)=some false;rw[hl,hv];rfl) h
theorem QOR{ns:List Str}{Q:Unit->Shared->Prop}(X:K.In s.heap)(I:ObjM s.heap x dx C mA)
 (hs:W.findIn K (.ref C) "__setattr__"=some ‹"an"›) (hp:W.plainOver K C=true) (ht:W.takerIn K C name=some none) (hh:W.hasDictIn K C=true)
 (hw:PySem.Within mA ns) (hsz:ns.length<=sizeLine)
 (h:∀ h',ObjM h' x dx C (fun y=>if y=name then some v else mA y)->Heap.SameBut dx s.heap h'->Q () { s with heap:=h',toks:=s.toks+2 }):
 wpAny ‹"bL"› A (setAttr (.ref x) name v) Q E s:=by
 obtain⟨od,J,hl⟩:=I.look
 refine W.set_plain X J hs (W.osa_open (s:={ s with toks:=s.toks+1 }) (r:=none) X J hp ht fun b=>?_)
 obtain⟨cd,hc,hd'⟩:=W.any_some hh
 have hx:s.heap.get? x=some ⟨.ref C,some dx,.plain, #[]⟩:=I.obj
 refine wpAny_bind (wpAny_pure (wpAny_bind (wpAny_bind (wpAny_loadPart hx (wpAny_bind (W.Looks.here (s:={ s with toks:=s.toks+1 }) (W.looks_clsIn X hc) ?_))))))
 rw[hd']
 refine wpAny_pure (a:=some dx) (wpAny_bind (wpAny_pure (wpAny_bind ?_)))
 refine wpAny_nsSet1 (s:={ s with toks:=s.toks+1 }) I.ns fun h' hn2 hs2=>?_
 obtain⟨oD,esD,epD,hoD,hdD,hcD⟩:=hn2.count (PySem.Within.cons name v hw)
 refine wpAny_bind (wpAny_lookBehind hoD (by rw[hdD];exact pastItsLine_dict (Nat.le_trans hcD (by rw[List.length_cons];omega))) ?_)
 exact wpAny_pure (h _ ⟨(hs2.2 _ (Ne.symm I.ne)).trans I.obj,hn2,I.ne⟩ hs2)
theorem QNS{R:Result->Shared->Prop}{vs:List Value}{kw:List (Str×Value)}(X:K.In s.heap)(hm:W.makesIn K C=true)
 (hi:W.findIn K (.ref C) "__init__"=some (some (.ref f))) (hf:W.typeIn K (.ref f)=some (.type "function"))
 (h:codeAny ‹"bL"› (A.under (.builtin "type.__call__" ⟨.ref C::vs,kw⟩)) (.call (.ref f) ⟨.ref (s.heap.objs.size+1)::vs,kw⟩) (W.InitBack (s.heap.objs.size+1) R)
  { s with heap:=(s.heap.push W.emptyDict).push ‹"ep"› }):
 codeAny ‹"bL"› A (.call (.ref C) ⟨vs,kw⟩) R s:=by
 obtain⟨hh,g,d,t,os⟩:=s
 exact W.make_core (W.makes_of X hm) (W.looks_findIn X hi) (fun self=>W.bind_fn X self hf) (.inl rfl) h
end
def putF(f:Str)(v:V):List (Str×V)->List (Str×V)
 | []=>[(f,v)]
 | (g,x)::r=>if g=f then(g,v)::r else(g,x)::putF f v r
theorem Qux(f g:Str)(v:V):∀ fs:List (Str×V),(putF f v fs).lookup g=if g=f then some v else fs.lookup g
 | []=>by
  show List.lookup g [(f,v)]=_
  by_cases h:g=f
  ·have hb:(g == f)=true:=beq_iff_eq.mpr h
   simp only[List.lookup,hb,if_pos h]
  ·have hb:(g == f)=false:=beq_eq_false_iff_ne.mpr h
   simp only[List.lookup,hb,if_neg h]
 | (k,x)::r=>by
  have ih:=Qux f g v r
  rw[show putF f v ((k,x)::r)=‹"dD"› from rfl]
  by_cases hk:k=f
  ·rw[if_pos hk]
   by_cases h:g=k
   ·have hb:(g == k)=true:=beq_iff_eq.mpr h
    simp only[List.lookup,hb,if_pos (h.trans hk)]
   ·have hb:(g == k)=false:=beq_eq_false_iff_ne.mpr h
    simp only[List.lookup,hb,if_neg (fun e:g=f=>h (e.trans hk.symm))]
  ·rw[if_neg hk]
   by_cases h:g=k
   ·have hb:(g == k)=true:=beq_iff_eq.mpr h
    simp only[List.lookup,hb,if_neg (fun e:g=f=>hk (h.symm.trans e))]
   ·have hb:(g == k)=false:=beq_eq_false_iff_ne.mpr h
    simp only[List.lookup,hb]
    exact ih
theorem Qr9(f:Str)(v:V):∀ fs:List (Str×V),f∈(putF f v fs).map (·.1)/\∀ g,g∈fs.map (·.1)->g∈(putF f v fs).map (·.1)
 | []=>⟨by simp[putF],fun g h=>by simp at h⟩
 | (k,x)::r=>by
  obtain⟨i1,i2⟩:=Qr9 f v r
  rw[show putF f v ((k,x)::r)=‹"dD"› from rfl]
  by_cases hk:k=f
  ·rw[if_pos hk]
   subst hk
   exact⟨by simp,fun g h=>by simpa using h⟩
  ·rw[if_neg hk]
   refine⟨?_,fun g h=>?_⟩
   ·rw[List.map_cons]
    exact List.mem_cons_of_mem _ i1
   ·rw[List.map_cons]at h ⊢
    rcases List.mem_cons.mp h with e | e
    ·exact List.mem_cons.mpr (.inl e)
    ·exact List.mem_cons_of_mem _ (i2 g e)
theorem Quq(f:Str)(v:V):∀ fs:List (Str×V),(putF f v fs).length<=fs.length+1
 | []=>by simp[putF]
 | (k,x)::r=>by
  have ih:=Quq f v r
  rw[show putF f v ((k,x)::r)=‹"dD"› from rfl]
  by_cases hk:k=f
  ·rw[if_pos hk,List.length_cons,List.length_cons];omega
  ·rw[if_neg hk,List.length_cons,List.length_cons];omega
theorem RelO.some_of{v:V}{o:Option Value}(r:RelO (some v) o):∃ u,o=some u/\RelV v u:=by
 cases o with
 | none=>exact(show False from r).elim
 | some u=>exact⟨u,rfl,r⟩
theorem RelO.none_of{o:Option Value}(r:RelO none o):o=none:=by
 cases o with
 | none=>rfl
 | some u=>exact(show False from r).elim
theorem QL2{v:V}{u:Value}(r:RelV v u):W.handedIn u=true:=by
 cases v with
 | non=>cases (show u=Value.none from r);rfl
 | bl b=>cases (show u=Value.bool b from r);rfl
 | int i=>obtain⟨t,e⟩:=(show ∃ t,u=Value.int i t from r);cases e;rfl
 | str x=>obtain⟨t,e⟩:=(show ∃ t,u=Value.str x t from r);cases e;rfl
 | byt b=>obtain⟨t,e⟩:=(show ∃ t,u=Value.bytes b t from r);cases e;rfl
 | flt b=>obtain⟨t,e⟩:=(show ∃ t,u=Value.float b t from r);cases e;rfl
 | ref a=>cases (show u=Value.ref a from r);rfl
 | ty n=>cases (show u=Value.type n from r);rfl
section
variable{P:Program}{w:World}{H H':Hp}{h h':Heap}{a C dx:Addr}{fs fs':List (Str×V)}
theorem Qpp(hok:HOk P w H h)(e:H a=some (.ins C dx fs)):∃ mA,ObjM h a dx C mA/\(∀ f,RelO (fs.lookup f) (mA f))/\PySem.Within mA (fs.map (·.1))/\fs.length<=1000/\H dx=some (.own a):=by
 obtain⟨d,z,ne,ob,mA,n,r,q⟩:=(show ObjOk P w H h a (.ins C dx fs) from hok a _ e)
 exact⟨mA,⟨ob,n,ne⟩,r,q,z,d⟩
end
structure Cls(K:W.Frag)(C:Addr):Prop where
 pg:W.plainGet K C Str.empty=true
 hd:W.hasDictIn K C=true
 po:W.plainOver K C=true
 sa:W.findIn K (.ref C) "__setattr__"=some ‹"an"›
theorem Cls.get{K:W.Frag}{C:Addr}(c:Cls K C)(f:Str):W.plainGet K C f=true:=c.pg
def Qmb(K:W.Frag)(C:Addr)(f:Str):Prop:=W.findIn K (.ref C) f=some none
theorem Qmb.taker{K:W.Frag}{C:Addr}{f:Str}(n:Qmb K C f):W.takerIn K C f=some none:=by
 unfold W.takerIn
 rw[show W.findIn K (.ref C) f=some none from n]
 rfl
structure Meth(K:W.Frag)(C:Addr)(m:Str)(f:Addr):Prop where
 at_:W.findIn K (.ref C) m=some (some (.ref f))
 fn:W.isFn K (.ref f)=true
 kp:W.keepIn K (.ref f)=true
section
variable{X:Cx}{pins:List (Addr×Obj)}{σ:St}{H:Hp}{s:Shared}{a C dx:Addr}{fs:List (Str×V)}{f:Str}{v:V}{A:Around}{E:Value->Shared->Prop}
theorem QIV{b:Bool}{Q:‹"m"›}(I:‹"h"›)(e:H a=some (.ins C dx fs))(c:Cls X.K C)(n:Qmb X.K C f)(l:fs.lookup f=some v)
 (h:∀ u s',Inv X pins σ H s'->RelV v u->Q u s'):wpAny ‹"k"› A (getAttr (.ref a) f b) Q E s:=by
 obtain⟨mA,O,r,_,_,_⟩:=Qpp I.hok e
 obtain⟨u,hu,ru⟩:=RelO.some_of (v:=v) (o:=mA f) (by rw[← l];exact r f)
 exact QOh I.kIn O (c.get f) c.hd n hu (QL2 ru) (h u _ (I.tok _) ru)
theorem Qxx{m:Str}{g:Addr}{pl:Sem Bool}{Q:Value×List Value->Shared->Prop}(I:‹"h"›)(e:H a=some (.ins C dx fs))(c:Cls X.K C)(k:Meth X.K C m g)(l:fs.lookup m=none)
 (h:Q (.ref g,[.ref a]) s):wpAny ‹"k"› A (getMethod (.ref a) m pl) Q E s:=by
 obtain⟨mA,O,r,_,_,_⟩:=Qpp I.hok e
 have hn:mA m=none:=RelO.none_of (by rw[← l];exact r m)
 exact QNK I.kIn O (c.get m) k.at_ k.fn hn h
theorem QJF{y:V}{u:Value}{Q:Unit->Shared->Prop}(I:‹"h"›)(e:H a=some (.ins C dx fs))(c:Cls X.K C)(n:Qmb X.K C f)(hl:fs.length<1000)(ry:RelV y u)
 (h:∀ s',Inv X pins σ (upd H a (.ins C dx (putF f y fs))) s'->Q () s'):wpAny ‹"k"› A (setAttr (.ref a) f u) Q E s:=by
 obtain⟨mA,O,r,wi,_,ho⟩:=Qpp I.hok e
 have hz:(fs.map (·.1)).length<=sizeLine:=by rw[List.length_map,sizeLine_eq];omega
 refine QOR I.kIn O c.sa c.po n.taker c.hd wi hz fun h' O' sb=>h _ ?_
 have hd:∃ o,h'.get? dx=some o:=let ⟨o,_,_,e',_⟩:=O'.ns;⟨o,e'⟩
 refine I.write (x:=a) (e:=dx) (by rw[e];exact True.intro) (.inr ho) (fun b q hb z=>(sb.2 b hb).trans z) hd ?_
 refine⟨by rw[Qk O.ne];exact ho,?_,O.ne,O'.obj,_,O'.ns,fun g=>?_,fun g hg=>?_⟩
 ·have:=Quq f y fs;omega
 ·show RelO ((putF f y fs).lookup g) (if g=f then some u else mA g)
  rw[Qux]
  by_cases q:g=f
  ·rw[if_pos q,if_pos q];exact ry
  ·rw[if_neg q,if_neg q];exact r g
 ·by_cases q:g=f
  ·rw[q];exact(Qr9 f y fs).1
  ·refine(Qr9 f y fs).2 g (wi g fun z=>hg ?_)
   show(if g=f then some u else mA g)=none
   rw[if_neg q];exact z
theorem Inv.made(I:‹"h"›):Inv X pins σ (upd (upd H s.heap.objs.size (.own (s.heap.objs.size+1))) (s.heap.objs.size+1) (.ins C s.heap.objs.size []))
 { s with heap:=(s.heap.push W.emptyDict).push ‹"ep"› }:=by
 have e1:(s.heap.push W.emptyDict).get? s.heap.objs.size=some W.emptyDict:=Heap.get?_push_size s.heap rfl
 have e2:((s.heap.push W.emptyDict).push ‹"ep"›).get? (s.heap.objs.size+1)=some ‹"ep"›:=by
  have:=Heap.get?_push_size (s.heap.push W.emptyDict) (o:=W.instObj C s.heap.objs.size) rfl
  rwa [Heap.size_push]at this
 have e3:(s.heap.push W.emptyDict).Ns s.heap.objs.size (fun _=>none):=⟨W.emptyDict, #[],_,e1,rfl,(fun e he=>absurd he (by simp)),fun _=>rfl⟩
 have I1:=I.laid (a:=s.heap.objs.size) (o:=.own (s.heap.objs.size+1)) (h':=s.heap.push W.emptyDict) (t':=s.toks) (fun b u q=>Heap.get?_push_of_some _ q) ‹"ar"› ⟨_,e1⟩
 refine I1.laid (a:=s.heap.objs.size+1) (o:=.ins C s.heap.objs.size []) (t':=s.toks) (fun b u q=>Heap.get?_push_of_some _ q) (Nat.le_of_eq (Heap.size_push _ _)) ?_
 have ne:s.heap.objs.size≠s.heap.objs.size+1:=Nat.ne_of_lt (Nat.lt_succ_self _)
 refine⟨by rw[Qk ne,QM],Nat.zero_le _,ne,e2,fun _=>none,(Heap.Ns1.of_empty e3).at fun o q=>Heap.get?_push_of_some _ q,fun _=>True.intro,fun y hy=>absurd rfl hy⟩
theorem QPe{prog:Program}{w:World}{env:Env}{e:Expr}{f:Str}{pos:Pos}{s:Shared}{Q:‹"m"›}(hb:attributeBase e f env (eval e env)=eval e env)
 (h:wpAny ‹"bL"› A (eval e env) (fun o s₁=>wpAny ‹"bL"› A (getAttr o f true) Q E s₁) E s):wpAny ‹"bL"› A (eval (.Attribute e f pos) env) Q E s:=
 Attribute_any_ h (by rw[arm_eval_Attribute,hb])
end
def tFld(K:W.Frag)(ta:TE)(f:Str):TE:=fun σ H Q=>ta σ H fun x H1=>∃ a C dx fs v,x=.ref a/\H1 a=some (.ins C dx fs)/\Cls K C/\Qmb K C f/\fs.lookup f=some v/\Q v H1
def sFld(K:W.Frag)(ta tv:TE)(f:Str):TS:=fun D σ H=>tv σ H fun y H1=>ta σ H1 fun x H2=>∃ a C dx fs,x=.ref a/\H2 a=some (.ins C dx fs)/\Cls K C/\Qmb K C f/\fs.length<1000/\
 D.nx σ (upd H2 a (.ins C dx (putF f y fs)))
section
variable{X:Cx}{o e value:Expr}{f:Str}{pos pos' tpos:Pos}{ta tv:TE}
theorem QPC(he:PE X e ta)(hb:attributeBase e f X.env (eval e X.env)=eval e X.env):PE X (.Attribute e f pos) (tFld X.K ta f):=by
 intro pins s σ H Q I h
 refine QPe hb (thn ‹"cu"› fun u s1 ⟨x,H1,I1,rx,a,C,dx,fs,v,ex,ea,c,n,l,q⟩=>?_)
 subst ex
 obtain rfl:u=Value.ref a:=rx
 exact QIV I1 ea c n l fun u' s2 I2 ru=>⟨v,H1,I2,ru,q⟩
theorem QQE(ha:PE X o ta)(hv:PE X value tv)(hs:swapsWith value (some (.Attribute o f pos')) pos.line X.env=pure false):PS X (.Assign [.Attribute o f pos'] value pos) (sFld X.K ta tv f):=by
 intro pins s σ H D I h
 refine plainObj_wpAny_Assign_Attribute (thn (hv pins s σ H _ I h) fun u s1 ⟨y,H1,I1,ry,q⟩=>thn (ha pins s1 σ H1 _ I1 q) fun ov s2 ⟨x,H2,I2,rx,a,C,dx,fs,ex,ea,c,n,l,q2⟩=>?_) hs
 subst ex
 obtain rfl:ov=Value.ref a:=rx
 exact QJF I2 ea c n l ry fun s3 I3=>⟨σ,_,I3,q2⟩
end
section
variable{X:Cx}{pins:List (Addr×Obj)}{σ:St}{H:Hp}{s:Shared}{A:Around}{E:Value->Shared->Prop}{Q:Value->Shared->Prop}{c:Value}{b:Bool}
end
end L2
namespace L2
open PySem PySem.Spec PyProof.Rows
structure Room(k:Nat)(A:Around):Prop where
 hd:A.handled=none
 dp:A.depth+3 * k+5<recursionLimit
 un:A.units+16 * k+200<cLine
theorem Room.mono{j k:Nat}{A:Around}(r:Room k A)(h:j<=k):Room j A:=⟨r.hd,by have:=r.dp;omega,by have:=r.un;omega⟩
theorem Room.deeper{k:Nat}{A:Around}(r:Room (k+1) A)(env:Env):Room k (A.deeper env):=
 ⟨r.hd,by have:=r.dp;show A.depth+1+3 * k+5<_;omega,by have:=r.un;show A.units+3+16 * k+200<_;omega⟩
theorem QI6{A:Around}{C:Addr}{us:List Value}{kw:List (Str×Value)}:(A.under ‹"bt"›).depth=A.depth+1:=by
 first | rfl | simp[Around.under,Code.weight,Code.isCreation,Code.isGuard,Code.isCaller,Code.frames,Code.isFrame,guardIds]
theorem QI9{A:Around}{C:Addr}{us:List Value}{kw:List (Str×Value)}:(A.under ‹"bt"›).units=A.units+1:=by
 first | rfl | simp[Around.under,Code.cUnits,Code.frames,Code.isFrame]
theorem Room.make{k:Nat}{A:Around}(r:Room (k+1) A)(C:Addr)(us:List Value)(kw:List (Str×Value)):Room k (A.under ‹"bt"›):=
 ⟨r.hd,by have:=r.dp;rw[QI6];omega,by have:=r.un;rw[QI9];omega⟩
theorem Room.depth{k:Nat}{A:Around}(r:Room k A):A.depth<recursionLimit:=by have:=r.dp;omega
theorem Room.units{k:Nat}{A:Around}(r:Room k A):A.units+64<cLine:=by have:=r.un;omega
def tNil:TA:=fun _ H Q=>Q [] H
def tCons(ta:TE)(tr:TA):TA:=fun σ H Q=>ta σ H fun x H1=>tr σ H1 fun xs H2=>Q (x::xs) H2
section
variable{X:Cx}{e:Expr}{es:List Expr}{te:TE}{t:TA}{pos:Pos}
theorem Qdz:PA X [] tNil:=fun _ _ _ _ H Q I h=>Calls.spliced_nil ⟨[],H,I,.nil,h⟩
theorem Qbk(ha:PE X e te)(hr:PA X es t)(hs:‹"j"›:=by rfl):PA X (e::es) (tCons te t):=by
 intro pos pins s σ H Q I h
 rw[hs]
 show wpAny _ _ (spliced ((false,eval e X.env)::backTo pos ‹"cz"›)) _ _ s
 refine Calls.spliced_cons (thn ‹"ba"› fun u s1 ⟨x,H1,I1,r1,q1⟩=>?_)
 exact thn (hr pos pins s1 σ H1 _ I1 q1) fun us s2 ⟨xs,H2,I2,r2,q2⟩=>⟨x::xs,H2,I2,.cons r1 r2,q2⟩
def tTup(t:TA):TE:=fun σ H Q=>t σ H fun xs H1=>xs.length<=sizeLine/\∀ p,H1 p=none->Q (.ref p) (upd H1 p (.tup xs))
def tLst(t:TA):TE:=fun σ H Q=>t σ H fun xs H1=>xs.length<=sizeLine/\∀ p,H1 p=none->Q (.ref p) (upd H1 p (.lst xs))
theorem QDd{x1}(h:PA X es t):PE X (.Tuple es x1 pos) (tTup t):=by
 intro pins s σ H Q I hq
 refine wpAny_Tuple_spliced (thn (h pos pins s σ H _ I hq) fun us s1 ⟨xs,H1,I1,r,z,q⟩=>⟨by rw[← r.length];exact z,?_⟩)
 have hf:H1 s1.heap.objs.size=none:=I1.hok.fresh ‹"ar"›
 refine⟨.ref s1.heap.objs.size,upd H1 s1.heap.objs.size (.tup xs),I1.laid (t':=s1.toks) (fun b u e=>Heap.get?_push_of_some _ e) ‹"ar"› ?_,rfl,q _ hf⟩
 exact⟨z,us,r,⟨_,Heap.get?_push_size _ rfl,rfl,_,rfl⟩⟩
theorem QP6(h:PA X es t):PE X (.List es pos) (tLst t):=by
 intro pins s σ H Q I hq
 refine wpAny_List_spliced (thn (h pos pins s σ H _ I hq) fun us s1 ⟨xs,H1,I1,r,z,q⟩=>⟨by rw[← r.length];exact z,?_⟩)
 have hf:H1 s1.heap.objs.size=none:=I1.hok.fresh ‹"ar"›
 refine⟨.ref s1.heap.objs.size,upd H1 s1.heap.objs.size (.lst xs),I1.laid (t':=s1.toks) (fun b u e=>Heap.get?_push_of_some _ e) ‹"ar"› ?_,rfl,q _ hf⟩
 exact⟨z,us,0,r,Heap.get?_push_size _ rfl⟩
end
abbrev Sp:=List V->Hp->VK->XK->Prop
abbrev CXT:=List Env->Hp->Shared->XK->Value->Shared->Prop
structure Env0(P:Program)(w:World)(K:W.Frag)(mg:Str->Option Value)(base:Heap)(A:Around)(outer:List Env)(s:Shared)(H:Hp):Prop where
 frames:A.frames=some outer
 mod:Mod K mg base
 bs:∀ b o,base.get? b=some o->s.heap.get? b=some o/\H b=none
 bsz:base.objs.size<=s.heap.objs.size
 funs:s.heap.FunFrames base outer
 frf:∀ b∈frs outer,H b=none
 hok:HOk P w H s.heap
 bare:AllBare s.gens
def CE(outer:List Env)(P:Program)(w:World)(H:Hp)(s:Shared)(Q:VK)(u:Value)(s':Shared):Prop:=
 ∃ v H',s'.os=s.os/\AllBare s'.gens/\Un (frs outer) [] H H' s.heap s'.heap/\HOk P w H' s'.heap/\RelV v u/\Q v H'
def CR(CX:CXT)(outer:List Env)(P:Program)(w:World)(H:Hp)(s:Shared)(Q:VK)(E:XK)(r:Result)(s':Shared):Prop:=
 match r with
 | .ok (.ret u)=>CE outer P w H s Q u s'
 | .ok _=>False
 | .error e=>CX outer H s E e s'
structure FnOk(P:Program)(w:World)(K:W.Frag)(mg:Str->Option Value)(base:Heap)(CX:CXT)(k:Nat)(f:Addr)(fd:FuncData)(ps:List Str)(sp:Sp):Prop where
 len:∀ vs H Q E,sp vs H Q E->vs.length=ps.length
 run:∀(A:Around)(outer:List Env)(s:Shared)(H:Hp)(args:Args)(us:List Value)(vs:List V)(Q:VK)(E:XK),Room k A->Env0 P w K mg base A outer s H->BindsTo s fd args (ps.zip us)->Vals vs us->sp vs H Q E->
  codeAny (model P w) A (.call (.ref f) args) (CR CX outer P w H s Q E) s
theorem FnOk.mono{P:Program}{w:World}{K:W.Frag}{mg:‹"R"›}{base:Heap}{CX:CXT}{j k:Nat}{f:Addr}{fd:FuncData}{ps:List Str}{sp:Sp}(F:FnOk P w K mg base CX j f fd ps sp)(h:j<=k):
 FnOk P w K mg base CX k f fd ps sp:=⟨F.len,fun A outer s H args us vs Q E hr=>F.run A outer s H args us vs Q E (hr.mono h)⟩
theorem Env0.make{P:Program}{w:World}{K:W.Frag}{mg:‹"R"›}{base:Heap}{A:Around}{outer:List Env}{s:Shared}{H:Hp}(e:Env0 P w K mg base A outer s H)(C:Addr)(us:List Value)(kw:List (Str×Value)):
 Env0 P w K mg base (A.under ‹"bt"›) outer s H:=⟨by first | exact e.frames | (simpa [Around.under,Code.envs,Code.isFrame,pushEnvs] using e.frames),e.mod,e.bs,e.bsz,e.funs,e.frf,e.hok,e.bare⟩
section
variable{X:Cx}{pins:List (Addr×Obj)}{σ:St}{H:Hp}{s s':Shared}
theorem Inv.env0(I:‹"h"›):Env0 X.prog X.w X.K X.mg X.base X.A X.stack s H:=
 ⟨I.ok.frames,I.ok.mod,I.bs,Nat.le_trans I.ok.bsz I.sz,I.stack,I.stkFree,I.hok,I.bare⟩
theorem Inv.after{Q:VK}{u:Value}(I:‹"h"›)(h:CE X.stack X.prog X.w H s Q u s'):EP X pins σ Q u s':=by
 obtain⟨v,H',os,bare,un,hok,r,q⟩:=h
 obtain⟨hh,g,d,t,os'⟩:=s'
 obtain rfl:os'=s.os:=os
 exact⟨v,H',I.call (h':=hh) (g':=g) (d':=d) (t':=t) (ch:=[]) un hok bare (fun b z=>absurd z (by simp)),r,q⟩
end
def tCall(sp:Sp)(dvs:List V)(E:XK)(t:TA):TE:=fun σ H Q=>t σ H fun vs H1=>sp (vs++dvs) H1 Q E
def tMake(C:Addr)(sp:Sp)(dvs:List V)(E:XK)(t:TA):TE:=fun σ H Q=>t σ H fun vs H1=>∀ x dx,H1 x=none->H1 dx=none->dx≠x->
 sp (.ref x::(vs++dvs)) (upd (upd H1 dx (.own x)) x (.ins C dx [])) (fun v H2=>v=.non/\Q (.ref x) H2) E
def Binds(K:W.Frag)(fd:FuncData)(ps:List Str)(ds:List Value):Prop:=
 ∀(s:Shared)(us:List Value),K.In s.heap->(us++ds).length=ps.length->BindsTo s fd ⟨us,[]⟩ (ps.zip (us++ds))
theorem Binds.all{K:W.Frag}{fd:FuncData}{ps:List Str}(h:∀ us:List Value,us.length=ps.length->bindArgs fd ⟨us,[]⟩=pure (ps.zip us)):Binds K fd ps []:=fun s us _ hl=>by
 rw[List.append_nil]at hl ⊢
 exact .of_eq (h us hl)
def QfE(CX:CXT)(X:Cx)(E:XK):Prop:=∀(pins:‹"r"›)(σ:St)(H:Hp)(s:Shared)(e:Value)(s':Shared),Inv X pins σ H s->CX X.stack H s E e s'->X.xe e s'
section
variable{X:Cx}{CX:CXT}{k:Nat}{f C:Addr}{fd:FuncData}{ps:List Str}{sp:Sp}{dvs:List V}{ds:List Value}{E:XK}{x m:Str}{p pos apos:Pos}{e o:Expr}{es:List Expr}{ta:TE}{t:TA}
theorem QEg{pins:‹"r"›}{σ:St}{H:Hp}{s:Shared}{Q:VK}{us:List Value}{vs:List V}(F:‹"Z"›)(hr:Room k X.A)(hb:Binds X.K fd ps ds)(hd:Vals dvs ds)(hx:QfE CX X E)
 (I:‹"h"›) (r:Vals vs us) (h:sp (vs++dvs) H Q E):wpAny ‹"k"› X.A (call (.ref f) us) ‹"cY"› X.xe s:=by
 have r2:Vals (vs++dvs) (us++ds):=r.append hd
 have hl:(us++ds).length=ps.length:=by rw[← r2.length];exact F.len _ _ _ _ h
 refine wpAny_call (codeAny_mono (F.run X.A X.stack s H ⟨us,[]⟩ (us++ds) (vs++dvs) Q E hr I.env0 (hb s us I.kIn hl) r2 h) fun r s' hq=>?_)
 cases r with
 | error e=>exact hx pins σ H s e s' I hq
 | ok fl=>
  cases fl with
  | ret u=>exact I.after hq
  | next=>exact False.elim hq
  | brk=>exact False.elim hq
  | cont=>exact False.elim hq
theorem Qo9(F:‹"Z"›)(hr:Room k X.A)(hg:Gl X x)(hm:X.mg x=some (.ref f))(hk:W.keepIn X.K (.ref f)=true)(hb:Binds X.K fd ps ds)(hd:Vals dvs ds)(hx:QfE CX X E)
 (ha:PA X (e::es) t) (hdb:‹"f"›:=by decide) (he:‹"j"›:=by rfl) (hpl:(backTo pos ‹"cz"›).any (·.1)=false:=by rfl):
 PE X ‹"D"› (tCall sp dvs E t):=by
 intro pins s σ H Q I h
 refine wpAny_Call_Name_kw (QtU I hg hm ?_ hdb)
 refine W.callWith_K (h₀:=X.base) I.ok.mod.kin hk (thn ‹"bn"› fun us s1 ⟨vs,H1,I1,r,q⟩=>⟨I1.kIn,?_⟩) he hpl
 exact QEg F hr hb hd hx I1 r q
structure Mk(K:W.Frag)(C f:Addr):Prop where
 makes:W.makesIn K C=true
 init:W.findIn K (.ref C) "__init__"=some (some (.ref f))
 fn:W.isFn K (.ref f)=true
 kp:W.keepIn K (.ref C)=true
theorem QNW{pins:‹"r"›}{σ:St}{H:Hp}{s:Shared}{Q:VK}{us:List Value}{vs:List V}(M:Mk X.K C f)(F:‹"Z"›)(hr:Room (k+1) X.A)(hb:Binds X.K fd ps ds)(hd:Vals dvs ds)
 (hx:QfE CX X E) (I:‹"h"›) (r:Vals vs us)
 (h:∀ x dx,H x=none->H dx=none->dx≠x->sp (.ref x::(vs++dvs)) (upd (upd H dx (.own x)) x (.ins C dx [])) (fun v H2=>v=.non/\Q (.ref x) H2) E):
 wpAny ‹"k"› X.A (call (.ref C) us) ‹"cY"› X.xe s:=by
 have hq:=h (s.heap.objs.size+1) s.heap.objs.size (I.hok.fresh (Nat.le_succ _)) (I.hok.fresh ‹"ar"›) (Nat.ne_of_lt (Nat.lt_succ_self _))
 have I2:=Inv.made (C:=C) I
 have r2:Vals (V.ref (s.heap.objs.size+1)::(vs++dvs)) (Value.ref (s.heap.objs.size+1)::(us++ds)):=.cons rfl (r.append hd)
 have hl:(Value.ref (s.heap.objs.size+1)::us++ds).length=ps.length:=by
  have e:=r2.length
  rw[F.len _ _ _ _ hq]at e
  exact e.symm
 refine wpAny_call (QNS (f:=f) I.kIn M.makes M.init (beq_iff_eq.mp M.fn) (codeAny_mono (F.run _ X.stack _ _ ⟨Value.ref (s.heap.objs.size+1)::us,[]⟩ (Value.ref (s.heap.objs.size+1)::(us++ds)) _ _ E (hr.make C us [])
  (I2.env0.make C us []) (hb _ (Value.ref (s.heap.objs.size+1)::us) I2.kIn hl) r2 hq) fun r s' hq'=>?_))
 cases r with
 | error e=>exact hx pins σ _ _ e s' I2 hq'
 | ok fl=>
  cases fl with
  | ret u=>
   obtain⟨v,H',I3,rv,ev,q3⟩:=I2.after hq'
   subst ev
   exact⟨rv,⟨V.ref (s.heap.objs.size+1),H',I3,rfl,q3⟩⟩
  | next=>exact False.elim hq'
  | brk=>exact False.elim hq'
  | cont=>exact False.elim hq'
theorem QOD(M:Mk X.K C f)(F:‹"Z"›)(hr:Room (k+1) X.A)(hg:Gl X x)(hm:X.mg x=some (.ref C))(hb:Binds X.K fd ps ds)(hd:Vals dvs ds)(hx:QfE CX X E)
 (ha:PA X (e::es) t) (hdb:‹"f"›:=by decide) (he:‹"j"›:=by rfl) (hpl:(backTo pos ‹"cz"›).any (·.1)=false:=by rfl):
 PE X ‹"D"› (tMake C sp dvs E t):=by
 intro pins s σ H Q I h
 refine wpAny_Call_Name_kw (QtU I hg hm ?_ hdb)
 refine W.callWith_K (h₀:=X.base) I.ok.mod.kin M.kp (thn ‹"bn"› fun us s1 ⟨vs,H1,I1,r,q⟩=>⟨I1.kIn,?_⟩) he hpl
 exact QNW M F hr hb hd hx I1 r q
end
def PK(X:Cx)(kws:List Keyword)(t:TA):Prop:=
 ∀(pos:Pos)(pins:‹"r"›)(s:Shared)(σ:St)(H:Hp)(Q:List V->Hp->Prop),Inv X pins σ H s->t σ H Q->wpAny ‹"k"› X.A (evalAll ((backToKw pos (keywordEach kws X.env)).map (·.2))) (AP X pins σ Q) X.xe s
section
variable{X:Cx}{CX:CXT}{k:Nat}{f C:Addr}{fd:FuncData}{ps ks:List Str}{sp:Sp}{E:XK}{x m:Str}{p pos apos kpos:Pos}{e o:Expr}{es:List Expr}{kws:List Keyword}{te ta:TE}{t tk:TA}{nm:Option Str}
theorem QQK:PK X [] tNil:=fun _ _ _ _ H Q I h=>wpAny_evalAll_nil ⟨[],H,I,.nil,h⟩
theorem QOM(ha:PE X e te)(hr:PK X kws t):PK X (⟨nm,e,kpos⟩::kws) (tCons te t):=by
 intro pos pins s σ H Q I h
 show wpAny _ _ (evalAll ((do let v ← eval e X.env;standAt pos;pure v)::(backToKw pos (keywordEach kws X.env)).map (·.2))) _ _ s
 refine wpAny_evalAll_cons (wpAny_bind (thn ‹"ba"› fun u s1 ⟨x,H1,I1,r1,q1⟩=>wpAny_bind (wpAny_standAt (wpAny_pure ?_))))
 exact thn (hr pos pins s1 σ H1 _ I1 q1) fun us s2 ⟨xs,H2,I2,r2,q2⟩=>⟨x::xs,H2,I2,.cons r1 r2,q2⟩
structure QDZ(K:W.Frag)(fd:FuncData)(ps ks:List Str)(g:List Value->List Value->List Value)(gV:List V->List V->List V):Prop where
 to:∀(s:Shared)(us ws:List Value),K.In s.heap->(g us ws).length=ps.length->BindsTo s fd ⟨us,ks.zip ws⟩ (ps.zip (g us ws))
 rel:∀{vs:List V}{us:List Value}{zs:List V}{ws:List Value},Vals vs us->Vals zs ws->Vals (gV vs zs) (g us ws)
def QQj(sp:Sp)(gV:List V->List V->List V)(E:XK)(t tk:TA):TE:=fun σ H Q=>t σ H fun vs H1=>tk σ H1 fun zs H2=>sp (gV vs zs) H2 Q E
variable{g:List Value->List Value->List Value}{gV:List V->List V->List V}
theorem QOq{pins:‹"r"›}{σ:St}{H:Hp}{s:Shared}{Q:VK}{us ws:List Value}{vs zs:List V}(F:‹"Z"›)(hr:Room k X.A)(hb:QDZ X.K fd ps ks g gV)(hx:QfE CX X E)
 (I:‹"h"›) (r:Vals vs us) (rz:Vals zs ws) (h:sp (gV vs zs) H Q E):wpAny ‹"k"› X.A (call (.ref f) us (ks.zip ws)) ‹"cY"› X.xe s:=by
 have r2:=hb.rel r rz
 have hl:(g us ws).length=ps.length:=by rw[← r2.length];exact F.len _ _ _ _ h
 refine wpAny_call (codeAny_mono (F.run X.A X.stack s H ⟨us,ks.zip ws⟩ (g us ws) (gV vs zs) Q E hr I.env0 (hb.to s us ws I.kIn hl) r2 h) fun r s' hq=>?_)
 cases r with
 | error e=>exact hx pins σ H s e s' I hq
 | ok fl=>
  cases fl with
  | ret u=>exact I.after hq
  | next=>exact False.elim hq
  | brk=>exact False.elim hq
  | cont=>exact False.elim hq
theorem QNg(F:‹"Z"›)(hr:Room k X.A)(hg:Gl X x)(hm:X.mg x=some (.ref f))(hk:W.keepIn X.K (.ref f)=true)(hb:QDZ X.K fd ps ks g gV)(hx:QfE CX X E)
 (ha:PA X (e::es) t) (hkw:PK X kws tk) (hall:(backToKw pos (keywordEach kws X.env)).all (·.1.isSome)=true:=by rfl) (hks:(backToKw pos (keywordEach kws X.env)).filterMap (·.1)=ks:=by rfl)
 (hdb:‹"f"›:=by decide) (he:‹"j"›:=by rfl)
 (hpl:((backTo pos (starEach (e::es) X.env)).any (·.1)||(backToKw pos (keywordEach kws X.env)).any (·.1.isNone))=false:=by rfl):
 PE X (.Call (.Name x p) (e::es) kws pos) (QQj sp gV E t tk):=by
 intro pins s σ H Q I h
 refine wpAny_Call_Name_kw (QtU I hg hm ?_ hdb)
 refine W.callWith_KW (h₀:=X.base) I.ok.mod.kin hk hall (thn ‹"bn"› fun us s1 ⟨vs,H1,I1,r,q⟩=>?_) hpl he
 refine thn (hkw pos pins s1 σ H1 _ I1 q) fun ws s2 ⟨zs,H2,I2,rz,q2⟩=>⟨I2.kIn,?_⟩
 rw[hks]
 exact QOq F hr hb hx I2 r rz q2
end
structure Qr(N P:List Str)(sc:Scope):Prop where
 kind:sc.kind=.function
 co:sc.isCoroutine=false
 gen:sc.isGenerator=false
 nd:N.Nodup
 pre:N.take P.length=P
 par:∀ x∈P,sc.names.lookup x=some .local∨sc.names.lookup x=some .cell
 nofree:∀ y∈sc.names,y.2≠.free
theorem Qz0{kindOf:Str->Option NameKind}{x:Str}:∀{binds:List (Str×Value)}{m:‹"R"›},(∀ v,(x,v)∉binds)->bindL kindOf binds m x=m x
 | [],_,_=>rfl
 | (n,v)::r,m,h=>by
  unfold bindL
  rw[Qz0 fun w hw=>h w (List.mem_cons_of_mem _ hw)]
  split
  ·have:x≠n:=by rintro rfl;exact h v List.mem_cons_self
   simp[this]
  ·rfl
theorem QzT{kindOf:Str->Option NameKind}{x:Str}:∀{binds:List (Str×Value)}{m:‹"R"›},(∀ v,(x,v)∉binds)->bindC kindOf binds m x=m x
 | [],_,_=>rfl
 | (n,v)::r,m,h=>by
  unfold bindC
  rw[QzT fun w hw=>h w (List.mem_cons_of_mem _ hw)]
  split
  ·rfl
  ·have:x≠n:=by rintro rfl;exact h v List.mem_cons_self
   simp[this]
theorem QzG{kindOf:Str->Option NameKind}{x:Str}{v:Value}:∀{P:List Str}{vs:List Value}{i:Nat}{m:‹"R"›},P.Nodup->P[i]?=some x->vs[i]?=some v->kindOf x=some .local->
 bindL kindOf (P.zip vs) m x=some v
 | [],_,_,_,_,h,_,_=>by simp at h
 | _::_,[],_,_,_,_,h,_=>by simp at h
 | p::P,w::vs,0,m,nd,h1,h2,hk=>by
  simp at h1 h2;subst h1;subst h2
  show bindL kindOf ((p,w)::P.zip vs) m p=_
  unfold bindL
  rw[Qz0 fun v hv=>(List.nodup_cons.mp nd).1 (List.of_mem_zip hv).1,if_pos hk]
  simp
 | p::P,w::vs,i+1,m,nd,h1,h2,hk=>by
  show bindL kindOf ((p,w)::P.zip vs) m x=_
  unfold bindL
  exact QzG (i:=i) (List.nodup_cons.mp nd).2 (by simpa using h1) (by simpa using h2) hk
theorem QzR{kindOf:Str->Option NameKind}{x:Str}{v:Value}:∀{P:List Str}{vs:List Value}{i:Nat}{m:‹"R"›},P.Nodup->P[i]?=some x->vs[i]?=some v->kindOf x≠some .local->
 bindC kindOf (P.zip vs) m x=some v
 | [],_,_,_,_,h,_,_=>by simp at h
 | _::_,[],_,_,_,_,h,_=>by simp at h
 | p::P,w::vs,0,m,nd,h1,h2,hk=>by
  simp at h1 h2;subst h1;subst h2
  show bindC kindOf ((p,w)::P.zip vs) m p=_
  unfold bindC
  rw[QzT fun v hv=>(List.nodup_cons.mp nd).1 (List.of_mem_zip hv).1,if_neg hk]
  simp
 | p::P,w::vs,i+1,m,nd,h1,h2,hk=>by
  show bindC kindOf ((p,w)::P.zip vs) m x=_
  unfold bindC
  exact QzR (i:=i) (List.nodup_cons.mp nd).2 (by simpa using h1) (by simpa using h2) hk
def start(N:List Str)(vs:List V):St:=vs.map some++List.replicate (N.length - vs.length) none
def cxOf(CX:CXT)(P:Program)(w:World)(K:W.Frag)(mg:‹"R"›)(base:Heap)(N:List Str)(qual:Str)(scope:Scope)(f:Addr)(cd:Value)(A:Around)(outer:List Env)(s:Shared)(H:Hp)(E:XK):Cx where
 prog:=P
 w:=w
 K:=K
 mg:=mg
 base:=base
 A:=A.deeper ‹"ed"›
 N:=N
 s₀:=s
 H₀:=H
 env:=envOfC qual scope s.heap.objs.size f cd
 outer:=outer
 stack:=envOfC qual scope s.heap.objs.size f cd::outer
 ex:=[]
 calm:=true
 fn:=fun _=>true
 pn:=[]
 xe:=fun e s'=>wpAny (model P w) (A.deeper ‹"ed"›) (leaving ‹"ed"› e) (fun _ s''=>CX outer H s E e s'') (fun e' s''=>CX outer H s E e' s'') s'
theorem QCi{sc:Scope}{n:Nat}{x:Str}(h:sc.names.lookup x=some .cell):∃ c,(cellsFrom n sc.names []).lookup x=some c:=by
 have q:=W.cellsFrom_some sc.names n [] (.inl h)
 exact Option.isSome_iff_exists.mp q
theorem QK4{CX:CXT}{P:Program}{w:World}{K:W.Frag}{mg:‹"R"›}{base:Heap}{N ps:List Str}{qual:Str}{scope:Scope}{f:Addr}{cd:Value}{A:Around}{outer:List Env}{s s1:Shared}{H:Hp}{E:XK}{us:List Value}{vs:List V}
 (S:Qr N ps scope) (hd:A.handled=none) (e0:Env0 P w K mg base A outer s H) (hl:vs.length=ps.length) (r:Vals vs us)
 (x:InCallC s s.heap.objs.size (bindL (envOfC qual scope s.heap.objs.size f cd).kindOf (ps.zip us) fun _=>none) (cellsFrom (s.heap.objs.size+1) scope.names []) (bindC (envOfC qual scope s.heap.objs.size f cd).kindOf (ps.zip us) fun _=>none) s1):
 Inv (cxOf CX P w K mg base N qual scope f cd A outer s H E) [] (start N vs) H s1:=by
 have hpl:ps.length<=N.length:=by have:=congrArg List.length S.pre;rw[List.length_take]at this;omega
 obtain⟨h1,tk,rfl,hk⟩:=x.done
 have noA:∀ b:Addr,b∉(cxOf CX P w K mg base N qual scope f cd A outer s H E).ex:=fun b z=>absurd (show b∈([]:List Addr) from z) (by simp)
 refine⟨⟨e0.mod,S.kind,rfl,rfl,Nat.le_refl _,fun y z c h1 h2=>?_,fun y hy=>?_,fun y c _ h=>?_,fun _=>hd,Around.frames_deeper e0.frames,.inr ⟨rfl,rfl⟩,fun b z=>absurd z (noA b),e0.bs,e0.bsz,fun b _ _=>noA b,fun b z=>absurd z (noA b),e0.funs,e0.frf⟩,
  rfl,e0.bare,Un.kept hk,⟨_,x.toInCall.ns,fun i y v h1 h2 h3=>?_⟩,fun y c h=>⟨_,x.cell y c h⟩,e0.hok.fresh ‹"ar"›,fun y c h=>?_,fun p hp=>absurd (show p∈([]:List (Addr×Obj)) from hp) (by simp),e0.hok.kept hk,?_⟩
 ·exact name_of_addr x.apart (PySem.mem_of_lookup h1) (PySem.mem_of_lookup h2)
 ·have hy:scope.names.lookup y=some .cell∨scope.names.lookup y=some .free:=hy
  rcases hy with hy | hy
  ·exact QCi hy
  ·exact absurd rfl (S.nofree _ (PySem.mem_of_lookup hy))
 ·exact Nat.le_of_lt (x.above y c (PySem.mem_of_lookup h))
 ·have hi:i<vs.length:=by
   unfold start at h2
   by_cases hi:i<vs.length
   ·exact hi
   ·rw[List.getElem?_append_right (by simpa using hi)]at h2
    rw[List.getElem?_replicate]at h2
    split at h2<;>cases h2
  have ha:vs[i]?=some v:=by
   unfold start at h2
   rw[List.getElem?_append_left (by simpa using hi),List.getElem?_map]at h2
   cases e:vs[i]? with
   | none=>rw[e]at h2;cases h2
   | some a=>rw[e]at h2;cases h2;rfl
  obtain⟨u,hu,rv⟩:=r.get ha
  have hp:ps[i]?=some y:=by
   rw[← S.pre,List.getElem?_take_of_lt (by omega)];exact h1
  have ndP:ps.Nodup:=by rw[← S.pre];exact S.nd.sublist (List.take_sublist _ _)
  refine⟨u,rv,?_⟩
  rcases S.par y (List.mem_of_getElem? hp) with k | k
  ·exact .inl ⟨k,QzG ndP hp hu k⟩
  ·obtain⟨c,e⟩:=QCi (n:=s.heap.objs.size+1) k
   refine .inr ⟨.inl k,c,e,?_⟩
   have q:=x.cell y c e
   rw[QzR ndP hp hu (by show scope.names.lookup y≠_;rw[k];decide)]at q
   exact q
 ·exact e0.hok.fresh (Nat.le_of_lt (x.above y c (PySem.mem_of_lookup h)))
 ·unfold start
  show _=N.length
  rw[List.length_append,List.length_map,List.length_replicate]
  omega
theorem fn_of{CX:CXT}{P:Program}{w:World}{K:W.Frag}{mg:‹"R"›}{base:Heap}{k:Nat}{f:Addr}{name qual:Str}{params:Arguments}{body:List Stmt}{scope:Scope}{dV kV doc pm cdv ct oc:Value}{an od:Option Addr}
 {osl:Array (Option Value)} {N ps:List Str} {sp:Sp} (lk:K.lookup f=some ⟨oc,od,.func (W.fnOf name qual params body scope dV kV doc pm an cdv ct),osl⟩) (hcd:W.codeIn K cdv qual=true) (S:Qr N ps scope)
 (len:∀ vs H Q E,sp vs H Q E->vs.length=ps.length)
 (hbody:∀(A:Around)(outer:List Env)(s:Shared)(H:Hp)(vs:List V)(Q:VK)(E:XK),Room k (A.deeper (envOfC qual scope s.heap.objs.size f cdv))->sp vs H Q E->
  ∃ t,PSs ‹"bQ"› body t/\t { nx:=fun _ H'=>Q .non H',rt:=Q } (start N vs) H):
 FnOk P w K mg base CX (k+1) f (W.fnOf name qual params body scope dV kV doc pm an cdv ct) ps sp:=by
 refine⟨len,fun A outer s H args us vs Q E hr e0 hb r hsp=>?_⟩
 have hl:=len _ _ _ _ hsp
 have KX:K.In s.heap:=e0.mod.kin.keeps fun b o e=>(e0.bs b o e).1
 have lim:s.heap.NoLimit:=e0.mod.nolimit.keeps fun b o e=>(e0.bs b o e).1
 have hkind:∀ y∈ps.zip us,scope.names.lookup y.1=some .local∨(scope.names.lookup y.1=some .cell/\((cellsFrom (s.heap.objs.size+1) scope.names []).lookup y.1).isSome=true):=fun⟨n,v⟩ hy=>by
  rcases S.par n (List.of_mem_zip hy).1 with q | q
  ·exact .inl q
  ·exact .inr ⟨q,W.cellsFrom_some _ _ _ (.inl q)⟩
 refine codeAny_call_function hr.depth (KX _ _ lk) rfl S.co S.gen rfl (W.codeRec_of KX hcd) (hb _ _ _ _ ?_)
 refine wpAny_newFunctionEnv_cells S.kind hkind fun env he s1 x=>?_
 subst he
 refine⟨lim.keeps x.toInCall.keep,codeAny_func ?_⟩
 obtain⟨t,ht,hq⟩:=hbody A outer s H vs Q E (hr.deeper _) hsp
 have I:Inv ‹"bQ"› [] (start N vs) H s1:=QK4 S hr.hd e0 hl r x
 refine wpAny_mono (ht [] s1 (start N vs) H _ I hq) (fun fl s' hs=>?_) fun e s' hs=>hs
 have fin:∀{σ':St}{H':Hp}{v:V}{u:Value},Inv ‹"bQ"› [] σ' H' s'->RelV v u->Q v H'->CE outer P w H s Q u s':=
  fun {σ' H' v u} J rv q=>⟨v,H',J.os,J.bare,J.base,J.hok,rv,q⟩
 cases fl with
 | ret u=>
  obtain⟨v,σ',H',J,rv,q⟩:=hs
  exact fin J rv q
 | next=>
  obtain⟨σ',H',J,q⟩:=hs
  exact fin (v:=V.non) (u:=Value.none) J rfl q
 | brk=>
  obtain⟨_,_,_,q⟩:=hs
  exact False.elim q
 | cont=>
  obtain⟨_,_,_,q⟩:=hs
  exact False.elim q
end L2
namespace L2
open PySem PySem.Spec PyProof.Rows
section
variable{X:Cx}{x:Str}{p pos:Pos}{e:Expr}{es:List Expr}{t:TA}{id T:String}{r:List V->Hp->VK->Prop}
def tCB(r:‹"df"›)(t:TA):TE:=fun σ H Q=>t σ H fun vs H1=>r vs H1 Q
theorem Qvl(hc:CallR X (.builtin id) r)(hg:Gl X x)(hm:X.mg x=none)(hv:bootBuiltins x=some (.builtin id))(ha:PA X (e::es) t)(hn:x≠"__name__":=by decide)(hdb:‹"f"›:=by decide)
 (he:‹"j"›:=by rfl) (hpl:(backTo pos ‹"cz"›).any (·.1)=false:=by rfl):PE X ‹"D"› (tCB r t):=by
 intro pins s σ H Q I h
 refine wpAny_Call_Name_kw (Qjy I hg hm hv ?_ hn hdb)
 exact PyProof.Rows.callWith_builtin1 ‹"cW"› he hpl
theorem QzE(hc:CallR X (.type T) r)(hg:Gl X x)(hm:X.mg x=none)(hv:bootBuiltins x=some (.type T))(ha:PA X (e::es) t)(hn:x≠"__name__":=by decide)(hdb:‹"f"›:=by decide)
 (he:‹"j"›:=by rfl) (hpl:(backTo pos ‹"cz"›).any (·.1)=false:=by rfl):PE X ‹"D"› (tCB r t):=by
 intro pins s σ H Q I h
 refine wpAny_Call_Name_kw (Qjy I hg hm hv ?_ hn hdb)
 exact PyProof.Rows.callWith_type1 ‹"cW"› he hpl
end
end L2
namespace HT
open PySem PyProof.Rows
section
open PySem.SeqAt
open PySem.AutoSeq1 (wpAny_loadPart')
open PySem.MeetsSeq PySem.MeetsSeq2 PySem.MeetsSeq3
end
section
variable{prog:Program}{w:World}{A:Around}{E:Value->Shared->Prop}{s:Shared}
def sIx(n d:Nat):Option Int->Nat
 | none=>d
 | some v=>if v<0 then(v+(n:Int)).toNat else min v.toNat n
theorem sIx_nat(n d k:Nat):sIx n d (some (k:Int))=min k n:=by
 show(if (k:Int)<0 then((k:Int)+(n:Int)).toNat else min (k:Int).toNat n)=min k n
 rw[if_neg (by omega),Int.toNat_natCast]
end
end HT
namespace L2
open PySem PySem.Spec PyProof.Rows
abbrev TO:=St->Hp->(Option Int->Hp->Prop)->Prop
def PO(X:Cx)(e:Option Expr)(t:TO):Prop:=
 ∀(pins:‹"r"›)(s:Shared)(σ:St)(H:Hp)(Q:Option Int->Hp->Prop),Inv X pins σ H s->t σ H Q->
  wpAny ‹"k"› X.A (evalPart e X.env) (fun u s'=>∃ o H',Inv X pins σ H' s'/\IsPart u o/\Q o H') X.xe s
def tPart(t:TE):TO:=fun σ H Q=>t σ H fun x H1=>∃ i,x=.int i/\Q (some i) H1
section
variable{X:Cx}{e:Expr}{te:TE}{lo hi:Option Expr}{tl th:TO}{pos p2:Pos}
theorem QOl(h:PE X e te):PO X (some e) (tPart te):=by
 intro pins s σ H Q I hw
 rw[evalPart_some]
 refine thn (h pins s σ H _ I hw) fun u s1 ⟨x,H1,I1,r1,q1⟩=>?_
 obtain⟨i,rfl,q⟩:=q1
 obtain⟨t,rfl⟩:=r1
 exact⟨some i,H1,I1,.int i t,q⟩
def SlR(X:Cx)(r:‹"ew"›):Prop:=
 ∀(pins:‹"r"›)(s:Shared)(σ:St)(H:Hp)(x:V)(v vl vu:Value)(lo hi:Option Int)(sl:Addr)(Q:VK),Inv X pins σ H s->RelV x v->s.heap.IsSliceOf sl vl vu .none->IsPart vl lo->IsPart vu hi->r x lo hi H Q->
  ∃ T id,typeLookup (.type T) "__getitem__"=pure (some (.builtin id))/\s.TypeIs v T/\wpAny ‹"k"› X.A (getItem v (.ref sl)) ‹"cY"› X.xe s
def tSl(r:‹"ew"›)(te:TE)(tl th:TO):TE:=fun σ H Q=>te σ H fun x H1=>tl σ H1 fun l H2=>th σ H2 fun u H3=>r x l u H3 Q
theorem QMM{r:‹"ew"›}(hr:SlR X r)(he:PE X e te)(hl:PO X lo tl)(hu:PO X hi th):PE X (.Subscript e (.Slice lo hi none p2) pos) (tSl r te tl th):=by
 intro pins s σ H Q I h
 refine Subscript_ (thn ‹"cu"› fun v s1 ⟨x,H1,I1,r1,q1⟩=>?_)
 refine wpAny_Slice (thn (hl pins s1 σ H1 _ I1 q1) fun vl s2 ⟨l,H2,I2,pl,q2⟩=>thn (hu pins s2 σ H2 _ I2 q2) fun vu s3 ⟨u,H3,I3,pu,q3⟩=>?_)
 rw[evalPart_none]
 refine wpAny_pure ?_
 have I4:Inv X pins σ H3 { s3 with heap:=s3.heap.push { cls:=.type "slice",data:=.fields #[vl,vu,.none] } }:=I3.kept (t':=s3.toks) fun b ob q=>Heap.get?_push_of_some _ q
 obtain⟨T,id,hT,ht,hg⟩:=hr pins { s3 with heap:=s3.heap.push { cls:=.type "slice",data:=.fields #[vl,vu,.none] } } σ H3 x v vl vu l u s3.heap.objs.size Q I4 r1 (Heap.IsSliceOf.new ..) pl pu q3
 show wpAny ‹"k"› X.A (subscriptTail e (.Slice lo hi none p2) v (.ref s3.heap.objs.size)) ‹"cY"› X.xe { s3 with heap:=s3.heap.push { cls:=.type "slice",data:=.fields #[vl,vu,.none] } }
 exact tail_any (ops:=[.ref s3.heap.objs.size,v]) ht hT hg (by with_unfolding_all rfl)
def cutV(xs:List V)(lo hi:Option Int):List V:=(xs.drop (HT.sIx xs.length 0 lo)).take ‹"cd"›
theorem QHw(xs:List V)(lo hi:Option Int):(cutV xs lo hi).length<=xs.length:=by
 unfold cutV
 rw[List.length_take,List.length_drop]
 omega
end
end L2
namespace L2
open PySem PySem.Spec PyProof.Rows
def ixN(n:Nat)(i:Int):Option Nat:=if 0<=i then(if i<n then some i.toNat else none) else if -(n:Int)<=i then some (i+n).toNat else none
def atI{α:Type}(xs:List α)(i:Int):Option α:=(ixN xs.length i).bind fun j=>xs[j]?
theorem QIn{n:Nat}{i:Int}{j:Nat}(h:ixN n i=some j):seqIndex? i n=some j/\j<n /\ -(n:Int)<=i/\i<n:=by
 unfold ixN at h
 by_cases h0:0<=i
 ·rw[if_pos h0]at h
  by_cases h1:i<n
  ·rw[if_pos h1]at h
   have e:i.toNat=j:=Option.some.inj h
   exact⟨by rw[seqIndex_of h0 h1,e],by omega,by omega,h1⟩
  ·rw[if_neg h1]at h;cases h
 ·rw[if_neg h0]at h
  by_cases h1 : -(n:Int)<=i
  ·rw[if_pos h1]at h
   have e:(i+n).toNat=j:=Option.some.inj h
   exact⟨by rw[seqIndex_neg (by omega) h1,e],by omega,h1,by omega⟩
  ·rw[if_neg h1]at h;cases h
theorem Qyf{α:Type}{xs:List α}{i:Int}{v:α}(h:atI xs i=some v):∃ j,seqIndex? i xs.length=some j/\xs[j]?=some v/\j<xs.length /\ -(xs.length:Int)<=i/\i<xs.length:=by
 unfold atI at h
 cases e:ixN xs.length i with
 | none=>rw[e]at h;cases h
 | some j=>
  rw[e]at h
  obtain⟨h1,h2,h3,h4⟩:=QIn e
  exact⟨j,h1,h,h2,h3,h4⟩
theorem Qyl{α:Type}{xs:List α}{j:Nat}{v:α}(h:xs[j]?=some v):atI xs (j:Int)=some v:=by
 have hj:j<xs.length:=(List.getElem?_eq_some_iff.mp h).1
 have e:ixN xs.length (j:Int)=some j:=by
  unfold ixN
  rw[if_pos (by omega),if_pos (by omega)];simp
 unfold atI;rw[e];exact h
def QtQ(b:Expr):Prop:=∀ o i,subscripted b false o i=operate [o,i] (getItem o i)
def IxR(X:Cx)(r:R2):Prop:=
 ∀(value slice:Expr)(pins:‹"r"›)(s:Shared)(σ:St)(H:Hp)(x y:V)(v u:Value)(Q:VK),Inv X pins σ H s->RelV x v->RelV y u->r x y H Q->
  subscripted slice false v u=operate [v,u] (getItem v u)->wpAny ‹"k"› X.A (subscriptTail value slice v u) ‹"cY"› X.xe s
def MtR(X:Cx)(id:String)(r:V->List V->Hp->VK->Prop):Prop:=
 ∀(pins:‹"r"›)(s:Shared)(σ:St)(H:Hp)(x:V)(xs:List V)(v:Value)(us:List Value)(Q:VK),Inv X pins σ H s->RelV x v->Vals xs us->r x xs H Q->
  wpAny ‹"k"› X.A (call (.builtin id) (v::us)) ‹"cY"› X.xe s
section
variable{X:Cx}{a b:Expr}{ta tb:TE}{pos:Pos}
theorem IxR.or{r r':R2}(h:IxR X r)(h':IxR X r'):IxR X (fun x y H Q=>r x y H Q∨r' x y H Q):=by
 intro value slice pins s σ H x y v u Q I rx ry q hs
 rcases q with q | q
 ·exact h value slice pins s σ H x y v u Q I rx ry q hs
 ·exact h' value slice pins s σ H x y v u Q I rx ry q hs
theorem pe_ix{r:R2}(hr:IxR X r)(ha:PE X a ta)(hb:PE X b tb)(hs:QtQ b):PE X (.Subscript a b pos) (tOp r ta tb):=by
 intro pins s σ H Q I h
 exact Subscript_ (binT ha hb I h fun v u s2 x y H2 I2 rx ry q=>hr a b pins s2 σ H2 x y v u Q I2 rx ry q (hs _ _))
def rIxL(K:W.Frag):R2:=fun x y H Q=>∃ p xs i v,x=.ref p/\y=.int i/\SqL K H p xs/\atI xs i=some v/\Q v H
def rIxT(K:W.Frag):R2:=fun x y H Q=>∃ p xs i v,x=.ref p/\y=.int i/\SqT K H p xs/\atI xs i=some v/\Q v H
def rIxS:R2:=fun x y H Q=>∃ z i c,x=.str z/\y=.int i/\z.length<=sizeLine/\atI z.cps.toList i=some c/\Q (.str ⟨#[c]⟩) H
theorem QOw:IxR X (rIxL X.K):=by
 intro value slice pins s σ H x y v u Q I rx ry h hs
 obtain⟨p,xs,i,z,rfl,rfl,hq,he,q⟩:=h
 cases rx
 obtain⟨t,rfl⟩:=ry
 obtain⟨its,r,pl,hz⟩:=I.list hq
 obtain⟨j,h1,h2,h3,h4,h5⟩:=Qyf he
 obtain⟨w,ew,rw'⟩:=r.get h2
 have hl:=r.length
 have hn:=Qpn
 have fin:EP X pins σ Q w s:=⟨z,H,I,rw',q⟩
 by_cases h0:0<=i
 ·have hj:i.toNat=j:=by
   rw[seqIndex_of h0 h5]at h1
   exact Option.some.inj h1
  exact item_listR pl.isList h0 (by omega) (by rw[hj];simpa using ew) fin hs
 ·have hj:(i+(its.toArray.size:Int)).toNat=j:=by
   rw[seqIndex_neg (by omega) h4]at h1
   rw[List.size_toArray, ← hl]
   exact Option.some.inj h1
  exact subscriptTail_builtinR (x:=w) pl.isList.typeIs slot_list_getitem.lookup
   (wpAny_getItem_list_neg (Q:=fun r s'=>r=w/\EP X pins σ Q r s') pl.isList (by omega) (by rw[List.size_toArray]<;>omega) (by omega) (by rw[hj];simpa using ew) ⟨rfl,fin⟩) hs
theorem QPT:IxR X (rIxT X.K):=by
 intro value slice pins s σ H x y v u Q I rx ry h hs
 obtain⟨p,xs,i,z,rfl,rfl,hq,he,q⟩:=h
 cases rx
 obtain⟨t,rfl⟩:=ry
 obtain⟨its,r,pl,hz⟩:=I.tuple hq
 obtain⟨j,h1,h2,h3,h4,h5⟩:=Qyf he
 obtain⟨w,ew,rw'⟩:=r.get h2
 have hl:=r.length
 have hn:=Qpn
 have fin:EP X pins σ Q w s:=⟨z,H,I,rw',q⟩
 exact subscriptTail_builtinR (x:=w) pl.typeIs slot_tuple_getitem.lookup
  (getItem_tuple (j:=j) (Q:=fun r s'=>r=w/\EP X pins σ Q r s') pl (by omega) (by omega) (by rw[List.size_toArray, ← hl];exact h1) (by simpa using ew) ⟨rfl,fin⟩) hs
theorem QQB:IxR X rIxS:=by
 intro value slice pins s σ H x y v u Q I rx ry h hs
 obtain⟨z,i,c,rfl,rfl,hz,he,q⟩:=h
 obtain⟨t,rfl⟩:=rx
 obtain⟨t',rfl⟩:=ry
 obtain⟨j,h1,h2,h3,h4,h5⟩:=Qyf he
 have hl:z.cps.toList.length=z.length:=by simp[Str.length]
 rw[hl]at h1 h4 h5
 have hn:=Qpn
 exact tail_any (typeIs_str s z t) slot_str_getitem.lookup (getItem_str (c:=c) (by
  have e1:decide (i < -(2 ^ 63:Int))=false:=decide_eq_false (by omega)
  have e2:decide (i ≥ 2 ^ 63)=false:=decide_eq_false (by omega)
  rw[e1,e2,Bool.or_false]) (by rw[h1];simpa using h2) ⟨.str ⟨#[c]⟩,H,I.tok _,⟨_,rfl⟩,q⟩) hs
def rIx(K:W.Frag):R2:=fun x y H Q=>rIxL K x y H Q∨rIxT K x y H Q∨rIxS x y H Q
theorem QCe:IxR X (rIx X.K):=QOw.or (QPT.or QQB)
theorem QKa(its:List Value)(n j:Nat)(u:Value):Obj.mapSeq (·.setIfInBounds j u) { cls:=.type "list",data:=.seq its.toArray n }={ cls:=.type "list",data:=.seq (its.set j u).toArray n }:=by
 simp[Obj.mapSeq]
theorem Inv.lst{pins:‹"r"›}{σ:St}{H:Hp}{s:Shared}{p:Addr}{xs:List V}(I:‹"h"›)(h:H p=some (.lst xs)):
 ∃(its:List Value)(n:Nat),Vals xs its/\s.heap.get? p=some { cls:=.type "list",data:=.seq its.toArray n }/\xs.length<=sizeLine:=by
 obtain⟨z,its,n,r,e⟩:=I.hok p _ h
 exact⟨its,n,r,e,z⟩
theorem Inv.lstUpd{pins:‹"r"›}{σ:St}{H:Hp}{s:Shared}{p:Addr}{xs ys:List V}{its its':List Value}{n n':Nat}{f:Obj->Obj}(I:‹"h"›)(h:H p=some (.lst xs))
 (ho:s.heap.get? p=some { cls:=.type "list",data:=.seq its.toArray n }) (hf:f { cls:=.type "list",data:=.seq its.toArray n }={ cls:=.type "list",data:=.seq its'.toArray n' }) (r:Vals ys its') (hz:ys.length<=sizeLine) (t:Nat):
 Inv X pins σ (upd H p (.lst ys)) { s with heap:=s.heap.update p f,toks:=t }:=by
 have e:(s.heap.update p f).get? p=some { cls:=.type "list",data:=.seq its'.toArray n' }:=by
  rw[Heap.get?_update_self f ho (by rw[hf]<;>rfl),hf]
 refine I.write (x:=p) (e:=p) (by rw[h];trivial) (.inl rfl) (fun b u hb q=>(Heap.get?_update_other _ _ (Ne.symm hb)).trans q) ⟨_,e⟩ ?_
 exact⟨hz,its',n',r,e⟩
def rSetL:V->V->V->Hp->(Hp->Prop)->Prop:=fun o i v H Q=>∃ p xs k j,o=.ref p/\i=.int k/\H p=some (.lst xs)/\ixN xs.length k=some j/\Q (upd H p (.lst (xs.set j v)))
theorem QEQ:PSet X rSetL:=by
 intro pins s σ H o i v ov iv u Q I ro ri rv h
 obtain⟨p,xs,k,j,rfl,rfl,hp,hj,q⟩:=h
 cases ro
 obtain⟨t,rfl⟩:=ri
 obtain⟨its,n,r,ho,hz⟩:=I.lst hp
 obtain⟨h1,h2,h3,h4⟩:=QIn hj
 have hl:=r.length
 have hn:=Qpn
 have I':Inv X pins σ (upd H p (.lst (xs.set j v))) { s with heap:=s.heap.update p (Obj.mapSeq (·.setIfInBounds j u)) }:=
  I.lstUpd hp ho (QKa its n j u) (r.set rv j) (by rw[List.length_set];exact hz) s.toks
 by_cases h0:0<=k
 ·have hk:k.toNat=j:=by
   rw[seqIndex_of h0 h4]at h1
   exact Option.some.inj h1
  exact W.ki_setAt ho h0 (by omega) (by rw[List.size_toArray, ← hl];exact h4) (by rw[hk];exact⟨_,I',q⟩)
 ·have hk:(k+(its.toArray.size:Int)).toNat=j:=by
   rw[seqIndex_neg (by omega) h3]at h1
   rw[List.size_toArray, ← hl]
   exact Option.some.inj h1
  exact W.ki_setBack ho (by omega) (by rw[List.size_toArray, ← hl];exact h3) (by omega) (by rw[hk];exact⟨_,I',q⟩)
theorem QD1(lo hi:Option Int)(n:Nat):(sliceBounds lo hi none n).1=((HT.sIx n 0 lo:Nat):Int)/\(sliceBounds lo hi none n).2.1=((HT.sIx n n hi:Nat):Int)/\(sliceBounds lo hi none n).2.2=1:=by
 refine⟨?_,?_,rfl⟩
 ·cases lo with
  | none=>simp[sliceBounds,HT.sIx]
  | some i=>
   simp only[sliceBounds,HT.sIx,Option.getD_none,show(1:Int) > 0 by decide,if_true]
   by_cases h:i<0
   ·simp only[h,if_true]<;>omega
   ·simp only[h,if_false]<;>omega
 ·cases hi with
  | none=>simp[sliceBounds,HT.sIx]
  | some i=>
   simp only[sliceBounds,HT.sIx,Option.getD_none,show(1:Int) > 0 by decide,if_true]
   by_cases h:i<0
   ·simp only[h,if_true]<;>omega
   ·simp only[h,if_false]<;>omega
theorem QBb(its:List Value)(lo hi:Option Int):slicePick its.toArray lo hi none=((its.drop (HT.sIx its.length 0 lo)).take (HT.sIx its.length its.length hi - HT.sIx its.length 0 lo)).toArray:=by
 obtain⟨h1,h2,h3⟩:=QD1 lo hi its.toArray.size
 unfold slicePick
 rw[h1,h2,h3]
 simp only[sliceRange_one,pick_run,List.size_toArray]<;>rfl
def rSlL(K:W.Frag):V->Option Int->Option Int->Hp->VK->Prop:=fun x lo hi H Q=>∃ a xs,x=.ref a/\SqL K H a xs/\∀ p,H p=none->Q (.ref p) (upd H p (.lst (cutV xs lo hi)))
theorem QN8:SlR X (rSlL X.K):=by
 intro pins s σ H x v vl vu lo hi sl Q I rx hs pl pu h
 obtain⟨a,xs,rfl,hx,q⟩:=h
 cases rx
 obtain⟨its,r,ht,hz⟩:=I.list hx
 have hlen:=r.length
 refine⟨"list",_,slot_list_getitem.lookup,ht.isList.typeIs,?_⟩
 refine wpAny_getItem_list_slice ht.isList hs pl pu .none (by simp) ?_ (by rw[List.size_toArray]<;>omega)
 rw[QBb, ← hlen]
 refine⟨.ref s.heap.objs.size,_,I.laid (t':=s.toks) (o:=.lst (cutV xs lo hi)) (fun b ob q=>Heap.get?_push_of_some _ q) ‹"ar"› ?_,rfl,q _ (I.hok.fresh ‹"ar"›)⟩
 exact⟨Nat.le_trans (QHw xs lo hi) hz,_,0,(r.drop (HT.sIx xs.length 0 lo)).take ‹"cd"›,Heap.get?_push_size _ rfl⟩
def flatV:V->Bool
 | .non=>true
 | .bl _=>true
 | .int _=>true
 | .str _=>true
 | _=>false
def eqV:V->V->Bool
 | .non,.non=>true
 | .bl a,.bl b=>a == b
 | .bl a,.int b=>(if a then 1 else 0) == b
 | .int a,.bl b=>a == (if b then 1 else 0)
 | .int a,.int b=>a == b
 | .str a,.str b=>a == b
 | _,_=>false
theorem QQv{A:Around}{s:Shared}{y x:V}{u v:Value}(ry:RelV y u)(rx:RelV x v)(fy:flatV y=true)(fx:flatV x=true):SeqAt.EqAt A s u v (eqV y x):=by
 cases y with
 | non=>
  cases ry
  cases x with
  | non=>cases rx;exact SeqAt.EqAt.same _
  | bl b=>cases rx;exact SeqAt.EqAt.none_bool b
  | int b=>obtain⟨t,rfl⟩:=rx;exact SeqAt.EqAt.none_int b t
  | str b=>obtain⟨t,rfl⟩:=rx;exact SeqAt.EqAt.none_str b t
  | _=>exact absurd (show false=true from fx) Bool.false_ne_true
 | bl a=>
  cases ry
  cases x with
  | non=>cases rx;exact SeqAt.EqAt.bool_none a
  | bl b=>cases rx;exact SeqAt.EqAt.bool_bool a b
  | int b=>obtain⟨t,rfl⟩:=rx;exact SeqAt.EqAt.bool_int a b t
  | str b=>obtain⟨t,rfl⟩:=rx;exact SeqAt.EqAt.bool_str a b t
  | _=>exact absurd (show false=true from fx) Bool.false_ne_true
 | int a=>
  obtain⟨t',rfl⟩:=ry
  cases x with
  | non=>cases rx;exact SeqAt.EqAt.int_none a t'
  | bl b=>cases rx;exact SeqAt.EqAt.int_bool a t' b
  | int b=>obtain⟨t,rfl⟩:=rx;exact SeqAt.EqAt.int_int a t' b t
  | str b=>obtain⟨t,rfl⟩:=rx;exact SeqAt.EqAt.int_str a t' b t
  | _=>exact absurd (show false=true from fx) Bool.false_ne_true
 | str a=>
  obtain⟨t',rfl⟩:=ry
  cases x with
  | non=>cases rx;exact SeqAt.EqAt.str_none a t'
  | bl b=>cases rx;exact SeqAt.EqAt.str_bool a t' b
  | int b=>obtain⟨t,rfl⟩:=rx;exact SeqAt.EqAt.str_int a t' b t
  | str b=>obtain⟨t,rfl⟩:=rx;exact SeqAt.EqAt.str_str a t' b t
  | _=>exact absurd (show false=true from fx) Bool.false_ne_true
 | _=>exact absurd (show false=true from fy) Bool.false_ne_true
def eqU(x:V)(u:Value):Bool:=match u with
 | .none=>eqV .non x
 | .bool b=>eqV (.bl b) x
 | .int i _=>eqV (.int i) x
 | .str z _=>eqV (.str z) x
 | _=>false
theorem QMD{x y:V}{u:Value}(r:RelV y u)(f:flatV y=true):eqU x u=eqV y x:=by
 cases y with
 | non=>cases r;rfl
 | bl b=>cases r;rfl
 | int i=>obtain⟨t,rfl⟩:=r;rfl
 | str z=>obtain⟨t,rfl⟩:=r;rfl
 | _=>exact absurd (show false=true from f) Bool.false_ne_true
theorem QyT{x:V}:∀{xs:List V}{us:List Value},Vals xs us->xs.all flatV=true->us.any (eqU x)=xs.any fun y=>eqV y x
 | _,_,.nil,_=>rfl
 | y::xs,u::us,.cons r t,f=>by
  rw[List.all_cons,Bool.and_eq_true]at f
  rw[List.any_cons,List.any_cons,QMD r f.1,QyT t f.2]
theorem QvF{A:Around}{s:Shared}{x:V}{v:Value}(rx:RelV x v)(fx:flatV x=true):∀{xs:List V}{us:List Value},Vals xs us->xs.all flatV=true->∀ u∈us,SeqAt.EqAt A s u v (eqU x u)
 | _,_,.nil,_=>fun u hu=>by cases hu
 | y::xs,u::us,.cons r t,f=>fun u' hu=>by
  rw[List.all_cons,Bool.and_eq_true]at f
  rcases List.mem_cons.mp hu with rfl | hu
  ·rw[QMD r f.1];exact QQv r rx f.1 fx
  ·exact QvF rx fx t f.2 u' hu
def inV(x:V)(xs:List V):Bool:=xs.any fun y=>eqV y x
def rIn(K:W.Frag)(neg:Bool):R2:=fun x y H Q=>∃ p xs,y=.ref p/\(SqL K H p xs∨SqT K H p xs)/\flatV x=true/\xs.all flatV=true/\Q (.bl (if neg then !inV x xs else inV x xs)) H
theorem QLc:OpR X (compareOp .In) (rIn X.K false):=by
 intro pins s σ H x y v u Q I rx ry h
 obtain⟨p,xs,rfl,hq,fx,fs,q⟩:=h
 cases ry
 rcases hq with hq | hq
 ·obtain⟨its,r,pl,hz⟩:=I.list hq
  refine SeqAt.in_listAt (eqU x) pl.isList (fun w hw=>QvF rx fx r fs w (by simpa using hw)) ⟨.bl _,H,I,rfl,?_⟩
  rw[show its.toArray.any (eqU x)=its.any (eqU x) by simp,QyT r fs]
  exact q
 ·obtain⟨its,r,pl,hz⟩:=I.tuple hq
  refine SeqAt.in_tupleAt (eqU x) pl (fun w hw=>QvF rx fx r fs w (by simpa using hw)) ⟨.bl _,H,I,rfl,?_⟩
  rw[show its.toArray.any (eqU x)=its.any (eqU x) by simp,QyT r fs]
  exact q
theorem QD4:CallR X (.builtin "len") (fun xs H Q=>∃ p ys,xs=[.ref p]/\(SqL X.K H p ys∨SqT X.K H p ys)/\Q (.int ys.length) H):=by
 intro pins s σ H xs us Q I r h
 obtain⟨p,ys,rfl,hq,q⟩:=h
 obtain⟨u,rfl,rx⟩:=vals1 r
 cases rx
 have hn:=Qpn
 rcases hq with hq | hq
 ·obtain⟨its,r',pl,hz⟩:=I.list hq
  have hlen:=r'.length
  exact Calls.call_len_list pl.isList (by simp only[List.size_toArray]<;>omega) ⟨.int ys.length,H,I.tok _,⟨s.toks+1,by rw[List.size_toArray,hlen]⟩,q⟩
 ·obtain⟨its,r',pl,hz⟩:=I.tuple hq
  have hlen:=r'.length
  exact len_tuple pl (by simp only[List.size_toArray]<;>omega) ⟨.int ys.length,H,I.tok _,⟨s.toks+1,by rw[List.size_toArray,hlen]⟩,q⟩
theorem QDa:CallR X (.builtin "len") (fun xs H Q=>∃ z,xs=[.str z]/\z.length<=sizeLine/\Q (.int z.length) H):=by
 intro pins s σ H xs us Q I r h
 obtain⟨z,rfl,hz,q⟩:=h
 obtain⟨u,rfl,t,rfl⟩:=vals1 r
 have hn:=Qpn
 exact len_str (by omega) ⟨.int z.length,H,I.tok _,⟨_,rfl⟩,q⟩
theorem CallR.or{f:Value}{r r':‹"df"›}(h:CallR X f r)(h':CallR X f r'):CallR X f (fun xs H Q=>r xs H Q∨r' xs H Q):=by
 intro pins s σ H xs us Q I rs q
 rcases q with q | q
 ·exact h pins s σ H xs us Q I rs q
 ·exact h' pins s σ H xs us Q I rs q
theorem QC6:CallR X (.type "list") (fun xs H Q=>∃ p ys,xs=[.ref p]/\(SqL X.K H p ys∨SqT X.K H p ys)/\∀ l,H l=none->Q (.ref l) (upd H l (.lst ys))):=by
 intro pins s σ H xs us Q I r h
 obtain⟨p,ys,rfl,hq,q⟩:=h
 obtain⟨u,rfl,rx⟩:=vals1 r
 cases rx
 have fin:∀(its:List Value),Vals ys its->ys.length<=sizeLine->∀(h':Heap)(c':Nat),(∀ b o',s.heap.get? b=some o'->h'.get? b=some o')->
  h'.get? s.heap.objs.size=some { cls:=.type "list",dict:=none,data:=.seq its.toArray c',slots := #[] }->EP X pins σ Q ‹"dP"› { s with heap:=h' }:=fun its r' hz h' c' kp e=>
  ⟨.ref s.heap.objs.size,_,I.laid (t':=s.toks) kp ‹"ar"› (show ObjOk X.prog X.w _ h' _ (.lst ys) from⟨hz,its,c',r',e⟩),rfl,q _ (I.hok.fresh ‹"ar"›)⟩
 rcases hq with hq | hq
 ·obtain⟨its,r',pl,hz⟩:=I.list hq
  have hlen:=r'.length
  obtain⟨o,ho,hc,n,hd⟩:=pl.isList
  exact call_list_seq p (.inl rfl) ho hc hd (fun h' c' kp e=>fin its r' hz h' c' kp e) (by simp only[List.size_toArray]<;>omega)
 ·obtain⟨its,r',pl,hz⟩:=I.tuple hq
  have hlen:=r'.length
  obtain⟨o,ho,hc,n,hd⟩:=pl
  exact call_list_seq p (.inr rfl) ho hc hd (fun h' c' kp e=>fin its r' hz h' c' kp e) (by simp only[List.size_toArray]<;>omega)
def tyV(K:W.Frag)(T:String)(x:V)(H:Hp):Prop:=match x with
 | .str _=>T="str"
 | .int _=>T="int"
 | .ref p=>(T="list"/\∃ xs,SqL K H p xs)∨(T="tuple"/\∃ o,K.lookup p=some o/\o.cls=.type "tuple"/\o.dict=none)∨
  (T="dict"/\((∃ kvs,H p=some (.dK kvs))∨∃ kvs,H p=some (.dT kvs)))∨(T="set"/\∃ S n,H p=some (.set S n))
 | _=>False
theorem QPE{pins:‹"r"›}{σ:St}{H:Hp}{s:Shared}{T:String}{x:V}{v:Value}(I:‹"h"›)(r:RelV x v)(ty:tyV X.K T x H):
 s.TypeIs v T/\∀ a,v=.ref a->∃ ob,s.heap.get? a=some ob/\ob.dict=none:=by
 cases x with
 | str z=>
  obtain⟨t,rfl⟩:=r
  cases (show T="str" from ty)
  exact⟨typeIs_str s z t,fun _ e=>nomatch e⟩
 | int i=>
  obtain⟨t,rfl⟩:=r
  cases (show T="int" from ty)
  exact⟨typeIs_int s i t,fun _ e=>nomatch e⟩
 | ref p=>
  cases r
  rcases ty with⟨rfl,xs,hq⟩ | ⟨rfl,o,hk,hc,hd⟩ | ⟨rfl,hk⟩ | ⟨rfl,S,n,hk⟩
  ·obtain⟨its,_,pl,_⟩:=I.list hq
   refine⟨pl.isList.typeIs,fun a e=>?_⟩
   cases e
   obtain⟨o,n,e,c,hd,_⟩:=pl
   exact⟨o,e,hd⟩
  ·refine⟨⟨o,I.kIn p o hk,hc⟩,fun a e=>?_⟩
   cases e
   exact⟨o,I.kIn _ o hk,hd⟩
  ·have z:∃ o,s.heap.get? p=some o/\o.ExactDict:=by
    rcases hk with⟨kvs,hk⟩ | ⟨kvs,hk⟩
    ·obtain⟨_,_,_,_,o,_,_,e,ex,_⟩:=I.hok p _ hk
     exact⟨o,e,ex⟩
    ·obtain⟨_,_,_,_,o,_,_,e,ex,_⟩:=I.hok p _ hk
     exact⟨o,e,ex⟩
   obtain⟨o,e,ex⟩:=z
   refine⟨⟨o,e,ex.1⟩,fun a e2=>?_⟩
   cases e2
   exact⟨o,e,ex.2.1⟩
  ·obtain⟨o,_,_,_,e,ex,_⟩:=I.hok p _ hk
   refine⟨⟨o,e,ex.1⟩,fun a e2=>?_⟩
   cases e2
   exact⟨o,e,ex.2.1⟩
 | _=>exact False.elim ty
def tBM(K:W.Frag)(T:String)(r:V->List V->Hp->VK->Prop)(to:TE)(t:TA):TE:=fun σ H Q=>to σ H fun x H1=>tyV K T x H1/\t σ H1 fun xs H2=>r x xs H2 Q
variable{o e:Expr}{es:List Expr}{to:TE}{t:TA}{name:Str}{apos cpos:Pos}{T id:String}{r:V->List V->Hp->VK->Prop}
theorem pe_bm(pa:PlainAttrs T)(slot:Slot T name id)(hty:typeOf (.builtin id)=pure (.type "method_descriptor"))(hm:MtR X id r)(ho:PE X o to)(ha:PA X (e::es) t)
 (hbase:attributeBase o name X.env (eval o X.env)=eval o X.env:=by rfl)
 (hfew:((backTo cpos (starEach (e::es) X.env)).all (fun x => !x.1)&&(backToKw cpos (keywordEach [] X.env)).all (fun x=>x.1.isSome)
  && decide ((e::es).length+([]:List Keyword).length+‹"aH"›<30))=true:=by rfl)
 (hline:(apos.endLine == cpos.line)=true:=by rfl) (hs:‹"j"›:=by rfl) (hplain:(backTo cpos ‹"cz"›).any (·.1)=false:=by rfl):
 PE X (.Call (.Attribute o name apos) (e::es) [] cpos) (tBM X.K T r to t):=by
 intro pins s σ H Q I h
 refine wpAny_Call_method_late hbase hfew hline rfl (thn (ho pins s σ H _ I h) fun v s1 ⟨x,H1,I1,r1,ty,q1⟩=>?_)
 obtain⟨h1,h2⟩:=QPE I1 r1 ty
 refine⟨T,id,pa,slot,hty,h1,h2,?_⟩
 have hA:=ha cpos pins s1 σ H1 _ I1 q1
 rw[hs]at hA ⊢
 refine Calls.callWith_builtin (by show(false||(backTo cpos ‹"cz"›).any (·.1))=false;rw[hplain]<;>rfl) (Calls.evalArgs_plain ?_)
 exact thn hA fun us s2 ⟨vs,H2,I2,r2,q2⟩=>hm pins s2 σ H2 x vs v us Q I2 r1 r2 q2
end
end L2
namespace L2
open PySem PySem.Spec PyProof.Rows
def MtM(X:Cx)(id:String)(r:V->List V->Hp->VK->Prop):Prop:=
 ∀(pins:‹"r"›)(s:Shared)(σ:St)(H:Hp)(x:V)(xs:List V)(v:Value)(us:List Value)(Q:VK),Inv X pins σ H s->RelV x v->Vals xs us->r x xs H Q->
  wpAny ‹"k"› X.A (call (.builtin id) (v::us)) ‹"cY"› X.xe s
theorem Vals.one:∀{x:V}{us:List Value},Vals [x] us->∃ u,us=[u]/\RelV x u
 | _,_,.cons r .nil=>⟨_,rfl,r⟩
theorem Vals.rep{xs:List V}{us:List Value}(h:Vals xs us):∀ k:Nat,Vals (List.replicate k xs).flatten (List.replicate k us).flatten
 | 0=>.nil
 | k+1=>by
  rw[List.replicate_succ,List.replicate_succ,List.flatten_cons,List.flatten_cons]
  exact Vals.append h (Vals.rep h k)
theorem Qzy(its:List Value):∀(k:Nat)(acc:List Value),
 List.foldl (fun x1 x2=>x1++x2) acc.toArray (List.replicate k its.toArray)=(acc++(List.replicate k its).flatten).toArray
 | 0,acc=>by simp
 | k+1,acc=>by
  have e:acc.toArray++its.toArray=(acc++its).toArray:=by simp
  have e2:(acc++its)++(List.replicate k its).flatten=acc++(List.replicate (k+1) its).flatten:=by
   rw[List.replicate_succ,List.flatten_cons,List.append_assoc]
  rw[← e2, ← Qzy its k (acc++its), ← e,List.replicate_succ,List.foldl_cons]
section
variable{X:Cx}{pins:List (Addr×Obj)}{σ:St}{H:Hp}{s:Shared}{l b:Addr}{xs ys zs:List V}
theorem Inv.lset{its its':List Value}{n:Nat}{f:Array Value->Array Value}{t':Nat}(I:‹"h"›)(hH:H l=some (.lst xs))
 (e:s.heap.get? l=some { cls:=.type "list",data:=.seq its.toArray n }) (hf:f its.toArray=its'.toArray) (hv:Vals ys its') (hz:ys.length<=sizeLine):
 Inv X pins σ (upd H l (.lst ys)) { s with heap:=s.heap.update l (Obj.mapSeq f),toks:=t' }:=by
 have q:=PySem.IsL.update e f
 rw[hf]at q
 refine I.write (x:=l) (e:=l) (by rw[hH];exact trivial) (.inl rfl) (fun b' u hb hu=>(Heap.get?_update_other s.heap (Obj.mapSeq f) (Ne.symm hb)).trans hu) ⟨_,q⟩ ?_
 exact⟨hz,its',_,hv,q⟩
theorem Inv.lnew{its:List Value}{t':Nat}(I:‹"h"›)(hv:Vals ys its)(hz:ys.length<=sizeLine):
 Inv X pins σ (upd H s.heap.objs.size (.lst ys)) { s with heap:=s.heap.push { cls:=.type "list",data:=.seq its.toArray },toks:=t' }:=
 I.laid (fun _ _ q=>Heap.get?_push_of_some _ q) ‹"ar"› ⟨hz,its,0,hv,Heap.get?_push_size _ rfl⟩
theorem Inv.fresh(I:‹"h"›):H s.heap.objs.size=none:=I.hok.fresh ‹"ar"›
theorem Inv.lstM(I:‹"h"›)(hH:H l=some (.lst xs)):xs.length<=sizeLine/\∃(its:List Value)(n:Nat),Vals xs its/\xs.length=its.length/\s.heap.get? l=some { cls:=.type "list",data:=.seq its.toArray n }:=by
 obtain⟨z,its,n,r,e⟩:=I.hok l _ hH
 exact⟨z,its,n,r,r.length,e⟩
theorem QM2{n:Nat}(h:n<=sizeLine):Builtin.List.listTooLong n=false:=by
 unfold Builtin.List.listTooLong
 exact decide_eq_false (by omega)
end
section
variable{X:Cx}
def QxT:V->List V->Hp->VK->Prop:=fun x vs H Q=>∃ l xs y,x=.ref l/\vs=[y]/\H l=some (.lst xs)/\xs.length<sizeLine/\Q .non (upd H l (.lst (xs++[y])))
theorem Qsa:MtM X "list.append" QxT:=by
 intro pins s σ H x vs v us Q I rx rv h
 obtain⟨l,xs,y,rfl,rfl,hH,hz,q⟩:=h
 cases rx
 obtain⟨u,rfl,ru⟩:=rv.one
 obtain⟨z,its,n,r,hl,e⟩:=I.lstM hH
 refine call_meets F.slot_list_append ⟨_,e,rfl⟩ F.entry_list_append (F.args_list_append_2 _ _) (PySem.list_append l its.toArray n u (by rw[List.size_toArray];omega)) ⟨e,?_⟩
 refine⟨.non,_,I.lset (its':=its++[u]) hH e (by simp) (r.append (.cons ru .nil)) ?_,rfl,q⟩
 rw[List.length_append,List.length_singleton]
 omega
def rRep:R2:=fun x y H Q=>∃ l k xs,x=.ref l/\y=.int k/\H l=some (.lst xs) /\ -(2 ^ 63)<=k/\k<2 ^ 63/\xs.length * k.toNat<=sizeLine/\
 ∀ p,H p=none->Q (.ref p) (upd H p (.lst (List.replicate k.toNat xs).flatten))
theorem QOs{α:Type}(xs:List α)(k:Nat):(List.replicate k xs).flatten.length=k * xs.length:=by
 induction k with
 | zero=>simp
 | succ k ih=>rw[List.replicate_succ,List.flatten_cons,List.length_append,ih,Nat.succ_mul,Nat.add_comm]
theorem QQm:OpR X (binaryOp .Mult) rRep:=by
 intro pins s σ H x y v u Q I rx ry h
 obtain⟨l,k,xs,rfl,rfl,hH,h1,h2,hz,q⟩:=h
 cases rx
 obtain⟨t,rfl⟩:=ry
 obtain⟨z,its,n,r,hl,e⟩:=I.lstM hH
 have hlen:its.toArray.size * k.toNat<=sizeLine:=by rw[List.size_toArray, ← hl];exact hz
 have hcap:¬ its.toArray.size * k.toNat > (2 ^ 63 - 1) / 8:=by
  have:(sizeLine:Nat)<=(2 ^ 63 - 1) / 8:=by decide
  omega
 have hfit:¬ (!Builtin.List.listFitsIndex k)=true:=by
  rw[fitsIndex_both h1 h2]
  exact Bool.false_ne_true
 have hlong:¬ Builtin.List.listTooLong (its.toArray.size * k.toNat)=true:=by
  rw[QM2 hlen]
  exact Bool.false_ne_true
 have hnew:List.foldl (fun x1 x2=>x1++x2) #[] (List.replicate (if its.toArray.isEmpty=true then 0 else k.toNat) its.toArray)=(List.replicate k.toNat its).flatten.toArray:=by
  have f0:∀ m:Nat,List.foldl (fun x1 x2=>x1++x2) #[] (List.replicate m its.toArray)=(List.replicate m its).flatten.toArray:=fun m=>by
   have:=Qzy its m []
   rw[List.nil_append]at this
   exact this
  rw[f0]
  cases its with
  | nil=>simp
  | cons a r'=>rw[if_neg (by simp)]
 refine wpAny_binaryOp_repeat_ref (T:="list") (U:="int") (by decide) ⟨_,e,rfl⟩ (fun s'=>typeIs_int s' k t) noFill_list_mul F.fills_int_mul F.slot_int_rmul repeat_list F.slot_int_index.lookup
  (call_meets F.slot_int_rmul (typeIs_int s k t) F.entry_int_rmul (F.args_int_rmul_2 _ _) (int___rmul___int_list k t l its.toArray n)
   ⟨e,rfl,⟨_,e,rfl⟩,call_meets F.slot_list_mul ⟨_,e,rfl⟩ F.entry_list_mul (F.args_list_mul_2 _ _) (AutoListH.list___mul___list_int_3 l its.toArray n k t hfit hcap hlong) ⟨e,?_⟩⟩)
 rw[hnew]
 exact⟨.ref _,_,I.lnew (t':=s.toks) (r.rep k.toNat) (by rw[QOs,Nat.mul_comm];exact hz),rfl,q _ I.fresh⟩
end
section
variable{prog:Program}{w:World}{A:Around}{E:Value->Shared->Prop}{s:Shared}
end
section
variable{X:Cx}
end
end L2
namespace Att
open PySem PySem.W PySem.Calls PyProof.Rows
theorem Qxd{P:Params}{h:Heap}:∀(ns:List Int)(vs:List Value),WellAll P h vs (ns.map WData.int)->IntsAre vs ns:=by
 intro ns
 induction ns with
 | nil=>
  intro vs w
  rw[List.map_nil]at w
  cases w
  exact .nil
 | cons n ns ih=>
  intro vs w
  rw[List.map_cons]at w
  cases w with
  | cons a b=>
   cases a
   exact .cons _ _ (ih _ b)
theorem script_of{l:OpenLaw}{n:Nat}(hn:l.most=some n){P:Params}{h:Heap}{args:List WData}{vals:List Value}
 (hpre:l.row.toRowW.claim.pre args=true) (hwl:WellAll P h vals args):
 ∃ a vs ns,vals=[Value.ref a]/\args=[WData.list (ns.map WData.int)]/\h.get? a=some { cls:=.type "list",data:=.seq vs.toArray }/\IntsAre vs ns/\ns.length<=n:=by
 have hsh:WShape.hasAll [] args [.list .int]=true:=(pre_splitW hpre).1
 have hc:l.pre.holds [] { args:=args }=true:=(pre_splitW hpre).2
 obtain⟨d,r,rfl,h1,h2⟩:=hasAllW_cons hsh
 obtain rfl:=hasAllW_nil h2
 obtain⟨xs,rfl,h3⟩:=hasW_list h1
 obtain⟨ns,rfl⟩:=items_int h3
 have hlen:ns.length<=n:=by
  unfold OpenLaw.pre at hc
  have h4:(WTm.not (.lt (.lit (.int (n:Int))) (.len (.arg 0)))).holds [] { args:=[.list (ns.map .int)] }=true:=by
   have h4:=(holds_andW hc).1
   rw[hn]at h4
   exact h4
  have h5:=condW_of h4 (w_not (w_lt w_lit (w_len_list (w_arg rfl))))
  rw[List.length_map]at h5
  refine Nat.le_of_not_lt fun q=>?_
  have q':(n:Int)<((ns.length:Nat):Int):=by omega
  first
   | (rw[decide_eq_true q']at h5;exact absurd h5 (by decide))
   | (simp at h5;omega)
 cases hwl with
 | cons w1 w2=>
  cases w2
  cases w1 with
  | list ho hall=>exact⟨_,_,ns,rfl,rfl,ho,Qxd ns _ hall,hlen⟩
theorem post_true(l:OpenLaw)(args:List WData):l.row.toRowW.claim.post args (.bool true) args=true:=
 postW_of (r:=l.row.toRowW) (X:=(true == true))
  (show WShape.has [] (.bool true) .bool=true by first | rfl | decide | simp[WShape.has,WShape.arms,WShape.armsAll])
  (show(WTm.eq .res (.lit (.bool true))).value [] { args:=args,res:=some (.bool true),after:=args }=some (.bool (true == true)) from w_eq_bool (w_res rfl) w_lit) rfl
section
variable{prog:Program}{w:World}{A:Around}{E:Value->Shared->Prop}{s:Shared}{K:Frag}
end
end Att
namespace L2
open PySem PySem.Spec PyProof.Rows
theorem QzM:∀{vs:List Value}{ns:List Int},IntsAre vs ns->Vals (ns.map V.int) vs
 | _,_,.nil=>.nil
 | _,_,.cons n t h=>.cons ⟨t,rfl⟩ (QzM h)
def Only(H:Hp):Prop:=∀ b,H b=none∨∃ o xs,H b=some (.frz o (.lst xs))
theorem QNF{P:Program}{w:World}{K:W.Frag}{mg mb:‹"R"›}{CX:CXT}{k:Nat}{fa a:Addr}{fd:FuncData}{x:Str}{sp:Sp}{s₁:Shared}{vs:List Value}{ns:List Int}
 (KX:K.In s₁.heap) (hns:s₁.heap.Ns mainGlobals mg) (hb:s₁.heap.Ns builtinsNs mb) (hbb:∀ x:Str,x≠"__name__"->mb x=bootBuiltins x) (hlim:s₁.heap.NoLimit) (hg:s₁.gens = #[])
 (ha:s₁.heap.get? a=some { cls:=.type "list",data:=.seq vs.toArray }) (hi:IntsAre vs ns) (hl:ns.length<=sizeLine) (hr:Room k callerA)
 (F:∀ base:Heap,K.In base->base.Ns mainGlobals mg->FnOk P w K mg base CX k fa fd [x] sp) (hbind:∀(s:Shared)(u:Value),BindsTo s fd ⟨[u],[]⟩ [(x,u)])
 (hsp:∀ H:Hp,Only H->SqL K H a (ns.map V.int)->sp [.ref a] H (fun v _=>v=.bl true) fun _ _ _=>False)
 (hCX:∀ H e s',CX [] H s₁ (fun _ _ _=>False) e s'->False):
 codeAny (model P w) callerA (.call (.ref fa) ⟨[.ref a],[]⟩) ‹"cx"› s₁:=by
 have rv:=QzM hi
 have lenV:=hi.length
 -- from an abstract heap in which nothing but the script may be tracked
 have core:∀ H:Hp,Only H->SqL K H a (ns.map V.int)->HOk P w H s₁.heap->(∀ b,H b≠none->b=a)->(H a≠none->K.lookup a=none)->
  codeAny (model P w) callerA (.call (.ref fa) ⟨[.ref a],[]⟩) ‹"cx"› s₁:=by
  intro H hO hS hok hA hK
  have base_of:∀{b:Addr}{o:Obj},s₁.heap.get? b=some o->H b=none->(hidT s₁.heap H).get? b=some o:=fun e n=>QNz e n
  have noA:∀{b:Addr}{o:Obj}{es:Array DictEntry}{ep:Nat},s₁.heap.get? b=some o->o.data=.dict es ep->H b=none:=fun {b o es ep} e d=>by
   cases q:H b with
   | none=>rfl
   | some u=>
    have e':b=a:=hA b (by rw[q];simp)
    subst e'
    rw[ha]at e;cases e
    have d':Data.seq vs.toArray _=Data.dict es ep:=d
    cases d'
  have nsK:∀{b:Addr}{m:‹"R"›},s₁.heap.Ns b m->(hidT s₁.heap H).Ns b m:=fun {b m} ⟨o,es,ep,e,d,r⟩=>⟨o,es,ep,base_of e (noA e d),d,r⟩
  have hKb:K.In (hidT s₁.heap H):=fun b o e=>base_of (KX b o e) (by
   cases q:H b with
   | none=>rfl
   | some u=>
    have e':b=a:=hA b (by rw[q];simp)
    subst e'
    rw[hK (by rw[q];simp)]at e;cases e)
  have hM:Mod K mg (hidT s₁.heap H):=⟨hKb,nsK hns,⟨mb,nsK hb,hbb⟩,let ⟨mc,h1,h2⟩:=hlim;⟨mc,nsK h1,h2⟩⟩
  have e0:Env0 P w K mg (hidT s₁.heap H) callerA [] s₁ H:=⟨rfl,hM,fun b o e=>QO5 e,Nat.le_of_eq (QLY _ _),trivial,fun b hb=>absurd (show b∈([]:List Addr) from hb) (by simp),hok,.of_eq hg⟩
  refine codeAny_mono ((F _ hKb (nsK hns)).run callerA [] s₁ H ⟨[.ref a],[]⟩ [.ref a] [.ref a] _ _ hr e0 (hbind s₁ (.ref a)) (.cons rfl .nil) (hsp H hO hS)) fun r s' h=>?_
  cases r with
  | error e=>exact(hCX H e s' h).elim
  | ok fl=>
   cases fl with
   | next=>exact False.elim h
   | brk=>exact False.elim h
   | cont=>exact False.elim h
   | ret u=>
    obtain⟨v,H',os,bare,un,hok',r',q⟩:=h
    have q':v=.bl true:=q
    subst q'
    obtain rfl:u=Value.bool true:=r'
    refine⟨rfl,OldK.of_keep fun b o e=>?_,os,bare⟩
    cases q:H b with
    | none=>exact un.keep b o e q (by intro z;exact absurd (show b∈([]:List Addr) from z) (by simp)) (by simp)
    | some u=>
     rcases hO b with z | ⟨ob,xs,z⟩
     ·rw[q]at z;cases z
     ·have z2:=un.frzs b ob _ z
      obtain⟨e1,_⟩:=hok b _ z
      obtain⟨e2,_⟩:=hok' b _ z2
      rw[e]at e1;cases e1
      exact e2
 cases hk:K.lookup a with
 | some o=>
  -- the script is one of the module's own objects
  have e:=KX a o hk
  rw[ha]at e
  cases e
  refine core (fun _=>none) (fun _=>.inl rfl) (.inr ⟨_,vs.toArray,_,hk,rfl,rfl,rfl,by rw[List.size_toArray,lenV];exact hl,by simpa using rv⟩) (fun b u z=>by have z':(none:Option HO)=some u:=z;cases z') (fun b z=>absurd rfl z) fun z=>absurd rfl z
 | none=>
  refine core (fun b=>if b=a then some (.frz { cls:=.type "list",data:=.seq vs.toArray } (.lst (ns.map V.int))) else none) (fun b=>?_) (.inl (.inr ⟨{ cls:=.type "list",data:=.seq vs.toArray },if_pos rfl⟩)) (fun b u z=>?_) (fun b z=>?_) fun _=>hk
  ·by_cases hb:b=a
   ·exact .inr ⟨_,_,if_pos hb⟩
   ·exact .inl (if_neg hb)
  ·by_cases hb:b=a
   ·have z':=(if_pos hb).symm.trans z
    cases z'
    subst hb
    exact⟨ha,by rw[List.length_map];exact hl,vs,_,rv,ha⟩
   ·have z':=(if_neg hb).symm.trans z
    cases z'
  ·by_cases hb:b=a
   ·exact hb
   ·exact absurd (if_neg hb) z
end L2
namespace L2
open PySem PySem.Spec PyProof.Rows
end L2
namespace L2
open PySem PySem.Spec PyProof.Rows
def Qq(s:Stmt):Arguments:=match s with
 | .FunctionDef _ a _ _ _ _ _ _ _ _=>a
 | _=>{ posonlyargs:=[],args:=[],vararg:=none,kwonlyargs:=[],kw_defaults:=[],kwarg:=none,defaults:=[] }
def Qp(s:Stmt):List Stmt:=match s with
 | .FunctionDef _ _ b _ _ _ _ _ _ _=>b
 | _=>[]
def Qa(s:Stmt):Scope:=match s with
 | .FunctionDef _ _ _ _ _ _ sc _ _ _=>sc
 | _=>{ kind:=.function,names:=[],isGenerator:=false,isCoroutine:=false }
abbrev CX0:CXT:=fun _ _ _ _ _ _=>False
abbrev E0:XK:=fun _ _ _=>False
theorem pass0{X:Cx}:QfE CX0 X E0:=fun _ _ _ _ _ _ _ h=>h.elim
structure Fun(K:W.Frag)(x qual:Str)(st:Stmt)(f:Addr)(fd:FuncData):Prop where
 ex:∃(oc:Value)(od:Option Addr)(kV doc pm:Value)(an:Option Addr)(cdv ct:Value)(osl:Array (Option Value)),
  fd=W.fnOf x qual (Qq st) (Qp st) (Qa st) .none kV doc pm an cdv ct/\K.lookup f=some ⟨oc,od,.func fd,osl⟩/\W.codeIn K cdv qual=true
 kp:W.keepIn K (.ref f)=true
section
variable{P:Program}{w:World}{K:W.Frag}{mg:Str->Option Value}{base:Heap}
theorem Fun.ok{x qual:Str}{st:Stmt}{f:Addr}{fd:FuncData}{N ps:List Str}{k:Nat}{sp:Sp}(F:Fun K x qual st f fd)(S:Qr N ps (Qa st))(len:∀ vs H Q E,sp vs H Q E->vs.length=ps.length)
 (hbody:∀(cdv:Value)(A:Around)(outer:List Env)(s:Shared)(H:Hp)(vs:List V)(Q:VK)(E:XK),Room k ‹"ae"›->sp vs H Q E->
  ∃ t,PSs (cxOf CX0 P w K mg base N qual (Qa st) f cdv A outer s H E).nox (Qp st) t/\t { nx:=fun _ H'=>Q .non H',rt:=Q } (start N vs) H):FnOk P w K mg base CX0 (k+1) f fd ps sp:=by
 obtain⟨oc,od,kV,doc,pm,an,cdv,ct,osl,rfl,lk,hcd⟩:=F.ex
 refine fn_of lk hcd S len fun A outer s H vs Q E hr hsp=>?_
 obtain⟨t,h,q⟩:=hbody cdv A outer s H vs Q E hr hsp
 exact⟨t,h.nox,q⟩
end
section
variable{X:Cx}
end
theorem iteF{A B:Prop}(h:B):if false=true then A else B:=by
 rw[if_neg Bool.false_ne_true]
 exact h
theorem iteT{A B:Prop}(h:A):if true=true then A else B:=by
 rw[if_pos rfl]
 exact h
def Same(H H':Hp):Prop:=∀ b o,H b=some o->H' b=some o
theorem Same.refl(H:Hp):Same H H:=fun _ _ h=>h
theorem Same.trans{H H1 H2:Hp}(a:Same H H1)(b:Same H1 H2):Same H H2:=fun c o h=>b c o (a c o h)
theorem Same.free{H H':Hp}(e:Same H H'){l:Addr}(h:H' l=Option.none):H l=Option.none:=by
 cases q:H l with
 | none=>rfl
 | some o=>
  rw[e l o q]at h
  cases h
theorem Same.seq{K:W.Frag}{H H':Hp}{a:Addr}{xs:List V}(e:Same H H')(h:SqL K H a xs):SqL K H' a xs:=by
 rcases h with(h | ⟨o,h⟩) | h
 ·exact .inl (.inl (e _ _ h))
 ·exact .inl (.inr ⟨o,e _ _ h⟩)
 ·exact .inr h
end L2
namespace L2
open PySem PySem.Spec PyProof.Rows
section
variable{κ:Type}[DecidableEq κ]
def valV(kvs:List (κ×V))(k:κ):Option V:=(kvs.find? fun kv=>decide (kv.1=k)).map (·.2)
def putK(kvs:List (κ×V))(k:κ)(v:V):List (κ×V):=
 if ‹"dp"›=true then kvs.map (fun kv=>if kv.1=k then(kv.1,v) else kv) else kvs++[(k,v)]
theorem QuW{p:κ×V}{r:List (κ×V)}{k:κ}(e:p.1=k):valV (p::r) k=some p.2:=by simp[valV,List.find?_cons,e]
theorem Qvd{p:κ×V}{r:List (κ×V)}{k:κ}(e:¬ p.1=k):valV (p::r) k=valV r k:=by simp[valV,List.find?_cons,e]
theorem QBU(k:κ):∀ kvs:List (κ×V),‹"dp"›=(valV kvs k).isSome
 | []=>rfl
 | p::r=>by
  rw[List.any_cons]
  by_cases e:p.1=k
  ·simp only[QuW e,decide_eq_true e,Bool.true_or,Option.isSome_some]
  ·rw[Qvd e,decide_eq_false e,Bool.false_or];exact QBU k r
theorem Qur(kvs:List (κ×V))(k:κ)(v:V):(putK kvs k v).length<=kvs.length+1:=by
 unfold putK
 split
 ·rw[List.length_map];omega
 ·rw[List.length_append,List.length_cons,List.length_nil];omega
theorem RelO.isSome_eq{o:Option V}{u:Option Value}(r:RelO o u):o.isSome=u.isSome:=by
 cases o with
 | none=>cases u with
  | none=>rfl
  | some _=>exact(show False from r).elim
 | some _=>cases u with
  | none=>exact(show False from r).elim
  | some _=>rfl
theorem RelO.getD{o:Option V}{u:Option Value}{d:V}{d':Value}(r:RelO o u)(rd:RelV d d'):RelV (o.getD d) (u.getD d'):=by
 cases o with
 | none=>cases u with
  | none=>exact rd
  | some _=>exact(show False from r).elim
 | some _=>cases u with
  | none=>exact(show False from r).elim
  | some _=>exact r
theorem KV.val{kvs:List (κ×V)}{vs:List (κ×Value)}(r:KV kvs vs)(k:κ):RelO (valV kvs k) (valueAt vs k):=by
 unfold KV at r
 induction r with
 | nil=>exact True.intro
 | @cons p q ps qs h t ih=>
  obtain⟨h1,h2⟩:=h
  by_cases e:p.1=k
  ·have e':q.1=k:=h1.symm.trans e
   have b:valueAt (q::qs) k=some q.2:=by simp[valueAt,List.find?_cons,e']
   rw[QuW e,b];exact h2
  ·have e':¬ q.1=k:=fun z=>e (h1.trans z)
   have b:valueAt (q::qs) k=valueAt qs k:=by simp[valueAt,List.find?_cons,e']
   rw[Qvd e,b];exact ih
theorem KV.any{kvs:List (κ×V)}{vs:List (κ×Value)}(r:KV kvs vs)(k:κ):‹"dp"›=vs.any fun kv=>decide (kv.1=k):=by
 unfold KV at r
 induction r with
 | nil=>rfl
 | cons h t ih=>rw[List.any_cons,List.any_cons,ih,h.1]
theorem KV.repl{kvs:List (κ×V)}{vs:List (κ×Value)}(r:KV kvs vs)(k:κ){y:V}{u:Value}(ry:RelV y u):
 KV (kvs.map fun kv=>if kv.1=k then(kv.1,y) else kv) (vs.map fun kv=>if kv.1=k then(kv.1,u) else kv):=by
 unfold KV at r ⊢
 induction r with
 | nil=>exact .nil
 | @cons p q ps qs h t ih=>
  rw[List.map_cons,List.map_cons]
  refine .cons ?_ ih
  obtain⟨h1,h2⟩:=h
  by_cases e:p.1=k
  ·rw[if_pos e,if_pos (h1.symm.trans e)];exact⟨h1,ry⟩
  ·rw[if_neg e,if_neg (fun z=>e (h1.trans z))];exact⟨h1,h2⟩
theorem KV.put{kvs:List (κ×V)}{vs:List (κ×Value)}(r:KV kvs vs)(k:κ){y:V}{u:Value}(ry:RelV y u):KV (putK kvs k y) (stored vs k u):=by
 unfold putK stored
 rw[r.any k]
 by_cases e:(vs.any fun kv=>decide (kv.1=k))=true
 ·rw[if_pos e,if_pos e];exact r.repl k ry
 ·rw[if_neg e,if_neg e];exact Paired.snoc r ⟨rfl,ry⟩
theorem KV.length{kvs:List (κ×V)}{vs:List (κ×Value)}(r:KV kvs vs):kvs.length=vs.length:=Paired.length r
end
theorem kV_is{P:Program}{w:World}{k:Key}{u:Value}(r:RelV (kV k) u):(Qcc P w).is k u=true:=by
 cases k with
 | inl i=>obtain⟨t,e⟩:=(show ∃ t,u=Value.int i t from r);subst e;exact QFZ P w i t
 | inr x=>obtain⟨t,e⟩:=(show ∃ t,u=Value.str x t from r);subst e;exact QGw P w x t
theorem QzZ{P:Program}{w:World}:∀{ks:List Key}{us:List Value},Vals (ks.map kV) us->ItemsAre (Qcc P w) ks us
 | [],_,r=>by rw[List.map_nil]at r;cases r;exact .nil
 | k::ks,_,r=>by
  rw[List.map_cons]at r
  cases r with
  | cons h t=>exact .cons (kV_is h) (QzZ t)
abbrev KT(H:Hp):List (List Key×V)->List (List Key×Addr×Value)->Prop:=Paired fun p q=>p.1=q.1/\H q.2.1=some (.tup (p.1.map kV))/\RelV p.2 q.2.2
theorem KT.val{H:Hp}{kvs:‹"dS"›}{xs:‹"cU"›}(r:KT H kvs xs)(k:List Key):RelO (valV kvs k) ((atKey xs k).map (·.2)):=by
 induction r with
 | nil=>exact True.intro
 | @cons p q ps qs h t ih=>
  obtain⟨h1,_,h2⟩:=h
  by_cases e:p.1=k
  ·have e':q.1=k:=h1.symm.trans e
   have b:atKey (q::qs) k=some q.2:=by simp[atKey,List.find?_cons,e']
   rw[QuW e,b];exact h2
  ·have e':¬ q.1=k:=fun z=>e (h1.trans z)
   have b:atKey (q::qs) k=atKey qs k:=by simp[atKey,List.find?_cons,e']
   rw[Qvd e,b];exact ih
theorem KT.repl{H:Hp}{kvs:‹"dS"›}{xs:‹"cU"›}(r:KT H kvs xs)(k:List Key){y:V}{u:Value}(ry:RelV y u):
 KT H (kvs.map fun kv=>if kv.1=k then(kv.1,y) else kv) (xs.map (putAt k u)):=by
 induction r with
 | nil=>exact .nil
 | @cons p q ps qs h t ih=>
  rw[List.map_cons,List.map_cons]
  refine .cons ?_ ih
  obtain⟨h1,h2,h3⟩:=h
  unfold putAt
  by_cases e:p.1=k
  ·rw[if_pos e,if_pos (h1.symm.trans e)];exact⟨h1,h2,ry⟩
  ·rw[if_neg e,if_neg (fun z=>e (h1.trans z))];exact⟨h1,h2,h3⟩
theorem KT.put{H:Hp}{kvs:‹"dS"›}{xs:‹"cU"›}(r:KT H kvs xs)(k:List Key){b:Addr}{y:V}{u:Value}(hb:H b=some (.tup (k.map kV)))(ry:RelV y u):
 KT H (putK kvs k y) (storedH xs k b u):=by
 have e:‹"dp"›=(atKey xs k).isSome:=by
  rw[QBU,(r.val k).isSome_eq,Option.isSome_map]
 unfold putK storedH
 rw[e]
 by_cases q:(atKey xs k).isSome=true
 ·rw[if_pos q,if_pos q];exact r.repl k ry
 ·rw[if_neg q,if_neg q];exact Paired.snoc r ⟨rfl,hb,ry⟩
theorem KT.keeps{H H':Hp}{kvs:‹"dS"›}{xs:‹"cU"›}(r:KT H kvs xs)(ht:∀ b ys,H b=some (.tup ys)->H' b=some (.tup ys)):KT H' kvs xs:=
 Paired.mapP r fun _ _ z=>⟨z.1,ht _ _ z.2.1,z.2.2⟩
section
variable{P:Program}{w:World}{H:Hp}{h:Heap}{a:Addr}
theorem rd_of{u:HO}(ok:HOk P w H h)(e:Rd H a u):ObjOk P w H h a u:=e.ok ok
theorem dk_rd{kvs:List (Key×V)}(ok:HOk P w H h)(e:Rd H a (.dK kvs)):kvs.length<=sizeLine/\(a == sysModules)=false/\∃ vs,KV kvs vs/\h.DictOf (Qcc P w) a vs:=
 show ObjOk P w H h a (.dK kvs) from rd_of ok e
theorem dk_of{kvs:List (Key×V)}(ok:HOk P w H h)(e:H a=some (.dK kvs)):kvs.length<=sizeLine/\(a == sysModules)=false/\∃ vs,KV kvs vs/\h.DictOf (Qcc P w) a vs:=dk_rd ok (.inl e)
theorem Qwo{ks:List Key}(ok:HOk P w H h)(e:H a=some (.tup (ks.map kV))):(tupleKind (Qcc P w)).is h ks a:=by
 obtain⟨_,its,r,o,h1,h2,n,h3⟩:=(show ObjOk P w H h a (.tup (ks.map kV)) from ok a _ e)
 exact⟨o,its.toArray,n,h1,h2,h3,by simpa using QzZ r⟩
theorem dt_rd{kvs:‹"dS"›}(ok:HOk P w H h)(e:Rd H a (.dT kvs)):kvs.length<=sizeLine/\(a == sysModules)=false/\
 ∃ xs,KT H kvs xs/\h.DictOfH (tupleKind (Qcc P w)) a xs:=by
 obtain⟨z,y,xs,r,o,es,ep,h1,h2,h3,h4,h5⟩:=(show ObjOk P w H h a (.dT kvs) from rd_of ok e)
 refine⟨z,y,xs,r,o,es,ep,h1,h2,h3,h4,fun x hx=>?_,h5⟩
 have all:∀{l:‹"dS"›}{m:‹"cU"›},KT H l m->∀ x∈m,(tupleKind (Qcc P w)).is h x.1 x.2.1:=by
  intro l m q
  induction q with
  | nil=>intro x hx;exact nomatch hx
  | @cons p q ps qs hq t ih=>
   intro x hx
   rcases List.mem_cons.mp hx with e | hx
   ·subst e
    exact Qwo ok (by rw[← hq.1];exact hq.2.1)
   ·exact ih x hx
 exact all r x hx
theorem dt_of{kvs:‹"dS"›}(ok:HOk P w H h)(e:H a=some (.dT kvs)):kvs.length<=sizeLine/\(a == sysModules)=false/\
 ∃ xs,KT H kvs xs/\h.DictOfH (tupleKind (Qcc P w)) a xs:=dt_rd ok (.inl e)
end
def DGet(H:Hp)(a:Addr)(y:V)(r:Option V):Prop:=
 (∃ kvs k,Rd H a (.dK kvs)/\y=kV k/\r=valV kvs k)∨∃ kvs k b,Rd H a (.dT kvs)/\y=.ref b/\H b=some (.tup (k.map kV))/\r=valV kvs k
def DPut(H:Hp)(a:Addr)(y v:V)(H':Hp):Prop:=
 (∃ kvs k,H a=some (.dK kvs)/\y=kV k/\kvs.length<sizeLine/\H'=upd H a (.dK (putK kvs k v)))∨
 ∃ kvs k b,H a=some (.dT kvs)/\y=.ref b/\H b=some (.tup (k.map kV))/\kvs.length<sizeLine/\H'=upd H a (.dT (putK kvs k v))
theorem DGet.k{H:Hp}{a:Addr}{kvs:List (Key×V)}{k:Key}(e:H a=some (.dK kvs)):DGet H a (kV k) (valV kvs k):=.inl ⟨kvs,k,.inl e,rfl,rfl⟩
theorem DGet.t{H:Hp}{a b:Addr}{kvs:‹"dS"›}{k:List Key}(e:H a=some (.dT kvs))(eb:H b=some (.tup (k.map kV))):DGet H a (.ref b) (valV kvs k):=.inr ⟨kvs,k,b,.inl e,rfl,eb,rfl⟩
theorem DPut.k{H:Hp}{a:Addr}{kvs:List (Key×V)}{k:Key}{v:V}(e:H a=some (.dK kvs))(hl:kvs.length<sizeLine):DPut H a (kV k) v (upd H a (.dK (putK kvs k v))):=.inl ⟨kvs,k,e,rfl,hl,rfl⟩
theorem DPut.t{H:Hp}{a b:Addr}{kvs:‹"dS"›}{k:List Key}{v:V}(e:H a=some (.dT kvs))(eb:H b=some (.tup (k.map kV)))(hl:kvs.length<sizeLine):
 DPut H a (.ref b) v (upd H a (.dT (putK kvs k v))):=.inr ⟨kvs,k,b,e,rfl,eb,hl,rfl⟩
section
variable{X:Cx}{pins:List (Addr×Obj)}{σ:St}{H:Hp}{s:Shared}{a:Addr}{y v:V}{u r:Value}{o:Option V}{A:Around}{E:Value->Shared->Prop}
theorem QKF{Q:‹"m"›}(hu:A.units+1<cLine)(I:‹"h"›)(g:DGet H a y (some v))(ry:RelV y u)(h:∀ w' s',Inv X pins σ H s'->RelV v w'->Q w' s'):
 wpAny ‹"k"› A (getItem (.ref a) u) Q E s:=by
 rcases g with⟨kvs,k,e,ey,l⟩ | ⟨kvs,k,b,e,ey,eb,l⟩
 ·subst ey
  obtain⟨z,hd,vs,rel,dd⟩:=dk_rd I.hok e
  obtain⟨w',hw,rw'⟩:=RelO.some_of (v:=v) (o:=valueAt vs k) (by rw[l];exact rel.val k)
  exact wpAny_getItem_of (kV_is ry) dd.mapOf hw (h w' _ (I.tok _) rw')
 ·subst ey
  cases (show u=Value.ref b from ry)
  obtain⟨z,hd,xs,rel,dd⟩:=dt_rd I.hok e
  obtain⟨w',hw,rw'⟩:=RelO.some_of (v:=v) (o:=(atKey xs k).map (·.2)) (by rw[l];exact rel.val k)
  obtain⟨p,hp,hp2⟩:=Option.map_eq_some_iff.mp hw
  refine wpAny_getItem_heap (tupleKind_room_in1 hu) (Qwo I.hok eb) dd hp ?_
  rw[hp2]
  exact h w' _ (I.tok _) rw'
theorem QId{h':Heap}{t':Nat}{ob:HO}(I:‹"h"›)(mu:Mut (H a))(hs:Heap.SameBut a s.heap h')(he:∃ q,h'.get? a=some q)(new:ObjOk X.prog X.w (upd H a ob) h' a ob):
 Inv X pins σ (upd H a ob) { s with heap:=h',toks:=t' }:=
 I.write (x:=a) (e:=a) mu (.inl rfl) (fun b q hb z=>(hs.2 b hb).trans z) he new
theorem QQx{P:Program}{w:World}{H':Hp}{h':Heap}{kvs:List (Key×V)}{vs:List (Key×Value)}(z:kvs.length<=sizeLine)(hd:(a == sysModules)=false)(rel:KV kvs vs)(dd:h'.DictOf (Qcc P w) a vs):
 ObjOk P w H' h' a (.dK kvs):=⟨z,hd,vs,rel,dd⟩
theorem QLA{H':Hp}{Q:Unit->Shared->Prop}(hu:A.units+1<cLine)(I:‹"h"›)(g:DPut H a y v H')(ry:RelV y u)(rv:RelV v r)(h:∀ s',Inv X pins σ H' s'->Q () s'):
 wpAny ‹"k"› A (setItem (.ref a) u r) Q E s:=by
 rcases g with⟨kvs,k,e,ey,l,eH⟩ | ⟨kvs,k,b,e,ey,eb,l,eH⟩
 ·subst ey eH
  obtain⟨z,hd,vs,rel,dd⟩:=dk_of I.hok e
  have hz:vs.length<=sizeLine:=by rw[← rel.length];exact z
  have hl:(putK kvs k v).length<=sizeLine:=by have:=Qur kvs k v;omega
  refine wpAny_setItem_pairs (hsz:=hz) (kV_is ry) dd fun h' dd' hs=>h _ ?_
  have he:∃ q,h'.get? a=some q:=let ⟨q,_,_,hq,_⟩:=dd';⟨q,hq⟩
  exact QId I (by rw[e];exact True.intro) hs he (QQx hl hd (rel.put k rv) dd')
 ·subst ey eH
  cases (show u=Value.ref b from ry)
  obtain⟨z,hd,xs,rel,dd⟩:=dt_of I.hok e
  have hz:xs.length<=sizeLine:=by rw[← Paired.length rel];exact z
  have hl:(putK kvs k v).length<=sizeLine:=by have:=Qur kvs k v;omega
  refine wpAny_setItem_heap (hsz:=hz) (tupleKind_room_in1 hu) (Qwo I.hok eb) dd fun h' dd' hs=>h _ ?_
  obtain⟨q,es,ep,hq,h2,h3,h4,_,h5⟩:=dd'
  refine QId I (by rw[e];exact True.intro) hs ⟨q,hq⟩ ⟨hl,hd,_,(rel.put k eb rv).keeps fun c ys ec=>?_,q,es,ep,hq,h2,h3,h4,h5⟩
  rw[Qk (ne_of ec e (fun z=>nomatch z))]
  exact ec
end
section
variable{X:Cx}{pins:List (Addr×Obj)}{σ:St}{H:Hp}{s:Shared}{a:Addr}{kvs:List (Key×V)}{k:Key}{u:Value}{A:Around}{E:Value->Shared->Prop}
end
def NoSl(i:Expr):Prop:=∀ ov iv,subscripted i false ov iv=operate [ov,iv] (getItem ov iv)
theorem QOY{prog:Program}{w:World}{A:Around}{E:‹"m"›}{s:Shared}{env:Env}{value slice:Expr}{pos:Pos}{T id:String}{Q:‹"m"›}
 (hl:typeLookup (.type T) "__getitem__"=pure (some (.builtin id))) (hs:NoSl slice)
 (h:wpAny ‹"bL"› A (eval value env) (fun o s₁=>wpAny ‹"bL"› A (eval slice env) (fun i s₂ => s₂.TypeIs o T/\wpAny ‹"bL"› A (getItem o i) Q E s₂) E s₁) E s):
 wpAny ‹"bL"› A (eval (.Subscript value slice pos) env) Q E s:=by
 refine Subscript_ (wpAny_mono h (fun o s₁ h₁=>wpAny_mono h₁ (fun i s₂ h₂ => ?_) fun _ _ x=>x) fun _ _ x=>x)
 obtain⟨hT,h₂⟩:=h₂
 unfold subscriptTail
 refine wpAny_bind ?_
 rw[getitemInPython_of_ne hT.not_modules]
 refine wpAny_bind (wpAny_specialOf hT hl ?_)
 have fin:wpAny ‹"bL"› A (subscripted slice false o i) (fun r s₃ => wpAny ‹"bL"› A (letTemporaryGo value o r>>=fun _=>pure r) Q E s₃) E s₂ := by
  rw[hs o i]
  exact wpAny_operating (wpAny_mono h₂ (fun r s₃ h₃ => wpAny_bind (wpAny_letTemporaryGo (wpAny_pure h₃))) fun _ _ x=>x)
 first
  | exact wpAny_pure (wpAny_bind fin)
  | exact wpAny_bind (wpAny_pure (wpAny_bind fin))
  | exact wpAny_bind fin
theorem QGf{X:Cx}{pins:‹"r"›}{σ:St}{H:Hp}{s:Shared}{a:Addr}{y:V}{o:Option V}(I:‹"h"›)(g:DGet H a y o):s.TypeIs (.ref a) "dict":=by
 rcases g with⟨kvs,k,e,_,_⟩ | ⟨kvs,k,b,e,_,_,_⟩
 ·obtain⟨_,_,vs,_,dd⟩:=dk_rd I.hok e
  exact dd.typeIs
 ·obtain⟨_,_,xs,_,dd⟩:=dt_rd I.hok e
  exact dd.typeIs
def tDGet(td ty:TE):TE:=fun σ H Q=>td σ H fun x H1=>ty σ H1 fun y H2=>∃ a v,x=.ref a/\DGet H2 a y (some v)/\Q v H2
def sDPut(td ty tv:TE):TS:=fun D σ H=>tv σ H fun v H1=>td σ H1 fun x H2=>ty σ H2 fun y H3=>∃ a H4,x=.ref a/\DPut H3 a y v H4/\D.nx σ H4
section
variable{X:Cx}{o i e value:Expr}{pos pos' tpos:Pos}{td ty tv:TE}
theorem QOm(hu:X.A.units+1<cLine)(ho:PE X o td)(hi:PE X i ty)(hs:NoSl i):PE X (.Subscript o i pos) (tDGet td ty):=by
 intro pins s σ H Q I h
 refine QOY PySem.F.slot_dict_getitem.lookup hs (thn (ho pins s σ H _ I h) fun u s1 ⟨x,H1,I1,rx,q1⟩=>thn (hi pins s1 σ H1 _ I1 q1) fun iv s2 ⟨y,H2,I2,ry,a,v,ex,g,q2⟩=>?_)
 subst ex
 obtain rfl:u=Value.ref a:=rx
 exact⟨QGf I2 g,QKF hu I2 g ry fun w' s3 I3 rw'=>⟨v,H2,I3,rw',q2⟩⟩
theorem QOj(hu:X.A.units+1<cLine)(ho:PE X o td)(hi:PE X i ty)(hv:PE X value tv)(hs:swapsWith value (some (.Subscript o i pos')) pos.line X.env=pure false):
 PS X (.Assign [.Subscript o i pos'] value pos) (sDPut td ty tv):=by
 intro pins s σ H D I h
 refine wpAny_Assign_Subscript (thn (hv pins s σ H _ I h) fun r s1 ⟨v,H1,I1,rv,q1⟩=>thn (ho pins s1 σ H1 _ I1 q1) fun u s2 ⟨x,H2,I2,rx,q2⟩=>thn (hi pins s2 σ H2 _ I2 q2) fun iv s3 ⟨y,H3,I3,ry,a,H4,ex,g,q3⟩=>?_) hs
 subst ex
 obtain rfl:u=Value.ref a:=rx
 exact QLA hu I3 g ry rv fun s4 I4=>⟨σ,H4,I4,q3⟩
end
section
variable{X:Cx}{pos:Pos}
end
structure M1(X:Cx)(o:Expr)(m:Str)(apos:Pos)(e:Expr)(cpos:Pos):Prop where
 base:attributeBase o m X.env (eval o X.env)=eval o X.env
 few:((backTo cpos (starEach [e] X.env)).all (fun x => !x.1)&&(backToKw cpos (keywordEach [] X.env)).all (fun x=>x.1.isSome)
  && decide (([e]:List Expr).length+([]:List Keyword).length+‹"aH"›<30))=true
 line:(apos.endLine == cpos.line)=true
 trees:backTo cpos (starEach [e] X.env)=[(false,eval e X.env)]
def IsD(H:Hp)(a:Addr):Prop:=(∃ kvs,Rd H a (.dK kvs))∨∃ kvs,Rd H a (.dT kvs)
theorem QQz{X:Cx}{pins:‹"r"›}{σ:St}{H:Hp}{s:Shared}{a:Addr}(I:‹"h"›)(d:IsD H a):
 s.TypeIs (.ref a) "dict"/\(∀ b,Value.ref a=.ref b->∃ ob,s.heap.get? b=some ob/\ob.dict=none)/\(a == sysModules)=false:=by
 rcases d with⟨kvs,e⟩ | ⟨kvs,e⟩
 ·obtain⟨_,hd,vs,_,dd⟩:=dk_rd I.hok e
  refine⟨dd.typeIs,fun b q=>?_,hd⟩
  cases q
  obtain⟨ob,_,_,h1,h2,_⟩:=dd
  exact⟨ob,h1,h2.2.1⟩
 ·obtain⟨_,hd,xs,_,dd⟩:=dt_rd I.hok e
  refine⟨dd.typeIs,fun b q=>?_,hd⟩
  cases q
  obtain⟨ob,_,_,h1,h2,_⟩:=dd
  exact⟨ob,h1,h2.2.1⟩
section
variable{X:Cx}{pins:List (Addr×Obj)}{σ:St}{H:Hp}{s:Shared}{a:Addr}{y d:V}{u r:Value}{o:Option V}{A:Around}{E:Value->Shared->Prop}
theorem QQC{Q:‹"m"›}(hu:A.units+1<cLine)(I:‹"h"›)(g:DGet H a y o)(ry:RelV y u)(h:∀ w' s',Inv X pins σ H s'->RelV (o.getD .non) w'->Q w' s'):
 wpAny ‹"k"› A (call (.builtin "dict.get") [.ref a,u]) Q E s:=by
 rcases g with⟨kvs,k,e,ey,l⟩ | ⟨kvs,k,b,e,ey,eb,l⟩
 ·subst ey
  obtain⟨z,hd,vs,rel,dd⟩:=dk_rd I.hok e
  refine call_meetsIn PySem.F.slot_dict_get dd.typeIs PySem.F.entry_dict_get (PySem.F.args_dict_get_2 _ _) (meets_dict_get (Qcc X.prog X.w) a (kV_is ry) hd) ⟨_,dd.mapOf,h _ _ (I.tok _) ?_⟩
  rw[l]
  exact(rel.val k).getD rfl
 ·subst ey
  cases (show u=Value.ref b from ry)
  obtain⟨z,hd,xs,rel,dd⟩:=dt_rd I.hok e
  refine call_meetsIn PySem.F.slot_dict_get dd.typeIs PySem.F.entry_dict_get (PySem.F.args_dict_get_2 _ _) (meetsH_dict_get (tupleKind (Qcc X.prog X.w)) a b hd) ⟨tupleKind_room_in1 hu,k,xs,Qwo I.hok eb,dd,h _ _ (I.tok _) ?_⟩
  rw[l]
  exact(rel.val k).getD rfl
end
def QQp(td ty:TE):TE:=fun σ H Q=>td σ H fun x H1=>∃ a,x=.ref a/\IsD H1 a/\ty σ H1 fun y H2=>∃ o,DGet H2 a y o/\Q (o.getD .non) H2
section
variable{X:Cx}{o e f:Expr}{apos cpos:Pos}{td ty tx:TE}
theorem QNJ(hu:X.A.units+1<cLine)(ho:PE X o td)(he:PE X e ty)(m:M1 X o "get" apos e cpos):PE X (.Call (.Attribute o "get" apos) [e] [] cpos) (QQp td ty):=by
 intro pins s σ H Q I h
 refine wpAny_Call_method m.base m.few m.line PySem.F.plainAttrs_dict PySem.F.slot_dict_get PySem.F.type_dict_get (thn (ho pins s σ H _ I h) fun u s1 ⟨x,H1,I1,rx,a,ex,d,q1⟩=>?_)
 subst ex
 obtain rfl:u=Value.ref a:=rx
 obtain⟨t1,t2,_⟩:=QQz I1 d
 refine⟨t1,t2,?_⟩
 rw[m.trees]
 refine Calls.callWith_builtin rfl (Calls.evalArgs_plain (Calls.spliced_cons (thn (he pins s1 σ H1 _ I1 q1) fun iv s2 ⟨y,H2,I2,ry,ov,g,q2⟩=>Calls.spliced_nil ?_)))
 exact QQC hu I2 g ry fun w' s3 I3 rw'=>⟨_,H2,I3,rw',q2⟩
end
section
variable{X:Cx}{pins:List (Addr×Obj)}{σ:St}{H:Hp}{s:Shared}{a:Addr}{kvs:List (Key×V)}{A:Around}{E:Value->Shared->Prop}
end
section
variable{X:Cx}{pins:List (Addr×Obj)}{σ:St}{H:Hp}{s:Shared}{a:Addr}{y:V}{u:Value}{A:Around}{E:Value->Shared->Prop}
end
end L2
namespace L2
open PySem PySem.Spec PyProof.Rows
structure FlyS(P:Program)(w:World)(l:List Env)(H:Hp)(s:Shared)(ea C t:Addr)(H':Hp)(B:Heap)(s':Shared):Prop where
 os:s'.os=s.os
 bare:AllBare s'.gens
 un:Un (frs l) [] H H' s.heap s'.heap
 kb:∀ b o,s.heap.get? b=some o->H b=none->b∉frs l->B.get? b=some o
 th:∀ b o,s.heap.get? b=some o->b∉frs l->∃ o',B.get? b=some o'
 hok:HOk P w H' B
 fly:Heap.FlyingW B l ea (.ref C) (.ref t) s'.heap
def CXR(P:Program)(w:World):CXT:=fun l H s E e s'=>∃ ea C t H' B,e=.ref ea/\FlyS P w l H s ea C t H' B s'/\E (.ref C) none H'
section
variable{P:Program}{w:World}{l:List Env}{H H':Hp}{s s':Shared}{ea C t:Addr}{B h':Heap}
end
section
variable{X:Cx}{pins:List (Addr×Obj)}{σ:St}{H1:Hp}{s1:Shared}{E:XK}{ea C:Addr}{vs:List Value}{h':Heap}{Ex:Value->Shared->Prop}{M:Model}
theorem QkM(I:Inv X pins σ H1 s1):∀ b o,X.s₀.heap.get? b=some o->b∉X.fs->b∉frs X.stack:=fun b o e hb z=>by
 rcases List.mem_cons.mp (I.stkSub b z) with q | q
 ·have:=Heap.lt_size e
  rw[q]at this
  exact absurd (Nat.lt_of_lt_of_le this I.ok.above) (Nat.lt_irrefl _)
 ·exact hb q
theorem QOu(I:Inv X pins σ H1 s1):HOk X.prog X.w H1 (W.hideAll s1.heap (frs X.stack)):=fun a o e=>
 (I.hok a o e).stay (fun b u hb q=>W.hideAll_get _ q fun z=>by
  have:=I.stkFree b z
  rcases hb with rfl | hb
  ·rw[this]at e;cases e
  ·rw[this]at hb;cases hb) (fun _ q=>q) fun _ _ q=>q
theorem QH2(I:Inv X pins σ H1 s1):∀ b∈X.fs,∀ o,X.s₀.heap.get? b=some o->∀ vs,o.data≠.fields vs:=fun b hb o e=>by
 obtain⟨_,o',h1,h2⟩:=I.ok.funs.mem hb
 rw[e]at h1;cases h1
 exact h2
theorem QJt(I:Inv X pins σ H1 s1)(hst:X.stack=X.env::X.outer)(hfr:X.env.frame=some X.env.locals)(hex:X.ex=[])(hx:Heap.MadeExcOf s1.heap h' ea (.ref C) vs)(hE:E (.ref C) none H1):
 wpAny M X.A (leaving X.env (.ref ea)) (fun _ s''=>CXR X.prog X.w X.outer X.H₀ X.s₀ E (.ref ea) s'') Ex { s1 with heap:=h' }:=by
 have hin:∀ env∈X.stack,∀ b,env.frame=some b->b∈frs X.stack:=fun env he b hb=>List.mem_filterMap.mpr ⟨env,he,hb⟩
 have st:=I.stack
 refine wpAny_leaves_madeW (base:=W.hideAll s1.heap (frs X.stack)) (h:=s1.heap) (env:=X.env) (outer:=X.outer) (by rw[← hst];exact I.ok.frames) hfr (fun b o q=>W.of_hideAll _ q)
  (by rw[← hst];exact W.funFrames_hide st hin) hx fun h2 t fl tp nt up=>?_
 have nx:∀ b:Addr,b∉X.ex:=fun b z=>by rw[hex]at z;cases z
 have kbB:∀ b o,X.s₀.heap.get? b=some o->X.H₀ b=none->b∉X.fs->(W.hideAll s1.heap (frs X.stack)).get? b=some o:=fun b o e n hb=>W.hideAll_get _ (I.base.keep b o e n hb (nx b)) (QkM I b o e hb)
 have thB:∀ b o,X.s₀.heap.get? b=some o->b∉X.fs->∃ o',(W.hideAll s1.heap (frs X.stack)).get? b=some o':=fun b o e hb=>by
  obtain⟨o',q⟩:=I.base.there b o e (nx b)
  exact⟨o',W.hideAll_get _ q (QkM I b o e hb)⟩
 have slot:∀ b o,X.s₀.heap.get? b=some o->X.H₀ b=none->b∈X.fs->∃ sl,h2.get? b=some { o with slots:=sl }:=fun b o e n hb=>by
  obtain⟨sl,q⟩:=I.base.slot b o e n hb (nx b)
  obtain⟨sl2,q2⟩:=up b _ (hx.keeps _ _ q) (QH2 I b hb o e)
  exact⟨sl2,q2⟩
 refine⟨ea,C,t,H1,_,rfl,⟨I.os,I.bare,⟨fun b o e n hb _=>fl.1 b o (kbB b o e n hb),fun b o e n hb _=>slot b o e n hb,fun b o e n _=>I.base.free b o e n (nx b),fun b o e _=>?_,I.base.tups,I.base.frzs,I.base.tbls⟩,kbB,thB,QOu I,fl⟩,hE⟩
 by_cases hb:b∈X.fs
 ·obtain⟨sl,q⟩:=slot b o e (I.ok.frf b hb) hb
  exact⟨_,q⟩
 ·obtain⟨o',q⟩:=thB b o e hb
  exact⟨o',fl.1 b o' q⟩
theorem QNs{s':Shared}{e:Value}(I:Inv X pins σ H1 s1)(hst:X.stack=X.env::X.outer)(hfr:X.env.frame=some X.env.locals)(hex:X.ex=[])(h:CXR X.prog X.w X.stack H1 s1 E e s'):
 wpAny M X.A (leaving X.env e) (fun _ s''=>CXR X.prog X.w X.outer X.H₀ X.s₀ E e s'') Ex s':=by
 obtain⟨ea,C,t,H',B,rfl,F,hE⟩:=h
 have fl:=F.fly
 rw[hst]at fl
 refine wpAny_leaves_onW (by rw[← hst];exact I.ok.frames) hfr fl fun h2 fl2 up=>?_
 have nx:∀ b:Addr,b∉X.ex:=fun b z=>by rw[hex]at z;cases z
 have nn:∀ b:Addr,b∉([]:List Addr):=fun b z=>by cases z
 have kbB:∀ b o,X.s₀.heap.get? b=some o->X.H₀ b=none->b∉X.fs->B.get? b=some o:=fun b o e n hb=>
  F.kb b o (I.base.keep b o e n hb (nx b)) (I.base.free b o e n (nx b)) (QkM I b o e hb)
 have thB:∀ b o,X.s₀.heap.get? b=some o->b∉X.fs->∃ o',B.get? b=some o':=fun b o e hb=>by
  obtain⟨o',q⟩:=I.base.there b o e (nx b)
  exact F.th b o' q (QkM I b o e hb)
 have slot:∀ b o,X.s₀.heap.get? b=some o->X.H₀ b=none->b∈X.fs->∃ sl,h2.get? b=some { o with slots:=sl }:=fun b o e n hb=>by
  obtain⟨sl,q⟩:=I.base.slot b o e n hb (nx b)
  have hs:b∈frs X.stack:=by
   rw[hst]
   obtain⟨env,h1,h2⟩:=List.mem_filterMap.mp hb
   exact List.mem_filterMap.mpr ⟨env,List.mem_cons_of_mem _ h1,h2⟩
  obtain⟨sl1,q1⟩:=F.un.slot b _ q (I.base.free b o e n (nx b)) hs (nn b)
  obtain⟨sl2,q2⟩:=up b _ q1 (QH2 I b hb o e)
  exact⟨sl2,q2⟩
 refine⟨ea,C,t,H',B,rfl,⟨F.os.trans I.os,F.bare,⟨fun b o e n hb _=>fl2.1 b o (kbB b o e n hb),fun b o e n hb _=>slot b o e n hb,fun b o e n _=>?_,fun b o e _=>?_,fun b xs e=>F.un.tups b xs (I.base.tups b xs e),fun b o u e=>F.un.frzs b o u (I.base.frzs b o u e),fun b ps e=>?_⟩,kbB,thB,F.hok,fl2⟩,hE⟩
 ·obtain⟨o',q⟩:∃ o',s1.heap.get? b=some o':=I.base.there b o e (nx b)
  exact F.un.free b o' q (I.base.free b o e n (nx b)) (nn b)
 ·by_cases hb:b∈X.fs
  ·obtain⟨sl,q⟩:=slot b o e (I.ok.frf b hb) hb
   exact⟨_,q⟩
  ·obtain⟨o',q⟩:=thB b o e hb
   exact⟨o',fl2.1 b o' q⟩
 ·obtain⟨m1,q1⟩:=I.base.tbls b ps e
  obtain⟨m2,q2⟩:=F.un.tbls b _ q1
  exact⟨m1++m2,by rw[q2,Array.append_assoc]⟩
end
section
variable{P:Program}{w:World}{K:W.Frag}{mg:Str->Option Value}{base:Heap}{N:List Str}{qual:Str}{scope:Scope}{f:Addr}{cd:Value}{A:Around}{outer:List Env}{s:Shared}{H:Hp}{E:XK}
theorem passR:QfE (CXR P w) (cxOf (CXR P w) P w K mg base N qual scope f cd A outer s H E) E:=fun pins σ H1 s1 e s' I h=>QNs I rfl rfl rfl h
end
end L2
namespace L2
open PySem PySem.Spec PyProof.Rows
section
variable{X:Cx}{C:Addr}{E:XK}{x:Str}{e₀:Expr}{rest:List Expr}{ta:TA}{np cpos pos:Pos}
end
end L2
namespace L2
open PySem PySem.Spec PyProof.Rows
def exO(ea C:Addr):HO:=.ext fun h=>∃ o vs,h.get? ea=some o/\o.cls=.ref C/\o.data=.fields vs
section
variable{X:Cx}{pins:List (Addr×Obj)}{σ:St}{H H':Hp}{s s':Shared}{ea C t:Addr}{B:Heap}
end
section
variable{X:Cx}{pins:List (Addr×Obj)}{σ:St}{H H':Hp}{s s':Shared}{ea C DD t:Addr}{B:Heap}{x n:Str}{np hpos:Pos}{b₀:Stmt}{suite:List Stmt}{rest:List ExceptHandler}{D:Ends}{Ex:Value->Shared->Prop}{i:Nat}{ts:TS}
end
end L2
namespace L2
open PySem PySem.Spec PyProof.Rows
abbrev TXS:=Ends->St->Hp->(St->XK)->Prop
section
variable{X:Cx}{k:Nat}{f:Addr}{fd:FuncData}{ps:List Str}{sp:Sp}{dvs:List V}{ds:List Value}{x:Str}{p pos:Pos}{e:Expr}{es:List Expr}{ta:TA}
theorem PA.nox{es:List Expr}{t:TA}(h:PA X.nox es t){pos:Pos}{pins:‹"r"›}{s:Shared}{σ:St}{H:Hp}{Q:List V->Hp->Prop}{E:‹"m"›}(I:‹"h"›)(q:t σ H Q):
 wpAny ‹"k"› X.A (spliced (backTo pos ‹"cz"›)) (AP X pins σ Q) E s:=
 wpAny_mono (h pos pins s σ H Q (I.wish _) q) (fun _ _ ⟨v,H',I',r,q⟩=>⟨v,H',I'.unwish,r,q⟩) fun _ _ z=>False.elim z
variable{t u:TXS}{te:TX}{st:Stmt}{rest:List Stmt}{i:Nat}{px:Pos}
end
end L2
namespace L2
open PySem PySem.Spec PyProof.Rows
def ExAt(x D:Addr)(h:Heap):Prop:=∃ o vs,h.get? x=some o/\o.cls=.ref D/\o.data=.fields vs
section
open PySem.W PySem.Calls Builtin Builtin.ObjectAttr Builtin.Getset_descriptor
variable{K:W.Frag}{x D:Addr}
theorem Qpd{M:Model}{h:Heap}(I:ExAt x D h):Looks M h (typeOf (.ref x)) (.ref D):=by
 obtain⟨o,vs,h1,h2,_⟩:=I
 exact h2 ▸ (Looks.ld h1).andThen .now
theorem QxH{M:Model}{h:Heap}(X:K.In h){name:Str}{a g:Value}(ha:findIn K (.ref D) name=some (some a))(hg:specialIn K a "__get__"=some (some g))(ht:takesIn K a=some true):
 Looks M h (find (.ref x) (.ref D) name) (.bind g a):=by
 have L1:=looks_findIn (M:=M) X ha
 have L2:Looks M h (getOf (some a)) (some g):=looks_specialIn X hg
 have L3:=looks_takesIn (M:=M) X ht
 exact L1.andThen (L2.andThen ((show Looks M h (dataDescriptor? (some a) (some g)) (some (g,a)) from L3.andThen .now).andThen (Looks.tag .now)))
variable{prog:Program}{w:World}{A:Around}{E:Value->Shared->Prop}{s:Shared}{name:Str}
theorem QMP{M:Model}{nameV:Value}{Q:Unit->Shared->Prop}(X:K.In s.heap)(I:ExAt x D s.heap)(hb:mroIn K D (.type "BaseException")=some true)(hq:Q () s):wpAny M A (checkBuiltinCall "BaseException.__getattribute__" ⟨[.ref x,nameV],[]⟩) Q E s:=by
 obtain⟨hh,g,dr,t,os⟩:=s
 have hk:builtinKind "BaseException.__getattribute__"=some .slot:=dk
 have hsplit:splitId "BaseException.__getattribute__"=some ("BaseException","__getattribute__"):=dk
 have L0:=Qpd (M:=M) I
 have L1:=looks_mroIn (M:=M) X hb
 have ha:=F.args_bexc_ga (.ref x) nameV
 simp only[checkBuiltinCall,hk,hsplit]
 refine wpAny_bind ?_
 unfold isInstance
 repeat (first | lk | wp_step)
 exact hq
theorem QQl{R:Result->Shared->Prop}{tp:Value}(X:K.In s.heap)(I:ExAt x D s.heap)(hm:mroIn K D (.type "object")=some true)
 (h:R (.ok (.ret (.ref D))) s):codeAny ‹"bL"› A (.call ‹"ap"› ⟨[.builtin "object.__class__",.ref x,tp],[]⟩) R s:=by
 obtain⟨hh,g,dr,t,os⟩:=s
 have L0:=Qpd (M:=model prog w) I
 have L1:=looks_mroIn (M:=model prog w) X hm
 refine codeAny_call_builtin KF.slot_gs.plain KF.entry_gs (KF.slot_gs.check _ _ _ _ _ _ _ _ KF.type_class (KF.args_gs _ _ _) ?_)
 unfold Builtin.«getset_descriptor.__get__» descrGet
 rw[dga_obj]
 refine wpAny_bind (wpAny_pure ?_)
 unfold descrGetter descrCheckInstance descrNameAndClass isInstance
 simp only[KF.owner_class]
 repeat lk
 refine⟨Code.quiet_builtin _ (dk),codeAny_builtin KF.entry_class ?_⟩
 unfold Builtin.«object.__class__» shownTypeOf
 repeat lk
 exact h
theorem QNC{g a:Value}{tk:Tok}{Q:Fin->Shared->Prop}(X:K.In s.heap)(I:ExAt x D s.heap)(ha:findIn K (.ref D) "__class__"=some (some ‹"p"›))
 (hn:specialIn K ‹"p"› "__get__"=some (some ‹"ap"›)) (ht:takesIn K ‹"p"›=some true) (hm:mroIn K D (.type "object")=some true)
 (hq:Q (.done (.ret (.ref D))) s):wpAny ‹"bL"› A (Builtin.«object.__getattribute__» ⟨[.ref x,.str "__class__" tk],[]⟩) Q E s:=by
 have L3:=QxH (x:=x) (M:=model prog w) X ha hn ht
 have L0:=Qpd (M:=model prog w) I
 obtain⟨hh,gg,d,t,os⟩:=s
 refine wpAny_bind (wpAny_pure ?_)
 refine wpAny_bind (wpAny_pure (wpAny_bind (L0.at (wpAny_bind (L3.at ?_)))))
 show wpAny _ _ (holding [_] (call ‹"ap"› [.builtin "object.__class__",.ref x,.ref D])>>=ret) _ _ _
 exact wpAny_bind (wpAny_holding (wpAny_call (QQl (s:=⟨hh,gg,d,t,os⟩) X I hm (wpAny_pure hq))))
theorem QOd{Q:Option Value->Shared->Prop}(X:K.In s.heap)(I:ExAt x D s.heap)(g1:findIn K (.ref D) "__getattribute__"=some (some ‹"dK"›))(hb:mroIn K D (.type "BaseException")=some true)
 (g2:findIn K (.ref D) "__getattr__"=some none) (ha:findIn K (.ref D) "__class__"=some (some ‹"p"›))
 (hn:specialIn K ‹"p"› "__get__"=some (some ‹"ap"›)) (ht:takesIn K ‹"p"›=some true) (hm:mroIn K D (.type "object")=some true)
 (h:Q (some (.ref D)) { s with toks:=s.toks+1 }):wpAny ‹"bL"› A (getAttr? (.ref x) "__class__") Q E s:=by
 obtain⟨hh,g,d,t,os⟩:=s
 have L0:=Qpd (M:=model prog w) I
 have L1:=looks_findIn (M:=model prog w) X g1
 have L2:=looks_findIn (M:=model prog w) X g2
 have f3:=PySem.F.attr_ValueError.ga.bind (.ref x)
 have hx2:(Value.builtin "BaseException.__getattribute__" == Value.builtin "object.__getattribute__")=false:=dk
 have hx1:‹"bv"›=false:=by rw[hx2];rfl
 unfold getAttr? getAttrBy? getAttrBy
 refine wpAny_bind (wpAny_mkText (wpAny_bind (wpAny_attempt (wpAny_holding (wpAny_bind (L0.at (wpAny_bind (L1.at ?_))))))))
 show wpAny _ _ (if ‹"bv"›=true then _ else getAttrByItsOwn _ _ _ _ _ _) _ _ _
 rw[hx1,if_neg (by decide)]
 unfold getAttrByItsOwn
 refine wpAny_bind ?_
 show wpAny _ _ (typeLookup (.ref D) "__getattr__") _ _ _
 refine L2.at ?_
 refine wpAny_bind (wpAny_attempt ?_)
 refine wpAny_holding ?_
 show wpAny _ _ (boundAndCalled ‹"dK"› (.ref x) _) _ _ _
 unfold boundAndCalled
 refine wpAny_bind (wpAny_of_eq f3 ?_)
 refine wpAny_call (codeAny_call_builtin PySem.F.attr_ValueError.ga.plain F.entry_bexc_ga (QMP (s:=⟨hh,g,d,t+1,os⟩) X I hb (QNC (g:=.none) (a:=.none) (s:=⟨hh,g,d,t+1,os⟩) X I ha hn ht hm ?_)))
 show wpAny _ _ (handedOut (.ref D)) _ _ _
 exact handed_on rfl (wpAny_pure h)
structure ExCls(K:W.Frag)(D:Addr):Prop where
 cl:(clsIn K D).isSome=true
 g1:findIn K (.ref D) "__getattribute__"=some (some ‹"dK"›)
 hb:mroIn K D (.type "BaseException")=some true
 g2:findIn K (.ref D) "__getattr__"=some none
 ha:findIn K (.ref D) "__class__"=some (some ‹"p"›)
 hn:specialIn K ‹"p"› "__get__"=some (some ‹"ap"›)
 htk:takesIn K ‹"p"›=some true
 hm:mroIn K D (.type "object")=some true
theorem QMO(e:ExCls K D):KitX K (.ref x) (.ref D) (ExAt x D) where
 ty:=fun _ _ _ I=>Qpd I
 it:=fun _ _ X _=>by
  obtain⟨cdD,hcD⟩:=Option.isSome_iff_exists.mp e.cl
  unfold clsIn at hcD
  split at hcD
  ·rename_i c' d' cd' sl' ho
   intro A' Q' E' s' k q
   unfold isType loadHead
   exact wpAny_bind (wpAny_loadPart (k _ _ (X _ _ ho)) (wpAny_pure q))
  ·cases hcD
 ne:=fun h tp dd its n sl X htp=>by
  obtain⟨cdD,hcD⟩:=Option.isSome_iff_exists.mp e.cl
  refine Bool.eq_false_iff.mpr fun q=>?_
  have e:D=tp:=Value.ref.inj (beq_iff_eq.mp q)
  subst e
  unfold clsIn at hcD
  split at hcD
  ·rename_i c' d' cd' sl' ho
   have z:=(X _ _ ho).symm.trans htp
   cases z
  ·cases hcD
 ca:=fun X I k=>QOd X I e.g1 e.hb e.g2 e.ha e.hn e.htk e.hm k
end
end L2
set_option maxHeartbeats 1000000
namespace L2
open PySem PySem.Spec PyProof.Rows
section
variable{prog:Program}{w:World}{A:Around}{R:Result->Shared->Prop}{s:Shared}
theorem QET{elt target iter:Expr}{ifs:List Expr}{scope:Scope}{pos:Pos}{it acc:Value}{env:Env}(I:Nat->Shared->Prop)(NB:‹"m"›)(hNB:∀ e s',NB e s'->notedBy ‹"bL"› A env (fun e s'=>R (.error e) s') e s')
 (turn:∀ n s,I n s->wpAny ‹"bL"› A (pyNext it) (fun r s₁=>match r with
  | none=>R (.ok .next) s₁
  | some v=>wpAny ‹"bL"› A (letOwnedTupleGo target it v) (fun _ s₁'=>wpAny ‹"bL"› A (assign target env v) (fun _ s₂ =>
   wpAny ‹"bL"› A (forIn ifs true fun c r=>if r=true then do let ok ← isTrue c env (eval c env);pure (ForInStep.yield ok) else pure (ForInStep.yield r)) (fun ok s₃ =>
    if ok=true then wpAny ‹"bL"› A (eval elt env) (fun x s₄ =>
     wpAny ‹"bL"› A (call (.builtin "list.append") [acc,x]) (fun _ s₅ => ∃ m,m<n/\I m s₅) NB s₄) NB s₃
    else ∃ m,m<n/\I m s₃) NB s₂) NB s₁') NB s₁) NB s)
 (n:Nat) (h:I n s):
 codeAny ‹"bL"› A (.compLoop (.ListComp elt [⟨target,iter,ifs,0⟩] scope pos) 0 it acc env) R s:=by
 refine codeAny_loop rfl I (fun n s hI=>?_) n h
 show wpAny _ A ((compTurn (.ListComp elt [⟨target,iter,ifs,0⟩] scope pos) 0 it acc env).onRaise (fun x=>do noteFrame x env;theTreesLotGoes x)) _ _ s
 refine wpAny_noted ?_
 rw[compTurn_list]
 refine wpAny_bind (wpAny_standAt (wpAny_bind (wpAny_mono (turn n s hI) (fun r s₁ h₁=>?_) hNB)))
 cases r with
 | none=>exact wpAny_pure h₁
 | some v=>
  refine wpAny_bind (wpAny_mono h₁ (fun _ s₁' h₁'=>?_) hNB)
  refine wpAny_bind (wpAny_mono h₁' (fun _ s₂ h₂ => wpAny_bind (wpAny_mono h₂ (fun ok s₃ h₃ => ?_) hNB)) hNB)
  cases ok with
  | false=>exact wpAny_pure ⟨rfl,h₃⟩
  | true=>
   exact wpAny_bind (wpAny_bind (wpAny_mono h₃ (fun x s₄ h₄ => wpAny_bind (wpAny_mono h₄ (fun _ s₅ h₅ => wpAny_pure (wpAny_pure ⟨rfl,h₅⟩)) hNB)) hNB))
end
def Qi(scope outer:Scope):Scope:=
 { scope with names:=scope.names.map fun(n,k)=>if (k == .free&&outer.kind == .function&&outer.names.lookup n == some .cell) then(n,.cell) else(n,k) }
theorem Qpo(c:Str->NameKind->Bool)(x:Str):∀ names:List (Str×NameKind),(names.map fun(n,k)=>if c n k=true then(n,NameKind.cell) else(n,k)).lookup x=(names.lookup x).map fun k=>if c x k=true then NameKind.cell else k
 | []=>rfl
 | (n,k)::r=>by
  have ih:=Qpo c x r
  show List.lookup x ((if c n k=true then(n,NameKind.cell) else(n,k))::_)=_
  by_cases hx:x=n
  ·subst hx
   by_cases hc:c x k=true
   ·rw[if_pos hc,List.lookup_cons_self,List.lookup_cons_self];simp[hc]
   ·rw[if_neg hc,List.lookup_cons_self,List.lookup_cons_self];simp[hc]
  ·have hb:(x == n)=false:=by simpa using hx
   by_cases hc:c n k=true
   ·rw[if_pos hc,List.lookup_cons,List.lookup_cons,hb];exact ih
   ·rw[if_neg hc,List.lookup_cons,List.lookup_cons,hb];exact ih
theorem QmT(scope outer:Scope)(x:Str):(Qi scope outer).names.lookup x=(scope.names.lookup x).map fun k=>if (k == .free&&outer.kind == .function&&outer.names.lookup x == some .cell)=true then NameKind.cell else k:=
 Qpo (fun n k=>k == .free&&outer.kind == .function&&outer.names.lookup n == some .cell) x scope.names
theorem Qz8{scope outer:Scope}{x:Str}(h:scope.names.lookup x=some .free):(Qi scope outer).names.lookup x=some .cell∨(Qi scope outer).names.lookup x=some .free:=by
 rw[QmT,h]
 show some (if _ then _ else _)=_∨some (if _ then _ else _)=_
 split
 ·exact .inl rfl
 ·exact .inr rfl
theorem QAn{scope outer:Scope}{x:Str}(h:(Qi scope outer).names.lookup x=some .cell∨(Qi scope outer).names.lookup x=some .free):scope.names.lookup x=some .cell∨scope.names.lookup x=some .free:=by
 rw[QmT]at h
 cases e:scope.names.lookup x with
 | none=>rw[e]at h;rcases h with h | h<;>cases h
 | some k=>
  rw[e]at h
  cases k with
  | free=>exact .inr rfl
  | cell=>exact .inl rfl
  | _=>rcases h with h | h<;>cases h
def QbD(env:Env):List (Str×NameKind)->List (Str×Addr)->List (Str×Addr)
 | [],acc=>acc
 | (n,k)::r,acc=>if (k == .free)=true then QbD env r ((n,(env.cells.lookup n).getD 0)::acc) else QbD env r acc
theorem QxC{scope:Scope}{env:Env}(h:∀ y∈scope.names,y.2=.free->(env.cells.lookup y.1).isSome=true):closureFor scope env=pure (QbD env scope.names []):=by
 have go:∀(names:‹"eg"›)(acc:List (Str×Addr)),(∀ y∈names,y.2=.free->(env.cells.lookup y.1).isSome=true)->
  (forIn names acc fun x r=>if (x.2 == NameKind.free)=true then(cellOf env x.1>>=fun a=>pure (ForInStep.yield ((x.1,a)::r))) else pure (ForInStep.yield r):Sem (List (Str×Addr)))=pure (QbD env names acc):=by
  intro names
  induction names with
  | nil=>intro acc _;rfl
  | cons y r ih=>
   intro acc hy
   obtain⟨n,k⟩:=y
   rw[List.forIn_cons]
   unfold QbD
   by_cases hk:(k == NameKind.free)=true
   ·obtain⟨c,hc⟩:=Option.isSome_iff_exists.mp (hy (n,k) List.mem_cons_self (beq_iff_eq.mp hk))
    have e:cellOf env n=pure c:=by unfold cellOf;rw[show env.cells.lookup n=some c from hc]
    simp only[hk,if_true,e]
    rw[show(env.cells.lookup n).getD 0=c from by rw[show env.cells.lookup n=some c from hc];rfl]
    exact ih _ fun y hm=>hy y (List.mem_cons_of_mem _ hm)
   ·simp only[hk]
    exact ih _ fun y hm=>hy y (List.mem_cons_of_mem _ hm)
 have e:=go scope.names [] h
 unfold closureFor
 exact congrArg (fun m=>m>>=fun s=>(pure s:Sem (List (Str×Addr)))) e
theorem QkY{env:Env}{p:Str×Addr}:∀{names:‹"eg"›}{acc:List (Str×Addr)},p∈QbD env names acc->p∈acc∨p.2=(env.cells.lookup p.1).getD 0/\∃ y∈names,y.1=p.1/\y.2=.free
 | [],_,h=>.inl h
 | (n,k)::r,acc,h=>by
  unfold QbD at h
  split at h
  ·rename_i hk
   rcases QkY h with h | ⟨h,y,hy,e⟩
   ·rcases List.mem_cons.mp h with h | h
    ·subst h;exact .inr ⟨rfl,(n,k),List.mem_cons_self,rfl,beq_iff_eq.mp hk⟩
    ·exact .inl h
   ·exact .inr ⟨h,y,List.mem_cons_of_mem _ hy,e⟩
  ·rcases QkY h with h | ⟨h,y,hy,e⟩
   ·exact .inl h
   ·exact .inr ⟨h,y,List.mem_cons_of_mem _ hy,e⟩
theorem QkS{env:Env}{x:Str}:∀{names:‹"eg"›}{acc:List (Str×Addr)},(acc.lookup x).isSome=true∨(∃ y∈names,y.1=x/\y.2=.free)->((QbD env names acc).lookup x).isSome=true
 | [],_,h=>h.elim id fun⟨_,hy,_⟩=>nomatch hy
 | (n,k)::r,acc,h=>by
  unfold QbD
  split
  ·rename_i hk
   refine QkS ?_
   rcases h with h | ⟨y,hy,e1,e2⟩
   ·refine .inl ?_
    rw[List.lookup_cons]
    split
    ·rfl
    ·exact h
   ·rcases List.mem_cons.mp hy with rfl | hy
    ·refine .inl ?_
     have e1:n=x:=e1
     subst e1
     rw[List.lookup_cons_self];rfl
    ·exact .inr ⟨y,hy,e1,e2⟩
  ·rename_i hk
   refine QkS ?_
   rcases h with h | ⟨y,hy,e1,e2⟩
   ·exact .inl h
   ·rcases List.mem_cons.mp hy with rfl | hy
    ·have e2:k=.free:=e2
     subst e2
     exact absurd rfl hk
    ·exact .inr ⟨y,hy,e1,e2⟩
theorem QcO{α:Type}{l:List (Str×α)}{x:Str}{c:α}(h:l.lookup x=some c):(x,c)∈l:=PySem.mem_of_lookup h
theorem Qxa{p:Str×Addr}:∀{names:‹"eg"›}{n:Nat}{acc:List (Str×Addr)},p∈cellsFrom n names acc->p∈acc∨n<=p.2
 | [],_,_,h=>.inl h
 | (y,k)::r,n,acc,h=>by
  unfold cellsFrom at h
  split at h
  ·rcases Qxa h with h | h
   ·rcases List.mem_cons.mp h with h | h
    ·subst h;exact .inr ‹"ar"›
    ·exact .inl h
   ·exact .inr (Nat.le_of_succ_le h)
  ·exact Qxa h
theorem QDi:∀{names:‹"eg"›}{n:Nat}{acc:List (Str×Addr)},(∀ p∈acc,p.2<n)->(∀ p∈acc,∀ q∈acc,p.2=q.2->p.1=q.1)->∀ p∈cellsFrom n names acc,∀ q∈cellsFrom n names acc,p.2=q.2->p.1=q.1
 | [],_,_,_,h=>h
 | (y,k)::r,n,acc,hl,hi=>by
  unfold cellsFrom
  split
  ·refine QDi (fun p hp=>?_) fun p hp q hq e=>?_
   ·rcases List.mem_cons.mp hp with rfl | hp
    ·exact Nat.lt_succ_self _
    ·exact Nat.lt_succ_of_lt (hl p hp)
   ·rcases List.mem_cons.mp hp with rfl | hp<;>rcases List.mem_cons.mp hq with rfl | hq
    ·rfl
    ·exact absurd e (Nat.ne_of_gt (hl q hq))
    ·exact absurd e (Nat.ne_of_lt (hl p hp))
    ·exact hi p hp q hq e
  ·exact QDi hl hi
theorem QxN:∀{names:‹"eg"›}{h:Heap}{acc:List (Str×Addr)},(∀ p∈acc,∃ v,h.IsCell p.2 v)->∀ p∈cellsFrom h.objs.size names acc,∃ v,(pushCells h names).IsCell p.2 v
 | [],_,_,h=>h
 | (y,k)::r,h,acc,hc=>by
  unfold cellsFrom pushCells
  split
  ·have:=QxN (names:=r) (h:=h.push { cls:=.type "cell",data:=.cell none }) (acc:=(y,h.objs.size)::acc) fun p hp=>by
    rcases List.mem_cons.mp hp with rfl | hp
    ·exact⟨none,_,Heap.get?_push_size _ rfl,rfl⟩
    ·obtain⟨v,q⟩:=hc p hp
     exact⟨v,q.keeps fun b o e=>Heap.get?_push_of_some _ e⟩
   rwa [Heap.size_push]at this
  ·exact QxN hc
theorem Qyc{x:Str}:∀{names:‹"eg"›}{n:Nat}{acc:List (Str×Addr)},(∀ y∈names,y.1=x->y.2=.free)->(cellsFrom n names acc).lookup x=acc.lookup x
 | [],_,_,_=>rfl
 | (y,k)::r,n,acc,h=>by
  unfold cellsFrom
  split
  ·rename_i hk
   rw[Qyc fun z hz=>h z (List.mem_cons_of_mem _ hz),List.lookup_cons]
   split
   ·rename_i hb
    have hx:x=y:=beq_iff_eq.mp hb
    have:=h (y,k) List.mem_cons_self hx.symm
    have this:k=.free:=this
    subst this
    exact absurd hk (by decide)
   ·rfl
  ·exact Qyc fun z hz=>h z (List.mem_cons_of_mem _ hz)
def QEz(scope:Scope)(cl:List (Str×Addr))(L:Addr)(env:Env):Env:=
 { scope:=Qi scope env.scope,locals:=L,globals:=env.globals,cells:=cellsFrom (L+1) scope.names cl,qual:=env.qual,func:=none,code:=env.code,frame:=env.frame,builtins:=env.builtins }
theorem QOF{M:Model}{A:Around}{E:‹"m"›}{s:Shared}{scope:Scope}{cl:List (Str×Addr)}{env:Env}{Q:Env->Shared->Prop}
 (h:∀ c,{ c with scope:=relabel scope env }=QEz scope cl s.heap.objs.size env->c.locals=s.heap.objs.size->Q c { s with heap:=pushCells ‹"cy"› scope.names }):
 wpAny M A (newFunctionEnv scope env.globals cl [] env.qual none .none (some env)) Q E s:=by
 simp only[newFunctionEnv,Option.isSome_some,if_true]
 refine wpAny_bind (wpAny_alloc ?_)
 refine wpAny_bind (wpAny_layCells _ (fun name kind cells=>by cases hkc:kind == NameKind.cell<;>simp[hkc]) _ _ _ _ ?_)
 rw[show({ s with heap:=s.heap.push { cls:=.type "dict",data:=.dict #[] } }:Shared).heap.objs.size=s.heap.objs.size+1 from Heap.size_push ..]
 refine wpAny_bind (wpAny_pure (wpAny_pure (h _ ?_ rfl)))
 rfl
def capt(js:‹"O"›)(σ:St):St:=js.map fun j=>j.bind fun j=>(σ[j]?).join
structure QI(N':List Str)(js:List (Option Nat))(scope outer:Scope)(N:List Str):Prop where
 kind:scope.kind=.function
 uniq:∀ y∈scope.names,scope.names.lookup y.1=some y.2
 nd:N'.Nodup
 len:js.length=N'.length
 free:∀ y∈scope.names,y.2=.free->outer.names.lookup y.1=some .cell∨outer.names.lookup y.1=some .free
 cap:((N'.zip js).all fun p=>match p.2 with
  | none=>true
  | some j=>decide (N[j]?=some p.1)&&decide (scope.names.lookup p.1=some .free))=true
theorem QI.capOf{N':List Str}{js:‹"O"›}{scope outer:Scope}{N:List Str}(S:QI N' js scope outer N){i j:Nat}{x:Str}(h1:N'[i]?=some x)(h2:js[i]?=some (some j)):
 N[j]?=some x/\scope.names.lookup x=some .free/\∀ y∈scope.names,y.1=x->y.2=.free:=by
 have h:=List.all_eq_true.mp S.cap (x,some j) (by
  refine List.mem_of_getElem? (i:=i) ?_
  rw[List.getElem?_zip_eq_some]
  exact⟨h1,h2⟩)
 simp only[Bool.and_eq_true,decide_eq_true_eq]at h
 exact⟨h.1,h.2,fun y hy e=>by
  have:=S.uniq y hy
  rw[e,h.2]at this
  exact(Option.some.inj this).symm⟩
theorem QI.names{N':List Str}{js:‹"O"›}{scope outer:Scope}{N:List Str}(S:QI N' js scope outer N):∀ y∈scope.names,y.2=.local->scope.names.lookup y.1=some .local:=fun y hy e=>by
 rw[S.uniq y hy,e]
def cxC(X:Cx)(N':List Str)(scope:Scope)(fp:List Addr)(s:Shared)(H:Hp):Cx:=
 { X with N:=N',s₀:=s,H₀:=H,env:=QEz scope ‹"bN"› s.heap.objs.size X.env,outer:=X.stack,ex:=fp,
          fn:=fun x=>match scope.names.lookup x with | some .cell=>true | _=>false,pn:=[],xe:=fun _ _=>False }
theorem QMX{X:Cx}{N':List Str}{js:‹"O"›}{scope:Scope}{pins:‹"r"›}{σ:St}{H:Hp}{s:Shared}{fp:List Addr}(S:‹"ef"›)(I:‹"h"›)(hf:∀ b∈fp,FpOk X pins H b)
 (hlt:∀ b∈fp,b<s.heap.objs.size):
 Inv (cxC X N' scope fp s H) [] (capt js σ) H { s with heap:=pushCells ‹"cy"› scope.names }:=by
 have hk:∀ b o,s.heap.get? b=some o->(pushCells ‹"cy"› scope.names).get? b=some o:=fun b o e=>pushCells_keeps _ _ b o (Heap.get?_push_of_some _ e)
 have sz:(s.heap.push { cls:=.type "dict",data:=.dict #[] }).objs.size=s.heap.objs.size+1:=Heap.size_push ..
 -- captured cells stand in the outer frame
 have out:∀ x,(∃ y∈scope.names,y.1=x/\y.2=.free)->∃ c,X.env.cells.lookup x=some c:=fun x ⟨y,hy,e1,e2⟩=>by
  subst e1
  exact I.ok.has y.1 (S.free y hy e2)
 have clm:∀ p∈QbD X.env scope.names [],X.env.cells.lookup p.1=some p.2:=fun p hp=>by
  rcases QkY hp with h | ⟨h,hy⟩
  ·cases h
  ·obtain⟨c,hc⟩:=out p.1 hy
   rw[hc]at h ⊢
   rw[h];rfl
 have cllt:∀ p∈QbD X.env scope.names [],p.2<s.heap.objs.size:=fun p hp=>by
  obtain⟨v,q⟩:=I.cell p.1 p.2 (clm p hp)
  exact q.lt
 have cin:∀ x c,(cellsFrom (s.heap.objs.size+1) scope.names ‹"bN"›).lookup x=some c->X.env.cells.lookup x=some c∨s.heap.objs.size+1<=c:=fun x c e=>by
  rcases Qxa (QcO e) with h | h
  ·exact .inl (clm _ h)
  ·exact .inr h
 have capL:∀ x,scope.names.lookup x=some .free->(∀ y∈scope.names,y.1=x->y.2=.free)->(cellsFrom (s.heap.objs.size+1) scope.names ‹"bN"›).lookup x=X.env.cells.lookup x:=fun x hx hy=>by
  rw[Qyc hy]
  have hs:=QkS (env:=X.env) (x:=x) (names:=scope.names) (acc:=[]) (.inr ⟨_,QcO hx,rfl,rfl⟩)
  obtain⟨c,hc⟩:=Option.isSome_iff_exists.mp hs
  rw[hc,clm _ (QcO hc)]
 refine⟨⟨I.ok.mod,S.kind,I.ok.glob,I.ok.blt,Nat.le_refl _,fun x y c h1 h2=>?_,fun x hx=>?_,fun x c hx h=>?_,I.ok.hd,I.ok.frames,.inl rfl,fun b hb=>?_,I.bs,Nat.le_trans I.ok.bsz I.sz,fun b o e hb=>?_,fun b hb hz=>?_,I.stack,I.stkFree⟩,
  rfl,I.bare,Un.kept hk,?_,fun x c h=>?_,I.hok.fresh ‹"ar"›,fun x c h=>?_,fun p hp=>absurd (show p∈([]:List (Addr×Obj)) from hp) (by simp),I.hok.kept hk,?_⟩
 ·refine QDi (names:=scope.names) (n:=s.heap.objs.size+1) (acc:=QbD X.env scope.names []) (fun p hp=>Nat.lt_succ_of_lt (cllt p hp)) (fun p hp q hq e=>?_) (x,c) (QcO h1) (y,c) (QcO h2) rfl
  have a:=clm p hp
  have b:=clm q hq
  rw[← e]at b
  exact I.ok.inj _ _ _ a b
 ·have hx':=QAn (show(Qi scope X.env.scope).names.lookup x=some .cell∨_ from hx)
  refine Option.isSome_iff_exists.mp (W.cellsFrom_some scope.names _ _ ?_)
  rcases hx' with h | h
  ·exact .inl h
  ·exact .inr (QkS (.inr ⟨_,QcO h,rfl,rfl⟩))
 ·rcases Qxa (QcO h) with hm | hm
  ·-- an own cell's name is captured too: its first entry is the own one
   have hx':scope.names.lookup x=some .cell:=by
    have hx2:(match scope.names.lookup x with | some .cell=>true | _=>false)=true:=hx
    split at hx2
    ·assumption
    ·cases hx2
   rcases QkY hm with q | ⟨_,y,hy,e1,e2⟩
   ·cases q
   ·have:=S.uniq y hy
    have e1:y.1=x:=e1
    rw[e1,hx',e2]at this
    cases this
  ·exact Nat.le_of_succ_le hm
 ·refine⟨Nat.ne_of_lt (hlt b hb),fun x c h e=>?_⟩
  rcases cin x c h with q | q
  ·exact(hf b hb).2.2.2.2.1 x c q e
  ·have:=hlt b hb
   rw[← e]at this
   exact absurd (Nat.lt_of_lt_of_le this (Nat.le_of_succ_le q)) (Nat.lt_irrefl _)
 ·rcases(hf b hb).2.2.2.1 with z | z
  ·exact I.ok.noex b o e z
  ·exact absurd (Nat.lt_of_lt_of_le (Heap.lt_size (I.ok.bs b o e).1) z) (Nat.lt_irrefl _)
 ·rcases List.mem_cons.mp (I.stkSub b hz) with e | e
  ·exact(hf b hb).2.1 e
  ·exact(hf b hb).2.2.1 e
 ·obtain⟨m,hn,hl⟩:=I.loc
  refine⟨fun _=>none,(Heap.Ns.new s.heap (.type "dict")).keeps (pushCells_keeps _ _),fun i x v h1 h2 h3=>?_⟩
  have h2':((js[i]?).map fun j=>j.bind fun j=>(σ[j]?).join)=some (some v):=by
   unfold capt at h2
   rw[List.getElem?_map]at h2
   exact h2
  cases e:js[i]? with
  | none=>rw[e]at h2';cases h2'
  | some o=>
   rw[e]at h2'
   cases o with
   | none=>cases h2'
   | some j=>
    have h4:(σ[j]?).join=some v:=Option.some.inj h2'
    have h5:σ[j]?=some (some v):=by
     cases z:σ[j]? with
     | none=>rw[z]at h4;cases h4
     | some o=>rw[z]at h4;have h4:o=some v:=h4;rw[h4]
    obtain⟨hN,hx,hy⟩:=S.capOf h1 e
    have hvis:=S.free _ (QcO hx) rfl
    obtain⟨u,r,lk⟩:=hl j x v hN h5 (.inr hvis)
    refine⟨u,r,.inr ⟨Qz8 hx,?_⟩⟩
    rcases lk with⟨k,_⟩ | ⟨_,c,hc,z⟩
    ·have k:X.env.scope.names.lookup x=some .local:=k
     rcases hvis with q | q
     ·rw[k]at q;cases q
     ·rw[k]at q;cases q
    ·exact⟨c,(capL x hx hy).trans hc,z.keeps hk⟩
 ·have:=QxN (names:=scope.names) (h:=s.heap.push { cls:=.type "dict",data:=.dict #[] }) (acc:=QbD X.env scope.names []) (fun p hp=>by
   obtain⟨v,q⟩:=I.cell p.1 p.2 (clm p hp)
   exact⟨v,q.keeps fun b o e=>Heap.get?_push_of_some _ e⟩) (x,c) (by rw[sz];exact QcO h)
  exact this
 ·rcases cin x c h with q | q
  ·exact I.freeC x c q
  ·exact I.hok.fresh (Nat.le_of_succ_le q)
 ·show(js.map _).length=N'.length
  rw[List.length_map];exact S.len
def eMax(X:Cx)(e:Expr):TE:=fun σ H Q=>∃ t,PE X e t/\t σ H Q
theorem QQM{X:Cx}{e:Expr}:PE X e (eMax X e):=fun pins s σ H Q I ⟨t,ht,h⟩=>ht pins s σ H Q I h
def gMax(X:Cx)(e:Expr):TG:=fun v σ H Q=>∃ t,PG X e t/\t v σ H Q
theorem QQk{X:Cx}{e:Expr}:PG X e (gMax X e):=fun pins s σ H v u Q I r ⟨t,ht,h⟩=>ht pins s σ H v u Q I r h
def PIf(X:Cx)(ifs:List Expr)(tc:TT):Prop:=(ifs=[]/\tc=fun _ H Q=>Q true H)∨∃ c,ifs=[c]/\PT X c tc
theorem QOW{X:Cx}:PIf X [] (fun _ H Q=>Q true H):=.inl ⟨rfl,rfl⟩
theorem QO1{X:Cx}{c:Expr}{tc:TT}(h:PT X c tc):PIf X [c] tc:=.inr ⟨c,rfl,h⟩
theorem PIf.run{X:Cx}{ifs:List Expr}{tc:TT}(h:PIf X ifs tc){pins:‹"r"›}{s:Shared}{σ:St}{H:Hp}{Q:Bool->Hp->Prop}(I:‹"h"›)(q:tc σ H Q):
 wpAny ‹"k"› X.A (forIn ifs true fun c r=>if r=true then do let ok ← isTrue c X.env (eval c X.env);pure (ForInStep.yield ok) else pure (ForInStep.yield r)) (TP X pins σ Q) X.xe s:=by
 rcases h with⟨rfl,rfl⟩ | ⟨c,rfl,h⟩
 ·exact wpAny_tests_nil ⟨H,I,q⟩
 ·exact wpAny_tests_one (h pins s σ H Q I q)
def cMax(X:Cx)(ifs:List Expr):TT:=fun σ H Q=>∃ t,PIf X ifs t/\t σ H Q
def CompW(X':Cx)(js:‹"O"›)(tg elt:Expr)(ifs:List Expr)(σ:St)(H1:Hp)(J:It)(p:Addr)(Q:VK):Prop:=
 ∃ W:Nat->Nat->St->Hp->Prop,(∃ m,W 0 m (capt js σ) (upd H1 p (.lst [])))/\∀ i m τ H',W i m τ H'->
 (J.stop i H'/\Q (.ref p) H')∨(J.go i H'/\∃ N:St->Hp->Prop,(∀ τ' H'',N τ' H''->∃ m',m'<m/\W (i+1) m' τ' H'')/\∀ x H'',J.yld i H' x H''->gMax X' tg x τ H'' fun τ2 H2=>cMax X' ifs τ2 H2 fun b H3=>
  if b=true then eMax X' elt τ2 H3 fun y H4=>∃ ys,H4 p=some (.lst ys)/\ys.length<sizeLine/\N τ2 (upd H4 p (.lst (ys++[y]))) else N τ2 H3)
def tComp(X:Cx)(N':List Str)(js:‹"O"›)(scope:Scope)(tg elt:Expr)(ifs:List Expr)(wi:TI):TE:=fun σ H Q=>wi σ H fun J H1=>∀ p,H1 p=none->∀ fp s,
 CompW (cxC X N' scope fp s (upd H1 p (.lst []))) js tg elt ifs σ H1 J p Q
section
variable{X:Cx}{N':List Str}{js:List (Option Nat)}{scope:Scope}{tg iter elt:Expr}{ifs:List Expr}{wi:TI}{pos:Pos}
theorem Qxe{pins:‹"r"›}{σ:St}{H:Hp}{s:Shared}{R:V->Hp->Prop}{E:‹"m"›}(hc:X.calm=true)(S:‹"ef"›)
 {it:Addr} {fp:List Addr} {tn:Nat->Heap->Prop} {J:It} (I2:‹"h"›) (T:Turn X.prog X.w X.K tg J fp it tn) (st:tn 0 s.heap) (hf:∀ b∈fp,FpOk X pins H b)
 (hW:∀ p,H p=none->∀ fp s,CompW (cxC X N' scope fp s (upd H p (.lst []))) js tg elt ifs σ H J p R)
 {RR:Value->Addr->Result->Shared->Prop}
 (hRR:∀(D C:Addr)(s':Shared)(H':Hp),Inv X pins σ H' s'->(∃ m,s'.heap.Ns C m)->H' C=none->C≠X.env.locals->X.s₀.heap.objs.size<=C->(∀ x c,X.env.cells.lookup x=some c->c≠C)->(∀ p∈X.pn++pins,p.1≠C)->R (.ref D) H'->RR (.ref D) C (.ok .next) s'):
 wpAny ‹"k"› X.A (newList []) (fun acc s₃ => wpAny ‹"k"› X.A (newFunctionEnv scope X.env.globals ‹"bN"› [] X.env.qual none .none (some X.env)) (fun cenv s₄ =>
  codeAny ‹"k"› X.A (.compStart ‹"s"› 0 (.ref it) acc { cenv with scope:=relabel scope X.env }) (RR acc cenv.locals) s₄) E s₃) E s:=by
 refine wpAny_newObj_type ?_
 have hfresh:H s.heap.objs.size=none:=I2.hok.fresh ‹"ar"›
 have I3:Inv X pins σ (upd H s.heap.objs.size (.lst [])) { s with heap:=s.heap.push { cls:=.type "list",data:=.seq ([]:List Value).toArray } }:=I2.lnew (t':=s.toks) .nil (Nat.zero_le _)
 generalize hs3:({ s with heap:=s.heap.push { cls:=.type "list",data:=.seq ([]:List Value).toArray } }:Shared)=s3 at I3 ⊢
 have hsz3:s3.heap.objs.size=s.heap.objs.size+1:=by rw[← hs3];exact Heap.size_push ..
 have hk3:∀ b o,s.heap.get? b=some o->s3.heap.get? b=some o:=fun b o e=>by rw[← hs3];exact Heap.get?_push_of_some _ e
 have flt:∀ b∈fp,b<s.heap.objs.size:=fun b hb=>by
  obtain⟨o,e,_⟩:=T.obj _ _ st b hb
  exact Heap.lt_size e
 have hf3:∀ b∈fp,FpOk X pins (upd H s.heap.objs.size (.lst [])) b:=fun b hb=>⟨by rw[Qk (Nat.ne_of_lt (flt b hb))];exact(hf b hb).1,(hf b hb).2⟩
 have st3:tn 0 s3.heap:=T.keep _ _ _ st fun b _ o e=>hk3 b o e
 refine QOF fun cenv ecenv el=>?_
 rw[ecenv,el]
 have I4:=QMX (fp:=fp) S I3 hf3 fun b hb=>by rw[hsz3];exact Nat.lt_succ_of_lt (flt b hb)
 obtain⟨W,⟨m0,w0⟩,turn⟩:=hW _ hfresh fp s3
 generalize hX':cxC X N' scope fp s3 (upd H s.heap.objs.size (.lst []))=X' at I4 turn
 generalize hs4:({ s3 with heap:=pushCells (s3.heap.push { cls:=.type "dict",data:=.dict #[] }) scope.names }:Shared)=s4 at I4 ⊢
 have eenv:QEz scope ‹"bN"› s3.heap.objs.size X.env=X'.env:=by rw[← hX'];rfl
 have eprog:X'.prog=X.prog:=by rw[← hX'];rfl
 have ew:X'.w=X.w:=by rw[← hX'];rfl
 have eK:X'.K=X.K:=by rw[← hX'];rfl
 have eA:X'.A=X.A:=by rw[← hX'];rfl
 have ecalm:X'.calm=true:=by rw[← hX'];exact hc
 have exe:∀ e s',X'.xe e s'->False:=fun e s' h=>by rw[← hX']at h;exact h
 have eex:X'.ex=fp:=by rw[← hX'];rfl
 have efs:X'.fs=frs X.stack:=by rw[← hX'];rfl
 have epn:X'.pn=[]:=by rw[← hX'];rfl
 have es0:X'.s₀=s3:=by rw[← hX'];rfl
 have eH0:X'.H₀=upd H s.heap.objs.size (.lst []):=by rw[← hX'];rfl
 have eloc:X'.env.locals=s3.heap.objs.size:=by rw[← eenv];rfl
 rw[eenv]
 have st4:tn 0 s4.heap:=T.keep _ _ _ st3 fun b _ o e=>by rw[← hs4];exact pushCells_keeps _ _ b o (Heap.get?_push_of_some _ e)
 -- the iterator's objects,seen from the block
 have fpok:∀{H':Hp},(∀ b∈fp,H' b=none)->∀ b∈fp,FpOk X' [] H' b:=fun {H'} hn b hb=>by
  obtain⟨h1,h2⟩:=I4.ok.exf b (by rw[eex];exact hb)
  exact⟨hn b hb,h1,fun z=>I4.ok.exfs b (by rw[eex];exact hb) z,.inl (by rw[eex];exact hb),h2,fun p hp=>by rw[epn]at hp;cases hp⟩
 have loop:∀ s5,s5=s4->codeAny ‹"k"› X.A (.compLoop ‹"s"› 0 (.ref it) ‹"dP"› X'.env) (RR ‹"dP"› s3.heap.objs.size) s5:=by
  rintro s5 rfl
  refine QET (fun n s'=>∃ i τ H',Inv X' [] τ H' s'/\tn i s'.heap/\(∀ b∈fp,H' b=none)/\W i n τ H') (fun _ _=>False) (fun _ _ h=>h.elim) ?_ m0 ⟨0,_,_,I4,st4,fun b hb=>(hf3 b hb).1,w0⟩
  rintro n s6 ⟨i,τ,H6,I6,st6,fr6,w6⟩
  have A1:∀{α:Type}{t:Sem α}{Q:α->Shared->Prop}{s:Shared},wpAny (model X'.prog X'.w) X'.A t Q X'.xe s->wpAny ‹"k"› X.A t Q (fun _ _=>False) s:=fun {α t Q s} h=>by
   rw[eprog,ew,eA]at h
   exact wpAny_mono h (fun _ _ q=>q) exe
  rcases turn i n τ H6 w6 with⟨stop,qn⟩ | ⟨go,N,hN,step⟩
  ·have h7:=T.done X' eprog ew eK ecalm i [] s6 τ H6 (fun _ _=>False) I6 (fpok fr6) st6 stop
   rw[eA]at h7
   refine thn h7 fun r s7 ⟨hr,I7⟩=>?_
   subst hr
   -- back to the frame around
   have un:=I7.base
   rw[es0,eH0,efs,eex]at un
   have Iout:Inv X pins σ H6 s7:=I3.call' (ch:=fp) (by rw[I7.os,es0]) un (by have:=I7.hok;rw[eprog,ew]at this;exact this) I7.bare fun b hb=>by
    obtain⟨f0,f1,f2,f3,f4,f5⟩:=hf3 b hb
    exact⟨f3,f1,f4,f5⟩
   refine hRR _ _ s7 H6 Iout ?_ ?_ ?_ ?_ ?_ ?_ qn
   ·obtain⟨m,hn,_⟩:=I7.loc
    rw[eloc]at hn
    exact⟨m,hn⟩
   ·have:=I7.free
    rw[eloc]at this
    exact this
   ·exact Nat.ne_of_gt I3.lt
   ·exact I3.sz
   ·intro x c e z
    obtain⟨v,q⟩:=I3.cell x c e
    exact absurd q.lt (by rw[z];exact Nat.lt_irrefl _)
   ·intro p hp z
    exact absurd (Heap.lt_size (I3.pin p hp).1) (by rw[z];exact Nat.lt_irrefl _)
  ·have h6:=T.item X' eprog ew eK ecalm i [] s6 τ H6 (fun _ _=>False) I6 (fpok fr6) st6 go
   rw[eA]at h6
   refine thn h6 fun r s7 ⟨u,hr,h7⟩=>?_
   subst hr
   refine thn h7 fun _ s8 ⟨x,H8,I8,r8,y8,st8,fr8⟩=>?_
   have I8':=I8.pinned (fpok fr8) (T.obj _ _ st8)
   refine thn (A1 (QQk _ s8 τ H8 x u _ I8' r8 (step x H8 y8))) fun _ s9 ⟨τ9,H9,I9,q9⟩=>?_
   obtain⟨tcc,hif,q9⟩:=q9
   refine thn (A1 (hif.run I9 q9)) fun ok s10 ⟨H10,I10,q10⟩=>?_
   have again:∀{τ':St}{H':Hp}{s':Shared},Inv X' ([]++Qst fp s8.heap) τ' H' s'->N τ' H'->∃ m,m<n/\∃ i τ H',Inv X' [] τ H' s'/\tn i s'.heap/\(∀ b∈fp,H' b=none)/\W i m τ H':=fun {τ' H' s'} I' n'=>by
    obtain⟨m',hm,w'⟩:=hN τ' H' n'
    refine⟨m',hm,i+1,τ',H',I'.unpinned,T.keep _ _ _ st8 fun b hb o e=>(I'.pin (b,o) ‹"as"›).1,fun b hb=>?_,w'⟩
    obtain⟨o,e,d⟩:=T.obj _ _ st8 b hb
    exact(I'.pin (b,o) ‹"as"›).2.1
   cases ok with
   | false=>
    rw[if_neg Bool.false_ne_true]at q10 ⊢
    exact again I10 q10
   | true=>
    rw[if_pos rfl]at q10 ⊢
    refine thn (A1 (QQM _ s10 τ9 H10 _ I10 q10)) fun y s11 ⟨yv,H11,I11,r11,ys,hp11,hz,n11⟩=>?_
    refine thn (A1 (Qsa _ s11 τ9 H11 ‹"dP"› [yv] ‹"dP"› [y] (fun _ H'=>N τ9 H') I11 rfl (.cons r11 .nil) ⟨_,ys,yv,rfl,rfl,hp11,hz,n11⟩)) fun _ s12 ⟨v12,H12,I12,_,n12⟩=>?_
    exact again I12 n12
 exact codeAny_compStart_list (loop _ rfl) (T.self _ 0 _ _ _ st4 (loop _ rfl))
theorem QOk(hc:X.calm=true)(S:‹"ef"›)(hi:PI X tg iter wi)
 (hs:‹"dB"›:=by intro _;rfl):PE X ‹"s"› (tComp X N' js scope tg elt ifs wi):=by
 intro pins s σ H Q I h
 rw[eval_ListComp]
 have hcl:closureFor scope X.env=pure ‹"bN"›:=QxC fun y hy e=>by
  obtain⟨c,hc⟩:=I.ok.has y.1 (S.free y hy e)
  rw[hc];rfl
 refine wpAny_comprehension_free (use:=none) rfl hs hcl S.kind S.names (thn (hi pins s σ H _ I h) fun v s1 h1=>thn h1 fun itv s2 h2=>?_)
 obtain⟨it,fp,tn,J,H2,e,I2,T,st2,f2,hW⟩:=h2
 subst e
 refine Qxe (R:=Q) (RR:=fun acc C=>compPost ‹"k"› X.A X.xe none ‹"cY"› acc C) hc S I2 T st2 f2 hW ?_
 intro D C s' H' I' ⟨m,hn⟩ hC h1 h2 h3 h4 q
 refine⟨m,hn,fun h' hsb=>⟨.ref D,H',?_,rfl,q⟩⟩
 exact I'.turned (t':=s'.toks) (fun b o hb e=>(hsb.2 b hb).trans e) hC (Ne.symm (Ne.symm h1)) (.inr h2) h3 h4
theorem QOL{i:Nat}{x:Str}{px spos:Pos}(hc:X.calm=true)(S:‹"ef"›)(hi:PI X tg iter wi)
 (hN:X.N.Nodup) (hx:X.N[i]?=some x) (hl:Loc X.env.scope x)
 (hsw:swapsWith ‹"s"› (some (.Name x px)) spos.line X.env=pure true)
 (hf:X.fn x=true∨X.env.scope.names.lookup x=some .local:=by first | exact .inl rfl | exact .inr rfl | assumption)
 (hs:‹"dB"›:=by intro _;rfl):PS X (.Assign [.Name x px] ‹"s"› spos) (tAsg (tComp X N' js scope tg elt ifs wi) (gName i)):=by
 intro pins s σ H D I h
 rw[exec_Assign_Name_used _ _ _ _ hsw]
 refine wpAny_bind (wpAny_standAt (wpAny_bind ?_))
 show wpAny _ X.A (do let _ ← comprehension ‹"s"› scope X.env _ (newList []) false (eval iter X.env) (some (assign (.Name x px) X.env))) _ _ s
 have hcl:closureFor scope X.env=pure ‹"bN"›:=QxC fun y hy e=>by
  obtain⟨c,hc⟩:=I.ok.has y.1 (S.free y hy e)
  rw[hc];rfl
 refine wpAny_bind (wpAny_mono (wpAny_comprehension_free (use:=some (assign (.Name x px) X.env)) (Q:=fun _ s'=>SP X pins D .next s') rfl hs hcl S.kind S.names
  (thn (hi pins s σ H _ I h) fun v s1 h1=>thn h1 fun itv s2 h2=>?_)) (fun _ s' hq=>wpAny_pure (wpAny_pure hq)) fun _ _ e=>e)
 obtain⟨it,fp,tn,J,H2,e,I2,T,st2,f2,hW⟩:=h2
 subst e
 refine Qxe (R:=fun v H'=>D.nx (σ.set i (some v)) H') (RR:=fun acc C=>compPost ‹"k"› X.A X.xe (some (assign (.Name x px) X.env)) (fun _ s'=>SP X pins D .next s') acc C) hc S I2 T st2 f2 hW ?_
 intro DD C s' H' I' ⟨m,hn⟩ hC h1 h2 h3 h4 q
 show wpAny _ X.A (assign (.Name x px) X.env (.ref DD)) _ _ s'
 refine wpAny_assign_Name (QzB (v:=.ref DD) I' hN hx hl rfl (fun s'' I'' ⟨a,hsb,ha⟩=>?_) hf)
 have hCa:C≠a:=by
  rcases ha with rfl | ha
  ·exact h1
  ·exact Ne.symm (h3 x a ha)
 refine⟨m,hn.sameBut hsb hCa,fun h' hsb'=>⟨_,H',?_,q⟩⟩
 exact I''.turned (t':=s''.toks) (fun b o hb e=>(hsb'.2 b hb).trans e) hC h1 (.inr h2) h3 h4
end
end L2
namespace DL
open PySem PySem.Spec PyProof.Rows L2
inductive D where
 | non | bl (b:Bool) | int (i:Int) | str (x:Str)
 | lst (xs:List D) | tup (xs:List D) | dic (kvs:List (Key×D)) | ins (c:Str) (fs:List (Str×D)) | err (c:Str)
instance:Inhabited D:=⟨.non⟩
abbrev CTab:=Str->Option Addr
section
variable(K:W.Frag)(CT:CTab)(H:Hp)
mutual
def Rep:D->V->Prop
 | .non,v=>v=.non
 | .bl b,v=>v=.bl b
 | .int i,v=>v=.int i
 | .str x,v=>v=.str x
 | .lst ds,v=>∃ a vs,v=.ref a/\SqL K H a vs/\RepL ds vs
 | .tup ds,v=>∃ a vs,v=.ref a/\SqT K H a vs/\RepL ds vs
 | .dic kds,v=>∃ a kvs,v=.ref a/\Rd H a (.dK kvs)/\RepK kds kvs
 | .ins c fds,v=>∃ a C dx fs,v=.ref a/\CT c=some C/\H a=some (.ins C dx fs)/\RepF fds fs
 | .err c,v=>∃ a C,v=.ref a/\CT c=some C/\H a=some (exO a C)
def RepL:List D->List V->Prop
 | [],vs=>vs=[]
 | d::ds,vs=>∃ v r,vs=v::r/\Rep d v/\RepL ds r
def RepK:List (Key×D)->List (Key×V)->Prop
 | [],kvs=>kvs=[]
 | (k,d)::ds,kvs=>∃ v r,kvs=(k,v)::r/\Rep d v/\RepK ds r
def RepF:List (Str×D)->List (Str×V)->Prop
 | [],kvs=>kvs=[]
 | (k,d)::ds,kvs=>∃ v r,kvs=(k,v)::r/\Rep d v/\RepF ds r
end
end
section
variable{K:W.Frag}{CT:CTab}{H H':Hp}
theorem Same.sqT{a:Addr}{xs:List V}(e:Same H H')(h:SqT K H a xs):SqT K H' a xs:=by
 rcases h with(h | ⟨o,h⟩) | h
 ·exact .inl (.inl (e _ _ h))
 ·exact .inl (.inr ⟨o,e _ _ h⟩)
 ·exact .inr h
theorem Same.rd{a:Addr}{u:HO}(e:Same H H')(h:Rd H a u):Rd H' a u:=by
 rcases h with h | ⟨o,h⟩
 ·exact .inl (e _ _ h)
 ·exact .inr ⟨o,e _ _ h⟩
mutual
theorem Rep.mono(e:Same H H'):∀(d:D)(v:V),Rep K CT H d v->Rep K CT H' d v
 | .non,_,h=>h
 | .bl _,_,h=>h
 | .int _,_,h=>h
 | .str _,_,h=>h
 | .lst ds,_,⟨a,vs,h1,h2,h3⟩=>⟨a,vs,h1,e.seq h2,RepL.mono e ds vs h3⟩
 | .tup ds,_,⟨a,vs,h1,h2,h3⟩=>⟨a,vs,h1,Same.sqT e h2,RepL.mono e ds vs h3⟩
 | .dic ds,_,⟨a,vs,h1,h2,h3⟩=>⟨a,vs,h1,Same.rd e h2,RepK.mono e ds vs h3⟩
 | .ins c ds,_,⟨a,C,dx,fs,h1,h2,h3,h4⟩=>⟨a,C,dx,fs,h1,h2,e _ _ h3,RepF.mono e ds fs h4⟩
 | .err c,_,⟨a,C,h1,h2,h3⟩=>⟨a,C,h1,h2,e _ _ h3⟩
theorem RepL.mono(e:Same H H'):∀(ds:List D)(vs:List V),RepL K CT H ds vs->RepL K CT H' ds vs
 | [],_,h=>h
 | d::ds,_,⟨v,r,h1,h2,h3⟩=>⟨v,r,h1,Rep.mono e d v h2,RepL.mono e ds r h3⟩
theorem RepK.mono(e:Same H H'):∀(ds:List (Key×D))(vs:List (Key×V)),RepK K CT H ds vs->RepK K CT H' ds vs
 | [],_,h=>h
 | (k,d)::ds,_,⟨v,r,h1,h2,h3⟩=>⟨v,r,h1,Rep.mono e d v h2,RepK.mono e ds r h3⟩
theorem RepF.mono(e:Same H H'):∀(ds:List (Str×D))(vs:List (Str×V)),RepF K CT H ds vs->RepF K CT H' ds vs
 | [],_,h=>h
 | (k,d)::ds,_,⟨v,r,h1,h2,h3⟩=>⟨v,r,h1,Rep.mono e d v h2,RepF.mono e ds r h3⟩
end
theorem RepL.length:∀{ds:List D}{vs:List V},RepL K CT H ds vs->ds.length=vs.length
 | [],_,h=>by cases h;rfl
 | d::ds,_,⟨v,r,h1,h2,h3⟩=>by subst h1;simp[RepL.length h3]
theorem RepL.get:∀{ds:List D}{vs:List V}{i:Nat}{d:D},RepL K CT H ds vs->ds[i]?=some d->∃ v,vs[i]?=some v/\Rep K CT H d v
 | [],_,_,_,_,e=>by simp at e
 | d::ds,_,0,_,⟨v,r,h1,h2,h3⟩,e=>by subst h1;simp at e;subst e;exact⟨v,rfl,h2⟩
 | d::ds,_,i+1,x,⟨v,r,h1,h2,h3⟩,e=>by
  subst h1
  obtain⟨u,a,b⟩:=RepL.get (i:=i) (d:=x) h3 (by simpa using e)
  exact⟨u,by simpa using a,b⟩
theorem RepL.append:∀{ds es:List D}{vs us:List V},RepL K CT H ds vs->RepL K CT H es us->RepL K CT H (ds++es) (vs++us)
 | [],_,_,_,h,k=>by cases h;exact k
 | d::ds,_,_,_,⟨v,r,h1,h2,h3⟩,k=>by subst h1;exact⟨v,_,rfl,h2,RepL.append h3 k⟩
theorem RepL.take:∀(n:Nat){ds:List D}{vs:List V},RepL K CT H ds vs->RepL K CT H (ds.take n) (vs.take n)
 | 0,_,_,_=>by simp[RepL]
 | n+1,[],_,h=>by cases h;simp[RepL]
 | n+1,d::ds,_,⟨v,r,h1,h2,h3⟩=>by subst h1;exact⟨v,_,rfl,h2,RepL.take n h3⟩
theorem RepL.drop:∀(n:Nat){ds:List D}{vs:List V},RepL K CT H ds vs->RepL K CT H (ds.drop n) (vs.drop n)
 | 0,_,_,h=>h
 | n+1,[],_,h=>by cases h;simp[RepL]
 | n+1,d::ds,_,⟨v,r,h1,h2,h3⟩=>by subst h1;exact RepL.drop n h3
theorem RepL.set{d:D}{v:V}(q:Rep K CT H d v):∀(i:Nat){ds:List D}{vs:List V},RepL K CT H ds vs->RepL K CT H (ds.set i d) (vs.set i v)
 | _,[],_,h=>by cases h;simp[RepL]
 | 0,_::ds,_,⟨w,r,h1,h2,h3⟩=>by subst h1;exact⟨v,r,rfl,q,h3⟩
 | i+1,e::ds,_,⟨w,r,h1,h2,h3⟩=>by subst h1;exact⟨w,_,rfl,h2,RepL.set q i h3⟩
theorem RepL.rep{ds:List D}{vs:List V}(h:RepL K CT H ds vs):∀ k:Nat,RepL K CT H (List.replicate k ds).flatten (List.replicate k vs).flatten
 | 0=>rfl
 | k+1=>by
  rw[List.replicate_succ,List.replicate_succ,List.flatten_cons,List.flatten_cons]
  exact h.append (h.rep k)
theorem RepL.one{d:D}{v:V}(h:Rep K CT H d v):RepL K CT H [d] [v]:=⟨v,[],rfl,h,rfl⟩
theorem RepL.map_int:∀(ns:List Int),RepL K CT H (ns.map D.int) (ns.map V.int)
 | []=>rfl
 | n::ns=>⟨_,_,rfl,rfl,RepL.map_int ns⟩
end
inductive Out(α:Type) where
 | ok (a:α) | exc (x:D) | stuck
namespace Out
def bind{α β:Type}:Out α->(α->Out β)->Out β
 | .ok a,f=>f a
 | .exc x,_=>.exc x
 | .stuck,_=>.stuck
instance:Monad Out where
 pure:=.ok
 bind:=bind
def post{α:Type}(o:Out α)(k:α->Prop)(x:D->Prop):Prop:=match o with
 | .ok a=>k a
 | .exc e=>x e
 | .stuck=>False
@[simp] theorem bind_ok{α β:Type}(a:α)(f:α->Out β):(Out.ok a>>=f)=f a:=rfl
@[simp] theorem bind_exc{α β:Type}(x:D)(f:α->Out β):((Out.exc x:Out α)>>=f)=.exc x:=rfl
@[simp] theorem bind_stuck{α β:Type}(f:α->Out β):((Out.stuck:Out α)>>=f)=.stuck:=rfl
@[simp] theorem QQ3{α β:Type}(a:α)(f:α->Out β):(Out.ok a).bind f=f a:=rfl
@[simp] theorem QQ2{α β:Type}(x:D)(f:α->Out β):(Out.exc x:Out α).bind f=.exc x:=rfl
@[simp] theorem QQS{α β:Type}(f:α->Out β):(Out.stuck:Out α).bind f=.stuck:=rfl
@[simp] theorem pure_eq{α:Type}(a:α):(pure a:Out α)=.ok a:=rfl
theorem post_bind{α β:Type}(o:Out α)(f:α->Out β)(k:β->Prop)(x:D->Prop):(o>>=f).post k x↔o.post (fun a=>(f a).post k x) x:=by
 cases o<;>exact Iff.rfl
theorem post_mono{α:Type}{o:Out α}{k k':α->Prop}{x:D->Prop}(h:o.post k x)(hk:∀ a,k a->k' a):o.post k' x:=by
 cases o with
 | ok a=>exact hk a h
 | exc e=>exact h
 | stuck=>exact h
end Out
end DL
namespace DL
open PySem PySem.Spec PyProof.Rows L2
abbrev St:=L2.St
inductive SM where
 | k | o | l | s
abbrev SD:=List (Option (SM×D))
structure Dc where
 X:Cx
 CT:CTab
 G0:Hp
 XD:D->Prop
 /-- what is lent -/
 B:Hp
 /-- what of the entry's objects may be written -/
 M:Addr->Prop
 /-- which address a written slot holds -/
 W:Nat->Option Addr:=fun _=>none
abbrev Dc.K(C:Dc):W.Frag:=C.X.K
def Own(K:W.Frag)(CT:CTab)(G H:Hp)(p:Addr):D->Prop
 | .lst ds=>∃ vs,H p=some (.lst vs)/\RepL K CT G ds vs
 | .dic ds=>∃ kvs,H p=some (.dK kvs)/\RepK K CT G ds kvs
 | .ins c ds=>∃ A dx fs,CT c=some A/\H p=some (.ins A dx fs)/\RepF K CT G ds fs
 | _=>False
theorem Own.there{K:W.Frag}{CT:CTab}{G H:Hp}{p:Addr}:∀{d:D},Own K CT G H p d->∃ o,H p=some o
 | .lst _,⟨_,h,_⟩=>⟨_,h⟩
 | .dic _,⟨_,h,_⟩=>⟨_,h⟩
 | .ins _ _,⟨_,_,_,_,h,_⟩=>⟨_,h⟩
 | .non,h=>h.elim
 | .bl _,h=>h.elim
 | .int _,h=>h.elim
 | .str _,h=>h.elim
 | .tup _,h=>h.elim
theorem Own.mono{K:W.Frag}{CT:CTab}{G G' H H':Hp}{p:Addr}(g:Same G G')(h:∀ o,H p=some o->H' p=some o):∀{d:D},Own K CT G H p d->Own K CT G' H' p d
 | .lst ds,⟨vs,a,b⟩=>⟨vs,h _ a,RepL.mono g ds vs b⟩
 | .dic ds,⟨vs,a,b⟩=>⟨vs,h _ a,RepK.mono g ds vs b⟩
 | .ins _ ds,⟨A,dx,fs,e,a,b⟩=>⟨A,dx,fs,e,h _ a,RepF.mono g ds fs b⟩
 | .non,h=>h.elim
 | .bl _,h=>h.elim
 | .int _,h=>h.elim
 | .str _,h=>h.elim
 | .tup _,h=>h.elim
theorem Own.rep{K:W.Frag}{CT:CTab}{G H:Hp}{p:Addr}(g:Same G H):∀{d:D},Own K CT G H p d->Rep K CT H d (.ref p)
 | .lst ds,⟨vs,a,b⟩=>⟨p,vs,rfl,SqL.of a,RepL.mono g ds vs b⟩
 | .dic ds,⟨vs,a,b⟩=>⟨p,vs,rfl,Rd.of a,RepK.mono g ds vs b⟩
 | .ins _ ds,⟨A,dx,fs,e,a,b⟩=>⟨p,A,dx,fs,rfl,e,a,RepF.mono g ds fs b⟩
 | .non,h=>h.elim
 | .bl _,h=>h.elim
 | .int _,h=>h.elim
 | .str _,h=>h.elim
 | .tup _,h=>h.elim
structure GH(C:Dc)(G H:Hp):Prop where
 sub:Same G H
 g0:Same C.G0 G
 new:∀ b,C.G0 b=none->G b≠none->C.X.H₀ b=none
 fr:∀ b o,C.X.H₀ b=some o->¬ C.M b->H b=some o
 dom:∀ b,H b=none->C.X.H₀ b=none
 bs:Same C.B H
 bh:∀ b,C.X.H₀ b=none->C.B b=none
structure StR(C:Dc)(G H:Hp)(σ:St)(ς:SD):Prop extends GH C G H where
 len:σ.length=ς.length
 fz:∀(i:Nat) d,ς[i]?=some (some (.k,d))->∃ v,σ[i]?=some (some v)/\Rep C.X.K C.CT G d v
 ow:∀(i:Nat) d,ς[i]?=some (some (.o,d))->∃ p,σ[i]?=some ‹"aT"›/\G p=none/\C.X.H₀ p=none/\Own C.X.K C.CT G H p d
 ln:∀(i:Nat) d,ς[i]?=some (some (.l,d))->∃ v,σ[i]?=some (some v)/\Rep C.X.K C.CT C.B d v
 inj:∀(i j:Nat) d e p,i≠j->ς[i]?=some (some (.o,d))->ς[j]?=some (some (.o,e))->σ[i]?=some ‹"aT"›->σ[j]?≠some ‹"aT"›
 sf:∀(i:Nat) d,ς[i]?=some (some (.s,d))->∃ p,σ[i]?=some ‹"aT"›/\G p=none/\C.X.H₀ p≠none/\(C.M p/\C.W i=some p)/\C.B p=none/\Own C.X.K C.CT G H p d
 su:∀(i j:Nat) d e p,i≠j->ς[i]?=some (some (.s,d))->ς[j]?=some (some (.s,e))->σ[i]?=some ‹"aT"›->σ[j]?≠some ‹"aT"›
section
variable{C:Dc}{G G' H H':Hp}{σ:St}{ς:SD}
theorem GH.gnone(S:GH C G H){p:Addr}(h:H p=none):G p=none:=S.sub.free h
theorem GH.h0none(S:GH C G H){p:Addr}(h:H p=none):C.X.H₀ p=none:=S.dom p h
theorem QB{H:Hp}{p:Addr}{o:HO}(h:H p=none):Same H (upd H p o):=fun b u e=>by
 rw[Qk (Q3 e h)];exact e
theorem Qsj{G H:Hp}{p:Addr}{o:HO}(s:Same G H):Same (upd G p o) (upd H p o):=fun b u e=>by
 by_cases hb:b=p
 ·subst hb;rw[QM]at e ⊢;exact e
 ·rw[Qk hb]at e ⊢;exact s b u e
theorem GH.grow(S:GH C G H)(hH:Same H H')(hG:Same G G')(hs:Same G' H')(hn:∀ b,G b=none->G' b≠none->H b=none):GH C G' H' where
 sub:=hs
 g0:=S.g0.trans hG
 new:=fun b h0 h1=>by
  cases q:G b with
  | none=>exact S.h0none (hn b q h1)
  | some o=>exact S.new b h0 (by rw[q];simp)
 fr:=fun b o e m=>hH b o (S.fr b o e m)
 dom:=fun b e=>S.dom b (hH.free e)
 bs:=S.bs.trans hH
 bh:=S.bh
theorem StR.own_ne(S:‹"au"›){i:Nat}{d:D}{p:Addr}(h:ς[i]?=some (some (.o,d)))(hp:σ[i]?=some ‹"aT"›):∃ o,H p=some o:=by
 obtain⟨q,e,_,_,o⟩:=S.ow i d h
 rw[hp]at e;cases e
 exact o.there
theorem StR.grow(S:‹"au"›)(hH:Same H H')(hG:Same G G')(hs:Same G' H')(hn:∀ b,G b=none->G' b≠none->H b=none):StR C G' H' σ ς where
 toGH:=S.toGH.grow hH hG hs hn
 len:=S.len
 fz:=fun i d e=>let ⟨v,a,b⟩:=S.fz i d e;⟨v,a,Rep.mono hG d v b⟩
 ow:=fun i d e=>by
  obtain⟨p,a,b,c,o⟩:=S.ow i d e
  refine⟨p,a,?_,c,o.mono hG fun u q=>hH _ _ q⟩
  cases q:G' p with
  | none=>rfl
  | some u=>
   obtain⟨w,hw⟩:=o.there
   have:=hn p b (by rw[q];simp)
   rw[hw]at this;cases this
 ln:=S.ln
 inj:=S.inj
 sf:=fun i d e=>by
  obtain⟨p,a,b,c,m,z,o⟩:=S.sf i d e
  refine⟨p,a,?_,c,m,z,o.mono hG fun u q=>hH _ _ q⟩
  cases q:G' p with
  | none=>rfl
  | some u=>
   obtain⟨w,hw⟩:=o.there
   have:=hn p b (by rw[q];simp)
   rw[hw]at this;cases this
 su:=S.su
theorem StR.alloc(S:‹"au"›){p:Addr}{o:HO}(h:H p=none):StR C (upd G p o) (upd H p o) σ ς:=
 S.grow (QB h) (QB (S.sub.free h)) (Qsj S.sub) fun b g n=>by
  by_cases hb:b=p
  ·subst hb;exact h
  ·rw[Qk hb,g]at n;exact absurd rfl n
theorem StR.allocO(S:‹"au"›){p:Addr}{o:HO}(h:H p=none):StR C G (upd H p o) σ ς:=
 S.grow (QB h) (Same.refl G) (S.sub.trans (QB h)) fun b g n=>absurd g n
end
def KD(C:Dc)(G H:Hp)(σ:St)(ς:SD)(Q:VK)(d:D):Prop:=∀ v H' G',StR C G' H' σ ς->Same H H'->Same G G'->Rep C.X.K C.CT G' d v->Q v H'
def KB(C:Dc)(G H:Hp)(σ:St)(ς:SD)(Q:VK)(d:D):Prop:=∀ v H' G',StR C G' H' σ ς->Same H H'->Same G G'->Rep C.X.K C.CT H' d v->Q v H'
def KF(C:Dc)(G H:Hp)(σ:St)(ς:SD)(Q:VK)(d:D):Prop:=∀ p H' G',StR C G' H' σ ς->Same H H'->Same G G'->H p=none->G' p=none->Own C.X.K C.CT G' H' p d->Q (.ref p) H'
def DE(C:Dc)(e:Expr)(E:SD->Out D):Prop:=∃ t,PE C.X e t/\∀ G H σ ς Q,StR C G H σ ς->(E ς).post ‹"dW"› C.XD->t σ H Q
def DB(C:Dc)(e:Expr)(E:SD->Out D):Prop:=∃ t,PE C.X e t/\∀ G H σ ς Q,StR C G H σ ς->(E ς).post (KB C G H σ ς Q) C.XD->t σ H Q
def DF(C:Dc)(e:Expr)(E:SD->Out D):Prop:=∃ t,PE C.X e t/\∀ G H σ ς Q,StR C G H σ ς->(E ς).post (KF C G H σ ς Q) C.XD->t σ H Q
def KT(C:Dc)(G H:Hp)(σ:St)(ς:SD)(Q:Bool->Hp->Prop)(b:Bool):Prop:=∀ H' G',StR C G' H' σ ς->Same H H'->Same G G'->Q b H'
def DT(C:Dc)(e:Expr)(T:SD->Out Bool):Prop:=∃ t,PT C.X e t/\∀ G H σ ς Q,StR C G H σ ς->(T ς).post (KT C G H σ ς Q) C.XD->t σ H Q
def DW(C:Dc)(e:Expr)(T:SD->Out Bool):Prop:=∃ t,PW C.X e t/\∀ G H σ ς Q,StR C G H σ ς->(T ς).post (KT C G H σ ς Q) C.XD->t σ H Q
def DA(C:Dc)(es:List Expr)(A:‹"ak"›):Prop:=∃ t,PA C.X es t/\∀ G H σ ς Q,StR C G H σ ς->
 (A ς).post ‹"cj"› C.XD->t σ H Q
def DAB(C:Dc)(es:List Expr)(A:‹"ak"›):Prop:=∃ t,PA C.X es t/\∀ G H σ ς Q,StR C G H σ ς->
 (A ς).post ‹"ci"› C.XD->t σ H Q
inductive Fl where
 | nx (ς:SD) | rt (fr:Bool) (d:D) | bk (ς:SD) | ct (ς:SD)
def RetR(K:W.Frag)(CT:CTab)(fr:Bool)(H0 G' H':Hp)(d:D)(v:V):Prop:=
 if fr=true then ∃ p,v=.ref p/\H0 p=none/\G' p=none/\Own K CT G' H' p d else Rep K CT G' d v
def FlK(C:Dc)(G:Hp)(W:Ends):Fl->Prop
 | .nx ς'=>∀ σ' H' G',StR C G' H' σ' ς'->Same G G'->W.nx σ' H'
 | .bk ς'=>∀ σ' H' G',StR C G' H' σ' ς'->Same G G'->W.bk σ' H'
 | .ct ς'=>∀ σ' H' G',StR C G' H' σ' ς'->Same G G'->W.ct σ' H'
 | .rt fr d=>∀ v H' G',GH C G' H'->Same G G'->RetR C.X.K C.CT fr C.X.H₀ G' H' d v->W.rt v H'
def DS(C:Dc)(st:Stmt)(T:SD->Out Fl):Prop:=∃ t,PS C.X st t/\∀ G H σ ς W,StR C G H σ ς->(T ς).post (FlK C G W) C.XD->t W σ H
def DSs(C:Dc)(st:List Stmt)(T:SD->Out Fl):Prop:=∃ t,PSs C.X st t/\∀ G H σ ς W,StR C G H σ ς->(T ς).post (FlK C G W) C.XD->t W σ H
section
variable{C:Dc}{e:Expr}{E:SD->Out D}
theorem StR.freeze{G H:Hp}{σ:St}{ς:SD}(S:‹"au"›){p:Addr}{o:HO}(hp:H p=some o)(hg:G p=none)(h0:C.X.H₀ p=none)(hn:∀(i:Nat) d,ς[i]?=some (some (.o,d))->σ[i]?≠some ‹"aT"›):StR C (upd G p o) H σ ς where
 sub:=fun b u q=>by
  by_cases hb:b=p
  ·subst hb;rw[QM]at q;cases q;exact hp
  ·rw[Qk hb]at q;exact S.sub b u q
 g0:=S.g0.trans (QB hg)
 new:=fun b h1 h2=>by
  by_cases hb:b=p
  ·subst hb;exact h0
  ·rw[Qk hb]at h2;exact S.new b h1 h2
 fr:=S.fr
 dom:=S.dom
 bs:=S.bs
 bh:=S.bh
 len:=S.len
 fz:=fun i d q=>let ⟨v,a,b⟩:=S.fz i d q;⟨v,a,Rep.mono (QB hg) d v b⟩
 ow:=fun i d q=>by
  obtain⟨r,a,b,c,w⟩:=S.ow i d q
  refine⟨r,a,?_,c,w.mono (QB hg) fun _ z=>z⟩
  rw[Qk (by rintro rfl;exact hn i d q a)];exact b
 ln:=S.ln
 inj:=S.inj
 sf:=fun i d q=>by
  obtain⟨r,a,b,c,m,z,w⟩:=S.sf i d q
  refine⟨r,a,?_,c,m,z,w.mono (QB hg) fun _ z=>z⟩
  rw[Qk (by rintro rfl;exact c h0)];exact b
 su:=S.su
theorem Own.known{K:W.Frag}{CT:CTab}{G H:Hp}{p:Addr}{o:HO}(hg:G p=none)(hp:H p=some o):∀{d:D},Own K CT G H p d->Rep K CT (upd G p o) d (.ref p)
 | .lst ds,⟨vs,a,b⟩=>by rw[hp]at a;cases a;exact⟨p,vs,rfl,SqL.of QM,RepL.mono (QB hg) ds vs b⟩
 | .dic ds,⟨vs,a,b⟩=>by rw[hp]at a;cases a;exact⟨p,vs,rfl,Rd.of QM,RepK.mono (QB hg) ds vs b⟩
 | .ins _ ds,⟨A,dx,fs,e,a,b⟩=>by rw[hp]at a;cases a;exact⟨p,A,dx,fs,rfl,e,QM,RepF.mono (QB hg) ds fs b⟩
 | .non,h=>h.elim
 | .bl _,h=>h.elim
 | .int _,h=>h.elim
 | .str _,h=>h.elim
 | .tup _,h=>h.elim
theorem StR.new_ne{G H:Hp}{σ:St}{ς:SD}(S:‹"au"›){p:Addr}(h:H p=none):∀(i:Nat) d,ς[i]?=some (some (.o,d))->σ[i]?≠some ‹"aT"›:=fun i d q z=>by
 obtain⟨o,w⟩:=S.own_ne q z
 rw[h]at w;cases w
theorem KD.ofF{G H:Hp}{σ:St}{ς:SD}{Q:VK}{d:D}(S:‹"au"›)(k:KD C G H σ ς Q d):KF C G H σ ς Q d:=fun p H' G' S' hH hG hp hg ow=>by
 obtain⟨o,ho⟩:=ow.there
 exact k _ _ _ (S'.freeze ho hg (S.h0none hp) (S.new_ne hp)) hH (hG.trans (QB hg)) (ow.known hg ho)
theorem DF.de(h:DF C e E):DE C e E:=by
 obtain⟨t,h1,h2⟩:=h
 refine⟨t,h1,fun G H σ ς Q S q=>h2 G H σ ς Q S (Out.post_mono q fun d k=>KD.ofF S k)⟩
theorem DE.db(h:DE C e E):DB C e E:=by
 obtain⟨t,h1,h2⟩:=h
 refine⟨t,h1,fun G H σ ς Q S q=>h2 G H σ ς Q S (Out.post_mono q fun d k v H' G' S' a b r=>k v H' G' S' a b (Rep.mono S'.sub d v r))⟩
def D.scal:D->Bool
 | .non=>true
 | .bl _=>true
 | .int _=>true
 | .str _=>true
 | _=>false
theorem Rep.scal{K:W.Frag}{CT:CTab}{G H:Hp}:∀{d:D}{v:V},d.scal=true->Rep K CT H d v->Rep K CT G d v
 | .non,_,_,h=>h
 | .bl _,_,_,h=>h
 | .int _,_,_,h=>h
 | .str _,_,_,h=>h
def Qpu(o:Out D):Out D:=o>>=fun d=>if d.scal=true then .ok d else .stuck
theorem DB.de(h:DB C e E):DE C e (fun ς=>Qpu (E ς)):=by
 obtain⟨t,h1,h2⟩:=h
 refine⟨t,h1,fun G H σ ς Q S q=>h2 G H σ ς Q S ?_⟩
 unfold Qpu at q
 rw[Out.post_bind]at q
 refine Out.post_mono q fun d k v H' G' S' a b r=>?_
 by_cases hs:d.scal=true
 ·rw[if_pos hs]at k
  exact k v H' G' S' a b (r.scal hs)
 ·rw[if_neg hs]at k
  exact k.elim
theorem KD.now{G H:Hp}{σ:St}{ς:SD}{Q:VK}{d:D}{v:V}(k:KD C G H σ ς Q d)(S:‹"au"›)(r:Rep C.X.K C.CT G d v):Q v H:=k v H G S (Same.refl H) (Same.refl G) r
theorem KB.now{G H:Hp}{σ:St}{ς:SD}{Q:VK}{d:D}{v:V}(k:KB C G H σ ς Q d)(S:‹"au"›)(r:Rep C.X.K C.CT H d v):Q v H:=k v H G S (Same.refl H) (Same.refl G) r
theorem KT.now{G H:Hp}{σ:St}{ς:SD}{Q:Bool->Hp->Prop}{b:Bool}(k:KT C G H σ ς Q b)(S:‹"au"›):Q b H:=k H G S (Same.refl H) (Same.refl G)
theorem KD.later{G H G1 H1:Hp}{σ:St}{ς:SD}{Q:VK}{d:D}(k:KD C G H σ ς Q d)(hH:Same H H1)(hG:Same G G1):KD C G1 H1 σ ς Q d:=fun v H' G' S a b r=>k v H' G' S (hH.trans a) (hG.trans b) r
theorem KB.later{G H G1 H1:Hp}{σ:St}{ς:SD}{Q:VK}{d:D}(k:KB C G H σ ς Q d)(hH:Same H H1)(hG:Same G G1):KB C G1 H1 σ ς Q d:=fun v H' G' S a b r=>k v H' G' S (hH.trans a) (hG.trans b) r
theorem KT.later{G H G1 H1:Hp}{σ:St}{ς:SD}{Q:Bool->Hp->Prop}{d:Bool}(k:KT C G H σ ς Q d)(hH:Same H H1)(hG:Same G G1):KT C G1 H1 σ ς Q d:=fun H' G' S a b=>k H' G' S (hH.trans a) (hG.trans b)
theorem KF.later{G H G1 H1:Hp}{σ:St}{ς:SD}{Q:VK}{d:D}(k:KF C G H σ ς Q d)(hH:Same H H1)(hG:Same G G1):KF C G1 H1 σ ς Q d:=fun p H' G' S a b hp hg ow=>k p H' G' S (hH.trans a) (hG.trans b) (hH.free hp) hg ow
theorem KF.lst{G H:Hp}{σ:St}{ς:SD}{Q:VK}{ds:List D}{vs:List V}(k:KF C G H σ ς Q (.lst ds))(S:‹"au"›)(r:RepL C.X.K C.CT G ds vs):∀ p,H p=none->Q (.ref p) (upd H p (.lst vs)):=fun p hp=>
 k p _ G (S.allocO hp) (QB hp) (Same.refl G) hp (S.gnone hp) ⟨vs,QM,r⟩
theorem KD.tup{G H:Hp}{σ:St}{ς:SD}{Q:VK}{ds:List D}{vs:List V}(k:KD C G H σ ς Q (.tup ds))(S:‹"au"›)(r:RepL C.X.K C.CT G ds vs):∀ p,H p=none->Q (.ref p) (upd H p (.tup vs)):=fun p hp=>
 k _ _ _ (S.alloc hp) (QB hp) (QB (S.gnone hp)) ⟨p,vs,rfl,SqT.of QM,RepL.mono (QB (S.gnone hp)) ds vs r⟩
end
end DL
namespace DL
open PySem PySem.Spec PyProof.Rows L2
def eVar(i:Nat):SD->Out D:=fun ς=>match ς[i]? with | some (some (.k,d))=>.ok d | _=>.stuck
def eVarB(i:Nat):SD->Out D:=fun ς=>match ς[i]? with | some (some (_,d))=>.ok d | _=>.stuck
def eC(d:D):SD->Out D:=fun _=>.ok d
section
variable{C:Dc}{pos:Pos}
theorem QNa{i:Nat}{ς:SD}{k:D->Prop}{x:D->Prop}(h:(eVar i ς).post k x):∃ d,ς[i]?=some (some (.k,d))/\k d:=by
 unfold eVar at h
 split at h
 ·rename_i d e;exact⟨d,e,h⟩
 ·exact h.elim
theorem QKT{i:Nat}{ς:SD}{k:D->Prop}{x:D->Prop}(h:(eVarB i ς).post k x):∃ b d,ς[i]?=some (some (b,d))/\k d:=by
 unfold eVarB at h
 split at h
 ·rename_i b d e;exact⟨b,d,e,h⟩
 ·exact h.elim
theorem Qb(i:Nat){x:Str}(hN:C.X.N[i]?=some x:=by rfl)(hv:‹"bI"›:=by first | exact Or.inl rfl | exact Or.inr (Or.inl rfl) | exact Or.inr (Or.inr rfl))
 (hd:‹"f"›:=by decide) (hcd:‹"t"›:=by decide):DE C (.Name x pos) (eVar i):=by
 refine⟨_,Qdy (i:=i) hN hv hd hcd,fun G H σ ς Q S q=>?_⟩
 obtain⟨d,e,k⟩:=QNa q
 obtain⟨v,a,b⟩:=S.fz i d e
 exact⟨v,a,k.now S b⟩
theorem Qe5(i:Nat){x:Str}(hN:C.X.N[i]?=some x:=by rfl)(hv:‹"bI"›:=by first | exact Or.inl rfl | exact Or.inr (Or.inl rfl) | exact Or.inr (Or.inr rfl))
 (hd:‹"f"›:=by decide) (hcd:‹"t"›:=by decide):DB C (.Name x pos) (eVarB i):=by
 refine⟨_,Qdy (i:=i) hN hv hd hcd,fun G H σ ς Q S q=>?_⟩
 obtain⟨b,d,e,k⟩:=QKT q
 cases b with
 | k=>
  obtain⟨v,a,b⟩:=S.fz i d e
  exact⟨v,a,k.now S (Rep.mono S.sub d v b)⟩
 | o=>
  obtain⟨p,a,b,c,w⟩:=S.ow i d e
  exact⟨_,a,k.now S (w.rep S.sub)⟩
 | l=>
  obtain⟨v,a,b⟩:=S.ln i d e
  exact⟨v,a,k.now S (Rep.mono S.bs d v b)⟩
 | s=>
  obtain⟨p,a,b,c,m,z,w⟩:=S.sf i d e
  exact⟨_,a,k.now S (w.rep S.sub)⟩
theorem Qd{i:Int}{j}:DE C (.Constant (.int i) j pos) (eC (.int i)):=⟨_,QMv,fun G H σ ς Q S q=>KD.now q S rfl⟩
theorem de_bl{b:Bool}{j}:DE C (.Constant (.bool b) j pos) (eC (.bl b)):=⟨_,pe_bl,fun G H σ ς Q S q=>KD.now q S rfl⟩
theorem QLq{j}:DE C (.Constant .none j pos) (eC .non):=⟨_,QP3,fun G H σ ς Q S q=>KD.now q S rfl⟩
theorem QMI{x:Str}{j}:DE C (.Constant (.str x) j pos) (eC (.str x)):=⟨_,QPn,fun G H σ ς Q S q=>KD.now q S rfl⟩
def toV:D->V
 | .bl b=>.bl b
 | .int i=>.int i
 | .str x=>.str x
 | _=>.non
theorem QxZ{K:W.Frag}{CT:CTab}{H:Hp}:∀{d:D},d.scal=true->Rep K CT H d (toV d)
 | .non,_=>rfl
 | .bl _,_=>rfl
 | .int _,_=>rfl
 | .str _,_=>rfl
theorem Qfa{x:Str}{d:D}{u:Value}(hg:Gl C.X x)(hm:C.X.mg x=some u)(hs:d.scal=true)(r:RelV (toV d) u)(hd:‹"f"›:=by decide):DE C (.Name x pos) (eC d):=
 ⟨_,QpG hg hm r hd,fun G H σ ς Q S q=>KD.now q S (QxZ hs)⟩
end
def e1(f:D->Out D)(a:SD->Out D):SD->Out D:=fun ς=>a ς>>=f
def e2(f:D->D->Out D)(a b:SD->Out D):SD->Out D:=fun ς=>a ς>>=fun x=>b ς>>=fun y=>f x y
def DRS(C:Dc)(r:R2)(f:D->D->Out D):Prop:=∀ G H σ ς (Q:VK) x y vx vy,StR C G H σ ς->Rep C.X.K C.CT H x vx->Rep C.X.K C.CT H y vy->
 (f x y).post ‹"dq"› (fun _=>False)->r vx vy H Q
def scal2(f:D->D->Out D):Prop:=∀ x y,match f x y with | .ok d=>d.scal=true | .exc _=>False | .stuck=>True
section
variable{C:Dc}{a b c:Expr}{A B A':SD->Out D}{pos:Pos}
theorem Qmg{o:Out D}{G H:Hp}{σ:St}{ς:SD}{Q:VK}(S:‹"au"›)(hs:match o with | .ok d=>d.scal=true | .exc _=>False | .stuck=>True)(q:o.post ‹"dW"› C.XD):
 o.post ‹"dq"› (fun _=>False):=by
 cases o with
 | ok d=>exact⟨hs,KD.now q S (QxZ hs)⟩
 | exc _=>exact hs
 | stuck=>exact q
theorem dop{t:TE}{r:R2}{f:D->D->Out D}{ta tb:TE}(hr:DRS C r f)(hs:scal2 f)
 (h1:‹"dn"›) (h2:‹"dm"›):
 ∀ G H σ ς Q,StR C G H σ ς->(e2 f A B ς).post ‹"dW"› C.XD->tOp r ta tb σ H Q:=by
 intro G H σ ς Q S q
 unfold e2 at q
 rw[Out.post_bind]at q
 refine h1 G H σ ς _ S (Out.post_mono q fun x k v1 H1 G1 S1 a1 b1 r1=>?_)
 rw[Out.post_bind]at k
 refine h2 G1 H1 σ ς _ S1 (Out.post_mono k fun y k2 v2 H2 G2 S2 a2 b2 r2=>?_)
 refine hr G2 H2 σ ς _ x y v1 v2 S2 (Rep.mono a2 x v1 r1) r2 (Qmg S2 (hs x y) ?_)
 exact Out.post_mono k2 fun d kd=>KD.later kd (a1.trans a2) (b1.trans b2)
theorem de_op{op:Operator}{r:R2}{f:D->D->Out D}(ho:OpR C.X (binaryOp op) r)(hr:DRS C r f)(hs:scal2 f)(ha:DB C a A)(hb:DB C b B):DE C (.BinOp a op b pos) (e2 f A B):=by
 obtain⟨ta,p1,q1⟩:=ha
 obtain⟨tb,p2,q2⟩:=hb
 exact⟨_,pe_op ho p1 p2,dop (t:=ta) hr hs q1 q2⟩
theorem Qwr{op:CmpOp}{r:R2}{f:D->D->Out D}(ho:OpR C.X (compareOp op) r)(hr:DRS C r f)(hs:scal2 f)(ha:DB C a A)(hb:DB C b B)(hm:behindInMarks op b=false):DE C (.Compare a [op] [b] pos) (e2 f A B):=by
 obtain⟨ta,p1,q1⟩:=ha
 obtain⟨tb,p2,q2⟩:=hb
 exact⟨_,QOZ ho p1 p2 hm,dop (t:=ta) hr hs q1 q2⟩
def tVal(a:SD->Out D):SD->Out Bool:=fun ς=>a ς>>=fun d=>match d with | .bl b=>.ok b | _=>.stuck
theorem Qti{o:Out D}{G H:Hp}{σ:St}{ς:SD}{Q:Bool->Hp->Prop}(q:(o>>=fun d=>match d with | .bl b=>Out.ok b | _=>.stuck).post (KT C G H σ ς Q) C.XD):
 o.post (KD C G H σ ς fun x H'=>∃ k,x=.bl k/\Q k H') C.XD:=by
 rw[Out.post_bind]at q
 refine Out.post_mono q fun d k v H' G' S' a b r=>?_
 cases d with
 | bl c=>exact⟨c,r,k H' G' S' a b⟩
 | _=>exact k.elim
theorem Qmd{op:CmpOp}{r:R2}{f:D->D->Out D}(ho:OpR C.X (compareOp op) r)(hr:DRS C r f)(hs:scal2 f)(ha:DB C a A)(hb:DB C b B)(hm:behindInMarks op b=false):DT C (.Compare a [op] [b] pos) (tVal (e2 f A B)):=by
 obtain⟨ta,p1,q1⟩:=ha
 obtain⟨tb,p2,q2⟩:=hb
 exact⟨_,QOI ho p1 p2 hm,fun G H σ ς Q S q=>dop (t:=ta) hr hs q1 q2 G H σ ς _ S (Qti q)⟩
theorem QaF(h:DE C a A)(he:∀ whole,isTrue a C.X.env whole=(do let v ← whole;standAt a.pos;holding [v] (truthy v)):=by intro _;rfl):DT C a (tVal A):=by
 obtain⟨ta,p1,q1⟩:=h
 exact⟨_,QQN p1 he,fun G H σ ς Q S q=>q1 G H σ ς _ S (Qti q)⟩
def Qdt(f g:D->D->Out D)(a b c:SD->Out D):SD->Out D:=fun ς=>a ς>>=fun x=>b ς>>=fun y=>f x y>>=fun z=>match z with
 | .bl true=>c ς>>=fun w=>g y w
 | .bl false=>.ok (.bl false)
 | _=>.stuck
theorem QKA{r r':R2}{f g:D->D->Out D}{ta tb tc:TE}(hr:DRS C r f)(hs:scal2 f)(hr':DRS C r' g)(hs':scal2 g)
 (h1:‹"dn"›) (h2:‹"dm"›)
 (h3:∀ G H σ ς Q,StR C G H σ ς->(A' ς).post (KB C G H σ ς Q) C.XD->tc σ H Q):
 ∀ G H σ ς Q,StR C G H σ ς->(Qdt f g A B A' ς).post ‹"dW"› C.XD->QD2 r r' ta tb tc σ H Q:=by
 intro G H σ ς Q S q
 unfold Qdt at q
 rw[Out.post_bind]at q
 refine h1 G H σ ς _ S (Out.post_mono q fun x k v1 H1 G1 S1 a1 b1 r1=>?_)
 rw[Out.post_bind]at k
 refine h2 G1 H1 σ ς _ S1 (Out.post_mono k fun y k2 v2 H2 G2 S2 a2 b2 r2=>?_)
 rw[Out.post_bind]at k2
 refine hr G2 H2 σ ς _ x y v1 v2 S2 (Rep.mono a2 x v1 r1) r2 ?_
 have hxy:=hs x y
 cases e:f x y with
 | exc _=>rw[e]at hxy;exact hxy
 | stuck=>rw[e]at k2;exact k2.elim
 | ok z=>
  rw[e]at k2
  refine⟨by rw[e]at hxy;exact hxy,?_⟩
  cases z with
  | bl cc=>
   refine⟨cc,rfl,?_⟩
   cases cc with
   | false=>exact iteF (KD.now (KD.later (show KD C G H σ ς Q (.bl false) from k2) (a1.trans a2) (b1.trans b2)) S2 rfl)
   | true=>
    refine iteT (h3 G2 H2 σ ς _ S2 ?_)
    have k2':(A' ς>>=fun w=>g y w).post ‹"dW"› C.XD:=k2
    rw[Out.post_bind]at k2'
    refine Out.post_mono k2' fun w k3 v3 H3 G3 S3 a3 b3 r3=>?_
    refine hr' G3 H3 σ ς _ y w v2 v3 S3 (Rep.mono a3 y v2 r2) r3 (Qmg S3 (hs' y w) ?_)
    exact Out.post_mono k3 fun d kd=>KD.later kd ((a1.trans a2).trans a3) ((b1.trans b2).trans b3)
  | _=>exact k2.elim
theorem QCU{op op':CmpOp}{r r':R2}{f g:D->D->Out D}(ho:OpR C.X (compareOp op) r)(hr:DRS C r f)(hs:scal2 f)(ho':OpR C.X (compareOp op') r')(hr':DRS C r' g)(hs':scal2 g)
 (ha:DB C a A) (hb:DB C b B) (hc:DB C c A') (hm:‹"ee"›:=by with_unfolding_all rfl):DE C ‹"eb"› (Qdt f g A B A'):=by
 obtain⟨ta,p1,q1⟩:=ha
 obtain⟨tb,p2,q2⟩:=hb
 obtain⟨tc,p3,q3⟩:=hc
 exact⟨_,QM8 ho ho' p1 p2 p3 hm,QKA hr hs hr' hs' q1 q2 q3⟩
theorem QD6{op op':CmpOp}{r r':R2}{f g:D->D->Out D}(ho:OpR C.X (compareOp op) r)(hr:DRS C r f)(hs:scal2 f)(ho':OpR C.X (compareOp op') r')(hr':DRS C r' g)(hs':scal2 g)
 (ha:DB C a A) (hb:DB C b B) (hc:DB C c A') (hm:‹"ee"›:=by with_unfolding_all rfl):DT C ‹"eb"› (tVal (Qdt f g A B A')):=by
 obtain⟨ta,p1,q1⟩:=ha
 obtain⟨tb,p2,q2⟩:=hb
 obtain⟨tc,p3,q3⟩:=hc
 exact⟨_,QM4 ho ho' p1 p2 p3 hm,fun G H σ ς Q S q=>QKA hr hs hr' hs' q1 q2 q3 G H σ ς _ S (Qti q)⟩
end
section
variable{C:Dc}
def dI(cnd:Int->Int->Bool)(g:Int->Int->D):D->D->Out D
 | .int i,.int j=>if cnd i j=true then .ok (g i j) else .stuck
 | _,_=>.stuck
def dI0(g:Int->Int->D):D->D->Out D
 | .int i,.int j=>.ok (g i j)
 | _,_=>.stuck
theorem QQ{α:Type}{c:Prop}[Decidable c]{a b:Out α}{k:α->Prop}{x:D->Prop}(h:(if c then a else b).post k x):(c/\a.post k x)∨(¬ c/\b.post k x):=by
 by_cases e:c
 ·rw[if_pos e]at h;exact .inl ⟨e,h⟩
 ·rw[if_neg e]at h;exact .inr ⟨e,h⟩
theorem QiU{c:Prop}[Decidable c]{d:D}(h:d.scal=true):match (if c then Out.ok d else Out.stuck:Out D) with | .ok d=>d.scal=true | .exc _=>False | .stuck=>True:=by
 by_cases e:c
 ·rw[if_pos e];exact h
 ·rw[if_neg e];exact True.intro
theorem QtT{cnd:Int->Int->Bool}{g:Int->Int->D}(h:∀ i j,(g i j).scal=true):scal2 (dI cnd g):=by
 intro x y
 cases x with
 | int i=>
  cases y with
  | int j=>exact QiU (h i j)
  | _=>exact True.intro
 | _=>exact True.intro
theorem QbR{g:Int->Int->D}(h:∀ i j,(g i j).scal=true):scal2 (dI0 g):=by
 intro x y
 cases x<;>cases y<;>simp[dI0,h]
theorem Qxs{cnd:Int->Int->Bool}{P:Int->Int->Prop}{g:Int->Int->D}(hP:∀ i j,cnd i j=true->P i j):DRS C (rI P fun i j=>toV (g i j)) (dI cnd g):=by
 intro G H σ ς Q x y vx vy S hx hy q
 cases x with
 | int i=>
  cases y with
  | int j=>
   cases hx;cases hy
   refine⟨i,j,rfl,rfl,?_⟩
   rcases QQ (show(if cnd i j=true then Out.ok (g i j) else Out.stuck).post _ _ from q) with⟨hc,q⟩ | ⟨hc,q⟩
   ·exact⟨hP i j hc,q.2⟩
   ·exact q.elim
  | _=>exact q.elim
 | _=>exact q.elim
theorem Qcv{g:Int->Int->D}:DRS C (rI0 fun i j=>toV (g i j)) (dI0 g):=by
 intro G H σ ς Q x y vx vy S hx hy q
 cases x with
 | int i=>
  cases y with
  | int j=>
   cases hx;cases hy
   exact⟨i,j,rfl,rfl,q.2⟩
  | _=>exact q.elim
 | _=>exact q.elim
variable{a b c:Expr}{A B:SD->Out D}{pos:Pos}
def dSub:D->D->Out D:=dI0 fun i j=>.int (i - j)
def big(i:Int):Bool:=decide (i.natAbs<2 ^ 9000)
def dMul:D->D->Out D:=dI (fun i j=>decide (Builtin.Int.intBits i+Builtin.Int.intBits j<=134217728)) fun i j=>.int (i * j)
def dFdiv:D->D->Out D:=dI (fun i j=>decide (j≠0)&&big j) fun i j=>.int (i.fdiv j)
def dMod:D->D->Out D:=dI (fun i j=>decide (j≠0)) fun i j=>.int (i.fmod j)
def dPow:D->D->Out D:=dI (fun i j=>decide (0<=j)&&decide (j<=1000000)&&decide (i.natAbs<2 ^ 64)) fun i j=>.int (i ^ j.toNat)
theorem QN0{i:Int}(h:big i=true):i.natAbs.log2<9000:=by
 have h':i.natAbs<2 ^ 9000:=of_decide_eq_true h
 by_cases z:i.natAbs=0
 ·rw[z];decide
 ·exact(Nat.log2_lt z).mpr h'
theorem QOB{X:Cx}:OpR X (binaryOp .Mult) (rI IntMulOk fun i j=>.int (i * j)):=opI fun _ _ _ _ _ _ _ hc q=>mul_int q hc
def CDivB(i j:Int):Prop:=j≠0/\j.natAbs.log2<9000
theorem QNH{X:Cx}:OpR X (binaryOp .FloorDiv) (rI CDivB fun i j=>.int (i.fdiv j)):=opI fun _ _ _ _ _ _ _ hc q=>floordiv_int hc.1 q (.inl (PyProof.noPylong_of_log2 hc.2))
theorem Qd6(ha:DB C a A)(hb:DB C b B):DE C (.BinOp a .Sub b pos) (e2 dSub A B):=de_op QPJ Qcv ‹"by"› ha hb
theorem QhN(ha:DB C a A)(hb:DB C b B):DE C (.BinOp a .Mult b pos) (e2 dMul A B):=de_op QOB (Qxs fun i j h=>IntMulOk.of_le ‹"ar"› ‹"ar"› (of_decide_eq_true h)) (QtT fun _ _=>rfl) ha hb
theorem Qio(ha:DB C a A)(hb:DB C b B):DE C (.BinOp a .FloorDiv b pos) (e2 dFdiv A B):=de_op QNH (Qxs fun i j h=>by
 rw[Bool.and_eq_true]at h
 exact⟨of_decide_eq_true h.1,QN0 h.2⟩) (QtT fun _ _=>rfl) ha hb
theorem QV(ha:DB C a A)(hb:DB C b B):DE C (.BinOp a .Mod b pos) (e2 dMod A B):=de_op QOP (Qxs fun i j h=>of_decide_eq_true h) (QtT fun _ _=>rfl) ha hb
theorem Qwd(ha:DB C a A)(hb:DB C b B):DE C (.BinOp a .Pow b pos) (e2 dPow A B):=de_op QPo (Qxs fun i j h=>by
 rw[Bool.and_eq_true,Bool.and_eq_true]at h
 exact⟨of_decide_eq_true h.1.1,of_decide_eq_true h.1.2,of_decide_eq_true h.2⟩) (QtT fun _ _=>rfl) ha hb
def dAdd:D->D->Out D
 | .int i,.int j=>.ok (.int (i+j))
 | .str x,.str y=>if x.length+y.length<=sizeLine then .ok (.str (x++y)) else .stuck
 | _,_=>.stuck
theorem QaH(ha:DB C a A)(hb:DB C b B):DE C (.BinOp a .Add b pos) (e2 dAdd A B):=by
 refine de_op (QP5.or QJ8) ?_ ?_ ha hb
 ·intro G H σ ς Q x y vx vy S hx hy q
  cases x with
  | int i=>
   cases y with
   | int j=>
    cases hx;cases hy
    exact .inl ⟨i,j,rfl,rfl,q.2⟩
   | _=>exact q.elim
  | str i=>
   cases y with
   | str j=>
    cases hx;cases hy
    rcases QQ (show(if i.length+j.length<=sizeLine then Out.ok (D.str (i++j)) else Out.stuck).post _ _ from q) with⟨hc,q⟩ | ⟨hc,q⟩
    ·exact .inr ⟨i,j,rfl,rfl,hc,q.2⟩
    ·exact q.elim
   | _=>exact q.elim
  | _=>exact q.elim
 ·intro x y
  cases x with
  | int i=>
   cases y with
   | int j=>exact rfl
   | _=>exact True.intro
  | str i=>
   cases y with
   | str j=>exact QiU rfl
   | _=>exact True.intro
  | _=>exact True.intro
def dLt:D->D->Out D:=dI0 fun i j=>.bl (decide (i<j))
def dLe:D->D->Out D:=dI0 fun i j=>.bl (decide (i<=j))
def dGt:D->D->Out D:=dI0 fun i j=>.bl (decide (j<i))
def dGe:D->D->Out D:=dI0 fun i j=>.bl (decide (j<=i))
end
section
variable{C:Dc}{a b c:Expr}{A B:SD->Out D}{pos:Pos}
def dNeg:D->Out D
 | .int i=>.ok (.int (-i))
 | _=>.stuck
theorem QlG(ha:DB C a A):DE C (.UnaryOp .USub a pos) (e1 dNeg A):=by
 obtain⟨ta,p1,q1⟩:=ha
 refine⟨_,pe_un QQD p1,fun G H σ ς Q S q=>?_⟩
 unfold e1 at q
 rw[Out.post_bind]at q
 refine q1 G H σ ς _ S (Out.post_mono q fun x k v1 H1 G1 S1 a1 b1 r1=>?_)
 cases x with
 | int i=>cases r1;exact⟨i,rfl,KD.now (KD.later k a1 b1) S1 rfl⟩
 | _=>exact k.elim
variable{TA TB:SD->Out Bool}{rest:List Expr}
def tAnd'(a b:SD->Out Bool):SD->Out Bool:=fun ς=>a ς>>=fun c=>if c=true then b ς else .ok false
def tOr'(a b:SD->Out Bool):SD->Out Bool:=fun ς=>a ς>>=fun c=>if c=true then .ok true else b ς
def tNot'(a:SD->Out Bool):SD->Out Bool:=fun ς=>a ς>>=fun c=>.ok (!c)
theorem DW.dt{e:Expr}{T:SD->Out Bool}(h:DW C e T):DT C e T:=let ⟨t,p,q⟩:=h;⟨t,p.pt,q⟩
theorem QtM(ha:DT C a TA):DW C (.BoolOp .And [a] pos) TA:=let ⟨t,p,q⟩:=ha;⟨t,QPl p,q⟩
theorem QcL(ha:DT C a TA):DW C (.BoolOp .Or [a] pos) TA:=let ⟨t,p,q⟩:=ha;⟨t,QQL p,q⟩
theorem QwG(ha:DT C a TA)(hb:DW C (.BoolOp .And (b::rest) pos) TB):DW C ‹"ec"› (tAnd' TA TB):=by
 obtain⟨t1,p1,q1⟩:=ha
 obtain⟨t2,p2,q2⟩:=hb
 refine⟨_,QQq p1 p2,fun G H σ ς Q S q=>?_⟩
 unfold tAnd' at q
 rw[Out.post_bind]at q
 refine q1 G H σ ς _ S (Out.post_mono q fun x k H1 G1 S1 a1 b1=>?_)
 cases x with
 | true=>exact iteT (q2 G1 H1 σ ς _ S1 (Out.post_mono (show(TB ς).post _ _ from k) fun x k=>KT.later k a1 b1))
 | false=>exact iteF (KT.now (KT.later (show KT C G H σ ς Q false from k) a1 b1) S1)
theorem dw_or(ha:DT C a TA)(hb:DW C (.BoolOp .Or (b::rest) pos) TB):DW C (.BoolOp .Or (a::b::rest) pos) (tOr' TA TB):=by
 obtain⟨t1,p1,q1⟩:=ha
 obtain⟨t2,p2,q2⟩:=hb
 refine⟨_,pw_or p1 p2,fun G H σ ς Q S q=>?_⟩
 unfold tOr' at q
 rw[Out.post_bind]at q
 refine q1 G H σ ς _ S (Out.post_mono q fun x k H1 G1 S1 a1 b1=>?_)
 cases x with
 | true=>exact iteT (KT.now (KT.later (show KT C G H σ ς Q true from k) a1 b1) S1)
 | false=>exact iteF (q2 G1 H1 σ ς _ S1 (Out.post_mono (show(TB ς).post _ _ from k) fun x k=>KT.later k a1 b1))
theorem QaC(ha:DT C a TA):DT C (.UnaryOp .Not a pos) (tNot' TA):=by
 obtain⟨t1,p1,q1⟩:=ha
 refine⟨_,QQJ p1,fun G H σ ς Q S q=>?_⟩
 unfold tNot' at q
 rw[Out.post_bind]at q
 exact q1 G H σ ς _ S (Out.post_mono q fun x k H1 G1 S1 a1 b1=>k H1 G1 S1 a1 b1)
def eAnd(a b:SD->Out D):SD->Out D:=fun ς=>a ς>>=fun d=>match d with | .bl true=>b ς | .bl false=>.ok (.bl false) | _=>.stuck
def eOr(a b:SD->Out D):SD->Out D:=fun ς=>a ς>>=fun d=>match d with | .bl true=>.ok (.bl true) | .bl false=>b ς | _=>.stuck
def eNot(a:SD->Out D):SD->Out D:=fun ς=>a ς>>=fun d=>match d with | .bl c=>.ok (.bl (!c)) | _=>.stuck
theorem Qif{op}(h:DE C a A):DE C (.BoolOp op [a] pos) A:=let ⟨t,p,q⟩:=h;⟨t,QQo p,q⟩
theorem Qd8(ha:DE C a A)(hb:DE C (.BoolOp .And (b::rest) pos) B):DE C ‹"ec"› (eAnd A B):=by
 obtain⟨t1,p1,q1⟩:=ha
 obtain⟨t2,p2,q2⟩:=hb
 refine⟨_,QPF p1 p2,fun G H σ ς Q S q=>?_⟩
 unfold eAnd at q
 rw[Out.post_bind]at q
 refine q1 G H σ ς _ S (Out.post_mono q fun x k v1 H1 G1 S1 a1 b1 r1=>?_)
 cases x with
 | bl c=>
  refine⟨c,r1,?_⟩
  cases c with
  | true=>exact iteT (q2 G1 H1 σ ς _ S1 (Out.post_mono (show(B ς).post _ _ from k) fun x k=>KD.later k a1 b1))
  | false=>exact iteF (KD.now (KD.later (show KD C G H σ ς Q (.bl false) from k) a1 b1) S1 rfl)
 | _=>exact k.elim
theorem QLE(ha:DE C a A):DE C (.UnaryOp .Not a pos) (eNot A):=by
 obtain⟨t1,p1,q1⟩:=ha
 refine⟨_,QQh p1,fun G H σ ς Q S q=>?_⟩
 unfold eNot at q
 rw[Out.post_bind]at q
 refine q1 G H σ ς _ S (Out.post_mono q fun x k v1 H1 G1 S1 a1 b1 r1=>?_)
 cases x with
 | bl c=>exact⟨c,r1,KD.now (KD.later (show KD C G H σ ς Q (.bl (!c)) from k) a1 b1) S1 rfl⟩
 | _=>exact k.elim
def eIf(t:SD->Out Bool)(a b:SD->Out D):SD->Out D:=fun ς=>t ς>>=fun c=>if c=true then a ς else b ς
theorem de_if{t:Expr}(ht:DT C t TA)(ha:DE C a A)(hb:DE C b B):DE C (.IfExp t a b pos) (eIf TA A B):=by
 obtain⟨t0,p0,q0⟩:=ht
 obtain⟨t1,p1,q1⟩:=ha
 obtain⟨t2,p2,q2⟩:=hb
 refine⟨_,QNM p0 p1 p2,fun G H σ ς Q S q=>?_⟩
 unfold eIf at q
 rw[Out.post_bind]at q
 refine q0 G H σ ς _ S (Out.post_mono q fun x k H1 G1 S1 a1 b1=>?_)
 cases x with
 | true=>exact iteT (q1 G1 H1 σ ς _ S1 (Out.post_mono (show(A ς).post _ _ from k) fun x k=>KD.later k a1 b1))
 | false=>exact iteF (q2 G1 H1 σ ς _ S1 (Out.post_mono (show(B ς).post _ _ from k) fun x k=>KD.later k a1 b1))
end
end DL
namespace DL
open PySem PySem.Spec PyProof.Rows L2
def aNil:SD->Out (List D):=fun _=>.ok []
def aCons(a:SD->Out D)(r:‹"ak"›):SD->Out (List D):=fun ς=>a ς>>=fun x=>r ς>>=fun xs=>.ok (x::xs)
section
variable{C:Dc}{e:Expr}{es:List Expr}{E:SD->Out D}{A:SD->Out (List D)}{pos:Pos}
theorem Qj:DA C [] aNil:=⟨_,Qdz,fun G H σ ς Q S q=>q [] H G S (Same.refl H) (Same.refl G) rfl⟩
theorem Qz:DAB C [] aNil:=⟨_,Qdz,fun G H σ ς Q S q=>q [] H G S (Same.refl H) (Same.refl G) rfl⟩
theorem Qc(ha:DE C e E)(hr:DA C es A)(hs:‹"b"›:=by rfl):DA C (e::es) (aCons E A):=by
 obtain⟨t1,p1,q1⟩:=ha
 obtain⟨t2,p2,q2⟩:=hr
 refine⟨_,Qbk p1 p2 hs,fun G H σ ς Q S q=>?_⟩
 unfold aCons at q
 rw[Out.post_bind]at q
 refine q1 G H σ ς _ S (Out.post_mono q fun x k v1 H1 G1 S1 a1 b1 r1=>?_)
 rw[Out.post_bind]at k
 refine q2 G1 H1 σ ς _ S1 (Out.post_mono k fun xs k2 vs H2 G2 S2 a2 b2 r2=>?_)
 exact k2 (v1::vs) H2 G2 S2 (a1.trans a2) (b1.trans b2) ⟨v1,vs,rfl,Rep.mono b2 x v1 r1,r2⟩
theorem Qu(ha:DB C e E)(hr:DAB C es A)(hs:‹"b"›:=by rfl):DAB C (e::es) (aCons E A):=by
 obtain⟨t1,p1,q1⟩:=ha
 obtain⟨t2,p2,q2⟩:=hr
 refine⟨_,Qbk p1 p2 hs,fun G H σ ς Q S q=>?_⟩
 unfold aCons at q
 rw[Out.post_bind]at q
 refine q1 G H σ ς _ S (Out.post_mono q fun x k v1 H1 G1 S1 a1 b1 r1=>?_)
 rw[Out.post_bind]at k
 refine q2 G1 H1 σ ς _ S1 (Out.post_mono k fun xs k2 vs H2 G2 S2 a2 b2 r2=>?_)
 exact k2 (v1::vs) H2 G2 S2 (a1.trans a2) (b1.trans b2) ⟨v1,vs,rfl,Rep.mono a2 x v1 r1,r2⟩
def fits(n:Nat):Bool:=decide (n<=sizeLine)
def eTup(a:‹"ak"›):SD->Out D:=fun ς=>a ς>>=fun xs=>if fits xs.length=true then .ok (.tup xs) else .stuck
def eLst(a:‹"ak"›):SD->Out D:=fun ς=>a ς>>=fun xs=>if fits xs.length=true then .ok (.lst xs) else .stuck
theorem Qe8{x1}(h:DA C es A):DE C (.Tuple es x1 pos) (eTup A):=by
 obtain⟨t,p,q⟩:=h
 refine⟨_,QDd p,fun G H σ ς Q S k=>?_⟩
 unfold eTup at k
 rw[Out.post_bind]at k
 refine q G H σ ς _ S (Out.post_mono k fun xs k2 vs H1 G1 S1 a1 b1 r1=>?_)
 rcases QQ k2 with⟨hc,k3⟩ | ⟨_,k3⟩
 ·exact⟨by rw[← r1.length];exact of_decide_eq_true hc,KD.tup (KD.later k3 a1 b1) S1 r1⟩
 ·exact k3.elim
theorem Qay(h:DA C es A):DF C (.List es pos) (eLst A):=by
 obtain⟨t,p,q⟩:=h
 refine⟨_,QP6 p,fun G H σ ς Q S k=>?_⟩
 unfold eLst at k
 rw[Out.post_bind]at k
 refine q G H σ ς _ S (Out.post_mono k fun xs k2 vs H1 G1 S1 a1 b1 r1=>?_)
 rcases QQ k2 with⟨hc,k3⟩ | ⟨_,k3⟩
 ·exact⟨by rw[← r1.length];exact of_decide_eq_true hc,KF.lst (KF.later k3 a1 b1) S1 r1⟩
 ·exact k3.elim
end
theorem QoZ{K:W.Frag}{CT:CTab}{H:Hp}{ds:List D}{vs:List V}{i:Int}{d:D}(r:RepL K CT H ds vs)(h:atI ds i=some d):∃ v,atI vs i=some v/\Rep K CT H d v:=by
 unfold atI at h ⊢
 rw[← r.length]
 cases e:ixN ds.length i with
 | none=>rw[e]at h;cases h
 | some j=>
  rw[e]at h
  exact r.get h
def optO{α:Type}:Option α->Out α
 | some a=>.ok a
 | none=>.stuck
theorem Qc2{α:Type}{o:Option α}{k:α->Prop}{x:D->Prop}(h:(optO o).post k x):∃ a,o=some a/\k a:=by
 cases o with
 | none=>exact h.elim
 | some a=>exact⟨a,rfl,h⟩
def dIx:D->D->Out D
 | .lst xs,.int i=>optO (atI xs i)
 | .tup xs,.int i=>optO (atI xs i)
 | .str x,.int i=>if fits x.length=true then optO ((atI x.cps.toList i).map fun c=>D.str ⟨#[c]⟩) else .stuck
 | _,_=>.stuck
section
variable{C:Dc}{a b:Expr}{A B:SD->Out D}{pos:Pos}
theorem QQs{R:Hp->Hp}{G H:Hp}{σ:St}{ς:SD}{Q:VK}{x y:D}{vx vy:V}{k:D->Prop}(hx:Rep C.X.K C.CT H x vx)(hy:Rep C.X.K C.CT H y vy)
 (q:(dIx x y).post k C.XD) (hk:∀ d v,k d->Rep C.X.K C.CT H d v->Q v H):rIx C.X.K vx vy H Q:=by
 cases y with
 | int i=>
  cases hy
  cases x with
  | lst xs=>
   obtain⟨p,vs,rfl,h2,h3⟩:=hx
   obtain⟨d,e,kd⟩:=Qc2 q
   obtain⟨v,e2,r⟩:=QoZ h3 e
   exact .inl ⟨p,vs,i,v,rfl,rfl,h2,e2,hk d v kd r⟩
  | tup xs=>
   obtain⟨p,vs,rfl,h2,h3⟩:=hx
   obtain⟨d,e,kd⟩:=Qc2 q
   obtain⟨v,e2,r⟩:=QoZ h3 e
   exact .inr (.inl ⟨p,vs,i,v,rfl,rfl,h2,e2,hk d v kd r⟩)
  | str z=>
   cases hx
   rcases QQ (show(if fits z.length=true then optO ((atI z.cps.toList i).map fun c=>D.str ⟨#[c]⟩) else .stuck).post k C.XD from q) with⟨hc,q⟩ | ⟨_,q⟩
   ·obtain⟨d,e,kd⟩:=Qc2 q
    cases e3:atI z.cps.toList i with
    | none=>rw[e3]at e;cases e
    | some c=>
     rw[e3]at e
     cases e
     exact .inr (.inr ⟨z,i,c,rfl,rfl,of_decide_eq_true hc,e3,hk _ _ kd rfl⟩)
   ·exact q.elim
  | _=>exact q.elim
 | _=>cases x<;>exact q.elim
theorem db_ix(ha:DB C a A)(hb:DB C b B)(hs:QtQ b:=by intro _ _;rfl):DB C (.Subscript a b pos) (e2 dIx A B):=by
 obtain⟨ta,p1,q1⟩:=ha
 obtain⟨tb,p2,q2⟩:=hb
 refine⟨_,pe_ix QCe p1 p2 hs,fun G H σ ς Q S q=>?_⟩
 unfold e2 at q
 rw[Out.post_bind]at q
 refine q1 G H σ ς _ S (Out.post_mono q fun x k v1 H1 G1 S1 a1 b1 r1=>?_)
 rw[Out.post_bind]at k
 refine q2 G1 H1 σ ς _ S1 (Out.post_mono k fun y k2 v2 H2 G2 S2 a2 b2 r2=>?_)
 exact QQs (R:=id) (G:=G2) (σ:=σ) (ς:=ς) (Rep.mono a2 x v1 r1) r2 k2 fun d v kd r=>KB.now (KB.later kd (a1.trans a2) (b1.trans b2)) S2 r
theorem de_ix(ha:DE C a A)(hb:DB C b B)(hs:QtQ b:=by intro _ _;rfl):DE C (.Subscript a b pos) (e2 dIx A B):=by
 obtain⟨ta,p1,q1⟩:=ha
 obtain⟨tb,p2,q2⟩:=hb
 refine⟨_,pe_ix QCe p1 p2 hs,fun G H σ ς Q S q=>?_⟩
 unfold e2 at q
 rw[Out.post_bind]at q
 refine q1 G H σ ς _ S (Out.post_mono q fun x k v1 H1 G1 S1 a1 b1 r1=>?_)
 rw[Out.post_bind]at k
 refine q2 G1 H1 σ ς _ S1 (Out.post_mono k fun y k2 v2 H2 G2 S2 a2 b2 r2=>?_)
 have r1':=Rep.mono b2 x v1 r1
 cases y with
 | int i=>
  cases r2
  cases x with
  | lst xs=>
   obtain⟨p,vs,rfl,h2,h3⟩:=r1'
   obtain⟨d,e,kd⟩:=Qc2 k2
   obtain⟨v,e2,r⟩:=QoZ h3 e
   exact .inl ⟨p,vs,i,v,rfl,rfl,S2.sub.seq h2,e2,KD.now ‹"av"› S2 r⟩
  | tup xs=>
   obtain⟨p,vs,rfl,h2,h3⟩:=r1'
   obtain⟨d,e,kd⟩:=Qc2 k2
   obtain⟨v,e2,r⟩:=QoZ h3 e
   exact .inr (.inl ⟨p,vs,i,v,rfl,rfl,Same.sqT S2.sub h2,e2,KD.now ‹"av"› S2 r⟩)
  | str z=>
   cases r1'
   rcases QQ (show(if fits z.length=true then optO ((atI z.cps.toList i).map fun c=>D.str ⟨#[c]⟩) else .stuck).post _ C.XD from k2) with⟨hc,q⟩ | ⟨_,q⟩
   ·obtain⟨d,e,kd⟩:=Qc2 q
    cases e3:atI z.cps.toList i with
    | none=>rw[e3]at e;cases e
    | some c=>
     rw[e3]at e
     cases e
     exact .inr (.inr ⟨z,i,c,rfl,rfl,of_decide_eq_true hc,e3,KD.now ‹"av"› S2 rfl⟩)
   ·exact q.elim
  | _=>exact k2.elim
 | _=>cases x<;>exact k2.elim
end
def cutD{α:Type}(xs:List α)(lo hi:Option Int):List α:=(xs.drop (HT.sIx xs.length 0 lo)).take ‹"cd"›
theorem QOi{K:W.Frag}{CT:CTab}{H:Hp}{ds:List D}{vs:List V}(lo hi:Option Int)(r:RepL K CT H ds vs):RepL K CT H (cutD ds lo hi) (cutV vs lo hi):=by
 unfold cutD cutV
 rw[r.length]
 exact(r.drop _).take _
def oNo:SD->Out (Option Int):=fun _=>.ok none
def oSome(e:SD->Out D):SD->Out (Option Int):=fun ς=>e ς>>=fun d=>match d with | .int i=>.ok (some i) | _=>.stuck
def DO(C:Dc)(e:Option Expr)(T:SD->Out (Option Int)):Prop:=∃ t,PO C.X e t/\∀ G H σ ς Q,StR C G H σ ς->(T ς).post (fun o=>∀ H' G',StR C G' H' σ ς->Same H H'->Same G G'->Q o H') C.XD->t σ H Q
section
variable{C:Dc}{a b:Expr}{A B:SD->Out D}{lo hi:Option Expr}{L U:SD->Out (Option Int)}{pos p2:Pos}
theorem QIs(h:DB C a A):DO C (some a) (oSome A):=by
 obtain⟨t,p,q⟩:=h
 refine⟨_,QOl p,fun G H σ ς Q S k=>?_⟩
 unfold oSome at k
 rw[Out.post_bind]at k
 refine q G H σ ς _ S (Out.post_mono k fun x k2 v1 H1 G1 S1 a1 b1 r1=>?_)
 cases x with
 | int i=>cases r1;exact⟨i,rfl,k2 H1 G1 S1 a1 b1⟩
 | _=>exact k2.elim
def eSl(a:SD->Out D)(l u:SD->Out (Option Int)):SD->Out D:=fun ς=>a ς>>=fun x=>l ς>>=fun i=>u ς>>=fun j=>match x with
 | .lst xs=>.ok (.lst (cutD xs i j))
 | _=>.stuck
theorem df_sl(ha:DE C a A)(hl:DO C lo L)(hu:DO C hi U):DF C (.Subscript a (.Slice lo hi none p2) pos) (eSl A L U):=by
 obtain⟨ta,p1,q1⟩:=ha
 obtain⟨tl,p3,q3⟩:=hl
 obtain⟨tu,p4,q4⟩:=hu
 refine⟨_,QMM QN8 p1 p3 p4,fun G H σ ς Q S q=>?_⟩
 unfold eSl at q
 rw[Out.post_bind]at q
 refine q1 G H σ ς _ S (Out.post_mono q fun x k v1 H1 G1 S1 a1 b1 r1=>?_)
 rw[Out.post_bind]at k
 refine q3 G1 H1 σ ς _ S1 (Out.post_mono k fun i k2 H2 G2 S2 a2 b2=>?_)
 rw[Out.post_bind]at k2
 refine q4 G2 H2 σ ς _ S2 (Out.post_mono k2 fun j k3 H3 G3 S3 a3 b3=>?_)
 cases x with
 | lst xs=>
  obtain⟨p,vs,rfl,h2,h3⟩:=Rep.mono (b2.trans b3) _ v1 r1
  exact⟨p,vs,rfl,S3.sub.seq h2,KF.lst (KF.later (show KF C G H σ ς Q (.lst (cutD xs i j)) from k3) ((a1.trans a2).trans a3) ((b1.trans b2).trans b3)) S3 (QOi i j h3)⟩
 | _=>exact k3.elim
end
section
variable{C:Dc}{x:Str}{p pos:Pos}{e:Expr}{es:List Expr}{A:SD->Out (List D)}{id T:String}
def eA(f:List D->Out D)(a:‹"ak"›):SD->Out D:=fun ς=>a ς>>=f
def DCS(C:Dc)(r:‹"df"›)(f:List D->Out D):Prop:=∀ G H σ ς (Q:VK) xs vs,StR C G H σ ς->RepL C.X.K C.CT H xs vs->
 (f xs).post ‹"dq"› (fun _=>False)->r vs H Q
def scalA(f:List D->Out D):Prop:=∀ xs,match f xs with | .ok d=>d.scal=true | .exc _=>False | .stuck=>True
theorem dcall{r:‹"df"›}{f:List D->Out D}{t:TA}(hr:DCS C r f)(hs:scalA f)
 (h:∀ G H σ ς Q,StR C G H σ ς->(A ς).post ‹"ci"› C.XD->t σ H Q):
 ∀ G H σ ς Q,StR C G H σ ς->(eA f A ς).post ‹"dW"› C.XD->tCB r t σ H Q:=by
 intro G H σ ς Q S q
 unfold eA at q
 rw[Out.post_bind]at q
 refine h G H σ ς _ S (Out.post_mono q fun ds k vs H1 G1 S1 a1 b1 r1=>?_)
 exact hr G1 H1 σ ς Q ds vs S1 r1 (Qmg S1 (hs ds) (Out.post_mono k fun d kd=>KD.later kd a1 b1))
theorem QvY{r:‹"df"›}{f:List D->Out D}(hc:CallR C.X (.builtin id) r)(hr:DCS C r f)(hs:scalA f)(hg:Gl C.X x)(hm:C.X.mg x=none)(hv:bootBuiltins x=some (.builtin id))(ha:DAB C (e::es) A)(hn:x≠"__name__":=by decide)(hdb:‹"f"›:=by decide)
 (he:‹"b"›:=by rfl) (hpl:(backTo pos ‹"aC"›).any (·.1)=false:=by rfl):DE C ‹"D"› (eA f A):=by
 obtain⟨t,p1,q1⟩:=ha
 exact⟨_,Qvl hc hg hm hv p1 hn hdb he hpl,dcall hr hs q1⟩
theorem QLC{r:‹"df"›}{f:List D->Out D}(hc:CallR C.X (.type T) r)(hr:DCS C r f)(hs:scalA f)(hg:Gl C.X x)(hm:C.X.mg x=none)(hv:bootBuiltins x=some (.type T))(ha:DAB C (e::es) A)(hn:x≠"__name__":=by decide)(hdb:‹"f"›:=by decide)
 (he:‹"b"›:=by rfl) (hpl:(backTo pos ‹"aC"›).any (·.1)=false:=by rfl):DE C ‹"D"› (eA f A):=by
 obtain⟨t,p1,q1⟩:=ha
 exact⟨_,QzE hc hg hm hv p1 hn hdb he hpl,dcall hr hs q1⟩
def fLen:List D->Out D
 | [.lst xs]=>.ok (.int xs.length)
 | [.tup xs]=>.ok (.int xs.length)
 | [.str x]=>if fits x.length=true then .ok (.int x.length) else .stuck
 | _=>.stuck
theorem QPf:DCS C (fun xs H Q=>(∃ p ys,xs=[.ref p]/\(SqL C.X.K H p ys∨SqT C.X.K H p ys)/\Q (.int ys.length) H)∨∃ z,xs=[.str z]/\z.length<=sizeLine/\Q (.int z.length) H) fLen:=by
 intro G H σ ς Q xs vs S r q
 cases xs with
 | nil=>exact q.elim
 | cons x xr=>
  obtain⟨v,vr,rfl,r1,r2⟩:=r
  cases xr with
  | cons y yr=>cases x<;>exact q.elim
  | nil=>
   cases r2
   cases x with
   | lst ys=>
    obtain⟨p,us,rfl,h2,h3⟩:=r1
    exact .inl ⟨p,us,rfl,.inl h2,by rw[← h3.length];exact q.2⟩
   | tup ys=>
    obtain⟨p,us,rfl,h2,h3⟩:=r1
    exact .inl ⟨p,us,rfl,.inr h2,by rw[← h3.length];exact q.2⟩
   | str z=>
    cases r1
    rcases QQ (show(if fits z.length=true then Out.ok (D.int z.length) else .stuck).post _ _ from q) with⟨hc,q⟩ | ⟨_,q⟩
    ·exact .inr ⟨z,rfl,of_decide_eq_true hc,q.2⟩
    ·exact q.elim
   | _=>exact q.elim
theorem QMK:scalA fLen:=by
 intro xs
 cases xs with
 | nil=>exact True.intro
 | cons x xr=>
  cases xr with
  | cons y yr=>cases x<;>exact True.intro
  | nil=>
   cases x with
   | lst ys=>exact rfl
   | tup ys=>exact rfl
   | str z=>exact QiU rfl
   | _=>exact True.intro
theorem Q6(hg:Gl C.X "len")(hm:C.X.mg "len"=none)(ha:DAB C (e::es) A)
 (he:‹"b"›:=by rfl) (hpl:(backTo pos ‹"aC"›).any (·.1)=false:=by rfl):DE C (.Call (.Name "len" p) (e::es) [] pos) (eA fLen A):=
 QvY (QD4.or QDa) QPf QMK hg hm PySem.boot_len ha (by decide) (by decide) he hpl
def f1(g:D->Out D):List D->Out D
 | [x]=>g x
 | _=>.stuck
theorem Qym{g:D->Out D}(h:∀ x,match g x with | .ok d=>d.scal=true | .exc _=>False | .stuck=>True):scalA (f1 g):=by
 intro xs
 match xs with
 | []=>exact True.intro
 | [x]=>exact h x
 | _::_::_=>exact True.intro
def dAbs:D->Out D
 | .int i=>.ok (.int (if i<0 then -i else i))
 | _=>.stuck
theorem QEI{r:‹"df"›}{g:D->Out D}(h:∀ G H σ ς (Q:VK) x v,StR C G H σ ς->Rep C.X.K C.CT H x v->(g x).post ‹"dq"› (fun _=>False)->r [v] H Q):DCS C r (f1 g):=by
 intro G H σ ς Q xs vs S r q
 match xs,r with
 | [],_=>exact q.elim
 | [x],⟨v,vr,e1,r1,r2⟩=>cases r2;subst e1;exact h G H σ ς Q x v S r1 q
 | _::_::_,_=>exact q.elim
end
mutual
def D.py:D->PyData
 | .non=>.none
 | .bl b=>.bool b
 | .int i=>.int i
 | .str x=>.str x
 | .lst xs=>.list (D.pys xs)
 | .tup xs=>.tuple (D.pys xs)
 | .dic _=>.dict []
 | .ins _ _=>.dict []
 | .err _=>.dict []
def D.pys:List D->List PyData
 | []=>[]
 | x::xs=>D.py x::D.pys xs
end
section
variable{X:Cx}{pins:List (Addr×Obj)}{σ:L2.St}{H:Hp}{s:Shared}{CT:CTab}
mutual
theorem Qml(I:‹"h"›):∀(d:D)(v:V)(u:Value),Rep X.K CT H d v->RelV v u->d.py.canLay0=true->∃ as,Reads s.heap u d.py as
 | .non,_,_,h,r,_=>by cases h;cases r;exact⟨_,.none⟩
 | .bl b,_,_,h,r,_=>by cases h;cases r;exact⟨_,.bool b⟩
 | .int i,_,_,h,r,_=>by cases h;obtain⟨t,rfl⟩:=r;exact⟨_,.int i t⟩
 | .str x,_,_,h,r,_=>by cases h;obtain⟨t,rfl⟩:=r;exact⟨_,.str x t⟩
 | .lst ds,_,_,⟨a,vs,h1,h2,h3⟩,r,c=>by
  subst h1;cases r
  obtain⟨its,q,⟨o,n,ho,hc,_,hd⟩,_⟩:=I.list h2
  obtain⟨as,ra⟩:=Qtc I ds vs its h3 q (by simpa [D.py,PyData.canLay0] using c)
  exact⟨_,.list ho hc hd (by simpa using ra)⟩
 | .tup ds,_,_,⟨a,vs,h1,h2,h3⟩,r,c=>by
  subst h1;cases r
  obtain⟨its,q,⟨o,ho,hc,n,hd⟩,_⟩:=I.tuple h2
  obtain⟨as,ra⟩:=Qtc I ds vs its h3 q (by simpa [D.py,PyData.canLay0] using c)
  exact⟨_,.tuple ho hc hd (by simpa using ra)⟩
 | .dic _,_,_,_,_,c=>by simp[D.py,PyData.canLay0]at c
 | .ins _ _,_,_,_,_,c=>by simp[D.py,PyData.canLay0]at c
 | .err _,_,_,_,_,c=>by simp[D.py,PyData.canLay0]at c
theorem Qtc(I:‹"h"›):∀(ds:List D)(vs:List V)(us:List Value),RepL X.K CT H ds vs->Vals vs us->PyData.canLayAll0 (D.pys ds)=true->∃ as,ReadsAll s.heap us (D.pys ds) as
 | [],_,_,h,r,_=>by cases h;cases r;exact⟨_,.nil⟩
 | d::ds,_,_,⟨v,w,h1,h2,h3⟩,r,c=>by
  subst h1
  cases r with
  | cons r1 r2=>
   have c':d.py.canLay0=true/\PyData.canLayAll0 (D.pys ds)=true:=by simpa [D.pys,PyData.canLayAll0] using c
   obtain⟨as,q1⟩:=Qml I d v _ h2 r1 c'.1
   obtain⟨bs,q2⟩:=Qtc I ds w _ h3 r2 c'.2
   exact⟨_,.cons q1 q2⟩
end
end
def shp(d:D):Bool:=SeqAt.shaped d.py
def dEq(x y:D):Out D:=if (shp x&&shp y)=true then .ok (.bl (PyData.eqv x.py y.py)) else .stuck
def dNe(x y:D):Out D:=if (shp x&&shp y)=true then .ok (.bl (!PyData.eqv x.py y.py)) else .stuck
section
variable{C:Dc}{a b:Expr}{A B:SD->Out D}{pos:Pos}
def rEqD(C:Dc)(n:Bool):R2:=fun vx vy H Q=>∃ x y,Rep C.X.K C.CT H x vx/\Rep C.X.K C.CT H y vy/\shp x=true/\shp y=true/\Q (.bl (n != PyData.eqv x.py y.py)) H
theorem QL3(hu:‹"dg"›):OpR C.X (compareOp .Eq) (rEqD C false):=by
 intro pins s σ H vx vy u w Q I rx ry h
 obtain⟨x,y,h1,h2,h3,h4,q⟩:=h
 obtain⟨as,ra⟩:=Qml I x vx u h1 rx (SeqAt.canLay_of_shaped h3)
 obtain⟨bs,rb⟩:=Qml I y vy w h2 ry (SeqAt.canLay_of_shaped h4)
 exact eq_dataH ra rb h3 h4 hu ⟨.bl _,H,I,rfl,by simpa using q⟩
theorem QPY(hu:‹"dg"›):OpR C.X (compareOp .NotEq) (rEqD C true):=by
 intro pins s σ H vx vy u w Q I rx ry h
 obtain⟨x,y,h1,h2,h3,h4,q⟩:=h
 obtain⟨as,ra⟩:=Qml I x vx u h1 rx (SeqAt.canLay_of_shaped h3)
 obtain⟨bs,rb⟩:=Qml I y vy w h2 ry (SeqAt.canLay_of_shaped h4)
 exact ne_dataH ra rb h3 h4 hu ⟨.bl _,H,I,rfl,by simpa using q⟩
theorem QME:DRS C (rEqD C false) dEq:=by
 intro G H σ ς Q x y vx vy S hx hy q
 rcases QQ q with⟨hc,q⟩ | ⟨_,q⟩
 ·rw[Bool.and_eq_true]at hc
  exact⟨x,y,hx,hy,hc.1,hc.2,by simpa [toV] using q.2⟩
 ·exact q.elim
theorem QPw:DRS C (rEqD C true) dNe:=by
 intro G H σ ς Q x y vx vy S hx hy q
 rcases QQ q with⟨hc,q⟩ | ⟨_,q⟩
 ·rw[Bool.and_eq_true]at hc
  exact⟨x,y,hx,hy,hc.1,hc.2,by simpa [toV] using q.2⟩
 ·exact q.elim
theorem QH7:scal2 dEq:=fun x y=>QiU rfl
theorem QOJ:scal2 dNe:=fun x y=>QiU rfl
theorem de_gt(ha:DB C a A)(hb:DB C b B):DE C (.Compare a [.Gt] [b] pos) (e2 dGt A B):=Qwr op_gt Qcv ‹"by"› ha hb (Qib _)
theorem dt_lt(ha:DB C a A)(hb:DB C b B):DT C (.Compare a [.Lt] [b] pos) (tVal (e2 dLt A B)):=Qmd op_lt Qcv ‹"by"› ha hb (Qib _)
theorem dt_le(ha:DB C a A)(hb:DB C b B):DT C (.Compare a [.LtE] [b] pos) (tVal (e2 dLe A B)):=Qmd op_le Qcv ‹"by"› ha hb (Qib _)
theorem dt_gt(ha:DB C a A)(hb:DB C b B):DT C (.Compare a [.Gt] [b] pos) (tVal (e2 dGt A B)):=Qmd op_gt Qcv ‹"by"› ha hb (Qib _)
theorem dt_ge(ha:DB C a A)(hb:DB C b B):DT C (.Compare a [.GtE] [b] pos) (tVal (e2 dGe A B)):=Qmd op_ge Qcv ‹"by"› ha hb (Qib _)
theorem de_eq(hu:‹"dg"›)(ha:DB C a A)(hb:DB C b B):DE C (.Compare a [.Eq] [b] pos) (e2 dEq A B):=Qwr (QL3 hu) QME QH7 ha hb (Qib _)
theorem dt_eq(hu:‹"dg"›)(ha:DB C a A)(hb:DB C b B):DT C (.Compare a [.Eq] [b] pos) (tVal (e2 dEq A B)):=Qmd (QL3 hu) QME QH7 ha hb (Qib _)
theorem dt_ne(hu:‹"dg"›)(ha:DB C a A)(hb:DB C b B):DT C (.Compare a [.NotEq] [b] pos) (tVal (e2 dNe A B)):=Qmd (QPY hu) QPw QOJ ha hb (Qib _)
end
end DL
namespace DL
open PySem PySem.Spec PyProof.Rows L2
def isD:D->D->Bool
 | .non,.non=>true
 | .bl a,.bl b=>a == b
 | _,_=>false
def cstD:D->Bool
 | .non=>true
 | .bl _=>true
 | _=>false
def dIs(x y:D):Out D:=if cstD y=true then .ok (.bl (isD x y)) else .stuck
section
variable{C:Dc}{a b:Expr}{A B:SD->Out D}{pos:Pos}
def rIs(C:Dc)(n:Bool):R2:=fun vx vy H Q=>∃ x y,Rep C.X.K C.CT H x vx/\Rep C.X.K C.CT H y vy/\cstD y=true/\Q (.bl (n != isD x y)) H
theorem QP9{M:Model}{A:Around}{E:‹"m"›}{s:Shared}{Q:‹"m"›}{v:Value}{c:Bool}{x:V}(r:RelV x v)(h:Q (.bool (v == .bool c)) s):wpAny M A (compareOp .Is v (.bool c)) Q E s:=by
 cases x<;>first
  | (cases r;exact wpAny_pure h)
  | (obtain⟨t,rfl⟩:=r;exact wpAny_pure h)
theorem QO9{K:W.Frag}{CT:CTab}{H:Hp}{x:D}{v:V}{u:Value}(h:Rep K CT H x v)(r:RelV v u):(u == Value.none)=isD x .non:=by
 cases x with
 | non=>cases h;cases r;rfl
 | bl _=>cases h;cases r;rfl
 | int _=>cases h;obtain⟨t,rfl⟩:=r;rfl
 | str _=>cases h;obtain⟨t,rfl⟩:=r;rfl
 | lst _=>obtain⟨a,vs,rfl,_⟩:=h;cases r;rfl
 | tup _=>obtain⟨a,vs,rfl,_⟩:=h;cases r;rfl
 | dic _=>obtain⟨a,vs,rfl,_⟩:=h;cases r;rfl
 | ins _ _=>obtain⟨a,_,_,_,rfl,_⟩:=h;cases r;rfl
 | err _=>obtain⟨a,_,rfl,_⟩:=h;cases r;rfl
theorem QP1{K:W.Frag}{CT:CTab}{H:Hp}{x:D}{v:V}{u:Value}{c:Bool}(h:Rep K CT H x v)(r:RelV v u):(u == Value.bool c)=isD x (.bl c):=by
 cases x with
 | non=>cases h;cases r;rfl
 | bl d=>cases h;cases r;cases c<;>cases d<;>rfl
 | int _=>cases h;obtain⟨t,rfl⟩:=r;rfl
 | str _=>cases h;obtain⟨t,rfl⟩:=r;rfl
 | lst _=>obtain⟨a,vs,rfl,_⟩:=h;cases r;rfl
 | tup _=>obtain⟨a,vs,rfl,_⟩:=h;cases r;rfl
 | dic _=>obtain⟨a,vs,rfl,_⟩:=h;cases r;rfl
 | ins _ _=>obtain⟨a,_,_,_,rfl,_⟩:=h;cases r;rfl
 | err _=>obtain⟨a,_,rfl,_⟩:=h;cases r;rfl
theorem op_is:OpR C.X (compareOp .Is) (rIs C false):=by
 intro pins s σ H vx vy u w Q I rx ry h
 obtain⟨x,y,h1,h2,h3,q⟩:=h
 cases y with
 | non=>cases h2;cases ry;exact is_none_gen ⟨.bl _,H,I,by rw[QO9 h1 rx];rfl,by simpa using q⟩
 | bl c=>cases h2;cases ry;exact QP9 rx ⟨.bl _,H,I,by rw[QP1 h1 rx];rfl,by simpa using q⟩
 | _=>cases h3
theorem QP7:DRS C (rIs C false) dIs:=by
 intro G H σ ς Q x y vx vy S hx hy q
 rcases QQ q with⟨hc,q⟩ | ⟨_,q⟩
 ·exact⟨x,y,hx,hy,hc,by simpa [toV] using q.2⟩
 ·exact q.elim
theorem dt_is(ha:DB C a A)(hb:DB C b B):DT C (.Compare a [.Is] [b] pos) (tVal (e2 dIs A B)):=Qmd op_is QP7 (fun _ _=>QiU rfl) ha hb (Qib _)
end
def QcI:D->String
 | .non=>"NoneType"
 | .bl _=>"bool"
 | .int _=>"int"
 | .str _=>"str"
 | .lst _=>"list"
 | .tup _=>"tuple"
 | .dic _=>"dict"
 | .ins _ _=>"object"
 | .err _=>"object"
structure ClsD(K:W.Frag)(A:Addr):Prop where
 cl:Cls K A
 ha:W.findIn K (.ref A) "__class__"=some (some ‹"p"›)
 hn:W.specialIn K ‹"p"› "__get__"=some (some ‹"ap"›)
 htk:W.takesIn K ‹"p"›=some true
 hm:W.mroIn K A (.type "object")=some true
def KitD(K:W.Frag)(CT:CTab)(d:D)(uc:Value)(b:Bool):Prop:=match d with
 | .ins c _=>∀ A,CT c=some A->ClsD K A/\W.kitOne K (.ref A) uc=some b
 | .err c=>∀ A,CT c=some A->ExCls K A/\W.kitOne K (.ref A) uc=some b
 | d=>W.kitOne K (.type (QcI d)) uc=some b
section
variable{C:Dc}{e cx:Expr}{E:SD->Out D}{p pos:Pos}{vc:V}{uc:Value}
theorem QN9{pins:‹"r"›}{σ:L2.St}{H:Hp}{s:Shared}{A:Around}{Ex:‹"m"›}{Q:‹"m"›}{d:D}{v:V}{u:Value}{b:Bool}(I:Inv C.X pins σ H s)(h:Rep C.X.K C.CT H d v)(r:RelV v u)(k:KitD C.X.K C.CT d uc b)
 (q:∀ tk,Q (.bool b) { s with toks:=tk }):wpAny (model C.X.prog C.X.w) A (call (.builtin "isinstance") [u,uc]) Q Ex s:=by
 cases d with
 | non=>cases h;cases r;exact W.kia_one W.kitx_none I.kIn True.intro k (fun z=>nomatch z) q
 | bl y=>cases h;cases r;exact W.kia_one W.kitx_bool I.kIn True.intro k (fun z=>nomatch z) q
 | int i=>cases h;obtain⟨t,rfl⟩:=r;exact W.kia_one W.kitx_int I.kIn True.intro k (fun z=>nomatch z) q
 | str i=>cases h;obtain⟨t,rfl⟩:=r;exact W.kia_one W.kitx_str I.kIn True.intro k (fun z=>nomatch z) q
 | lst ds=>
  obtain⟨a,vs,rfl,h2,_⟩:=h;cases r
  obtain⟨its,_,⟨o,n,ho,hc,_⟩,_⟩:=I.list h2
  exact W.kia_one W.kitx_list I.kIn ⟨o,ho,hc⟩ k (fun z=>nomatch z) q
 | tup ds=>
  obtain⟨a,vs,rfl,h2,_⟩:=h;cases r
  obtain⟨its,_,⟨o,ho,hc,_⟩,_⟩:=I.tuple h2
  exact W.kia_one W.kitx_tuple I.kIn ⟨o,ho,hc⟩ k (fun z=>nomatch z) q
 | dic ds=>
  obtain⟨a,kvs,rfl,h2,_⟩:=h;cases r
  obtain⟨_,_,vs,_,p⟩:=h2.ok I.hok
  obtain⟨o,es,ep,h1,h2,_⟩:=p
  exact W.kia_one W.kitx_dict I.kIn ⟨o,h1,h2.1⟩ k (fun z=>nomatch z) q
 | ins c fs=>
  obtain⟨a,A',dx,fs',rfl,h1,h2,_⟩:=h;cases r
  obtain⟨cd,kk⟩:=k A' h1
  obtain⟨mA,O,_⟩:=Qpp I.hok h2
  obtain⟨od,J,_⟩:=O.look
  exact W.kia_one (W.kitx_own (cd.cl.get _) cd.cl.hd cd.ha cd.hn cd.htk cd.hm) I.kIn J kk (fun z=>nomatch z) q
 | err c=>
  obtain⟨a,A',rfl,h1,h2⟩:=h;cases r
  obtain⟨cd,kk⟩:=k A' h1
  obtain⟨J,_⟩:=(show ObjOk C.X.prog C.X.w H s.heap a (exO a A') from I.hok a _ h2)
  exact W.kia_one (QMO cd) I.kIn J kk (fun z=>nomatch z) q
def clsV:V->Option Value
 | .ty n=>some (.type n)
 | .ref a=>some (.ref a)
 | _=>none
def eIsa(f:D->Out Bool)(a:SD->Out D):SD->Out D:=fun ς=>a ς>>=fun d=>f d>>=fun b=>.ok (.bl b)
theorem QQd{f:D->Out Bool}(hc:PE C.X cx (tC vc))(rc:clsV vc=some uc)(hf:∀ d,match f d with | .ok b=>KitD C.X.K C.CT d uc b | .exc _=>False | .stuck=>True)(hg:Gl C.X "isinstance")(hm:C.X.mg "isinstance"=none)(h:DB C e E)
 (he:starEach (e::[cx]) C.X.env=(false,eval e C.X.env)::starEach [cx] C.X.env:=by rfl) (he2:starEach (cx::[]) C.X.env=(false,eval cx C.X.env)::starEach [] C.X.env:=by rfl)
 (hpl:(backTo pos (starEach [cx] C.X.env)).any (·.1)=false:=by rfl):DE C (.Call (.Name "isinstance" p) [e,cx] [] pos) (eIsa f E):=by
 obtain⟨t,p1,q1⟩:=h
 have hR:CallR C.X (.builtin "isinstance") (fun xs H Q=>∃ d x b,xs=[x,vc]/\Rep C.X.K C.CT H d x/\KitD C.X.K C.CT d uc b/\Q (.bl b) H):=by
  intro pins s σ H xs us Q I r h
  obtain⟨d,x,b,rfl,h1,h2,q⟩:=h
  obtain⟨u,w,rfl,r1,r2⟩:=vals2 r
  have:w=uc:=by
   cases vc<;>first
    | (cases rc;cases r2;rfl)
    | cases rc
  subst this
  exact QN9 I h1 r1 h2 fun tk=>⟨.bl b,H,I.tok _,rfl,q⟩
 refine⟨_,Qvl hR hg hm PyProof.Rows.Boot.«isinstance» (Qbk p1 (Qbk hc Qdz he2) he) (by decide) (by decide) he hpl,fun G H σ ς Q S q=>?_⟩
 unfold eIsa at q
 rw[Out.post_bind]at q
 refine q1 G H σ ς _ S (Out.post_mono q fun d k v1 H1 G1 S1 a1 b1 r1=>?_)
 rw[Out.post_bind]at k
 have hd:=hf d
 cases e:f d with
 | exc _=>rw[e]at hd;exact hd.elim
 | stuck=>rw[e]at k;exact k.elim
 | ok b=>
  rw[e]at k hd
  exact⟨d,v1,b,rfl,r1,hd,KD.now (KD.later (show KD C G H σ ς Q (.bl b) from k) a1 b1) S1 rfl⟩
end
end DL
namespace DL
open PySem PySem.Spec PyProof.Rows L2
section
variable{C:Dc}{G H:Hp}{σ:St}{ς:SD}
theorem Qs{α:Type}{xs:List α}{i j:Nat}{x y:α}(h:(xs.set i x)[j]?=some y):(i=j/\y=x/\i<xs.length)∨(i≠j/\xs[j]?=some y):=by
 rw[List.getElem?_set]at h
 by_cases e:i=j
 ·rw[if_pos e]at h
  by_cases l:i<xs.length
  ·rw[if_pos l]at h;exact .inl ⟨e,(Option.some.inj h).symm,l⟩
  ·rw[if_neg l]at h;cases h
 ·rw[if_neg e]at h;exact .inr ⟨e,h⟩
theorem Qhd{α:Type}{xs:List α}{i:Nat}{x:α}(h:i<xs.length):(xs.set i x)[i]?=some x:=by
 rw[List.getElem?_set,if_pos rfl,if_pos h]
theorem Qn{α:Type}{xs:List α}{i j:Nat}{x:α}(h:i≠j):(xs.set i x)[j]?=xs[j]?:=by
 rw[List.getElem?_set,if_neg h]
theorem StR.set(S:‹"au"›){d:D}{v:V}(i:Nat)(r:Rep C.X.K C.CT G d v):StR C G H (σ.set i (some v)) (ς.set i (some (.k,d))) where
 toGH:=S.toGH
 len:=by rw[List.length_set,List.length_set];exact S.len
 fz:=fun j e h=>by
  rcases Qs h with⟨rfl,h2,l⟩ | ⟨ne,h2⟩
  ·cases h2
   exact⟨v,Qhd (by rw[S.len];exact l),r⟩
  ·rw[Qn ne];exact S.fz j e h2
 ow:=fun j e h=>by
  rcases Qs h with⟨rfl,h2,l⟩ | ⟨ne,h2⟩
  ·cases h2
  ·rw[Qn ne];exact S.ow j e h2
 ln:=fun j e h=>by
  rcases Qs h with⟨rfl,h2,l⟩ | ⟨ne,h2⟩
  ·cases h2
  ·rw[Qn ne];exact S.ln j e h2
 inj:=fun j k d1 d2 p hjk h1 h2 h3=>by
  rcases Qs h1 with⟨rfl,q1,l⟩ | ⟨n1,q1⟩
  ·cases q1
  ·rcases Qs h2 with⟨rfl,q2,l⟩ | ⟨n2,q2⟩
   ·cases q2
   ·rw[Qn n1]at h3
    rw[Qn n2];exact S.inj j k d1 d2 p hjk q1 q2 h3
 sf:=fun j e h=>by
  rcases Qs h with⟨rfl,h2,l⟩ | ⟨ne,h2⟩
  ·cases h2
  ·rw[Qn ne];exact S.sf j e h2
 su:=fun j k d1 d2 p hjk h1 h2 h3=>by
  rcases Qs h1 with⟨rfl,q1,l⟩ | ⟨n1,q1⟩
  ·cases q1
  ·rcases Qs h2 with⟨rfl,q2,l⟩ | ⟨n2,q2⟩
   ·cases q2
   ·rw[Qn n1]at h3
    rw[Qn n2];exact S.su j k d1 d2 p hjk q1 q2 h3
theorem StR.setO(S:‹"au"›){d:D}{p:Addr}(i:Nat)(hg:G p=none)(h0:C.X.H₀ p=none)(ow:Own C.X.K C.CT G H p d)(hn:∀(j:Nat) e,j≠i->ς[j]?=some (some (.o,e))->σ[j]?≠some ‹"aT"›):
 StR C G H (σ.set i ‹"aT"›) (ς.set i (some (.o,d))) where
 toGH:=S.toGH
 len:=by rw[List.length_set,List.length_set];exact S.len
 fz:=fun j e h=>by
  rcases Qs h with⟨rfl,h2,l⟩ | ⟨ne,h2⟩
  ·cases h2
  ·rw[Qn ne];exact S.fz j e h2
 ow:=fun j e h=>by
  rcases Qs h with⟨rfl,h2,l⟩ | ⟨ne,h2⟩
  ·cases h2
   exact⟨p,Qhd (by rw[S.len];exact l),hg,h0,ow⟩
  ·rw[Qn ne];exact S.ow j e h2
 ln:=fun j e h=>by
  rcases Qs h with⟨rfl,h2,l⟩ | ⟨ne,h2⟩
  ·cases h2
  ·rw[Qn ne];exact S.ln j e h2
 inj:=fun j k d1 d2 q hjk h1 h2 h3=>by
  rcases Qs h1 with⟨rfl,q1,l1⟩ | ⟨n1,q1⟩
  ·rcases Qs h2 with⟨rfl,q2,l⟩ | ⟨n2,q2⟩
   ·exact absurd rfl hjk
   ·rw[Qhd (by rw[S.len];exact l1)]at h3
    cases h3
    rw[Qn n2];exact hn k d2 (Ne.symm n2) q2
  ·rcases Qs h2 with⟨rfl,q2,l⟩ | ⟨n2,q2⟩
   ·rw[Qn n1]at h3
    rw[Qhd (by rw[S.len];exact l)]
    intro z;cases z
    exact hn j d1 (Ne.symm n1) q1 h3
   ·rw[Qn n1]at h3
    rw[Qn n2];exact S.inj j k d1 d2 q hjk q1 q2 h3
 sf:=fun j e h=>by
  rcases Qs h with⟨rfl,h2,l⟩ | ⟨ne,h2⟩
  ·cases h2
  ·rw[Qn ne];exact S.sf j e h2
 su:=fun j k d1 d2 p hjk h1 h2 h3=>by
  rcases Qs h1 with⟨rfl,q1,l⟩ | ⟨n1,q1⟩
  ·cases q1
  ·rcases Qs h2 with⟨rfl,q2,l⟩ | ⟨n2,q2⟩
   ·cases q2
   ·rw[Qn n1]at h3
    rw[Qn n2];exact S.su j k d1 d2 p hjk q1 q2 h3
end
def sNil:SD->Out Fl:=fun ς=>.ok (.nx ς)
def thenF(U:SD->Out Fl):Fl->Out Fl
 | .nx ς=>U ς
 | .rt b d=>.ok (.rt b d)
 | .bk ς=>.ok (.bk ς)
 | .ct ς=>.ok (.ct ς)
def sSeq(T U:SD->Out Fl):SD->Out Fl:=fun ς=>T ς>>=thenF U
section
variable{C:Dc}{e:Expr}{E:SD->Out D}{st:Stmt}{rest:List Stmt}{T U:SD->Out Fl}{pos:Pos}
theorem FlK.later{G G1:Hp}{W:Ends}{f:Fl}(h:FlK C G W f)(s:Same G G1):FlK C G1 W f:=by
 cases f with
 | nx ς=>exact fun σ' H' G' S q=>h σ' H' G' S (s.trans q)
 | bk ς=>exact fun σ' H' G' S q=>h σ' H' G' S (s.trans q)
 | ct ς=>exact fun σ' H' G' S q=>h σ' H' G' S (s.trans q)
 | rt b d=>exact fun σ' H' G' S q=>h σ' H' G' S (s.trans q)
theorem QZ:DSs C [] sNil:=⟨_,Qzi,fun G H σ ς W S q=>q σ H G S (Same.refl G)⟩
theorem Qg(h1:DS C st T)(h2:DSs C rest U):DSs C (st::rest) (sSeq T U):=by
 obtain⟨t1,p1,q1⟩:=h1
 obtain⟨t2,p2,q2⟩:=h2
 refine⟨_,Qg8 p1 p2,fun G H σ ς W S q=>?_⟩
 unfold sSeq at q
 rw[Out.post_bind]at q
 refine q1 G H σ ς _ S (Out.post_mono q fun f k=>?_)
 cases f with
 | nx ς'=>exact fun σ' H' G' S' s'=>q2 G' H' σ' ς' W S' (Out.post_mono (show(U ς').post _ _ from k) fun f k=>FlK.later k s')
 | bk ς'=>exact k
 | ct ς'=>exact k
 | rt b d=>exact k
theorem Qh(h1:DS C st T):DSs C [st] T:=let ⟨t,p,q⟩:=h1;⟨t,QtZ p,q⟩
def sSet(i:Nat)(E:SD->Out D):SD->Out Fl:=fun ς=>E ς>>=fun d=>.ok (.nx (ς.set i (some (.k,d))))
def sSetO(i:Nat)(E:SD->Out D):SD->Out Fl:=fun ς=>E ς>>=fun d=>.ok (.nx (ς.set i (some (.o,d))))
theorem QG{i:Nat}{x:Str}{pos':Pos}(hN:C.X.N.Nodup)(hi:C.X.N[i]?=some x)(hx:Loc C.X.env.scope x)(he:DE C e E)(hs:swapsWith e (some (.Name x pos')) pos.line C.X.env=pure false:=by rfl)
 (hf:C.X.fn x=true∨C.X.env.scope.names.lookup x=some .local:=by first | exact .inl rfl | exact .inr rfl | assumption):DS C (.Assign [.Name x pos'] e pos) (sSet i E):=by
 obtain⟨t,p,q⟩:=he
 refine⟨_,QwA hN hi hx p hs hf,fun G H σ ς W S k=>?_⟩
 unfold sSet at k
 rw[Out.post_bind]at k
 exact q G H σ ς _ S (Out.post_mono k fun d k v H1 G1 S1 a1 b1 r1=>k _ H1 G1 (S1.set i r1) b1)
theorem Qcf{i:Nat}{x:Str}{pos':Pos}(hN:C.X.N.Nodup)(hi:C.X.N[i]?=some x)(hx:Loc C.X.env.scope x)(he:DF C e E)(hs:swapsWith e (some (.Name x pos')) pos.line C.X.env=pure false:=by rfl)
 (hf:C.X.fn x=true∨C.X.env.scope.names.lookup x=some .local:=by first | exact .inl rfl | exact .inr rfl | assumption):DS C (.Assign [.Name x pos'] e pos) (sSetO i E):=by
 obtain⟨t,p,q⟩:=he
 refine⟨_,QwA hN hi hx p hs hf,fun G H σ ς W S k=>?_⟩
 unfold sSetO at k
 rw[Out.post_bind]at k
 exact q G H σ ς _ S (Out.post_mono k fun d k p H1 G1 S1 a1 b1 hp hg ow=>k _ H1 G1 (S1.setO i hg (S.h0none hp) ow fun j e _ z=>S.new_ne hp j e z) b1)
def sPar(i j:Nat)(A:‹"ak"›):SD->Out Fl:=fun ς=>A ς>>=fun ds=>match ds with
 | [x,y]=>.ok (.nx ((ς.set i (some (.k,x))).set j (some (.k,y))))
 | _=>.stuck
def Qax:List Nat->List D->SD->Out SD
 | [],[],ς=>.ok ς
 | i::is,d::ds,ς=>Qax is ds (ς.set i (some (.k,d)))
 | _,_,_=>.stuck
def DGs(C:Dc)(es:List Expr)(is:List Nat):Prop:=∃ t,PGs C.X es t/\∀ G H σ ς ds vs ς' (Q:St->Hp->Prop),StR C G H σ ς->RepL C.X.K C.CT G ds vs->Qax is ds ς=.ok ς'->
 (∀ σ',StR C G H σ' ς'->Q σ' H)->t vs σ H Q
theorem Qfc:DGs C [] []:=by
 refine⟨_,QOg,fun G H σ ς ds vs ς' Q S r h q=>?_⟩
 cases ds with
 | nil=>
  cases h
  exact⟨r,q σ S⟩
 | cons d ds=>cases h
theorem Qah{i:Nat}{is:List Nat}{x:Str}{es:List Expr}(hN:C.X.N.Nodup)(hi:C.X.N[i]?=some x)(hx:Loc C.X.env.scope x)(h2:DGs C es is)
 (hf:C.X.fn x=true∨C.X.env.scope.names.lookup x=some .local:=by first | exact .inl rfl | exact .inr rfl | assumption)
 (hs:(assignEach (.Name x pos::es) C.X.env).map (·.2)=assign (.Name x pos) C.X.env::(assignEach es C.X.env).map (·.2):=by rfl):DGs C (.Name x pos::es) (i::is):=by
 obtain⟨t,p,q⟩:=h2
 refine⟨_,QNV (QyN hN hi hx hf) p hs,fun G H σ ς ds vs ς' Q S r h k=>?_⟩
 cases ds with
 | nil=>cases h
 | cons d ds=>
  obtain⟨v,w,rfl,r1,r2⟩:=r
  exact⟨v,w,rfl,q G H _ _ ds w ς' Q (S.set i r1) r2 h k⟩
def sUnp(is:List Nat)(E:SD->Out D):SD->Out Fl:=fun ς=>E ς>>=fun d=>match d with
 | .tup ds=>Qax is ds ς>>=fun ς'=>.ok (.nx ς')
 | _=>.stuck
theorem QqJ:∀{is:List Nat}{ds:List D}{ς ς':SD},Qax is ds ς=.ok ς'->ds.length=is.length
 | [],[],_,_,_=>rfl
 | i::is,d::ds,ς,ς',h=>by
  have:=QqJ (is:=is) (ds:=ds) h
  simp[this]
 | [],_::_,_,_,h=>by cases h
 | _::_,[],_,_,h=>by cases h
theorem QDh{es:List Expr}{is:List Nat}{k:Nat}{pt:Pos}(hc:C.X.calm=true)(he:DE C e E)(hg:DGs C es is)(hn:(assignEach es C.X.env).length=is.length:=by rfl)(hst:(assignEach es C.X.env).findIdx? (·.1)=none:=by rfl)
 (hs:swapsWithSole [.Tuple es k pt] e pos.line C.X.env=pure false:=by rfl) (hw:swappedStores [.Tuple es k pt] e C.X.env=pure none:=by rfl)
 (h1:(assignEach [.Tuple es k pt] C.X.env).map (·.2)=[assign (.Tuple es k pt) C.X.env]:=by rfl):DS C (.Assign [.Tuple es k pt] e pos) (sUnp is E):=by
 obtain⟨t,p,q⟩:=he
 obtain⟨t2,p2,q2⟩:=hg
 refine⟨_,QEL p (QKz hc p2 hn hst) hs hw h1,fun G H σ ς W S k=>?_⟩
 unfold sUnp at k
 rw[Out.post_bind]at k
 refine q G H σ ς _ S (Out.post_mono k fun d k v H1 G1 S1 a1 b1 r1=>?_)
 cases d with
 | tup ds=>
  obtain⟨a,vs,rfl,h2,h3⟩:=r1
  have k':(Qax is ds ς>>=fun ς'=>Out.ok (Fl.nx ς')).post (FlK C G W) C.XD:=k
  rw[Out.post_bind]at k'
  cases z:Qax is ds ς with
  | exc _=>exact absurd z (by
   have:∀(is:List Nat) (ds:List D) (ς:SD) x,Qax is ds ς≠.exc x:=by
    intro is
    induction is with
    | nil=>intro ds ς x h;cases ds<;>cases h
    | cons i is ih=>intro ds ς x h;cases ds with
     | nil=>cases h
     | cons d ds=>exact ih ds _ x h
   exact this is ds ς _)
  | stuck=>rw[z]at k';exact k'.elim
  | ok ς'=>
   rw[z]at k'
   refine⟨a,vs,rfl,Same.sqT S1.sub h2,by rw[← h3.length];exact QqJ z,?_⟩
   exact q2 G1 H1 σ ς ds vs ς' _ S1 h3 z fun σ' S'=>k' σ' H1 G1 S' b1
 | _=>exact k.elim
def sRet(E:SD->Out D):SD->Out Fl:=fun ς=>E ς>>=fun d=>.ok (.rt false d)
def sRetF(E:SD->Out D):SD->Out Fl:=fun ς=>E ς>>=fun d=>.ok (.rt true d)
theorem QE(he:DE C e E):DS C (.Return (some e) pos) (sRet E):=by
 obtain⟨t,p,q⟩:=he
 refine⟨_,Qv4 p,fun G H σ ς W S k=>?_⟩
 unfold sRet at k
 rw[Out.post_bind]at k
 exact q G H σ ς _ S (Out.post_mono k fun d k v H1 G1 S1 a1 b1 r1=>k v H1 G1 S1.toGH b1 r1)
theorem QcZ(he:DF C e E):DS C (.Return (some e) pos) (sRetF E):=by
 obtain⟨t,p,q⟩:=he
 refine⟨_,Qv4 p,fun G H σ ς W S k=>?_⟩
 unfold sRetF at k
 rw[Out.post_bind]at k
 exact q G H σ ς _ S (Out.post_mono k fun d k p H1 G1 S1 a1 b1 hp hg ow=>k _ H1 G1 S1.toGH b1 ⟨p,rfl,S.h0none hp,hg,ow⟩)
def sRetO(i:Nat):SD->Out Fl:=fun ς=>match ς[i]? with | some (some (.o,d))=>.ok (.rt true d) | _=>.stuck
theorem QpN(i:Nat){x:Str}{px:Pos}(hN:C.X.N[i]?=some x:=by rfl)(hv:‹"bI"›:=by first | exact Or.inl rfl | exact Or.inr (Or.inl rfl) | exact Or.inr (Or.inr rfl))
 (hd:‹"f"›:=by decide) (hcd:‹"t"›:=by decide):DS C (.Return (some (.Name x px)) pos) (sRetO i):=by
 refine⟨_,Qv4 ‹"aI"›,fun G H σ ς W S k=>?_⟩
 unfold sRetO at k
 split at k
 ·rename_i d z
  obtain⟨p,a,b,c,w⟩:=S.ow i d z
  exact⟨_,a,k _ H G S.toGH (Same.refl G) ⟨p,rfl,c,b,w⟩⟩
 ·exact k.elim
def sIf(c:SD->Out Bool)(T U:SD->Out Fl):SD->Out Fl:=fun ς=>c ς>>=fun b=>if b=true then T ς else U ς
theorem ds_if{c:Expr}{a b:List Stmt}{TC:SD->Out Bool}(hc:DT C c TC)(ha:DSs C a T)(hb:DSs C b U):DS C (.If c a b pos) (sIf TC T U):=by
 obtain⟨t0,p0,q0⟩:=hc
 obtain⟨t1,p1,q1⟩:=ha
 obtain⟨t2,p2,q2⟩:=hb
 refine⟨_,ps_if p0 p1 p2,fun G H σ ς W S k=>?_⟩
 unfold sIf at k
 rw[Out.post_bind]at k
 refine q0 G H σ ς _ S (Out.post_mono k fun b k H1 G1 S1 a1 b1=>?_)
 cases b with
 | true=>exact iteT (q1 G1 H1 σ ς W S1 (Out.post_mono (show(T ς).post _ _ from k) fun f k=>FlK.later k b1))
 | false=>exact iteF (q2 G1 H1 σ ς W S1 (Out.post_mono (show(U ς).post _ _ from k) fun f k=>FlK.later k b1))
def Qhx:SD->Out Fl:=fun _=>.stuck
theorem QfA:DS C st Qhx:=⟨_,QNk,fun G H σ ς W S k=>k.elim⟩
end
def loopD(body:D->SD->Out Fl):List D->SD->Out Fl
 | [],ς=>.ok (.nx ς)
 | x::xs,ς=>body x ς>>=fun f=>match f with
  | .nx ς'=>loopD body xs ς'
  | .ct ς'=>loopD body xs ς'
  | .bk ς'=>.ok (.nx ς')
  | .rt b d=>.ok (.rt b d)
def DG(C:Dc)(tg:Expr)(g:D->SD->Out SD):Prop:=∃ t,PG C.X tg t/\∀ G H σ ς d v ς' (Q:St->Hp->Prop),StR C G H σ ς->Rep C.X.K C.CT G d v->g d ς=.ok ς'->(∀ σ',StR C G H σ' ς'->Q σ' H)->t v σ H Q
def gN(i:Nat):D->SD->Out SD:=fun d ς=>.ok (ς.set i (some (.k,d)))
def gT(is:List Nat):D->SD->Out SD:=fun d ς=>match d with | .tup ds=>Qax is ds ς | _=>.stuck
def noExc{α β γ : Type}(g:α->β->Out γ):Prop:=∀ a b x,g a b≠.exc x
theorem QA(i:Nat):noExc (gN i):=fun _ _ _ h=>by cases h
theorem QB2(is:List Nat):∀(ds:List D) (ς:SD) x,Qax is ds ς≠.exc x:=by
 induction is with
 | nil=>intro ds ς x h;cases ds<;>cases h
 | cons i is ih=>intro ds ς x h;cases ds with
  | nil=>cases h
  | cons d ds=>exact ih ds _ x h
theorem Qha(is:List Nat):noExc (gT is):=fun d ς x h=>by
 cases d with
 | tup ds=>exact QB2 is ds ς x h
 | _=>cases h
section
variable{C:Dc}{e tg iter:Expr}{E:SD->Out D}{body:List Stmt}{T U:SD->Out Fl}{pos:Pos}{g:D->SD->Out SD}
theorem QD{i:Nat}{x:Str}(hN:C.X.N.Nodup)(hi:C.X.N[i]?=some x)(hx:Loc C.X.env.scope x)
 (hf:C.X.fn x=true∨C.X.env.scope.names.lookup x=some .local:=by first | exact .inl rfl | exact .inr rfl | assumption):DG C (.Name x pos) (gN i):=
 ⟨_,QyN hN hi hx hf,fun G H σ ς d v ς' Q S r h k=>by cases h;exact k _ (S.set i r)⟩
theorem Qmo{es:List Expr}{is:List Nat}{k:Nat}(hc:C.X.calm=true)(hg:DGs C es is)(hn:(assignEach es C.X.env).length=is.length:=by rfl)(hst:(assignEach es C.X.env).findIdx? (·.1)=none:=by rfl):
 DG C (.Tuple es k pos) (gT is):=by
 obtain⟨t2,p2,q2⟩:=hg
 refine⟨_,QKz hc p2 hn hst,fun G H σ ς d v ς' Q S r h k=>?_⟩
 cases d with
 | tup ds=>
  obtain⟨a,vs,rfl,h2,h3⟩:=r
  exact⟨a,vs,rfl,Same.sqT S.sub h2,by rw[← h3.length];exact QqJ h,q2 G H σ ς ds vs ς' Q S h3 h k⟩
 | _=>cases h
def sFor(g:D->SD->Out SD)(its:‹"ak"›)(T:SD->Out Fl):SD->Out Fl:=fun ς=>its ς>>=fun xs=>loopD ‹"ai"› xs ς
def itL(E:SD->Out D):SD->Out (List D):=fun ς=>E ς>>=fun d=>match d with | .lst xs=>.ok xs | _=>.stuck
theorem turnD{W:Ends}{x:D}{v:V}{xs:List D}{G H:Hp}{σ:St}{ς:SD}{tb:TS}{tt:TG}{N:L2.St->Hp->Prop}(hne:noExc g)
 (hg:∀ G H σ ς d v ς' (Q:St->Hp->Prop),StR C G H σ ς->Rep C.X.K C.CT G d v->g d ς=.ok ς'->(∀ σ',StR C G H σ' ς'->Q σ' H)->tt v σ H Q)
 (hb:∀ G H σ ς W,StR C G H σ ς->(T ς).post (FlK C G W) C.XD->tb W σ H)
 (S:‹"au"›) (r:Rep C.X.K C.CT G x v) (q:(loopD ‹"ai"› (x::xs) ς).post (FlK C G W) C.XD)
 (hN:∀ σ' H' G' ς',StR C G' H' σ' ς'->Same G G'->(loopD ‹"ai"› xs ς').post (FlK C G' W) C.XD->N σ' H'):
 tt v σ H fun σ2 H2=>tb { W with nx:=N,ct:=N,bk:=W.nx } σ2 H2:=by
 have q':((g x ς>>=fun ς'=>T ς')>>=fun f=>match f with
  | .nx ς'=>loopD ‹"ai"› xs ς'
  | .ct ς'=>loopD ‹"ai"› xs ς'
  | .bk ς'=>.ok (.nx ς')
  | .rt b d=>.ok (.rt b d)).post (FlK C G W) C.XD:=q
 rw[Out.post_bind,Out.post_bind]at q'
 cases z:g x ς with
 | exc y=>exact absurd z (hne _ _ _)
 | stuck=>rw[z]at q';exact q'.elim
 | ok ς1=>
  rw[z]at q'
  refine hg G H σ ς x v ς1 _ S r z fun σ1 S1=>hb G H σ1 ς1 _ S1 (Out.post_mono q' fun f k=>?_)
  cases f with
  | nx ς'=>exact fun σ' H' G' S' s'=>hN σ' H' G' ς' S' s' ‹"du"›
  | ct ς'=>exact fun σ' H' G' S' s'=>hN σ' H' G' ς' S' s' ‹"du"›
  | bk ς'=>exact fun σ' H' G' S' s'=>(show FlK C G W (.nx ς') from k) σ' H' G' S' s'
  | rt b d=>exact k
theorem QzK{α:Type}{xs:List α}{i:Nat}{x:α}(h:xs[i]?=some x):xs.drop i=x::xs.drop (i+1):=by
 obtain⟨l,e⟩:=List.getElem?_eq_some_iff.mp h
 rw[List.drop_eq_getElem_cons l,e]
def QbT(lo:Int)(n:Nat):List D:=(List.range n).map fun(i:Nat)=>D.int (lo+i)
theorem QIN{lo:Int}{n i:Nat}(h:i<n):(QbT lo n)[i]?=some (D.int (lo+i)):=by
 unfold QbT
 rw[List.getElem?_map,List.getElem?_range h];rfl
theorem Qwb{lo:Int}{n:Nat}:(QbT lo n).length=n:=by simp[QbT]
def Qo8(i:Int):Bool:=decide (-(2 ^ 62)<=i)&&decide (i<2 ^ 62)
def itR1(A:SD->Out D):SD->Out (List D):=fun ς=>A ς>>=fun d=>match d with
 | .int n=>if Qo8 n=true then .ok (QbT 0 n.toNat) else .stuck
 | _=>.stuck
theorem QJ1{i:Int}(h:Qo8 i=true) : -(2 ^ 62)<=i/\i<2 ^ 62:=by
 unfold Qo8 at h
 rw[Bool.and_eq_true]at h
 exact⟨of_decide_eq_true h.1,of_decide_eq_true h.2⟩
def QF(c:SD->Out Bool)(b:SD->Out Fl):Nat->SD->Out Fl
 | 0,_=>.stuck
 | n+1,ς=>c ς>>=fun t=>if t=true then b ς>>=fun f=>match f with
  | .nx ς'=>QF c b n ς'
  | .ct ς'=>QF c b n ς'
  | .bk ς'=>.ok (.nx ς')
  | .rt b d=>.ok (.rt b d)
  else .ok (.nx ς)
def QDP(m:SD->Nat)(c:SD->Out Bool)(b:SD->Out Fl):SD->Out Fl:=fun ς=>QF c b (m ς) ς
theorem QNw(m:SD->Nat){c:Expr}{TC:SD->Out Bool}(hp:‹"aL"›)(hc:DT C c TC)(hb:DSs C body T):DS C (.While c body [] pos) (QDP m TC T):=by
 obtain⟨t0,p0,q0⟩:=hc
 obtain⟨t1,p1,q1⟩:=hb
 refine⟨_,QNu hp p0 p1,fun G H σ ς W S k=>?_⟩
 refine⟨fun n σ' H'=>∃ G' ς',StR C G' H' σ' ς'/\(QF TC T n ς').post (FlK C G' W) C.XD,⟨m ς,G,ς,S,k⟩,?_⟩
 rintro n σ' H' ⟨G',ς',S',k'⟩
 cases n with
 | zero=>exact k'.elim
 | succ n=>
  rw[QF,Out.post_bind]at k'
  refine q0 G' H' σ' ς' _ S' (Out.post_mono k' fun b k H1 G1 S1 a1 b1=>?_)
  cases b with
  | false=>exact iteF ((show FlK C G' W (.nx ς') from k) σ' H1 G1 S1 b1)
  | true=>
   rw[if_pos rfl,Out.post_bind]at k
   refine iteT ⟨fun σ2 H2=>∃ G2 ς2,StR C G2 H2 σ2 ς2/\(QF TC T n ς2).post (FlK C G2 W) C.XD,fun σ2 H2 h=>⟨n,Nat.lt_succ_self n,h⟩,?_⟩
   refine q1 G1 H1 σ' ς' _ S1 (Out.post_mono k fun f k=>?_)
   cases f with
   | nx ς2=>exact fun σ2 H2 G2 S2 s2=>⟨G2,ς2,S2,Out.post_mono (show(QF TC T n ς2).post _ _ from k) fun f k=>FlK.later k (b1.trans s2)⟩
   | ct ς2=>exact fun σ2 H2 G2 S2 s2=>⟨G2,ς2,S2,Out.post_mono (show(QF TC T n ς2).post _ _ from k) fun f k=>FlK.later k (b1.trans s2)⟩
   | bk ς2=>exact fun σ2 H2 G2 S2 s2=>(show FlK C G' W (.nx ς2) from k) σ2 H2 G2 S2 (b1.trans s2)
   | rt b d=>exact FlK.later (show FlK C G' W (.rt b d) from k) b1
noncomputable def fuelC(c:SD->Out Bool)(b:SD->Out Fl)(ς:SD):Nat:=by
 classical exact if h:∃ n,QF c b n ς≠.stuck then Classical.choose h else 0
noncomputable def Qb1(c:SD->Out Bool)(b:SD->Out Fl):SD->Out Fl:=QDP (fuelC c b) c b
theorem QLp{c:Expr}{TC:SD->Out Bool}(hp:‹"aL"›)(hc:DT C c TC)(hb:DSs C body T):DS C (.While c body [] pos) (Qb1 TC T):=QNw (fuelC TC T) hp hc hb
theorem Qof{c:SD->Out Bool}{b:SD->Out Fl}:∀(n:Nat)(ς:SD),QF c b n ς≠.stuck->QF c b (n+1) ς=QF c b n ς
 | 0,ς,h=>absurd rfl h
 | n+1,ς,h=>by
  rw[QF,QF]
  rw[QF]at h
  cases hc:c ς with
  | stuck=>rfl
  | exc _=>rfl
  | ok t=>
   rw[hc]at h
   cases t with
   | false=>rfl
   | true=>
    have h':(b ς>>=fun f=>match f with
     | .nx ς'=>QF c b n ς'
     | .ct ς'=>QF c b n ς'
     | .bk ς'=>.ok (.nx ς')
     | .rt b d=>.ok (.rt b d))≠.stuck:=h
    show(b ς>>=fun f=>match f with
     | .nx ς'=>QF c b (n+1) ς'
     | .ct ς'=>QF c b (n+1) ς'
     | .bk ς'=>.ok (.nx ς')
     | .rt b d=>.ok (.rt b d))=(b ς>>=fun f=>match f with
     | .nx ς'=>QF c b n ς'
     | .ct ς'=>QF c b n ς'
     | .bk ς'=>.ok (.nx ς')
     | .rt b d=>.ok (.rt b d))
    cases hb:b ς with
    | stuck=>rfl
    | exc _=>rfl
    | ok f=>
     rw[hb]at h'
     cases f with
     | nx ς'=>exact Qof n ς' h'
     | ct ς'=>exact Qof n ς' h'
     | bk _=>rfl
     | rt _ _=>rfl
theorem Qsm{c:SD->Out Bool}{b:SD->Out Fl}{ς:SD}{n:Nat}(h:QF c b n ς≠.stuck):∀ k,QF c b (n+k) ς=QF c b n ς
 | 0=>rfl
 | k+1=>by
  have ih:=Qsm h k
  rw[← Nat.add_assoc,Qof (n+k) ς (by rw[ih];exact h),ih]
theorem Qdv{c:SD->Out Bool}{b:SD->Out Fl}{ς:SD}(n:Nat)(h:QF c b n ς≠.stuck):Qb1 c b ς=QF c b n ς:=by
 have hx:∃ n,QF c b n ς≠.stuck:=⟨n,h⟩
 have e:fuelC c b ς=Classical.choose hx:=by unfold fuelC;rw[dif_pos hx]
 unfold Qb1 QDP
 rw[e]
 have h2:=Classical.choose_spec hx
 generalize Classical.choose hx=m at h2 ⊢
 rcases Nat.le_total n m with hl | hl
 ·obtain⟨k,rfl⟩:=Nat.exists_eq_add_of_le hl
  exact Qsm h k
 ·obtain⟨k,rfl⟩:=Nat.exists_eq_add_of_le hl
  exact(Qsm h2 k).symm
theorem QgL{c:SD->Out Bool}{b:SD->Out Fl}{ς:SD}(h:∀ n,QF c b n ς=.stuck):Qb1 c b ς=.stuck:=h _
theorem QpO(c:SD->Out Bool)(b:SD->Out Fl)(ς:SD):Qb1 c b ς=(c ς>>=fun t=>if t=true then b ς>>=fun f=>match f with
 | .nx ς'=>Qb1 c b ς'
 | .ct ς'=>Qb1 c b ς'
 | .bk ς'=>.ok (.nx ς')
 | .rt b d=>.ok (.rt b d)
 else .ok (.nx ς)):=by
 have key:∀ n,QF c b (n+1) ς≠.stuck->Qb1 c b ς=QF c b (n+1) ς:=fun n h=>Qdv _ h
 cases hc:c ς with
 | stuck=>exact QgL fun n=>by cases n with | zero=>rfl | succ n=>rw[QF,hc];rfl
 | exc x=>exact(Qdv 1 (by rw[QF,hc];exact fun z=>nomatch z)).trans (by rw[QF,hc];rfl)
 | ok t=>
  cases t with
  | false=>exact(Qdv 1 (by rw[QF,hc];exact fun z=>nomatch z)).trans (by rw[QF,hc];rfl)
  | true=>
   cases hb:b ς with
   | stuck=>exact(QgL fun n=>by cases n with | zero=>rfl | succ n=>rw[QF,hc];show(b ς>>=_)=_;rw[hb];rfl).trans (by show _=Out.stuck;rfl)
   | exc x=>exact(Qdv 1 (by rw[QF,hc];show(b ς>>=_)≠_;rw[hb];exact fun z=>nomatch z)).trans (by rw[QF,hc];show(b ς>>=_)=_;rw[hb];rfl)
   | ok f=>
    have go:∀ ς',(f=.nx ς'∨f=.ct ς')->(∀ n,QF c b (n+1) ς=QF c b n ς')->Qb1 c b ς=Qb1 c b ς':=fun ς' _ e=>by
     by_cases hx:∃ n,QF c b n ς'≠.stuck
     ·obtain⟨n,hn⟩:=hx
      rw[Qdv n hn,Qdv (n+1) (by rw[e];exact hn),e]
     ·have hs:∀ n,QF c b n ς'=.stuck:=fun n=>Classical.byContradiction fun z=>hx ⟨n,z⟩
      rw[QgL hs]
      exact QgL fun n=>by cases n with | zero=>rfl | succ n=>rw[e];exact hs n
    cases f with
    | nx ς'=>exact go ς' (.inl rfl) fun n=>by rw[QF,hc];show(b ς>>=_)=_;rw[hb];rfl
    | ct ς'=>exact go ς' (.inr rfl) fun n=>by rw[QF,hc];show(b ς>>=_)=_;rw[hb];rfl
    | bk ς'=>exact(Qdv 1 (by rw[QF,hc];show(b ς>>=_)≠_;rw[hb];exact fun z=>nomatch z)).trans (by rw[QF,hc];show(b ς>>=_)=_;rw[hb];rfl)
    | rt r d=>exact(Qdv 1 (by rw[QF,hc];show(b ς>>=_)≠_;rw[hb];exact fun z=>nomatch z)).trans (by rw[QF,hc];show(b ς>>=_)=_;rw[hb];rfl)
end
end DL
namespace DL
open PySem PySem.Spec PyProof.Rows L2
def RetG(K:W.Frag)(CT:CTab)(fr:Bool)(H0 G' H':Hp)(d:D)(v:V):Prop:=
 if (fr && !d.scal)=true then ∃ p,v=.ref p/\H0 p=none/\G' p=none/\Own K CT G' H' p d else Rep K CT G' d v
def retF(fr:Bool):Fl->Out D
 | .rt b d=>if (!fr||b||d.scal)=true then .ok d else .stuck
 | .nx _=>.ok .non
 | _=>.stuck
def bodyF(fr:Bool)(n len:Nat)(T:SD->Out Fl):List D->Out D:=fun ds=>
 if ds.length=n then T (ds.map (fun d=>some (.k,d))++List.replicate (len - n) none)>>=retF fr else .stuck
def SpD(K:W.Frag)(CT:CTab)(fr:Bool)(m:List D->Out D):Sp:=fun vs H Q _=>∃ ds G0,Same G0 H/\RepL K CT G0 ds vs/\
 (m ds).post ‹"be"› (fun _=>False)
structure FunV(K:W.Frag)(x qual:Str)(st:Stmt)(f:Addr)(fd:FuncData)(dV:Value):Prop where
 ex:∃(oc:Value)(od:Option Addr)(kV doc pm:Value)(an:Option Addr)(cdv ct:Value)(osl:Array (Option Value)),
  fd=W.fnOf x qual (Qq st) (Qp st) (Qa st) dV kV doc pm an cdv ct/\K.lookup f=some ⟨oc,od,.func fd,osl⟩/\W.codeIn K cdv qual=true
 kp:W.keepIn K (.ref f)=true
theorem Qw{K:W.Frag}{x qual:Str}{st:Stmt}{f:Addr}{oc:Value}{od an:Option Addr}{osl:Array (Option Value)}{dV kV doc pm cdv ct:Value}(l:K.lookup f=some ⟨oc,od,.func (W.fnOf x qual (Qq st) (Qp st) (Qa st) dV kV doc pm an cdv ct),osl⟩)
 (c:W.codeIn K cdv qual=true) (k:W.keepIn K (.ref f)=true):FunV K x qual st f (W.fnOf x qual (Qq st) (Qp st) (Qa st) dV kV doc pm an cdv ct) dV:=⟨⟨oc,od,kV,doc,pm,an,cdv,ct,osl,rfl,l,c⟩,k⟩
theorem FunV.binds{K:W.Frag}{x qual:Str}{st:Stmt}{f:Addr}{fd:FuncData}{ps:List Str}(F:FunV K x qual st f fd .none)
 (h:∀(kV doc pm:Value)(an:Option Addr)(cdv ct:Value)(us:List Value),us.length=ps.length->bindArgs (W.fnOf x qual (Qq st) (Qp st) (Qa st) .none kV doc pm an cdv ct) ⟨us,[]⟩=pure (ps.zip us)):Binds K fd ps []:=by
 obtain⟨oc,od,kV,doc,pm,an,cdv,ct,osl,rfl,lk,hcd⟩:=F.ex
 exact .all (h kV doc pm an cdv ct)
abbrev dcOf(P:Program)(w:World)(K:W.Frag)(mg:‹"R"›)(base:Heap)(CT:CTab)(N:List Str)(qual:Str)(sc:Scope)(f:Addr)(cdv:Value)(A:Around)(outer:List Env)(s:Shared)(H:Hp)(E:XK)(G:Hp):Dc:=
 { X:=(cxOf CX0 P w K mg base N qual sc f cdv A outer s H E).nox,CT:=CT,G0:=G,XD:=fun _=>False,B:=H,M:=fun _=>False }
theorem Qen{N:List Str}{vs:List V}{i:Nat}{v:V}(h:vs[i]?=some v):(L2.start N vs)[i]?=some (some v):=by
 unfold L2.start
 have hi:i<vs.length:=(List.getElem?_eq_some_iff.mp h).1
 rw[List.getElem?_append_left (by simpa using hi),List.getElem?_map,h];rfl
theorem Qbw{ds:List D}{k:Nat}{i:Nat}{x:SM×D}(h:(ds.map (fun d=>some (SM.k,d))++List.replicate k (none:Option (SM×D)))[i]?=some (some x)):∃ d,ds[i]?=some d/\x=(.k,d):=by
 by_cases hi:i<ds.length
 ·rw[List.getElem?_append_left (by simpa using hi),List.getElem?_map]at h
  cases e:ds[i]? with
  | none=>rw[e]at h;cases h
  | some d=>rw[e]at h;cases h;exact⟨d,rfl,rfl⟩
 ·rw[List.getElem?_append_right (by simpa using hi),List.getElem?_replicate]at h
  split at h<;>cases h
theorem GH.freezeR{C:Dc}{G' H':Hp}(S:GH C G' H'){p:Addr}{o:HO}(hp:H' p=some o)(hg:G' p=none)(h0:C.X.H₀ p=none):GH C (upd G' p o) H' where
 sub:=fun b u q=>by
  by_cases hb:b=p
  ·subst hb;rw[QM]at q;cases q;exact hp
  ·rw[Qk hb]at q;exact S.sub b u q
 g0:=S.g0.trans (QB hg)
 new:=fun b h1 h2=>by
  by_cases hb:b=p
  ·subst hb;exact h0
  ·rw[Qk hb]at h2;exact S.new b h1 h2
 fr:=S.fr
 dom:=S.dom
 bs:=S.bs
 bh:=S.bh
theorem fnV{P:Program}{w:World}{K:W.Frag}{mg:‹"R"›}{base:Heap}{CT:CTab}{fr:Bool}{x qual:Str}{st:Stmt}{f:Addr}{fd:FuncData}{dV:Value}{N ps:List Str}{k:Nat}{T:SD->Out Fl}
 (F:FunV K x qual st f fd dV) (S:Qr N ps (Qa st))
 (hb:∀(cdv:Value)(A:Around)(outer:List Env)(s:Shared)(H:Hp)(E:XK)(G:Hp),Room k ‹"ae"›->DSs (dcOf P w K mg base CT N qual (Qa st) f cdv A outer s H E G) (Qp st) T):
 FnOk P w K mg base CX0 (k+1) f fd ps (SpD K CT fr (bodyF fr ps.length N.length T)):=by
 obtain⟨oc,od,kV,doc,pm,an,cdv,ct,osl,rfl,lk,hcd⟩:=F.ex
 have hpl:ps.length<=N.length:=by have:=congrArg List.length S.pre;rw[List.length_take]at this;omega
 have len:∀ vs H Q E,SpD K CT fr (bodyF fr ps.length N.length T) vs H Q E->vs.length=ps.length:=by
  intro vs H Q E ⟨ds,G0,sub,r,q⟩
  unfold bodyF at q
  by_cases hl:ds.length=ps.length
  ·rw[← r.length];exact hl
  ·rw[if_neg hl]at q;exact q.elim
 refine fn_of lk hcd S len fun A outer s H vs Q E hr hsp=>?_
 have hlen:=len vs H Q E hsp
 obtain⟨ds,G0,sub,r,q⟩:=hsp
 obtain⟨t,p1,q1⟩:=hb cdv A outer s H E G0 hr
 have hl:ds.length=ps.length:=by rw[r.length];exact hlen
 refine⟨t,p1.nox,?_⟩
 unfold bodyF at q
 rw[if_pos hl,Out.post_bind]at q
 have S0:StR (dcOf P w K mg base CT N qual (Qa st) f cdv A outer s H E G0) G0 H (L2.start N vs) ‹"aS"›:={
  sub:=sub
  g0:=Same.refl _
  new:=fun b h1 h2=>absurd h1 h2
  fr:=fun b o e _=>e
  dom:=fun b e=>e
  bs:=Same.refl _
  bh:=fun b e=>e
  len:=by unfold L2.start;simp;omega
  fz:=fun i d e=>by
   obtain⟨d',e1,e2⟩:=Qbw e
   cases e2
   obtain⟨v,e3,rv⟩:=r.get e1
   exact⟨v,Qen e3,rv⟩
  ow:=fun i d e=>by
   obtain⟨d',e1,e2⟩:=Qbw e
   cases e2
  ln:=fun i d e=>by
   obtain⟨d',e1,e2⟩:=Qbw e
   cases e2
  inj:=fun i j d e p _ h=>by
   obtain⟨d',e1,e2⟩:=Qbw h
   cases e2
  sf:=fun i d e=>by
   obtain⟨d',e1,e2⟩:=Qbw e
   cases e2
  su:=fun i j d e p _ h=>by
   obtain⟨d',e1,e2⟩:=Qbw h
   cases e2 }
 refine q1 G0 H (L2.start N vs) _ _ S0 (Out.post_mono q fun fl kk=>?_)
 cases fl with
 | nx ς'=>exact fun σ' H' G' S' s'=>kk .non H' G' s' (fun b o e=>S'.fr b o e id) S'.sub S'.new (by unfold RetG;rw[if_neg (by cases fr<;>decide)];rfl)
 | bk ς'=>exact fun σ' H' G' S' s'=>kk.elim
 | ct ς'=>exact fun σ' H' G' S' s'=>kk.elim
 | rt b d=>
  intro v H' G' S' s' ret
  have kk':(if (!fr||b||d.scal)=true then Out.ok d else Out.stuck).post ‹"be"› (fun _=>False):=kk
  rcases QQ kk' with⟨hc,k2⟩ | ⟨_,k2⟩
  ·have k3:∀ v H' G',Same G0 G'->Same H H'->Same G' H'->(∀ b,G0 b=none->G' b≠none->H b=none)->RetG K CT fr H G' H' d v->Q v H':=k2
   cases b with
   | false=>
    refine k3 v H' G' s' (fun b o e=>S'.fr b o e id) S'.sub S'.new ?_
    unfold RetG
    have hn:¬ (fr && !d.scal)=true:=by revert hc;cases fr<;>cases d.scal<;>simp
    rw[if_neg hn]
    exact ret
   | true=>
    obtain⟨p,rfl,h0,hg,ow⟩:=(show ∃ p,v=.ref p/\H p=none/\G' p=none/\Own K CT G' H' p d from ret)
    cases fr with
    | true=>
     refine k3 _ H' G' s' (fun b o e=>S'.fr b o e id) S'.sub S'.new ?_
     have hs:d.scal=false:=by cases d<;>first | rfl | exact ow.elim
     unfold RetG
     rw[if_pos (by rw[hs];rfl)]
     exact⟨p,rfl,h0,hg,ow⟩
    | false=>
     obtain⟨o,ho⟩:=ow.there
     have S2:=GH.freezeR S' ho hg h0
     refine k3 _ H' _ (s'.trans (QB hg)) (fun b o e=>S2.fr b o e id) S2.sub S2.new ?_
     unfold RetG
     rw[if_neg (by simp)]
     exact ow.known hg ho
  ·exact k2.elim
def DefOk(P:Program)(w:World)(K:W.Frag)(mg:‹"R"›)(base:Heap)(CT:CTab)(x:Str)(k:Nat)(fr:Bool)(dd:List D)(m:List D->Out D):Prop:=
 ∃ f fd ps ds,FnOk P w K mg base CX0 k f fd ps (SpD K CT fr m)/\mg x=some (.ref f)/\W.keepIn K (.ref f)=true/\Binds K fd ps ds/\Vals (dd.map toV) ds
theorem Qit{K:W.Frag}{CT:CTab}{H:Hp}:∀{dd:List D},dd.all D.scal=true->RepL K CT H dd (dd.map toV)
 | [],_=>rfl
 | d::ds,h=>by
  rw[List.all_cons,Bool.and_eq_true]at h
  exact⟨_,_,rfl,QxZ h.1,Qit h.2⟩
def QpK(o:Out D):Out D:=o>>=fun d=>if d.scal=true then .stuck else .ok d
section
variable{C:Dc}{x:Str}{k:Nat}{fr:Bool}{dd:List D}{m:List D->Out D}{e:Expr}{es:List Expr}{A:SD->Out (List D)}{p pos:Pos}
theorem de_f(h:DefOk C.X.prog C.X.w C.X.K C.X.mg C.X.base C.CT x k fr dd m)(hr:Room k C.X.A)(ha:DA C (e::es) A)(hg:Gl C.X x)(hs:dd.all D.scal=true:=by rfl)(hx:∀ x,¬ C.XD x:=by exact fun _ h=>h)
 (hdb:‹"f"›:=by decide) (he:‹"b"›:=by rfl) (hpl:(backTo pos ‹"aC"›).any (·.1)=false:=by rfl):
 DE C ‹"D"› (eA (fun xs=>m (xs++dd)) A):=by
 obtain⟨f,fd,ps,ds,F,hm,hk,hb,hd⟩:=h
 obtain⟨t,p1,q1⟩:=ha
 refine⟨_,Qo9 F hr hg hm hk hb hd pass0 p1 hdb he hpl,fun G H σ ς Q S q=>?_⟩
 unfold eA at q
 rw[Out.post_bind]at q
 refine q1 G H σ ς _ S (Out.post_mono q fun xs kk vs H1 G1 S1 a1 b1 r1=>⟨xs++dd,G1,S1.sub,r1.append (Qit hs),?_⟩)
 cases z:m (xs++dd) with
 | stuck=>rw[z]at kk;exact kk.elim
 | exc y=>rw[z]at kk;exact absurd kk (hx y)
 | ok d=>
  rw[z]at kk
  intro v H' G' g1 h1 s1 n1 ret
  unfold RetG at ret
  by_cases hc:(fr && !d.scal)=true
  ·rw[if_pos hc]at ret
   obtain⟨pp,rfl,h0,hg',ow⟩:=ret
   obtain⟨o,ho⟩:=ow.there
   have S2:=(S1.grow h1 g1 s1 n1).freeze ho hg' (S1.h0none h0) (fun i d' z1 z2=>by
    obtain⟨o',ho'⟩:=S1.own_ne z1 z2
    rw[h0]at ho';cases ho')
   exact(show KD C G H σ ς Q d from kk) _ _ _ S2 (a1.trans h1) ((b1.trans g1).trans (QB hg')) (ow.known hg' ho)
  ·rw[if_neg hc]at ret
   exact(show KD C G H σ ς Q d from kk) v H' G' (S1.grow h1 g1 s1 n1) (a1.trans h1) (b1.trans g1) ret
theorem df_f(h:DefOk C.X.prog C.X.w C.X.K C.X.mg C.X.base C.CT x k true dd m)(hr:Room k C.X.A)(ha:DA C (e::es) A)(hg:Gl C.X x)(hs:dd.all D.scal=true:=by rfl)(hx:∀ x,¬ C.XD x:=by exact fun _ h=>h)
 (hdb:‹"f"›:=by decide) (he:‹"b"›:=by rfl) (hpl:(backTo pos ‹"aC"›).any (·.1)=false:=by rfl):
 DF C ‹"D"› (fun ς=>QpK (eA (fun xs=>m (xs++dd)) A ς)):=by
 obtain⟨f,fd,ps,ds,F,hm,hk,hb,hd⟩:=h
 obtain⟨t,p1,q1⟩:=ha
 refine⟨_,Qo9 F hr hg hm hk hb hd pass0 p1 hdb he hpl,fun G H σ ς Q S q=>?_⟩
 unfold QpK eA at q
 rw[Out.post_bind,Out.post_bind]at q
 refine q1 G H σ ς _ S (Out.post_mono q fun xs kk vs H1 G1 S1 a1 b1 r1=>⟨xs++dd,G1,S1.sub,r1.append (Qit hs),?_⟩)
 cases z:m (xs++dd) with
 | stuck=>rw[z]at kk;exact kk.elim
 | exc y=>rw[z]at kk;exact absurd kk (hx y)
 | ok d=>
  rw[z]at kk
  intro v H' G' g1 h1 s1 n1 ret
  rcases QQ (show(if d.scal=true then Out.stuck else Out.ok d).post _ _ from kk) with⟨_,kk⟩ | ⟨hc,kk⟩
  ·exact kk.elim
  ·unfold RetG at ret
   rw[if_pos (by cases hh:d.scal with | true=>exact absurd hh hc | false=>rfl)]at ret
   obtain⟨pp,rfl,h0,hg',ow⟩:=ret
   exact(show KF C G H σ ς Q d from kk) pp H' G' (S1.grow h1 g1 s1 n1) (a1.trans h1) (b1.trans g1) (a1.free h0) hg' ow
end
abbrev bitsI(i:Int):Nat:=Builtin.Int.intBits i
theorem QwT:∀{xs:List W.WData}{x:W.WData},x∈xs->x.weight<=W.WData.weightAll xs
 | y::r,x,hx=>by
  rcases List.mem_cons.mp hx with rfl | hx'
  ·simp only[W.WData.weightAll];omega
  ·have:=QwT hx'
   simp only[W.WData.weightAll];omega
theorem QGG{ns:List Int}(h:W.WData.layableAll [W.WData.list (ns.map W.WData.int)]=true):∀ z∈ns,bitsI z<=1048576:=fun z hz=>by
 have h1:(W.WData.list (ns.map W.WData.int)).layable=true:=by simpa [W.WData.layableAll] using h
 have h2:(W.WData.list (ns.map W.WData.int)).weight<=2 ^ 20:=of_decide_eq_true (Bool.and_eq_true_iff.mp h1).2
 have h3:(W.WData.int z).weight<=W.WData.weightAll (ns.map W.WData.int):=QwT (List.mem_map.mpr ⟨z,hz,rfl⟩)
 have h4:(W.WData.int z).weight<=1048576:=by
  have e:(2:Nat) ^ 20=1048576:=by decide
  simp only[W.WData.weight]at h2
  omega
 simpa only[W.WData.weight,Builtin.Int.intBits] using h4
theorem walk_of{l:W.OpenLaw}{n k:Nat}{q:Program}{loose:List Str}{XP:(Str->Option Value)->Heap->Prop}{YP:World->Heap->Prop}{d:DefRec}{K:Params->W.Frag}{CX:World->CXT}{sp:World->Sp}{x:Str}
 (hn:l.most=some n) (hn2:n<=sizeLine) (hdf:d.params.defaults=[]) (hr:Room k callerA)
 (hY:∀(w:World)(h:Heap),YP w h->(K w.params).In h)
 (F:∀(w:World)(mg:‹"R"›)(fa:Addr)(h:Heap),(K w.params).In h->h.Ns mainGlobals mg->mg d.name=some (.ref fa)->
  ∃ fd:FuncData,(∀(s:Shared)(u:Value),BindsTo s fd ⟨[u],[]⟩ [(x,u)])/\
   ∀ base:Heap,(K w.params).In base->base.Ns mainGlobals mg->FnOk l.prog w (K w.params) mg base (CX w) k fa fd [x] (sp w))
 (hsp:∀(w:World)(H:Hp)(a:Addr)(ns:List Int),ns.length<=n->(∀ z∈ns,bitsI z<=1048576)->Only H->SqL (K w.params) H a (ns.map V.int)->sp w [.ref a] H (fun v _=>v=.bl true) fun _ _ _=>False)
 (hCX:∀(w:World)(H:Hp)(s:Shared)(e:Value)(s':Shared),CX w [] H s (fun _ _ _=>False) e s'->False):
 W.WalkO q loose XP YP l.row.toRowW d [] (fun f vs=>PySem.call f vs):=by
 intro w s₀ s₁ mg mb G Y fa o pm cd doc dV kV ho hd hcd hD hmg hg args vals as hpre hlay hrd hwl hlo
 obtain rfl:dV=.none:=W.Dflts.none hD hdf
 obtain rfl:kV=.none:=W.Dflts.noKw hD
 obtain⟨a,vs,ns,rfl,rfl,hobj,hints,hlen⟩:=Att.script_of hn hpre hwl
 have KX:=hY w _ Y
 obtain⟨fd,hb,hF⟩:=F w mg fa _ KX G.T.g hmg
 refine W.enter_call (codeAny_mono (QNF KX G.T.g G.T.b G.T.builtins G.T.nolimit hg hobj hints (Nat.le_trans hlen hn2) hr hF hb (fun H hO hS=>hsp w H a ns hlen (QGG hlay) hO hS) fun H e s'=>hCX w H s₁ e s') fun r s' hq=>?_)
 obtain⟨rfl,h2,h3,h4⟩:=hq
 exact⟨.inl ⟨.bool true,.bool true,[],rfl,fun _=>rfl,.bool true,Att.post_true l _,fun _=>⟨List.Pairwise.nil,fun _ hm=>(nomatch hm)⟩⟩,h2,h3,h4⟩
end DL
namespace DL
open PySem PySem.Spec PyProof.Rows L2
def rCatS(K:W.Frag):R2:=fun x y H Q=>∃ l b xs zs,x=.ref l/\y=.ref b/\SqL K H l xs/\SqL K H b zs/\xs.length+zs.length<=sizeLine/\∀ p,H p=none->Q (.ref p) (upd H p (.lst (xs++zs)))
theorem QPb{X:Cx}:OpR X (binaryOp .Add) (rCatS X.K):=by
 intro pins s σ H x y v u Q I rx ry h
 obtain⟨l,b,xs,zs,rfl,rfl,hH,hB,hz,q⟩:=h
 cases rx
 cases ry
 obtain⟨its,r,pl,hz1⟩:=I.list hH
 obtain⟨its2,r2,pl2,hz2⟩:=I.list hB
 obtain⟨⟨cls,dd,data,sl⟩,n,ho,hc,hdd,hd⟩:=pl
 obtain⟨⟨cls2,dd2,data2,sl2⟩,n2,ho2,hc2,hdd2,hd2⟩:=pl2
 simp only at hc hd hc2 hd2
 subst hc hd hc2 hd2
 have e:its.toArray++its2.toArray=(its++its2).toArray:=by simp
 have h1:=r.length
 have h2:=r2.length
 refine concat_meets ⟨_,ho,rfl⟩ ⟨_,ho2,rfl⟩ noFill_list_add seq_list_add PySem.F.slot_list_add PySem.F.entry_list_add (PySem.F.args_list_add_2 _ _) (list_addW l b its.toArray its2.toArray n n2 dd dd2 sl sl2 (by rw[List.size_toArray,List.size_toArray];omega)) ⟨ho,ho2,?_⟩
 rw[e]
 exact⟨.ref _,_,I.lnew (t':=s.toks) (r.append r2) (by rw[List.length_append];omega),rfl,q _ I.fresh⟩
def dCat:D->D->Out D
 | .lst xs,.lst ys=>if fits (xs.length+ys.length)=true then .ok (.lst (xs++ys)) else .stuck
 | _,_=>.stuck
def dRep:D->D->Out D
 | .lst xs,.int k=>if (decide (-(2 ^ 63)<=k)&&decide (k<2 ^ 63)&&fits (xs.length * k.toNat))=true then .ok (.lst (List.replicate k.toNat xs).flatten) else .stuck
 | _,_=>.stuck
section
variable{C:Dc}{a b:Expr}{A B:SD->Out D}{pos:Pos}
theorem QPV(ha:DE C a A)(hb:DE C b B):DF C (.BinOp a .Add b pos) (e2 dCat A B):=by
 obtain⟨ta,p1,q1⟩:=ha
 obtain⟨tb,p2,q2⟩:=hb
 refine⟨_,pe_op QPb p1 p2,fun G H σ ς Q S q=>?_⟩
 unfold e2 at q
 rw[Out.post_bind]at q
 refine q1 G H σ ς _ S (Out.post_mono q fun x k v1 H1 G1 S1 a1 b1 r1=>?_)
 rw[Out.post_bind]at k
 refine q2 G1 H1 σ ς _ S1 (Out.post_mono k fun y k2 v2 H2 G2 S2 a2 b2 r2=>?_)
 have r1':=Rep.mono b2 x v1 r1
 cases x with
 | lst xs=>
  cases y with
  | lst ys=>
   obtain⟨p,vs,rfl,h2,h3⟩:=r1'
   obtain⟨p',vs',rfl,h2',h3'⟩:=r2
   rcases QQ (show(if fits (xs.length+ys.length)=true then Out.ok (D.lst (xs++ys)) else .stuck).post _ _ from k2) with⟨hc,k3⟩ | ⟨_,k3⟩
   ·exact⟨p,p',vs,vs',rfl,rfl,S2.sub.seq h2,S2.sub.seq h2',by rw[← h3.length, ← h3'.length];exact of_decide_eq_true hc,
     KF.lst (KF.later (show KF C G H σ ς Q (.lst (xs++ys)) from k3) (a1.trans a2) (b1.trans b2)) S2 (h3.append h3')⟩
   ·exact k3.elim
  | _=>exact k2.elim
 | _=>cases y<;>exact k2.elim
theorem QKL(ha:DF C a A)(hb:DB C b B):DF C (.BinOp a .Mult b pos) (e2 dRep A B):=by
 obtain⟨ta,p1,q1⟩:=ha
 obtain⟨tb,p2,q2⟩:=hb
 refine⟨_,pe_op QQm p1 p2,fun G H σ ς Q S q=>?_⟩
 unfold e2 at q
 rw[Out.post_bind]at q
 refine q1 G H σ ς _ S (Out.post_mono q fun x k p H1 G1 S1 a1 b1 hp hg ow=>?_)
 rw[Out.post_bind]at k
 refine q2 G1 H1 σ ς _ S1 (Out.post_mono k fun y k2 v2 H2 G2 S2 a2 b2 r2=>?_)
 cases x with
 | lst xs=>
  cases y with
  | int i=>
   cases r2
   obtain⟨vs,h2,h3⟩:=ow
   rcases QQ (show(if (decide (-(2 ^ 63)<=i)&&decide (i<2 ^ 63)&&fits (xs.length * i.toNat))=true then Out.ok (D.lst (List.replicate i.toNat xs).flatten) else .stuck).post _ _ from k2) with⟨hc,k3⟩ | ⟨_,k3⟩
   ·rw[Bool.and_eq_true,Bool.and_eq_true]at hc
    have h3':RepL C.X.K C.CT G2 xs vs:=RepL.mono b2 xs vs h3
    exact⟨p,i,vs,rfl,rfl,a2 _ _ h2,of_decide_eq_true hc.1.1,of_decide_eq_true hc.1.2,by rw[← h3'.length];exact of_decide_eq_true hc.2,
     KF.lst (KF.later (show KF C G H σ ς Q (.lst (List.replicate i.toNat xs).flatten) from k3) (a1.trans a2) (b1.trans b2)) S2 (h3'.rep i.toNat)⟩
   ·exact k3.elim
  | _=>exact k2.elim
 | _=>cases y<;>exact k2.elim
def dList:D->Out D
 | .lst xs=>.ok (.lst xs)
 | .tup xs=>.ok (.lst xs)
 | _=>.stuck
theorem RepL.flat{K:W.Frag}{CT:CTab}{G H:Hp}:∀{ds:List D}{vs:List V},ds.all D.scal=true->RepL K CT H ds vs->RepL K CT G ds vs
 | [],_,_,h=>h
 | d::ds,_,hs,⟨v,r,h1,h2,h3⟩=>by
  rw[List.all_cons,Bool.and_eq_true]at hs
  exact⟨v,r,h1,h2.scal hs.1,RepL.flat hs.2 h3⟩
theorem Qcx{p:Pos}(hg:Gl C.X "list")(hm:C.X.mg "list"=none)(ha:DE C a A)
 (he:starEach (a::[]) C.X.env=(false,eval a C.X.env)::starEach [] C.X.env:=by rfl):DF C (.Call (.Name "list" p) [a] [] pos) (e1 dList A):=by
 obtain⟨ta,p1,q1⟩:=ha
 refine⟨_,QzE QC6 hg hm PyProof.Rows.Boot.«list» (Qbk p1 Qdz he) (by decide) (by decide) he rfl,fun G H σ ς Q S q=>?_⟩
 unfold e1 at q
 rw[Out.post_bind]at q
 refine q1 G H σ ς _ S (Out.post_mono q fun x k v1 H1 G1 S1 a1 b1 r1=>?_)
 cases x with
 | lst xs=>
  obtain⟨p,vs,rfl,h2,h3⟩:=r1
  exact⟨p,vs,rfl,.inl (S1.sub.seq h2),KF.lst (KF.later (show KF C G H σ ς Q (.lst xs) from k) a1 b1) S1 h3⟩
 | tup xs=>
  obtain⟨p,vs,rfl,h2,h3⟩:=r1
  exact⟨p,vs,rfl,.inr (Same.sqT S1.sub h2),KF.lst (KF.later (show KF C G H σ ς Q (.lst xs) from k) a1 b1) S1 h3⟩
 | _=>exact k.elim
end
section
variable{C:Dc}{e:Expr}{es:List Expr}{A:SD->Out (List D)}{p pos:Pos}
def dInt:D->Out D
 | .int i=>.ok (.int i)
 | .bl b=>.ok (.int (if b then 1 else 0))
 | _=>.stuck
theorem Qyr(hg:Gl C.X "int")(hm:C.X.mg "int"=none)(ha:DAB C (e::es) A)
 (he:‹"b"›:=by rfl) (hpl:(backTo pos ‹"aC"›).any (·.1)=false:=by rfl):DE C (.Call (.Name "int" p) (e::es) [] pos) (eA (f1 dInt) A):=by
 refine QLC QMz (QEI ?_) (Qym ?_) hg hm PyProof.Rows.Boot.«int» ha (by decide) (by decide) he hpl
 ·intro G H σ ς Q x v S r q
  cases x with
  | int i=>cases r;exact .inl ⟨i,rfl,q.2⟩
  | bl b=>cases r;exact .inr ⟨b,rfl,q.2⟩
  | _=>exact q.elim
 ·intro x
  cases x<;>first | exact rfl | exact True.intro
end
def isaT(T:String):D->Out Bool
 | .ins _ _=>.stuck
 | .err _=>.stuck
 | .bl _=>.ok (T == "bool"||T == "int")
 | d=>.ok (QcI d == T)
structure Kit(K:W.Frag)(T:String):Prop where
 h:∀ d:D,(match d with | .ins _ _=>True | .err _=>True | .bl _=>W.kitOne K (.type "bool") (.type T)=some (T == "bool"||T == "int") | d=>W.kitOne K (.type (QcI d)) (.type T)=some (QcI d == T))
section
variable{C:Dc}{e:Expr}{E:SD->Out D}{p pc pos:Pos}
theorem Qcd(T:Str){T':String}(k:Kit C.X.K T')(hgT:Gl C.X T)(hmT:C.X.mg T=none)(hb:bootBuiltins T=some (.type T'))(hg:Gl C.X "isinstance")(hm:C.X.mg "isinstance"=none)(h:DB C e E)
 (hn:T≠"__name__":=by decide) (hdb:(T == ("__debug__":Str))=false:=by decide)
 (he:starEach (e::[.Name T pc]) C.X.env=(false,eval e C.X.env)::starEach [.Name T pc] C.X.env:=by rfl) (he2:starEach (.Name T pc::[]) C.X.env=(false,eval (.Name T pc) C.X.env)::starEach [] C.X.env:=by rfl)
 (hpl:(backTo pos (starEach [.Name T pc] C.X.env)).any (·.1)=false:=by rfl):DE C (.Call (.Name "isinstance" p) [e,.Name T pc] [] pos) (eIsa (isaT T') E):=by
 refine QQd (vc:=.ty T') (uc:=.type T') (QOz hgT hmT hb rfl hn hdb) rfl (fun d=>?_) hg hm h he he2 hpl
 have:=k.h d
 cases d<;>first | exact True.intro | exact this
end
theorem Qs3{K:W.Frag}{T:String}(h1:W.kitOne K (.type "NoneType") (.type T)=some ("NoneType" == T))(h2:W.kitOne K (.type "bool") (.type T)=some (T == "bool"||T == "int"))
 (h3:W.kitOne K (.type "int") (.type T)=some ("int" == T)) (h4:W.kitOne K (.type "str") (.type T)=some ("str" == T)) (h5:W.kitOne K (.type "list") (.type T)=some ("list" == T))
 (h6:W.kitOne K (.type "tuple") (.type T)=some ("tuple" == T)) (h7:W.kitOne K (.type "dict") (.type T)=some ("dict" == T)):Kit K T:=⟨fun d=>by
 cases d with
 | non=>exact h1
 | bl _=>exact h2
 | int _=>exact h3
 | str _=>exact h4
 | lst _=>exact h5
 | tup _=>exact h6
 | dic _=>exact h7
 | ins _ _=>exact True.intro
 | err _=>exact True.intro⟩
theorem QIm{K:W.Frag}:Kit K "int":=Qs3 (by rfl) (by rfl) (by rfl) (by rfl) (by rfl) (by rfl) (by rfl)
theorem QBX{K:W.Frag}:Kit K "bool":=Qs3 (by rfl) (by rfl) (by rfl) (by rfl) (by rfl) (by rfl) (by rfl)
theorem QH0{K:W.Frag}:Kit K "str":=Qs3 (by rfl) (by rfl) (by rfl) (by rfl) (by rfl) (by rfl) (by rfl)
theorem Qi4{K:W.Frag}:Kit K "list":=Qs3 (by rfl) (by rfl) (by rfl) (by rfl) (by rfl) (by rfl) (by rfl)
theorem QsY{K:W.Frag}:Kit K "tuple":=Qs3 (by rfl) (by rfl) (by rfl) (by rfl) (by rfl) (by rfl) (by rfl)
def Qb3(i:Nat)(E:SD->Out D):SD->Out Fl:=fun ς=>match ς[i]? with
 | some (some (.o,.lst xs))=>E ς>>=fun d=>if decide (xs.length<sizeLine)=true then .ok (.nx (ς.set i (some (.o,.lst (xs++[d]))))) else .stuck
 | _=>.stuck
def sPutO(i:Nat)(I E:SD->Out D):SD->Out Fl:=fun ς=>E ς>>=fun d=>match ς[i]? with
 | some (some (.o,.lst xs))=>I ς>>=fun k=>match k with
  | .int k=>optO (ixN xs.length k)>>=fun j=>.ok (.nx (ς.set i (some (.o,.lst (xs.set j d)))))
  | _=>.stuck
 | _=>.stuck
section
variable{C:Dc}{G H:Hp}{σ:St}{ς:SD}
theorem QiC{α:Type}{xs:List α}{i:Nat}{x:α}(h:xs[i]?=some x):xs.set i x=xs:=by
 obtain⟨hi,e⟩:=List.getElem?_eq_some_iff.mp h
 rw[← e];exact List.set_getElem_self hi
theorem StR.write(S:‹"au"›){i:Nat}{p:Addr}{xs ys:List D}{vs ws:List V}(hi:ς[i]?=some (some (.o,.lst xs)))(hp:σ[i]?=some ‹"aT"›)(hH:H p=some (.lst vs))(r:RepL C.X.K C.CT G ys ws):
 StR C G (upd H p (.lst ws)) σ (ς.set i (some (.o,.lst ys))):=by
 obtain⟨p',e1,hg,h0,ow⟩:=S.ow i _ hi
 rw[hp]at e1;cases e1
 have hil:i<ς.length:=(List.getElem?_eq_some_iff.mp hi).1
 have ne:∀ b o,G b=some o->b≠p:=fun b o e z=>by subst z;rw[hg]at e;cases e
 have S':StR C G (upd H p (.lst ws)) (σ.set i ‹"aT"›) (ς.set i (some (.o,.lst ys))):={
  sub:=fun b o e=>by rw[Qk (ne b o e)];exact S.sub b o e
  g0:=S.g0
  new:=S.new
  fr:=fun b o e m=>by
   rw[Qk (by rintro rfl;rw[h0]at e;cases e)];exact S.fr b o e m
  dom:=fun b e=>by
   by_cases hb:b=p
   ·subst hb;exact h0
   ·rw[Qk hb]at e;exact S.dom b e
  bs:=fun b o e=>by
   rw[Qk (by rintro rfl;rw[S.bh _ h0]at e;cases e)];exact S.bs b o e
  bh:=S.bh
  len:=by rw[List.length_set,List.length_set];exact S.len
  fz:=fun j d h=>by
   rcases Qs h with⟨rfl,h2,l⟩ | ⟨hne,h2⟩
   ·cases h2
   ·rw[Qn hne];exact S.fz j d h2
  ow:=fun j d h=>by
   rcases Qs h with⟨rfl,h2,l⟩ | ⟨hne,h2⟩
   ·cases h2
    exact⟨p,Qhd (by rw[S.len];exact l),hg,h0,⟨ws,QM,r⟩⟩
   ·rw[Qn hne]
    obtain⟨q,a,b,c,w⟩:=S.ow j d h2
    have qp:q≠p:=by
     rintro rfl
     exact S.inj i j _ _ q hne hi h2 hp a
    exact⟨q,a,b,c,w.mono (Same.refl G) fun o z=>by rw[Qk qp];exact z⟩
  ln:=fun j d h=>by
   rcases Qs h with⟨rfl,h2,l⟩ | ⟨hne,h2⟩
   ·cases h2
   ·rw[Qn hne];exact S.ln j d h2
  inj:=fun j k d1 d2 q hjk h1 h2 h3=>by
   have get:∀(j:Nat) d,(ς.set i (some (.o,D.lst ys)))[j]?=some (some (.o,d))->∃ d',ς[j]?=some (some (.o,d')):=fun j d h=>by
    rcases Qs h with⟨rfl,h2,l⟩ | ⟨hne,h2⟩
    ·exact⟨_,hi⟩
    ·exact⟨_,h2⟩
   obtain⟨d1',g1⟩:=get j d1 h1
   obtain⟨d2',g2⟩:=get k d2 h2
   rw[QiC hp]at h3 ⊢
   exact S.inj j k d1' d2' q hjk g1 g2 h3
  sf:=fun j d h=>by
   rcases Qs h with⟨rfl,h2,l⟩ | ⟨hne,h2⟩
   ·cases h2
   ·rw[Qn hne]
    obtain⟨q,a,b,c,m,z,w⟩:=S.sf j d h2
    have qp:q≠p:=by
     rintro rfl
     exact c h0
    exact⟨q,a,b,c,m,z,w.mono (Same.refl G) fun o z=>by rw[Qk qp];exact z⟩
  su:=fun j k d1 d2 q hjk h1 h2 h3=>by
   rcases Qs h1 with⟨rfl,q1,l⟩ | ⟨n1,q1⟩
   ·cases q1
   ·rcases Qs h2 with⟨rfl,q2,l⟩ | ⟨n2,q2⟩
    ·cases q2
    ·rw[Qn n1]at h3
     rw[Qn n2];exact S.su j k d1 d2 q hjk q1 q2 h3 }
 rw[QiC hp]at S'
 exact S'
variable{a e:Expr}{A E:SD->Out D}{pos p1 p2 p3:Pos}{x:Str}
theorem Qdr(i:Nat)(he:DE C e E)(hN:C.X.N[i]?=some x:=by rfl)(hv:‹"bI"›:=by first | exact Or.inl rfl | exact Or.inr (Or.inl rfl) | exact Or.inr (Or.inr rfl))
 (hd:‹"f"›:=by decide) (hcd:‹"t"›:=by decide)
 (hbase:attributeBase (.Name x p1) "append" C.X.env (eval (.Name x p1) C.X.env)=eval (.Name x p1) C.X.env:=by rfl)
 (hfew:((backTo p3 (starEach (e::[]) C.X.env)).all (fun x => !x.1)&&(backToKw p3 ‹"di"›).all (fun x=>x.1.isSome)
  && decide ((e::[]).length+([]:List Keyword).length+‹"aH"›<30))=true:=by rfl)
 (hline:(p2.endLine == p3.line)=true:=by rfl) (hs:starEach (e::[]) C.X.env=(false,eval e C.X.env)::starEach [] C.X.env:=by rfl)
 (hsw:swapsWith (.Call (.Attribute (.Name x p1) "append" p2) [e] [] p3) none pos.line C.X.env=pure false:=by rfl):
 DS C (.Expr (.Call (.Attribute (.Name x p1) "append" p2) [e] [] p3) pos) (Qb3 i E):=by
 obtain⟨t,p,q⟩:=he
 refine⟨_,QtY (pe_bm PySem.F.plainAttrs_list PySem.F.slot_list_append PySem.F.type_list_append Qsa ‹"aI"› (Qbk p Qdz hs) hbase hfew hline hs rfl) hsw,fun G H σ ς W S k=>?_⟩
 unfold Qb3 at k
 split at k
 ·rename_i xs z
  obtain⟨pp,e1,hg,h0,ow⟩:=S.ow i _ z
  obtain⟨vs,hv1,hv2⟩:=ow
  rw[Out.post_bind]at k
  refine⟨_,e1,.inl ⟨rfl,vs,SqL.of hv1⟩,q G H σ ς _ S (Out.post_mono k fun d k2 v H1 G1 S1 a1 b1 r1=>?_)⟩
  rcases QQ k2 with⟨hc,k3⟩ | ⟨_,k3⟩
  ·have hl:=hv2.length
   refine⟨pp,vs,v,rfl,rfl,a1 _ _ hv1,by rw[← hl];exact of_decide_eq_true hc,?_⟩
   exact k3 σ _ G1 (S1.write z e1 (a1 _ _ hv1) ((RepL.mono b1 xs vs hv2).append (RepL.one r1))) b1
  ·exact k3.elim
 ·exact k.elim
theorem QtR(i:Nat)(hi:DB C a A)(he:DE C e E)(hN:C.X.N[i]?=some x:=by rfl)(hv:‹"bI"›:=by first | exact Or.inl rfl | exact Or.inr (Or.inl rfl) | exact Or.inr (Or.inr rfl))
 (hd:‹"f"›:=by decide) (hcd:‹"t"›:=by decide)
 (hst:∀ v,assign ‹"cF"› C.X.env v=(do
  let ov ← holding [v] (eval (.Name x p1) C.X.env)
  let iv ← holding [v,ov] (eval a C.X.env)
  standAt p2
  holding [v,ov,iv] (setItem ov iv v)
  release [v,ov,iv] []):=by intro _;rfl)
 (hs:‹"dR"›:=by rfl) (hw:swappedStores [.Subscript (.Name x p1) a p2] e C.X.env=pure none:=by rfl)
 (h1:(assignEach [.Subscript (.Name x p1) a p2] C.X.env).map (·.2)=[assign ‹"cF"› C.X.env]:=by rfl):DS C ‹"da"› (sPutO i A E):=by
 obtain⟨t,p,q⟩:=he
 obtain⟨t2,p2,q2⟩:=hi
 refine⟨_,QEL p (QKZ ‹"aI"› p2 QEQ hst) hs hw h1,fun G H σ ς W S k=>?_⟩
 unfold sPutO at k
 rw[Out.post_bind]at k
 refine q G H σ ς _ S (Out.post_mono k fun d k v H1 G1 S1 a1 b1 r1=>?_)
 split at k
 ·rename_i xs z
  obtain⟨pp,e1,hg,h0,ow⟩:=S1.ow i _ z
  obtain⟨vs,hv1,hv2⟩:=ow
  rw[Out.post_bind]at k
  refine⟨_,e1,q2 G1 H1 σ ς _ S1 (Out.post_mono k fun y k2 w H2 G2 S2 a2 b2 r2=>?_)⟩
  cases y with
  | int j=>
   cases r2
   have k2':(optO (ixN xs.length j)>>=fun j=>Out.ok (Fl.nx (ς.set i (some (.o,D.lst (xs.set j d)))))).post (FlK C G W) C.XD:=k2
   rw[Out.post_bind]at k2'
   obtain⟨jj,ej,k3⟩:=Qc2 k2'
   refine⟨pp,vs,j,jj,rfl,rfl,a2 _ _ hv1,by rw[← hv2.length];exact ej,?_⟩
   exact k3 σ _ G2 (S2.write z e1 (a2 _ _ hv1) ((RepL.mono b2 xs vs hv2).set (Rep.mono b2 d v r1) jj)) (b1.trans b2)
  | _=>exact k2.elim
 ·exact k.elim
end
end DL
namespace DL
open PySem PySem.Spec PyProof.Rows L2
structure DIt(K:W.Frag)(CT:CTab)(G1:Hp)(J:It)(ds:List D):Prop where
 go:∀ G H (i:Nat) d,Same G1 G->Same G H->ds[i]?=some d->J.go i H/\∀ x H',J.yld i H x H'->∃ G',Same G G'/\Same H H'/\Same G' H'/\(∀ b,G b=none->G' b≠none->H b=none)/\Rep K CT G' d x
 stop:∀ G H,Same G1 G->Same G H->J.stop ds.length H
structure DItB(K:W.Frag)(CT:CTab)(B1 G1:Hp)(J:It)(ds:List D):Prop where
 go:∀ G H (i:Nat) d,Same G1 G->Same G H->Same B1 H->ds[i]?=some d->J.go i H/\∀ x H',J.yld i H x H'->∃ G',Same G G'/\Same H H'/\Same G' H'/\(∀ b,G b=none->G' b≠none->H b=none)/\Rep K CT G' d x
 stop:∀ G H,Same G1 G->Same G H->Same B1 H->J.stop ds.length H
theorem DIt.b{K:W.Frag}{CT:CTab}{B1 G1:Hp}{J:It}{ds:List D}(h:DIt K CT G1 J ds):DItB K CT B1 G1 J ds:=⟨fun G H i d a b _ e=>h.go G H i d a b e,fun G H a b _=>h.stop G H a b⟩
def DIB(C:Dc)(tg iter:Expr)(its:‹"ak"›):Prop:=∃ wi,PI C.X tg iter wi/\∀ G H σ ς (R:It->Hp->Prop),StR C G H σ ς->
 (its ς).post ‹"ck"› C.XD->wi σ H R
def DI(C:Dc)(tg iter:Expr)(its:‹"ak"›):Prop:=∃ wi,PI C.X tg iter wi/\∀ G H σ ς (R:It->Hp->Prop),StR C G H σ ς->
 (its ς).post (fun ds=>∀ J H1 G1,StR C G1 H1 σ ς->Same H H1->Same G G1->DIt C.X.K C.CT G1 J ds->R J H1) C.XD->wi σ H R
section
variable{C:Dc}{e tg iter:Expr}{E:SD->Out D}{body:List Stmt}{T U:SD->Out Fl}{pos:Pos}{g:D->SD->Out SD}{its:SD->Out (List D)}
theorem DI.b(h:DI C tg iter its):DIB C tg iter its:=by
 obtain⟨wi,p,q⟩:=h
 exact⟨wi,p,fun G H σ ς R S k=>q G H σ ς R S (Out.post_mono k fun ds kd J H1 G1 S1 a b dit=>kd J H1 G1 S1 a b dit.b)⟩
theorem QNi{K:W.Frag}{CT:CTab}{G1:Hp}{a:Addr}{ds:List D}{vs:List V}(h:SqL K G1 a vs)(r:RepL K CT G1 ds vs):DIt K CT G1 (Itl K a) ds where
 go:=fun G H i d s1 sH hd=>by
  obtain⟨v,hv,rv⟩:=r.get hd
  have hq:SqL K H a vs:=sH.seq (s1.seq h)
  refine⟨⟨vs,v,hq,hv⟩,fun x H' ⟨e,y⟩=>?_⟩
  have ex:vs[i]?=some x:=y vs hq
  rw[hv]at ex;cases ex
  subst e
  exact⟨G,Same.refl _,Same.refl _,sH,fun b g n=>absurd g n,Rep.mono s1 d v rv⟩
 stop:=fun G H s1 sH=>⟨vs,sH.seq (s1.seq h),by rw[r.length];exact Nat.le_refl _⟩
theorem QLh{K:W.Frag}{CT:CTab}{G1:Hp}{lo:Int}{n:Nat}:DIt K CT G1 (Itr lo n) (QbT lo n) where
 go:=fun G H i d s1 sH hd=>by
  have hi:i<n:=by
   have:=(List.getElem?_eq_some_iff.mp hd).1
   rw[Qwb]at this;exact this
  rw[QIN hi]at hd;cases hd
  exact⟨hi,fun x H' ⟨e,y⟩=>by
   subst e y
   exact⟨G,Same.refl _,Same.refl _,sH,fun b g n=>absurd g n,rfl⟩⟩
 stop:=fun G H s1 sH=>by rw[Qwb];exact Nat.le_refl _
theorem Qaw(h:DE C iter E):DI C tg iter (itL E):=by
 obtain⟨t,p,q⟩:=h
 refine⟨_,QO2 p,fun G H σ ς R S k=>?_⟩
 unfold itL at k
 rw[Out.post_bind]at k
 refine q G H σ ς _ S (Out.post_mono k fun d k v H1 G1 S1 a1 b1 r1=>?_)
 cases d with
 | lst xs=>
  obtain⟨a,vs,rfl,h2,h3⟩:=r1
  exact⟨a,rfl,⟨vs,S1.sub.seq h2⟩,k _ H1 G1 S1 a1 b1 (QNi h2 h3)⟩
 | _=>exact k.elim
theorem QaD{a:Expr}{A:SD->Out D}{p1 p2:Pos}(hgl:Gl C.X "range")(hm:C.X.mg "range"=none)(ha:DB C a A)
 (hst:‹"br"›:=by rfl):DI C tg (.Call (.Name "range" p1) [a] [] p2) (itR1 A):=by
 obtain⟨t,p,q⟩:=ha
 refine⟨_,QKW hgl hm (Qbk p Qdz hst) hst,fun G H σ ς R S k=>?_⟩
 unfold itR1 at k
 rw[Out.post_bind]at k
 refine q G H σ ς _ S (Out.post_mono k fun d k v H1 G1 S1 a1 b1 r=>?_)
 cases d with
 | int n=>
  cases r
  rcases QQ k with⟨hc,k⟩ | ⟨_,k⟩
  ·obtain⟨c1,c2⟩:=QJ1 hc
   exact⟨n,rfl,c1,c2,k _ H1 G1 S1 a1 b1 QLh⟩
  ·exact k.elim
 | _=>exact k.elim
theorem QcA(hp:‹"aL"›)(hc:C.X.calm=true)(hi:DI C tg iter its)(hg:DG C tg g)(hne:noExc g)(hb:DSs C body T)
 (hs:‹"dd"›:=by intro _;rfl):DS C (.For tg iter body [] pos) (sFor g its T):=by
 obtain⟨t0,p0,q0⟩:=hi
 obtain⟨t1,p1,q1⟩:=hg
 obtain⟨t2,p2,q2⟩:=hb
 refine⟨_,QL4 hp hc p0 p1 p2 hs,fun G H σ ς W S k=>?_⟩
 unfold sFor at k
 rw[Out.post_bind]at k
 refine q0 G H σ ς _ S (Out.post_mono k fun xs k J H1 G1 S1 a1 b1 dit=>?_)
 refine⟨fun i m σ' H'=>m=xs.length - i/\i<=xs.length/\∃ G' ς',StR C G' H' σ' ς'/\Same G1 G'/\(loopD ‹"ai"› (xs.drop i) ς').post (FlK C G' W) C.XD,
  ⟨xs.length,by simp,Nat.zero_le _,G1,ς,S1,Same.refl _,Out.post_mono (by simpa using k) fun f k=>FlK.later k b1⟩,?_⟩
 rintro i m σ' H' ⟨rfl,hle,G',ς',S',s',q'⟩
 by_cases hlt:i<xs.length
 ·have hd:xs[i]?=some xs[i]:=by simp[hlt]
  obtain⟨hgo,hy⟩:=dit.go G' H' i _ s' S'.sub hd
  refine .inr ⟨hgo,fun σ2 H2=>∃ G2 ς2,StR C G2 H2 σ2 ς2/\Same G1 G2/\(loopD ‹"ai"› (xs.drop (i+1)) ς2).post (FlK C G2 W) C.XD,
   fun σ2 H2 h2=>⟨xs.length - (i+1),by omega,rfl,hlt,h2⟩,fun x H'' y=>?_⟩
  obtain⟨G'',g1,h1,s1,n1,r⟩:=hy x H'' y
  rw[QzK hd]at q'
  exact turnD hne q1 q2 (S'.grow h1 g1 s1 n1) r (Out.post_mono q' fun f k=>FlK.later k g1) fun σ2 H2 G2 ς2 S2 s2 q2=>⟨G2,ς2,S2,(s'.trans g1).trans s2,q2⟩
 ·have e:i=xs.length:=by omega
  subst e
  rw[List.drop_length]at q'
  exact .inl ⟨dit.stop G' H' s' S'.sub,q' σ' H' G' S' (Same.refl _)⟩
end
def compM(f:D->Out (Option D)):List D->Out (List D)
 | []=>.ok []
 | x::xs=>f x>>=fun o=>compM f xs>>=fun ys=>.ok (o.toList++ys)
def captS(ς:SD)(j:Nat):Option (SM×D):=match ς[j]? with
 | some (some (.k,d))=>some (.k,d)
 | some (some (_,d))=>some (.l,d)
 | _=>none
def captD(js:‹"O"›)(ς:SD):SD:=js.map fun j=>j.bind (captS ς)
def turnC(js:‹"O"›)(g:D->SD->Out SD)(c:SD->Out Bool)(e:SD->Out D)(ς:SD)(x:D):Out (Option D):=
 g x (captD js ς)>>=fun τ=>c τ>>=fun b=>if b=true then e τ>>=fun y=>.ok (some y) else .ok none
def eComp(js:‹"O"›)(its:‹"ak"›)(g:D->SD->Out SD)(c:SD->Out Bool)(e:SD->Out D):SD->Out D:=fun ς=>
 its ς>>=fun xs=>compM ‹"cV"› xs>>=fun ys=>if fits ys.length=true then .ok (.lst ys) else .stuck
def DIf(C:Dc)(ifs:List Expr)(T:SD->Out Bool):Prop:=∃ t,PIf C.X ifs t/\∀ G H σ ς Q,StR C G H σ ς->(T ς).post (KT C G H σ ς Q) C.XD->t σ H Q
def cTrue:SD->Out Bool:=fun _=>.ok true
theorem QW{C:Dc}:DIf C [] cTrue:=⟨_,QOW,fun G H σ ς Q S q=>KT.now q S⟩
theorem QH1{C:Dc}{c:Expr}{T:SD->Out Bool}(h:DT C c T):DIf C [c] T:=let ⟨t,p,q⟩:=h;⟨t,QO1 p,q⟩
def gKeep(g:D->SD->Out SD)(τ0:SD):Prop:=∀ x τ,g x τ0=.ok τ->τ.length=τ0.length/\∀(i:Nat) md,τ0[i]?=some (some md)->τ[i]?=some (some md)
theorem QL{i:Nat}{τ0:SD}(h:τ0[i]?=some none):gKeep (gN i) τ0:=by
 intro x τ e
 cases e
 refine⟨List.length_set ..,fun j md hj=>?_⟩
 rw[Qn (by rintro rfl;rw[h]at hj;cases hj)];exact hj
theorem QHk:∀(is:List Nat)(ds:List D)(τ0 τ:SD),(∀ i∈is,∀ md,τ0[i]?=some (some md)->False)->Qax is ds τ0=.ok τ->τ.length=τ0.length/\∀(i:Nat) md,τ0[i]?=some (some md)->τ[i]?=some (some md)
 | [],[],τ0,τ,_,e=>by cases e;exact⟨rfl,fun _ _ h=>h⟩
 | i::is,d::ds,τ0,τ,h,e=>by
  have e':Qax is ds (τ0.set i (some (.k,d)))=.ok τ:=e
  -- the later targets may meet the stored one again: only what was there ahead is kept
  have go:∀(is:List Nat)(ds:List D)(τ1 τ:SD),τ1.length=τ0.length->(∀ i∈is,∀ md,τ0[i]?=some (some md)->False)->(∀(i:Nat) md,τ0[i]?=some (some md)->τ1[i]?=some (some md))->Qax is ds τ1=.ok τ->
   τ.length=τ0.length/\∀(i:Nat) md,τ0[i]?=some (some md)->τ[i]?=some (some md):=by
   intro is
   induction is with
   | nil=>intro ds τ1 τ hl _ hk e;cases ds with
    | nil=>cases e;exact⟨hl,hk⟩
    | cons _ _=>cases e
   | cons i is ih=>intro ds τ1 τ hl hn hk e;cases ds with
    | nil=>cases e
    | cons d ds=>
     refine ih ds _ τ (by rw[List.length_set];exact hl) (fun j hj=>hn j (List.mem_cons_of_mem _ hj)) (fun j md hj=>?_) e
     rw[Qn (by rintro rfl;exact hn _ List.mem_cons_self md hj)];exact hk j md hj
  refine go is ds _ τ (List.length_set ..) (fun j hj=>h j (List.mem_cons_of_mem _ hj)) (fun j md hj=>?_) e'
  rw[Qn (by rintro rfl;exact h _ List.mem_cons_self md hj)];exact hj
 | [],_::_,_,_,_,e=>by cases e
 | _::_,[],_,_,_,e=>by cases e
theorem Qvp{is:List Nat}{τ0:SD}(h:∀ i∈is,τ0[i]?=some none):gKeep (gT is) τ0:=by
 intro x τ e
 cases x with
 | tup ds=>exact QHk is ds τ0 τ (fun i hi md z=>by rw[h i hi]at z;cases z) e
 | _=>cases e
theorem Qx{js:‹"O"›}{i:Nat}(h:js[i]?=some none)(ς:SD):(captD js ς)[i]?=some none:=by
 unfold captD
 rw[List.getElem?_map,h];rfl
section
variable{C:Dc}{G H:Hp}{σ:St}{ς:SD}
theorem StR.weak{ς':SD}(S:StR C G H σ ς')(hl:ς'.length=ς.length)(h:∀(i:Nat) md,ς[i]?=some (some md)->ς'[i]?=some (some md)):StR C G H σ ς:=
 { S with len:=by rw[S.len,hl],fz:=fun i d e=>S.fz i d (h i _ e),ow:=fun i d e=>S.ow i d (h i _ e),ln:=fun i d e=>S.ln i d (h i _ e),inj:=fun i j d e p n h1 h2=>S.inj i j d e p n (h i _ h1) (h j _ h2),sf:=fun i d e=>S.sf i d (h i _ e),su:=fun i j d e p n h1 h2=>S.su i j d e p n (h i _ h1) (h j _ h2) }
theorem StR.updM(S:‹"au"›){p:Addr}{o:HO}(hM:C.M p)(h0:C.X.H₀ p≠none)(hno:∀(i:Nat) d,ς[i]?≠some (some (.s,d)))(hB:C.B p=none)(hg:G p=none):StR C G (upd H p o) σ ς where
 sub:=fun b u e=>by rw[Qk (by rintro rfl;rw[hg]at e;cases e)];exact S.sub b u e
 g0:=S.g0
 new:=S.new
 fr:=fun b u e m=>by rw[Qk (by rintro rfl;exact m hM)];exact S.fr b u e m
 dom:=fun b e=>by
  by_cases hb:b=p
  ·subst hb;rw[QM]at e;cases e
  ·rw[Qk hb]at e;exact S.dom b e
 bs:=fun b u e=>by rw[Qk (by rintro rfl;rw[hB]at e;cases e)];exact S.bs b u e
 bh:=S.bh
 len:=S.len
 fz:=S.fz
 ow:=fun i d e=>by
  obtain⟨q,a,b,c,w⟩:=S.ow i d e
  exact⟨q,a,b,c,w.mono (Same.refl G) fun u z=>by rw[Qk (by rintro rfl;exact h0 c)];exact z⟩
 ln:=S.ln
 inj:=S.inj
 sf:=fun i d e=>absurd e (hno i d)
 su:=S.su
abbrev ccOf(C:Dc)(N':List Str)(scope:Scope)(fp:List Addr)(s:Shared)(H1 G1:Hp)(p:Addr):Dc:=
 { X:=cxC C.X N' scope fp s (upd H1 p (.lst [])),CT:=C.CT,G0:=G1,XD:=fun _=>False,B:=H1,M:=fun b=>b=p }
theorem QjL{js:‹"O"›}{i:Nat}{md:SM×D}(h:(captD js ς)[i]?=some (some md)):∃ j,js[i]?=some (some j)/\captS ς j=some md:=by
 unfold captD at h
 rw[List.getElem?_map]at h
 cases e:js[i]? with
 | none=>rw[e]at h;cases h
 | some o=>
  rw[e]at h
  cases o with
  | none=>cases h
  | some j=>exact⟨j,rfl,Option.some.inj h⟩
theorem QpP{js:‹"O"›}{i j:Nat}{v:V}(h:js[i]?=some (some j))(hv:σ[j]?=some (some v)):(capt js σ)[i]?=some (some v):=by
 unfold capt
 rw[List.getElem?_map,h]
 show some ((σ[j]?).join)=_
 rw[hv];rfl
theorem QgK{j:Nat}{m:SM}{d:D}(h:captS ς j=some (m,d)):(m=.k/\ς[j]?=some (some (.k,d)))∨(m=.l/\(ς[j]?=some (some (.o,d))∨ς[j]?=some (some (.l,d))∨ς[j]?=some (some (.s,d)))):=by
 unfold captS at h
 split at h
 ·rename_i d' e;cases h;exact .inl ⟨rfl,e⟩
 ·rename_i m' d' hne e
  cases h
  cases m' with
  | k=>exact(hne rfl).elim
  | o=>exact .inr ⟨rfl,.inl e⟩
  | l=>exact .inr ⟨rfl,.inr (.inl e)⟩
  | s=>exact .inr ⟨rfl,.inr (.inr e)⟩
 ·cases h
theorem Qvr{js:‹"O"›}{i:Nat}{d:D}(h:(captD js ς)[i]?=some (some (.s,d))):False:=by
 obtain⟨j,h1,h2⟩:=QjL h
 rcases QgK h2 with⟨h3,_⟩ | ⟨h3,_⟩<;>cases h3
theorem StR.comp{N':List Str}{scope:Scope}{fp:List Addr}{s:Shared}{js:‹"O"›}{p:Addr}(S:‹"au"›)(hp:H p=none):StR ‹"B"› G (upd H p (.lst [])) (capt js σ) (captD js ς) where
 sub:=S.sub.trans (QB hp)
 g0:=Same.refl _
 new:=fun b h1 h2=>absurd h1 h2
 fr:=fun b o e _=>e
 dom:=fun b e=>e
 bs:=QB hp
 bh:=fun b e=>by
  have e':upd H p (.lst []) b=none:=e
  by_cases hb:b=p
  ·subst hb;exact hp
  ·rw[Qk hb]at e';exact e'
 len:=by unfold capt captD;rw[List.length_map,List.length_map]
 fz:=fun i d e=>by
  obtain⟨j,h1,h2⟩:=QjL e
  rcases QgK h2 with⟨_,h3⟩ | ⟨h3,_⟩
  ·obtain⟨v,a,b⟩:=S.fz j d h3
   exact⟨v,QpP h1 a,b⟩
  ·cases h3
 ow:=fun i d e=>by
  obtain⟨j,h1,h2⟩:=QjL e
  rcases QgK h2 with⟨h3,_⟩ | ⟨h3,_⟩<;>cases h3
 ln:=fun i d e=>by
  obtain⟨j,h1,h2⟩:=QjL e
  rcases QgK h2 with⟨h3,_⟩ | ⟨_,h3 | h3 | h3⟩
  ·cases h3
  ·obtain⟨q,a,_,_,w⟩:=S.ow j d h3
   exact⟨_,QpP h1 a,w.rep S.sub⟩
  ·obtain⟨v,a,b⟩:=S.ln j d h3
   exact⟨v,QpP h1 a,Rep.mono S.bs d v b⟩
  ·obtain⟨q,a,_,_,_,_,w⟩:=S.sf j d h3
   exact⟨_,QpP h1 a,w.rep S.sub⟩
 inj:=fun i j d e q _ h=>by
  obtain⟨j,h1,h2⟩:=QjL h
  rcases QgK h2 with⟨h3,_⟩ | ⟨h3,_⟩<;>cases h3
 sf:=fun i d e=>(Qvr e).elim
 su:=fun i j d e p _ h=>(Qvr h).elim
variable{N':List Str}{js:List (Option Nat)}{scope:Scope}{tg iter elt:Expr}{ifs:List Expr}{its:SD->Out (List D)}{g:D->SD->Out SD}{c:SD->Out Bool}{e:SD->Out D}{pos:Pos}
theorem QNd{J:It}{xs:List D}{p:Addr}{fp:List Addr}{s:Shared}{Q:VK}(S:‹"au"›)(hp:H p=none)(dit:DItB C.X.K C.CT H G J xs)(hx:∀ x,¬ C.XD x)(hk:gKeep g (captD js ς))(hne:noExc g)
 (hin:DG ‹"B"› tg g/\DIf ‹"B"› ifs c/\DE ‹"B"› elt e)
 (q:(compM ‹"cV"› xs>>=fun ys=>if fits ys.length=true then Out.ok (D.lst ys) else .stuck).post (fun d=>∀ H' G',StR C G' H' σ ς->Same H H'->Same G G'->G' p=none->Own C.X.K C.CT G' H' p d->Q (.ref p) H') C.XD):
 CompW (cxC C.X N' scope fp s (upd H p (.lst []))) js tg elt ifs σ H J p Q:=by
 obtain⟨⟨tt,pg,hg⟩,⟨tcc,pif,hcI⟩,⟨te,pe,he⟩⟩:=hin
 generalize hτ:captD js ς=τ0 at hk
 have S0:StR ‹"B"› G (upd H p (.lst [])) (capt js σ) τ0:=by rw[← hτ];exact S.comp hp
 refine⟨fun i m τ H'=>m=xs.length - i/\i<=xs.length/\∃ G' acc vs,StR ‹"B"› G' H' τ τ0/\H' p=some (.lst vs)/\RepL C.X.K C.CT G' acc vs/\G' p=none/\
  (compM ‹"cV"› (xs.drop i)).post ‹"c"› C.XD,
  ⟨xs.length,by simp,Nat.zero_le _,G,[],[],S0,QM,rfl,S.sub.free hp,by rw[Out.post_bind]at q;simpa using q⟩,?_⟩
 rintro i m τ H' ⟨rfl,hle,G',acc,vs,S',hp',r',hg',q'⟩
 have hH0:(ccOf C N' scope fp s H G p).X.H₀ p≠none:=by
  show upd H p (.lst []) p≠none
  rw[QM];simp
 by_cases hlt:i<xs.length
 ·have hd:xs[i]?=some xs[i]:=by simp[hlt]
  obtain⟨hgo,hy⟩:=dit.go G' H' i _ S'.g0 S'.sub S'.bs hd
  refine .inr ⟨hgo,fun τ2 H2=>i+1<=xs.length/\∃ G' acc vs,StR ‹"B"› G' H2 τ2 τ0/\H2 p=some (.lst vs)/\RepL C.X.K C.CT G' acc vs/\G' p=none/\
   (compM ‹"cV"› (xs.drop (i+1))).post ‹"c"› C.XD,
   fun τ2 H2 h2=>⟨xs.length - (i+1),by omega,rfl,h2⟩,fun x H'' y=>?_⟩
  obtain⟨G'',g1,h1,s1,n1,r⟩:=hy x H'' y
  have S'':=S'.grow h1 g1 s1 n1
  have hgp:G'' p=none:=by
   cases z:G'' p with
   | none=>rfl
   | some o=>
    have:=n1 p hg' (by rw[z];simp)
    rw[hp']at this;cases this
  rw[QzK hd,compM,Out.post_bind]at q'
  have tu:turnC js g c e ς xs[i]=(g xs[i] τ0>>=fun τ=>c τ>>=fun b=>if b=true then e τ>>=fun y=>Out.ok (some y) else Out.ok none):=by unfold turnC;rw[hτ]
  rw[tu,Out.post_bind]at q'
  cases z:g xs[i] τ0 with
  | exc w=>exact absurd z (hne _ _ _)
  | stuck=>rw[z]at q';exact q'.elim
  | ok τ1=>
   rw[z]at q'
   obtain⟨hl1,hk1⟩:=hk _ _ z
   refine⟨tt,pg,hg G'' H'' τ τ0 xs[i] x τ1 _ S'' r z fun τ2 S2=>?_⟩
   have q2:(c τ1>>=fun b=>if b=true then e τ1>>=fun y=>Out.ok (some y) else Out.ok none).post _ _:=q'
   rw[Out.post_bind]at q2
   -- no refusal leaves the block
   have q3:(c τ1).post (fun b=>(if b=true then e τ1>>=fun y=>Out.ok (some y) else Out.ok none).post ‹"bP"› C.XD) (fun _=>False):=by
    cases w:c τ1 with
    | ok b=>rw[w]at q2;exact q2
    | exc w'=>rw[w]at q2;exact absurd q2 (hx _)
    | stuck=>rw[w]at q2;exact q2.elim
   refine⟨tcc,pif,hcI G'' H'' τ2 τ1 _ S2 (Out.post_mono q3 fun b kb H3 G3 S3 a3 b3=>?_)⟩
   have hp3:H3 p=some (.lst vs):=a3 _ _ (h1 _ _ hp')
   have hg3:G3 p=none:=by
    cases z3:G3 p with
    | none=>rfl
    | some o=>
     have e3:(ccOf C N' scope fp s H G p).G0 p=none:=S.sub.free hp
     exact absurd (S3.new p e3 (by rw[z3];simp)) hH0
   cases b with
   | false=>
    refine iteF ⟨hlt,G3,acc,vs,S3.weak (by rw[hl1]) hk1,hp3,RepL.mono (g1.trans b3) acc vs r',hg3,?_⟩
    have kb':(compM ‹"cV"› (xs.drop (i+1))>>=fun ys=>Out.ok ((none:Option D).toList++ys)).post ‹"c"› C.XD:=kb
    rw[Out.post_bind]at kb'
    exact Out.post_mono kb' fun ys k=>k
   | true=>
    have kb:(e τ1>>=fun y=>Out.ok (some y)).post ‹"bP"› C.XD:=kb
    rw[Out.post_bind]at kb
    have kb2:(e τ1).post (fun y=>(compM ‹"cV"› (xs.drop (i+1))>>=fun ys=>Out.ok ((some y:Option D).toList++ys)).post ‹"c"› C.XD) (fun _=>False):=by
     cases w:e τ1 with
     | ok b=>rw[w]at kb;exact kb
     | exc w'=>rw[w]at kb;exact absurd kb (hx _)
     | stuck=>rw[w]at kb;exact kb.elim
    refine iteT ⟨te,pe,he G3 H3 τ2 τ1 _ S3 (Out.post_mono kb2 fun y ky v4 H4 G4 S4 a4 b4 r4=>?_)⟩
    rw[Out.post_bind]at ky
    have hp4:H4 p=some (.lst vs):=a4 _ _ hp3
    have hg4:G4 p=none:=by
     cases z3:G4 p with
     | none=>rfl
     | some o=>
      have e3:(ccOf C N' scope fp s H G p).G0 p=none:=S.sub.free hp
      exact absurd (S4.new p e3 (by rw[z3];simp)) hH0
    have rr:=RepL.mono ((g1.trans b3).trans b4) acc vs r'
    refine⟨vs,hp4,?_,hlt,G4,acc++[y],vs++[v4],?_,QM,rr.append (RepL.one r4),hg4,?_⟩
    ·cases w:compM ‹"cV"› (xs.drop (i+1)) with
     | stuck=>rw[w]at ky;exact ky.elim
     | exc w'=>rw[w]at ky;exact absurd ky (hx _)
     | ok ys=>
      rw[w]at ky
      rcases QQ (show(if fits (acc++((some y:Option D).toList++ys)).length=true then Out.ok (D.lst (acc++((some y:Option D).toList++ys))) else .stuck).post _ _ from ky) with⟨hc,_⟩ | ⟨_,k⟩
      ·have hc':=of_decide_eq_true hc
       rw[List.length_append,List.length_append]at hc'
       have:(some y:Option D).toList.length=1:=rfl
       have hl:=r'.length
       omega
      ·exact k.elim
    ·exact(S4.weak (by rw[hl1]) hk1).updM rfl hH0 (fun i d z=>by rw[← hτ]at z;exact Qvr z) hp hg4
    ·exact Out.post_mono ky fun ys k=>by
      have e5:acc++[y]++ys=acc++((some y:Option D).toList++ys):=by simp
      rw[e5];exact k
 ·have ei:i=xs.length:=by omega
  subst ei
  rw[List.drop_length]at q'
  refine .inl ⟨dit.stop G' H' S'.g0 S'.sub S'.bs,?_⟩
  have q2:(if fits (acc++[]).length=true then Out.ok (D.lst (acc++[])) else .stuck).post _ C.XD:=q'
  rcases QQ q2 with⟨_,k⟩ | ⟨_,k⟩
  ·rw[List.append_nil]at k
   have hHH:Same H H':=fun b o eb=>S'.fr b o (by
    show upd H p (.lst []) b=some o
    rw[Qk (Q3 eb hp)];exact eb) (Q3 eb hp)
   have SG:StR C G' H' σ ς:=S.grow hHH S'.g0 S'.sub fun b h1 h2=>by
    have:=S'.new b h1 h2
    have this:upd H p (.lst []) b=none:=this
    by_cases hb:b=p
    ·subst hb;exact hp
    ·rw[Qk hb]at this;exact this
   exact k H' G' SG hHH S'.g0 hg' ⟨vs,hp',r'⟩
  ·exact k.elim
theorem compT(hi:∃ wi,PI C.X tg iter wi/\∀ G H σ ς (R:It->Hp->Prop),StR C G H σ ς->(its ς).post ‹"ck"› C.XD->wi σ H R)
 (hx:∀ x,¬ C.XD x) (hk:∀ ς,gKeep g (captD js ς)) (hne:noExc g)
 (hin:‹"aR"›):
 ∃ wi,PI C.X tg iter wi/\∀ G H σ ς Q,StR C G H σ ς->(eComp js its g c e ς).post (KF C G H σ ς Q) C.XD->tComp C.X N' js scope tg elt ifs wi σ H Q:=by
 obtain⟨wi,pi,hq⟩:=hi
 refine⟨wi,pi,fun G H σ ς Q S k=>?_⟩
 unfold eComp at k
 rw[Out.post_bind]at k
 refine hq G H σ ς _ S (Out.post_mono k fun xs k J H1 G1 S1 a1 b1 dit p hp fp s=>?_)
 refine QNd S1 hp dit hx (hk ς) hne (hin fp s H1 G1 p) (Out.post_mono k fun d kd H' G' S' h1 g1 hg ow=>?_)
 exact kd p H' G' S' (a1.trans h1) (b1.trans g1) (a1.free hp) hg ow
theorem Q8(hc:C.X.calm=true)(S:QI N' js scope C.X.env.scope C.X.N)(hi:DIB C tg iter its)(hk:∀ ς,gKeep g (captD js ς))(hne:noExc g)
 (hin:‹"aR"›)
 (hx:∀ x,¬ C.XD x:=by exact fun _ h=>h) (hs:‹"dd"›:=by intro _;rfl):DF C ‹"s"› (eComp js its g c e):=by
 obtain⟨wi,pi,h⟩:=compT hi hx hk hne hin
 exact⟨_,QOk hc S pi hs,h⟩
variable{i:Nat}{x:Str}{px spos:Pos}
theorem QiR(hc:C.X.calm=true)(S:QI N' js scope C.X.env.scope C.X.N)(hi:DIB C tg iter its)(hk:∀ ς,gKeep g (captD js ς))(hne:noExc g)
 (hin:‹"aR"›)
 (hN:C.X.N.Nodup) (hxN:C.X.N[i]?=some x) (hl:Loc C.X.env.scope x)
 (hsw:swapsWith ‹"s"› (some (.Name x px)) spos.line C.X.env=pure true:=by rfl)
 (hf:C.X.fn x=true∨C.X.env.scope.names.lookup x=some .local:=by first | exact .inl rfl | exact .inr rfl | assumption)
 (hx:∀ x,¬ C.XD x:=by exact fun _ h=>h) (hs:‹"dd"›:=by intro _;rfl):DS C (.Assign [.Name x px] ‹"s"› spos) (sSet i (eComp js its g c e)):=by
 obtain⟨wi,pi,h⟩:=compT hi hx hk hne hin
 refine⟨_,QOL hc S pi hN hxN hl hsw hf hs,fun G H σ ς W S k=>?_⟩
 unfold sSet at k
 rw[Out.post_bind]at k
 exact h G H σ ς _ S (Out.post_mono k fun d k=>KD.ofF (Q:=fun v H1=>W.nx (σ.set i (some v)) H1) S fun v H1 G1 S1 a1 b1 r1=>k _ H1 G1 (S1.set i r1) b1)
end
end DL
namespace L2
open PySem PySem.Spec PyProof.Rows
def Its(x:Str):It:=⟨fun i _=>i<x.cps.size,fun i H v H'=>H'=H/\∃ c,x.cps[i]?=some c/\v=.str ⟨#[c]⟩,fun i _=>x.cps.size<=i⟩
section
variable{X:Cx}{tg:Expr}
theorem QzL{P:Program}{w:World}{K:W.Frag}{tg:Expr}{x:Str}{ty:String}{t:Tok}(it:Addr)(hn:["enumerate","zip","dict_itemiterator","dict_reverseitemiterator","odict_iterator","itertools.zip_longest","itertools.pairwise"].contains ty=false)
 (hs:∀(A:Around)(i:Nat)(s:Shared)(Q:‹"m"›)(E:‹"m"›),s.heap.IsStrIter it ty x t i->Q (.ref it) s->wpAny (model P w) A (pyIter (.ref it)) Q E s)
 (W:∀ A':Around,A'.handled=none->Walks P w A' it [it] [it] x.cps.size (SignAt x) (fun i h=>h.IsStrIter it ty x t i)):Turn P w K tg (Its x) [it] it (fun i h=>h.IsStrIter it ty x t i/\i<=x.cps.size) where
 mem:=by simp
 obj:=fun i h st b hb=>by
  have e:b=it:=by simpa using hb
  subst e
  obtain⟨⟨o,e,c,d⟩,_⟩:=st
  exact⟨o,e,fun v z=>by rw[d]at z;cases z⟩
 keep:=fun i h h' st k=>⟨by obtain⟨⟨o,e,c,d⟩,_⟩:=st;exact⟨o,k it (by simp) o e,c,d⟩,st.2⟩
 item:=by
  intro X hP hw hK hc i pins s σ H E I hf st hg
  subst hP hw hK
  obtain⟨f0,f1,f2,f3,f4,f5⟩:=hf it (by simp)
  refine(W X.A (I.ok.hd hc)).item i s _ _ hg st.1 fun v h' tk hv st' kk=>?_
  obtain⟨c,u,hcx,rfl⟩:=hv
  have I1:Inv X pins σ H { s with heap:=h',toks:=tk }:=I.turned (fun b o hb e=>kk b o (by simpa using hb) e) f0 f1 f3 f4 f5
  obtain⟨o,e,c',d⟩:=id st'
  exact⟨_,rfl,go_of (s:={ s with heap:=h',toks:=tk }) e c' d hn ⟨.str ⟨#[c]⟩,H,I1,⟨u,rfl⟩,⟨rfl,c,hcx,rfl⟩,⟨st',hg⟩,fun b hb=>(hf b hb).1⟩⟩
 done:=by
  intro X hP hw hK hc i pins s σ H E I hf st hg
  subst hP hw hK
  obtain⟨f0,f1,f2,f3,f4,f5⟩:=hf it (by simp)
  have hg':x.cps.size<=i:=hg
  have e:i=x.cps.size:=Nat.le_antisymm st.2 hg'
  subst e
  exact(W X.A (I.ok.hd hc)).done s _ _ st.1 fun h' tk kk=>⟨rfl,I.turned (fun b o hb e=>kk b o (by simpa using hb) e) f0 f1 f3 f4 f5⟩
 self:=fun A i s Q E st h=>hs A i s Q E st.1 h
def iStr(tl:TE):TI:=fun σ H R=>tl σ H fun x H1=>∃ z,x=.str z/\R (Its z) H1
theorem QPO{l:Expr}{tl:TE}(hl:PE X l tl):PI X tg l (iStr tl):=by
 intro pins s σ H R I h
 refine thn (hl pins s σ H _ I h) fun v s1 ⟨x,H1,I1,r1,q1⟩=>?_
 obtain⟨z,e,q⟩:=q1
 subst e
 obtain⟨t,rfl⟩:=r1
 cases ha:z.cps.all (· < 128)
 ·refine wpAny_pyIter_wide ha ⟨s1.heap.objs.size,[s1.heap.objs.size],_,_,H1,rfl,I1.kept (t':=s1.toks) fun b o e=>Heap.get?_push_of_some _ e,QzL (x:=z) (ty:="str_iterator") (t:=t) _ (by decide) (fun _ _ _ _ _ st h=>wpAny_pyIter_striter_wide st h) (fun A' hA=>Walks.strWide hA _ z t),⟨⟨_,Heap.get?_push_size _ rfl,rfl,rfl⟩,Nat.zero_le _⟩,fun b hb=>?_,q⟩
  have e:b=s1.heap.objs.size:=by simpa using hb
  subst e
  exact I1.fpOk ‹"ar"› ‹"er"›
 ·refine wpAny_pyIter_ascii ha ⟨s1.heap.objs.size,[s1.heap.objs.size],_,_,H1,rfl,I1.kept (t':=s1.toks) fun b o e=>Heap.get?_push_of_some _ e,QzL (x:=z) (ty:="str_ascii_iterator") (t:=t) _ (by decide) (fun _ _ _ _ _ st h=>wpAny_pyIter_striter_ascii st h) (fun A' hA=>Walks.strAscii hA _ z t),⟨⟨_,Heap.get?_push_size _ rfl,rfl,rfl⟩,Nat.zero_le _⟩,fun b hb=>?_,q⟩
  have e:b=s1.heap.objs.size:=by simpa using hb
  subst e
  exact I1.fpOk ‹"ar"› ‹"er"›
theorem QLe(bs:List Bool):(List.range bs.length).all (fun i=>(bs[i]?).getD false)=bs.all id:=by
 rw[Bool.eq_iff_iff,List.all_eq_true,List.all_eq_true]
 constructor
 ·intro h b hb
  obtain⟨i,hi,e⟩:=List.mem_iff_getElem.mp hb
  have:=h i (List.mem_range.mpr hi)
  rw[List.getElem?_eq_getElem hi,Option.getD_some,e]at this
  exact this
 ·intro h i hi
  have hi':=List.mem_range.mp hi
  rw[List.getElem?_eq_getElem hi',Option.getD_some]
  exact h _ (List.getElem_mem hi')
theorem QK5(bs:List Bool):(List.range bs.length).any (fun i=>(bs[i]?).getD false)=bs.any id:=by
 rw[Bool.eq_iff_iff,List.any_eq_true,List.any_eq_true]
 constructor
 ·rintro ⟨i,hi,h⟩
  have hi':=List.mem_range.mp hi
  rw[List.getElem?_eq_getElem hi',Option.getD_some]at h
  exact⟨_,List.getElem_mem hi',h⟩
 ·rintro ⟨b,hb,h⟩
  obtain⟨i,hi,e⟩:=List.mem_iff_getElem.mp hb
  exact⟨i,List.mem_range.mpr hi,by rw[List.getElem?_eq_getElem hi,Option.getD_some,e];exact h⟩
theorem QLk(hc:X.calm=true):CallR X (.builtin "all") (fun xs H Q=>∃(p:Addr)(bs:List Bool),xs=[.ref p]/\SqL X.K H p (bs.map V.bl)/\Q (.bl (bs.all id)) H):=by
 intro pins s σ H xs us Q I r h
 obtain⟨p,bs,rfl,hq,q⟩:=h
 obtain⟨u,rfl,rx⟩:=vals1 r
 cases rx
 obtain⟨its,rv,pl,hz⟩:=I.list hq
 have hlen:=rv.length
 refine call_all_walk ?_
 refine wpAny_pyIter_list pl.isList ?_
 have hp:p<s.heap.objs.size:=by obtain⟨o,n,ho,_⟩:=pl;exact Heap.lt_size ho
 have hne:p≠s.heap.objs.size:=Nat.ne_of_lt hp
 refine⟨_,_,_,_,_,_,fun i=>(bs[i]?).getD false,rfl,Walks.list (A:=X.A.in1) (I.ok.hd hc) _ p hne its.toArray,⟨⟨_,Heap.get?_push_size _ rfl,rfl,rfl⟩,pl.isList.at fun o e=>Heap.get?_push_of_some _ e⟩,?_,fun h' tk kk=>⟨.bl (bs.all id),H,?_,?_,q⟩⟩
 ·intro i v s2 Q2 E2 hv hQ2
  have hv':its[i]?=some v:=by simpa using hv
  have hi:i<bs.length:=by
   have:=(List.getElem?_eq_some_iff.mp hv').1
   rw[List.length_map]at hlen
   omega
  obtain⟨y,hy,ry⟩:=rv.get (i:=i) (x:=.bl bs[i]) (by rw[List.getElem?_map,List.getElem?_eq_getElem hi];rfl)
  rw[hv']at hy
  cases hy
  cases ry
  have hQ2:Q2 ((bs[i]?).getD false) s2:=hQ2
  rw[List.getElem?_eq_getElem hi,Option.getD_some]at hQ2
  exact wpAny_pure hQ2
 ·exact I.kept fun b o e=>kk b o (by
   intro hb
   have e2:b=s.heap.objs.size:=by simpa using hb
   subst e2
   exact absurd (Heap.lt_size e) (Nat.lt_irrefl _)) (Heap.get?_push_of_some _ e)
 ·rw[List.size_toArray, ← hlen,List.length_map,QLe];exact rfl
theorem QKY(hc:X.calm=true):CallR X (.builtin "any") (fun xs H Q=>∃(p:Addr)(bs:List Bool),xs=[.ref p]/\SqL X.K H p (bs.map V.bl)/\Q (.bl (bs.any id)) H):=by
 intro pins s σ H xs us Q I r h
 obtain⟨p,bs,rfl,hq,q⟩:=h
 obtain⟨u,rfl,rx⟩:=vals1 r
 cases rx
 obtain⟨its,rv,pl,hz⟩:=I.list hq
 have hlen:=rv.length
 refine call_any_walk ?_
 refine wpAny_pyIter_list pl.isList ?_
 have hp:p<s.heap.objs.size:=by obtain⟨o,n,ho,_⟩:=pl;exact Heap.lt_size ho
 have hne:p≠s.heap.objs.size:=Nat.ne_of_lt hp
 refine⟨_,_,_,_,_,_,fun i=>(bs[i]?).getD false,rfl,Walks.list (A:=X.A.in1) (I.ok.hd hc) _ p hne its.toArray,⟨⟨_,Heap.get?_push_size _ rfl,rfl,rfl⟩,pl.isList.at fun o e=>Heap.get?_push_of_some _ e⟩,?_,fun h' tk kk=>⟨.bl (bs.any id),H,?_,?_,q⟩⟩
 ·intro i v s2 Q2 E2 hv hQ2
  have hv':its[i]?=some v:=by simpa using hv
  have hi:i<bs.length:=by
   have:=(List.getElem?_eq_some_iff.mp hv').1
   rw[List.length_map]at hlen
   omega
  obtain⟨y,hy,ry⟩:=rv.get (i:=i) (x:=.bl bs[i]) (by rw[List.getElem?_map,List.getElem?_eq_getElem hi];rfl)
  rw[hv']at hy
  cases hy
  cases ry
  have hQ2:Q2 ((bs[i]?).getD false) s2:=hQ2
  rw[List.getElem?_eq_getElem hi,Option.getD_some]at hQ2
  exact wpAny_pure hQ2
 ·exact I.kept fun b o e=>kk b o (by
   intro hb
   have e2:b=s.heap.objs.size:=by simpa using hb
   subst e2
   exact absurd (Heap.lt_size e) (Nat.lt_irrefl _)) (Heap.get?_push_of_some _ e)
 ·rw[List.size_toArray, ← hlen,List.length_map,QK5];exact rfl
end
end L2
namespace DL
open PySem PySem.Spec PyProof.Rows L2
def signs(z:Str):List D:=z.cps.toList.map fun c=>D.str ⟨#[c]⟩
def itS(E:SD->Out D):SD->Out (List D):=fun ς=>E ς>>=fun d=>match d with | .str z=>.ok (signs z) | _=>.stuck
section
variable{C:Dc}{e tg iter a b:Expr}{E A B:SD->Out D}{pos p:Pos}{es:List Expr}{AA:SD->Out (List D)}
theorem QON{K:W.Frag}{CT:CTab}{G1:Hp}{z:Str}:DIt K CT G1 (Its z) (signs z) where
 go:=fun G H i d s1 sH hd=>by
  unfold signs at hd
  rw[List.getElem?_map]at hd
  cases hc:z.cps.toList[i]? with
  | none=>rw[hc]at hd;cases hd
  | some c=>
   rw[hc]at hd
   cases hd
   have hi:i<z.cps.size:=by
    have:=(List.getElem?_eq_some_iff.mp hc).1
    simpa using this
   refine⟨hi,fun x H' ⟨e,c',h1,h2⟩=>?_⟩
   subst e h2
   have h1':z.cps.toList[i]?=some c':=by simpa using h1
   rw[hc]at h1'
   cases h1'
   exact⟨G,Same.refl _,Same.refl _,sH,fun b g n=>absurd g n,rfl⟩
 stop:=fun G H s1 sH=>by
  unfold signs
  show z.cps.size<=_
  rw[List.length_map];simp
theorem QQR(h:DB C iter E):DI C tg iter (itS E):=by
 obtain⟨t,p,q⟩:=h
 refine⟨_,QPO p,fun G H σ ς R S k=>?_⟩
 unfold itS at k
 rw[Out.post_bind]at k
 refine q G H σ ς _ S (Out.post_mono k fun d k v H1 G1 S1 a1 b1 r1=>?_)
 cases d with
 | str z=>cases r1;exact⟨z,rfl,k _ H1 G1 S1 a1 b1 QON⟩
 | _=>exact k.elim
def dIn:D->D->Out D
 | .str x,.str y=>.ok (.bl (!(Builtin.Str.occurrences y x 0 y.length 1).isEmpty))
 | _,_=>.stuck
theorem QPA:DRS C ‹"bM"› dIn:=by
 intro G H σ ς Q x y vx vy S hx hy q
 cases x with
 | str x=>
  cases y with
  | str y=>cases hx;cases hy;exact⟨x,y,rfl,rfl,q.2⟩
  | _=>exact q.elim
 | _=>cases y<;>exact q.elim
theorem QO4:scal2 dIn:=fun x y=>by cases x<;>cases y<;>first | exact rfl | exact True.intro
theorem de_in(ha:DB C a A)(hb:DB C b B)(hm:behindInMarks .In b=false:=by rfl):DE C (.Compare a [.In] [b] pos) (e2 dIn A B):=Qwr QKG QPA QO4 ha hb hm
def blsOf:List D->Option (List Bool)
 | []=>some []
 | .bl b::r=>(blsOf r).map (b :: ·)
 | _::_=>none
theorem QtG{K:W.Frag}{CT:CTab}{H:Hp}:∀{ds:List D}{bs:List Bool}{vs:List V},blsOf ds=some bs->RepL K CT H ds vs->vs=bs.map V.bl
 | [],bs,vs,h,r=>by cases h;exact r
 | d::ds,bs,vs,h,⟨v,w,h1,h2,h3⟩=>by
  cases d with
  | bl b=>
   cases e:blsOf ds with
   | none=>rw[blsOf,e]at h;cases h
   | some cs=>
    rw[blsOf,e]at h
    cases h
    cases h2
    rw[h1,QtG e h3];rfl
  | _=>cases h
def fAll:D->Out D
 | .lst xs=>match blsOf xs with | some bs=>.ok (.bl (bs.all id)) | none=>.stuck
 | _=>.stuck
def fAny:D->Out D
 | .lst xs=>match blsOf xs with | some bs=>.ok (.bl (bs.any id)) | none=>.stuck
 | _=>.stuck
theorem QjE(hc:C.X.calm=true)(hg:Gl C.X "all")(hm:C.X.mg "all"=none)(ha:DAB C (e::es) AA)
 (he:‹"b"›:=by rfl) (hpl:(backTo pos ‹"aC"›).any (·.1)=false:=by rfl):DE C (.Call (.Name "all" p) (e::es) [] pos) (eA (f1 fAll) AA):=by
 refine QvY (QLk hc) (QEI ?_) (Qym ?_) hg hm PyProof.Rows.Boot.«all» ha (by decide) (by decide) he hpl
 ·intro G H σ ς Q x v S r q
  cases x with
  | lst xs=>
   cases eb:blsOf xs with
   | none=>rw[fAll,eb]at q;exact q.elim
   | some bs=>
    rw[fAll,eb]at q
    obtain⟨a,vs,rfl,h2,h3⟩:=r
    rw[QtG eb h3]at h2
    exact⟨a,bs,rfl,h2,q.2⟩
  | _=>exact q.elim
 ·intro x
  cases x with
  | lst xs=>
   rw[fAll]
   cases blsOf xs with
   | none=>exact True.intro
   | some bs=>exact rfl
  | _=>exact True.intro
theorem QQI(hc:C.X.calm=true)(hg:Gl C.X "any")(hm:C.X.mg "any"=none)(ha:DAB C (e::es) AA)
 (he:‹"b"›:=by rfl) (hpl:(backTo pos ‹"aC"›).any (·.1)=false:=by rfl):DE C (.Call (.Name "any" p) (e::es) [] pos) (eA (f1 fAny) AA):=by
 refine QvY (QKY hc) (QEI ?_) (Qym ?_) hg hm PyProof.Rows.Boot.«any» ha (by decide) (by decide) he hpl
 ·intro G H σ ς Q x v S r q
  cases x with
  | lst xs=>
   cases eb:blsOf xs with
   | none=>rw[fAny,eb]at q;exact q.elim
   | some bs=>
    rw[fAny,eb]at q
    obtain⟨a,vs,rfl,h2,h3⟩:=r
    rw[QtG eb h3]at h2
    exact⟨a,bs,rfl,h2,q.2⟩
  | _=>exact q.elim
 ·intro x
  cases x with
  | lst xs=>
   rw[fAny]
   cases blsOf xs with
   | none=>exact True.intro
   | some bs=>exact rfl
  | _=>exact True.intro
theorem QNj{X:Cx}:PE X (.Dict [] [] pos) (fun _ H Q=>∀ p,H p=none->Q (.ref p) (upd H p (.dK []))):=fun pins s σ H Q I h=>by
 have hb:sysModules<s.heap.objs.size:=Nat.lt_trans (by decide) (show mainGlobals<s.heap.objs.size from(I.mod.glob.keeps I.bk).lt)
 exact wpAny_Dict_empty ⟨.ref s.heap.objs.size,_,I.laid (a:=s.heap.objs.size) (o:=.dK []) (t':=s.toks) (fun _ _ q=>Heap.get?_push_of_some _ q) ‹"ar"›
  ⟨Nat.zero_le _,beq_eq_false_iff_ne.mpr (Ne.symm (Nat.ne_of_lt hb)),[],.nil,Heap.DictOf.new s.heap⟩,rfl,h _ (I.hok.fresh ‹"ar"›)⟩
def eDic0:SD->Out D:=fun _=>.ok (.dic [])
theorem QOn:DF C (.Dict [] [] pos) eDic0:=⟨_,QNj,fun G H σ ς Q S q p hp=>by
 have q:KF C G H σ ς Q (.dic []):=q
 exact q p _ G (S.allocO hp) (QB hp) (Same.refl _) hp (S.gnone hp) ⟨[],QM,rfl⟩⟩
end
end DL
namespace DL
open PySem PySem.Spec PyProof.Rows L2
def ctOf(K:W.Frag):CTab:=fun c=>match W.nsIn K mainGlobals c with | some (some (.ref a))=>some a | _=>none
theorem ct_of{K:W.Frag}{c:Str}{a:Addr}(h:W.nsIn K mainGlobals c=some (some (.ref a))):ctOf K c=some a:=by unfold ctOf;rw[h]
structure Rz(C:Dc)(E:XK):Prop where
 pass:QfE (CXR C.X.prog C.X.w) C.X E
 xd:∀ d,C.XD d->∃ c Cc,d=.err c/\C.CT c=some Cc/\∀ H',(∀ b o,C.X.H₀ b=some o->¬ C.M b->H' b=some o)->E (.ref Cc) none H'
 made:∀(Cc:Addr) pins σ H1 s1 ea h' vs,Inv C.X pins σ H1 s1->Heap.MadeExcOf s1.heap h' ea (.ref Cc) vs->E (.ref Cc) none H1->C.X.xe (.ref ea) { s1 with heap:=h' }
 calm:C.X.calm=true
theorem rz0{C:Dc}(hx:∀ d,¬ C.XD d:=by exact fun _ h=>h)(hc:C.X.calm=true:=by rfl):Rz C E0 where
 pass:=fun pins σ H s e s' I h=>by obtain⟨_,_,_,_,_,_,_,z⟩:=h;exact z.elim
 xd:=fun d h=>absurd h (hx d)
 made:=fun Cc pins σ H1 s1 ea h' vs I hx hE=>hE.elim
 calm:=hc
abbrev Dc.nox(C:Dc):Dc:={ C with X:=C.X.nox,XD:=fun _=>False }
def noX{α:Type}:Out α->Out α
 | .exc _=>.stuck
 | o=>o
theorem QQi{α:Type}(a:α):noX (.ok a)=.ok a:=rfl
theorem QDQ{α:Type}{o:Out α}{k:α->Prop}{x:D->Prop}(h:(noX o).post k x):o.post k (fun _=>False):=by cases o<;>exact h
section
variable{C:Dc}{G H:Hp}{σ:St}{ς:SD}{e:Expr}{es:List Expr}{st:Stmt}{sts:List Stmt}
theorem GH.nox(S:GH C G H):GH C.nox G H:=⟨S.sub,S.g0,S.new,S.fr,S.dom,S.bs,S.bh⟩
theorem GH.unnox(S:GH C.nox G H):GH C G H:=⟨S.sub,S.g0,S.new,S.fr,S.dom,S.bs,S.bh⟩
theorem StR.nox(S:‹"au"›):StR C.nox G H σ ς:=⟨S.toGH.nox,S.len,S.fz,S.ow,S.ln,S.inj,S.sf,S.su⟩
theorem StR.unnox(S:StR C.nox G H σ ς):StR C G H σ ς:=⟨S.toGH.unnox,S.len,S.fz,S.ow,S.ln,S.inj,S.sf,S.su⟩
theorem PA.nox'{X:Cx}{t:TA}(h:PA X.nox es t):PA X es t:=fun pos pins s σ H Q I q=>PA.nox h I q
theorem DA.lift{A:‹"ak"›}(h:DA C.nox es A):DA C es (fun ς=>noX (A ς)):=by
 obtain⟨t,p,q⟩:=h
 exact⟨t,PA.nox' p,fun G H σ ς Q S k=>q G H σ ς Q S.nox (Out.post_mono (QDQ k) fun d kd v H' G' S' a b r=>kd v H' G' S'.unnox a b r)⟩
theorem FlK.nox{W:Ends}{f:Fl}(h:FlK C G W f):FlK C.nox G W f:=by
 cases f with
 | nx ς=>exact fun σ' H' G' S q=>h σ' H' G' S.unnox q
 | bk ς=>exact fun σ' H' G' S q=>h σ' H' G' S.unnox q
 | ct ς=>exact fun σ' H' G' S q=>h σ' H' G' S.unnox q
 | rt b d=>exact fun v H' G' S q r=>h v H' G' S.unnox q r
theorem PS.nox'{X:Cx}{t:TS}(h:PS X.nox st t):PS X st t:=fun pins s σ H D I hw=>
 wpAny_mono (h pins s σ H D (I.wish _) hw) (fun _ _ q=>q.unwish) fun _ _ z=>False.elim z
theorem DS.lift{T:SD->Out Fl}(h:DS C.nox st T):DS C st (fun ς=>noX (T ς)):=by
 obtain⟨t,p,q⟩:=h
 exact⟨t,PS.nox' p,fun G H σ ς W S k=>q G H σ ς W S.nox (Out.post_mono (QDQ k) fun f kf=>kf.nox)⟩
variable{x:Str}{k:Nat}{fr:Bool}{dd:List D}{m:List D->Out D}{A:SD->Out (List D)}{p pos:Pos}{E:XK}
end
end DL
namespace DL
open PySem PySem.Spec PyProof.Rows L2
section
variable{C:Dc}{x:Str}{k:Nat}{fr:Bool}{dd:List D}{m:List D->Out D}{e:Expr}{es:List Expr}{A:SD->Out (List D)}{p pos:Pos}
variable{T U:SD->Out FX}{TE:SD->Out EX}{st:Stmt}{sts rest:List Stmt}{i:Nat}{px:Pos}
section
variable{G H:Hp}{σ:St}{ς:SD}{ea:Addr}
end
end
end DL
namespace L2
open PySem PySem.Spec PyProof.Rows
end L2
namespace DL
open PySem PySem.Spec PyProof.Rows L2
section
variable{C:Dc}{pos p:Pos}{e cx:Expr}{E:SD->Out D}
end
end DL
namespace L2
open PySem PySem.Spec PyProof.Rows
def Itz(K:W.Frag)(a b:Addr):It:=
 ⟨fun i H=>∃ xs ys x y,SqL K H a xs/\SqL K H b ys/\xs[i]?=some x/\ys[i]?=some y,
  fun i H v H'=>∃ p x y,H p=none/\v=.ref p/\H'=upd H p (.tup [x,y])/\(∀ xs,SqL K H a xs->xs[i]?=some x)/\∀ ys,SqL K H b ys->ys[i]?=some y,
  fun i H=>∃ xs ys,SqL K H a xs/\SqL K H b ys/\(xs.length<=i∨ys.length<=i)⟩
theorem QNn{P:Program}{w:World}{K:W.Frag}{elts:List Expr}{k1:Nat}{pos:Pos}{z TI TO i1 i2 l1 l2:Addr}(D:ZipApart z TI TO i1 i2 l1 l2):
 Turn P w K (.Tuple elts k1 pos) (Itz K l1 l2) [z,TI,TO,i1,i2] z (fun i h=>IsZip h z TI TO .none/\IsPair h TI (.ref i1) (.ref i2)/\(∃ a b,IsPair h TO a b)/\h.IsListIter i1 l1 i/\h.IsListIter i2 l2 i) where
 mem:=by simp
 obj:=fun i h st b hb=>by
  obtain⟨s1,s2,⟨_,_,s3⟩,⟨o4,e4,c4,d4⟩,⟨o5,e5,c5,d5⟩⟩:=st
  simp only[List.mem_cons,List.not_mem_nil,or_false]at hb
  rcases hb with rfl | rfl | rfl | rfl | rfl
  ·exact⟨_,s1,fun v q=>by cases q⟩
  ·exact⟨_,s2,fun v q=>by cases q⟩
  ·exact⟨_,s3,fun v q=>by cases q⟩
  ·exact⟨_,e4,fun v q=>by rw[d4]at q;cases q⟩
  ·exact⟨_,e5,fun v q=>by rw[d5]at q;cases q⟩
 keep:=fun i h h' st k=>by
  obtain⟨s1,s2,⟨a,b,s3⟩,s4,s5⟩:=st
  exact⟨k z (by simp) _ s1,k TI (by simp) _ s2,⟨a,b,k TO (by simp) _ s3⟩,s4.at fun o e=>k i1 (by simp) o e,s5.at fun o e=>k i2 (by simp) o e⟩
 item:=by
  intro X hP hw hK hc i pins s σ H E I hf st hg
  subst hP hw hK
  obtain⟨xs,ys,x,y,q1,q2,hx,hy⟩:=hg
  obtain⟨its1,rv1,p1,hz1⟩:=I.list q1
  obtain⟨its2,rv2,p2,hz2⟩:=I.list q2
  obtain⟨u1,hu1,ru1⟩:=rv1.get hx
  obtain⟨u2,hu2,ru2⟩:=rv2.get hy
  obtain⟨s1,s2,⟨a,b,s3⟩,s4,s5⟩:=st
  refine wpAny_pyNext_zip_item D s1 s2 s3 s4 s5 p1.isList p2.isList (x:=u1) (y:=u2) (by simpa using hu1) (by simpa using hu2) fun h' a1 a2 a3 a4 a5 a6 hk=>?_
  have hT:H s.heap.objs.size=none:=I.hok.fresh ‹"ar"›
  have fp:∀ c∈[z,TO,i1,i2],FpOk X pins H c:=fun c hc=>hf c (by
   simp only[List.mem_cons,List.not_mem_nil,or_false]at hc ⊢
   rcases hc with rfl | rfl | rfl | rfl<;>simp)
  have out:∀ c,c∉[z,TO,i1,i2]->∀ o,s.heap.get? c=some o->h'.get? c=some o:=fun c hc o e=>hk c o (fun q=>hc (by simp[q])) (fun q=>hc (by simp[q])) (fun q=>hc (by simp[q])) (fun q=>hc (by simp[q])) e
  have trk:∀ c o,H c=some o->c∉[z,TO,i1,i2]:=fun c o e hc=>by rw[(fp c hc).1]at e;cases e
  have hok:HOk X.prog X.w (upd H s.heap.objs.size (.tup [x,y])) h':=fun c o e=>by
   by_cases hcT:c=s.heap.objs.size
   ·subst hcT
    rw[QM]at e
    cases e
    exact⟨by show 2<=sizeLine;decide,[u1,u2],.cons ru1 (.cons ru2 .nil),⟨_,a5,rfl,_,rfl⟩⟩
   ·rw[Qk hcT]at e
    refine(I.hok c o e).stay (fun b u hb q=>out b ?_ u q) (fun b q=>?_) fun b ts q=>?_
    ·rcases hb with rfl | hb
     ·exact trk b _ e
     ·exact trk b _ hb
    ·rw[Qk (Q3 q hT)];exact q
    ·rw[Qk (Q3 q hT)];exact q
  have I1:Inv X pins σ (upd H s.heap.objs.size (.tup [x,y])) { s with heap:=h',gens:=s.gens,drawn:=s.drawn,toks:=s.toks }:=I.step (ch:=[z,TO,i1,i2])
   ‹"F"› (fun c o _ _ hc e _=>out c hc o e) (fun c o _ _ hc e _=>⟨o.slots,out c hc o e⟩)
   (fun c o hc e n=>by rw[Qk (Nat.ne_of_lt (Heap.lt_size e))];exact n) (fun c o hc e=>⟨o,out c hc o e⟩)
   (fun c ts e=>by rw[Qk (Q3 e hT)];exact e) (fun c o u e=>by rw[Qk (Q3 e hT)];exact e) (fun c ts e=>⟨#[],by rw[Qk (Q3 e hT),e];simp⟩)
   (fun m hm=>by
    obtain⟨o,es,ep,ho,r⟩:=hm
    exact⟨o,es,ep,out _ (fun hc=>(fp _ hc).2.1 rfl) o ho,r⟩) hok I.bare
  have lt:∀{c o},s.heap.get? c=some o->s.heap.objs.size≠c:=fun e=>Nat.ne_of_gt (Heap.lt_size e)
  refine⟨_,rfl,wpAny_letOwnedTupleGo_zip a1 fun h2 hz2 hs2=>?_⟩
  obtain⟨z0,z1,z2,z3,z4,z5⟩:=hf z (by simp)
  have I2:Inv X pins σ (upd H s.heap.objs.size (.tup [x,y])) { s with heap:=h2 }:=Inv.turned (s:={ s with heap:=h',gens:=s.gens,drawn:=s.drawn,toks:=s.toks }) (t':=s.toks) (it:=z) I1 (fun b o hb e=>(hs2.2 b hb).trans e) (by rw[Qk (lt s1).symm];exact z0) z1 z3 z4 z5
  refine⟨.ref s.heap.objs.size,_,I2,rfl,⟨_,x,y,hT,rfl,rfl,fun xs' q'=>by rw[I.list_inj q' q1];exact hx,fun ys' q'=>by rw[I.list_inj q' q2];exact hy⟩,
   ⟨hz2,hs2.extBut _ _ D.TIz (out TI (by simp[D.TIz,D.TITO,D.TIi1,D.TIi2]) _ s2),⟨_,_,hs2.extBut _ _ D.TOz a2⟩,a3.extBut hs2.extBut D.i1z,a4.extBut hs2.extBut D.i2z⟩,fun c hc=>?_⟩
  have:H c=none:=(hf c hc).1
  obtain⟨oc,hoc⟩:∃ o,s.heap.get? c=some o:=by
   simp only[List.mem_cons,List.not_mem_nil,or_false]at hc
   rcases hc with rfl | rfl | rfl | rfl | rfl
   ·exact⟨_,s1⟩
   ·exact⟨_,s2⟩
   ·exact⟨_,s3⟩
   ·obtain⟨o,e,_⟩:=s4;exact⟨o,e⟩
   ·obtain⟨o,e,_⟩:=s5;exact⟨o,e⟩
  rw[Qk (lt hoc).symm];exact this
 done:=by
  intro X hP hw hK hc i pins s σ H E I hf st hg
  subst hP hw hK
  obtain⟨xs,ys,q1,q2,hend⟩:=hg
  obtain⟨its1,rv1,p1,hz1⟩:=I.list q1
  obtain⟨its2,rv2,p2,hz2⟩:=I.list q2
  have l1:=rv1.length
  have l2:=rv2.length
  obtain⟨s1,s2,⟨a,b,s3⟩,s4,s5⟩:=st
  have fp:∀ c∈[z,TO,i1,i2],FpOk X pins H c:=fun c hc=>hf c (by
   simp only[List.mem_cons,List.not_mem_nil,or_false]at hc ⊢
   rcases hc with rfl | rfl | rfl | rfl<;>simp)
  refine wpAny_pyNext_zip_end (I.ok.hd hc) D s1 s2 s3 s4 s5 p1.isList p2.isList (by simp;omega) fun h' hk=>⟨rfl,?_⟩
  have out:∀ c,c∉[z,TO,i1,i2]->∀ o,s.heap.get? c=some o->h'.get? c=some o:=fun c hc o e=>hk c o (fun q=>hc (by simp[q])) (fun q=>hc (by simp[q])) (fun q=>hc (by simp[q])) (fun q=>hc (by simp[q])) e
  have trk:∀ c o,H c=some o->c∉[z,TO,i1,i2]:=fun c o e hc=>by rw[(fp c hc).1]at e;cases e
  exact I.step (g':=s.gens) (d':=s.drawn) (t':=s.toks) (ch:=[z,TO,i1,i2]) ‹"F"› (fun c o _ _ hc e _=>out c hc o e) (fun c o _ _ hc e _=>⟨o.slots,out c hc o e⟩)
   (fun c o hc e n=>n) (fun c o hc e=>⟨o,out c hc o e⟩) (fun c ts e=>e) (fun c o u e=>e) (fun c ts e=>⟨#[],by rw[e];simp⟩)
   (fun m hm=>by
    obtain⟨o,es,ep,ho,r⟩:=hm
    exact⟨o,es,ep,out _ (fun hc=>(fp _ hc).2.1 rfl) o ho,r⟩)
   (fun c o e=>(I.hok c o e).stay (fun b u hb q=>out b (by
    rcases hb with rfl | hb
    ·exact trk b _ e
    ·exact trk b _ hb) u q) (fun b q=>q) fun b ts q=>q) I.bare
 self:=fun _ _ _ _ _ st h=>wpAny_pyIter_zip st.1 h
section
variable{X:Cx}
theorem QLS(n l1 l2:Nat)(h1:l1<n)(h2:l2<n):ZipApart (n+4) (n+2) (n+3) n (n+1) l1 l2:=⟨(show ¬ ((n+2:Nat)=n+4) by omega),(show ¬ ((n+3:Nat)=n+4) by omega),(show ¬ ((n:Nat)=n+4) by omega),(show ¬ ((n+1:Nat)=n+4) by omega),(show ¬ ((n+2:Nat)=n+3) by omega),(show ¬ ((n+2:Nat)=n) by omega),(show ¬ ((n+2:Nat)=n+1) by omega),(show ¬ ((n+3:Nat)=n) by omega),(show ¬ ((n+3:Nat)=n+1) by omega),(show ¬ ((n:Nat)=n+1) by omega),(show ¬ ((l1:Nat)=n+4) by omega),(show ¬ ((l1:Nat)=n+3) by omega),(show ¬ ((l1:Nat)=n) by omega),(show ¬ ((l1:Nat)=n+1) by omega),(show ¬ ((l2:Nat)=n+4) by omega),(show ¬ ((l2:Nat)=n+3) by omega),(show ¬ ((l2:Nat)=n) by omega),(show ¬ ((l2:Nat)=n+1) by omega)⟩
def iZip(K:W.Frag)(ta:TA):TI:=fun σ H R=>ta σ H fun vs H1=>∃ a b,vs=[.ref a,.ref b]/\(∃ xs,SqL K H1 a xs)/\(∃ ys,SqL K H1 b ys)/\R (Itz K a b) H1
theorem QQw{elts:List Expr}{k1:Nat}{tpos:Pos}{a b:Expr}{ta:TA}{p pos:Pos}(hg:Gl X "zip")(hm:X.mg "zip"=none)(ha:PA X [a,b] ta)(hs:starEach [a,b] X.env=[(false,eval a X.env),(false,eval b X.env)]:=by rfl)(hs2:starEach [b] X.env=[(false,eval b X.env)]:=by rfl):
 PI X (.Tuple elts k1 tpos) (.Call (.Name "zip" p) [a,b] [] pos) (iZip X.K ta):=by
 intro pins s σ H R I h
 refine Call_ (Qjy I hg hm PyProof.Rows.Boot.«zip» (PyProof.Rows.callWith_type1 (thn ‹"bn"› fun us s1 ⟨vs,H1,I1,r1,q1⟩=>?_) (by rw[hs,hs2]) (by rw[hs2];rfl)))
 obtain⟨l1,l2,e,⟨xs,hx⟩,⟨ys,hy⟩,q⟩:=q1
 subst e
 cases r1 with
 | cons r rr=>
  cases rr with
  | cons r' rr=>
   cases rr
   cases r
   cases r'
   obtain⟨its1,rv1,p1,hz1⟩:=I1.list hx
   obtain⟨its2,rv2,p2,hz2⟩:=I1.list hy
   have n1:l1<s1.heap.objs.size:=by obtain⟨o,n,ho,_⟩:=p1;exact Heap.lt_size ho
   have n2:l2<s1.heap.objs.size:=by obtain⟨o,n,ho,_⟩:=p2;exact Heap.lt_size ho
   refine call_zip_2 p1.isList p2.isList fun h' c1 c2 c3 c4 c5 c6 hk=>?_
   refine wpAny_pyIter_zip c1 ?_
   refine⟨_,_,_,Itz X.K l1 l2,H1,rfl,I1.kept (t':=s1.toks) fun b o e=>hk b o e,QNn (i1:=s1.heap.objs.size) (i2:=s1.heap.objs.size+1) (TI:=s1.heap.objs.size+2) (TO:=s1.heap.objs.size+3) (z:=s1.heap.objs.size+4) (l1:=l1) (l2:=l2)
    (QLS s1.heap.objs.size l1 l2 n1 n2),⟨c1,c2,⟨_,_,c3⟩,c4,c5⟩,fun b hb=>?_,q⟩
   have hb':s1.heap.objs.size<=b:=by
    simp only[List.mem_cons,List.not_mem_nil,or_false]at hb
    rcases hb with rfl | rfl | rfl | rfl | rfl<;>omega
   exact I1.fpOk hb' (I1.hok.fresh hb')
end
end L2
namespace DL
open PySem PySem.Spec PyProof.Rows L2
def itZ(A B:SD->Out D):SD->Out (List D):=fun ς=>A ς>>=fun x=>B ς>>=fun y=>match x,y with
 | .lst xs,.lst ys=>.ok (List.zipWith (fun a b=>.tup [a,b]) xs ys)
 | _,_=>.stuck
section
variable{C:Dc}{a b:Expr}{A B:SD->Out D}
theorem QOf{K:W.Frag}{CT:CTab}{G1:Hp}{p q:Addr}{xs ys:List D}{us vs:List V}(h1:SqL K G1 p us)(r1:RepL K CT G1 xs us)(h2:SqL K G1 q vs)(r2:RepL K CT G1 ys vs):DIt K CT G1 (Itz K p q) (List.zipWith (fun a b=>D.tup [a,b]) xs ys) where
 go:=fun G H i d s1 sH hd=>by
  rw[List.getElem?_zipWith]at hd
  cases e1:xs[i]? with
  | none=>rw[e1]at hd;cases hd
  | some x=>
   cases e2:ys[i]? with
   | none=>rw[e1,e2]at hd;cases hd
   | some y=>
    rw[e1,e2]at hd
    cases hd
    obtain⟨u,hu,ru⟩:=r1.get e1
    obtain⟨v,hv,rv⟩:=r2.get e2
    have q1:SqL K H p us:=sH.seq (s1.seq h1)
    have q2:SqL K H q vs:=sH.seq (s1.seq h2)
    refine⟨⟨us,vs,u,v,q1,q2,hu,hv⟩,fun w H' ⟨t,x',y',n,e,e',k1,k2⟩=>?_⟩
    have z1:=k1 us q1
    have z2:=k2 vs q2
    rw[hu]at z1;cases z1
    rw[hv]at z2;cases z2
    subst e e'
    have gn:G t=none:=sH.free n
    refine⟨upd G t (.tup [u,v]),QB gn,QB n,Qsj sH,fun b g g'=>?_,t,[u,v],rfl,SqT.of QM,⟨u,_,rfl,Rep.mono (s1.trans (QB gn)) x u ru,v,_,rfl,Rep.mono (s1.trans (QB gn)) y v rv,rfl⟩⟩
    by_cases hb:b=t
    ·subst hb;exact n
    ·rw[Qk hb]at g';exact absurd g g'
 stop:=fun G H s1 sH=>by
  refine⟨us,vs,sH.seq (s1.seq h1),sH.seq (s1.seq h2),?_⟩
  have l1:=r1.length
  have l2:=r2.length
  rw[List.length_zipWith]
  omega
theorem QCb{elts:List Expr}{k1:Nat}{tpos p pos:Pos}(hgl:Gl C.X "zip")(hm:C.X.mg "zip"=none)(ha:DE C a A)(hb:DE C b B)
 (hst:starEach [a,b] C.X.env=(false,eval a C.X.env)::starEach [b] C.X.env:=by rfl) (hst2:starEach [b] C.X.env=(false,eval b C.X.env)::starEach [] C.X.env:=by rfl):DI C (.Tuple elts k1 tpos) (.Call (.Name "zip" p) [a,b] [] pos) (itZ A B):=by
 obtain⟨t0,p0,q0⟩:=ha
 obtain⟨t3,p3,q3⟩:=hb
 refine⟨_,QQw hgl hm (Qbk p0 (Qbk p3 Qdz hst2) hst) (by rw[hst,hst2];rfl) (by rw[hst2];rfl),fun G H σ ς R S k=>?_⟩
 unfold itZ at k
 rw[Out.post_bind]at k
 refine q0 G H σ ς _ S (Out.post_mono k fun d k v H1 G1 S1 a1 b1 r=>?_)
 rw[Out.post_bind]at k
 refine q3 G1 H1 σ ς _ S1 (Out.post_mono k fun d2 k v2 H2 G2 S2 a2 b2 r'=>?_)
 cases d with
 | lst xs=>
  cases d2 with
  | lst ys=>
   obtain⟨p1,us,rfl,h1,r1⟩:=Rep.mono b2 _ v r
   obtain⟨p2,vs,rfl,h2,r2⟩:=r'
   exact⟨p1,p2,rfl,⟨us,S2.sub.seq h1⟩,⟨vs,S2.sub.seq h2⟩,k _ H2 G2 S2 (a1.trans a2) (b1.trans b2) (QOf h1 r1 h2 r2)⟩
  | _=>exact k.elim
 | _=>exact k.elim
end
end DL
namespace DL
open PySem PySem.Spec PyProof.Rows L2
def putD(f:Str)(d:D):List (Str×D)->List (Str×D)
 | []=>[(f,d)]
 | (g,x)::r=>if g=f then(g,d)::r else(g,x)::putD f d r
section
variable{K:W.Frag}{CT:CTab}{H H':Hp}
theorem RepF.look:∀{fds:List (Str×D)}{fs:List (Str×V)}{f:Str},RepF K CT H fds fs->(∀ d,fds.lookup f=some d->∃ v,fs.lookup f=some v/\Rep K CT H d v)/\(fds.lookup f=none->fs.lookup f=none)
 | [],_,f,h=>by cases h;exact⟨fun d z=>(by cases z),fun _=>rfl⟩
 | (k,d)::fds,_,f,⟨v,r,h1,h2,h3⟩=>by
  subst h1
  have ih:=RepF.look (f:=f) h3
  rw[List.lookup_cons,List.lookup_cons]
  cases f == k with
  | true=>exact⟨fun d' z=>by cases z;exact⟨v,rfl,h2⟩,fun z=>by cases z⟩
  | false=>exact ih
theorem RepF.len:∀{fds:List (Str×D)}{fs:List (Str×V)},RepF K CT H fds fs->fds.length=fs.length
 | [],_,h=>by cases h;rfl
 | (k,d)::fds,_,⟨v,r,h1,h2,h3⟩=>by subst h1;rw[List.length_cons,List.length_cons,RepF.len h3]
theorem RepF.put{f:Str}{d:D}{v:V}(q:Rep K CT H d v):∀{fds:List (Str×D)}{fs:List (Str×V)},RepF K CT H fds fs->RepF K CT H (putD f d fds) (putF f v fs)
 | [],_,h=>by cases h;exact⟨v,[],rfl,q,rfl⟩
 | (k,x)::fds,_,⟨u,r,h1,h2,h3⟩=>by
  subst h1
  unfold putD putF
  by_cases hk:k=f
  ·rw[if_pos hk,if_pos hk];exact⟨v,r,rfl,q,h3⟩
  ·rw[if_neg hk,if_neg hk];exact⟨u,_,rfl,h2,RepF.put q h3⟩
end
def FldOk(K:W.Frag)(CT:CTab)(cs:List Str)(f:Str):Prop:=∀ c,cs.contains c=true->∀ A,CT c=some A->Cls K A/\Qmb K A f
def dFld(cs:List Str)(f:Str):D->Out D
 | .ins c fs=>if cs.contains c=true then optO (fs.lookup f) else .stuck
 | _=>.stuck
section
variable{C:Dc}{e:Expr}{E:SD->Out D}{f:Str}{cs:List Str}{pos:Pos}
theorem Qpw(hF:FldOk C.X.K C.CT cs f)(h:DE C e E)(hb:attributeBase e f C.X.env (eval e C.X.env)=eval e C.X.env:=by rfl):DE C (.Attribute e f pos) (e1 (dFld cs f) E):=by
 obtain⟨t,p,q⟩:=h
 refine⟨_,QPC p hb,fun G H σ ς Q S k=>?_⟩
 unfold e1 at k
 rw[Out.post_bind]at k
 refine q G H σ ς _ S (Out.post_mono k fun d k v H1 G1 S1 a1 b1 r=>?_)
 cases d with
 | ins c fds=>
  rcases QQ k with⟨hc,k⟩ | ⟨_,k⟩
  ·obtain⟨d,e1',kd⟩:=Qc2 k
   obtain⟨a,A,dx,fs,rfl,h1,h2,h3⟩:=r
   obtain⟨v,e2',rv⟩:=(RepF.look h3).1 d e1'
   obtain⟨cl,na⟩:=hF c hc A h1
   exact⟨a,A,dx,fs,v,rfl,S1.sub _ _ h2,cl,na,e2',KD.now (KD.later kd a1 b1) S1 rv⟩
  ·exact k.elim
 | _=>exact k.elim
theorem StR.writeS{G H:Hp}{σ:St}{ς:SD}(S:‹"au"›){i:Nat}{p A dx:Addr}{c:Str}{fds fds':List (Str×D)}{fs':List (Str×V)}(hi:ς[i]?=some (some (.s,.ins c fds)))(hp:σ[i]?=some ‹"aT"›)(hc:C.CT c=some A)(r:RepF C.X.K C.CT G fds' fs'):
 StR C G (upd H p (.ins A dx fs')) σ (ς.set i (some (.s,.ins c fds'))):=by
 obtain⟨p',e1,hg,h0,⟨hM,hW⟩,hB,ow⟩:=S.sf i _ hi
 rw[hp]at e1;cases e1
 have ne:∀ b o,G b=some o->b≠p:=fun b o e z=>by subst z;rw[hg]at e;cases e
 have S':StR C G (upd H p (.ins A dx fs')) (σ.set i ‹"aT"›) (ς.set i (some (.s,.ins c fds'))):={
  sub:=fun b o e=>by rw[Qk (ne b o e)];exact S.sub b o e
  g0:=S.g0
  new:=S.new
  fr:=fun b o e m=>by
   rw[Qk (by rintro rfl;exact m hM)];exact S.fr b o e m
  dom:=fun b e=>by
   by_cases hb:b=p
   ·subst hb;rw[QM]at e;cases e
   ·rw[Qk hb]at e;exact S.dom b e
  bs:=fun b o e=>by
   rw[Qk (by rintro rfl;rw[hB]at e;cases e)];exact S.bs b o e
  bh:=S.bh
  len:=by rw[List.length_set,List.length_set];exact S.len
  fz:=fun j d h=>by
   rcases Qs h with⟨rfl,h2,l⟩ | ⟨hne,h2⟩
   ·cases h2
   ·rw[Qn hne];exact S.fz j d h2
  ow:=fun j d h=>by
   rcases Qs h with⟨rfl,h2,l⟩ | ⟨hne,h2⟩
   ·cases h2
   ·rw[Qn hne]
    obtain⟨q,a,b,c',w⟩:=S.ow j d h2
    have qp:q≠p:=by
     rintro rfl
     exact h0 c'
    exact⟨q,a,b,c',w.mono (Same.refl G) fun o z=>by rw[Qk qp];exact z⟩
  ln:=fun j d h=>by
   rcases Qs h with⟨rfl,h2,l⟩ | ⟨hne,h2⟩
   ·cases h2
   ·rw[Qn hne];exact S.ln j d h2
  inj:=fun j k d1 d2 q hjk h1 h2 h3=>by
   rcases Qs h1 with⟨rfl,q1,l⟩ | ⟨n1,q1⟩
   ·cases q1
   ·rcases Qs h2 with⟨rfl,q2,l⟩ | ⟨n2,q2⟩
    ·cases q2
    ·rw[Qn n1]at h3
     rw[Qn n2]
     exact S.inj j k d1 d2 q hjk q1 q2 h3
  sf:=fun j d h=>by
   rcases Qs h with⟨rfl,h2,l⟩ | ⟨hne,h2⟩
   ·cases h2
    exact⟨p,Qhd (by rw[S.len];exact l),hg,h0,⟨hM,hW⟩,hB,⟨A,dx,fs',hc,QM,r⟩⟩
   ·rw[Qn hne]
    obtain⟨q,a,b,c2,m,z,w⟩:=S.sf j d h2
    have qp:q≠p:=by
     rintro rfl
     exact S.su i j _ _ q hne hi h2 hp a
    exact⟨q,a,b,c2,m,z,w.mono (Same.refl G) fun o z=>by rw[Qk qp];exact z⟩
  su:=fun j k d1 d2 q hjk h1 h2 h3=>by
   have get:∀(j:Nat) d,(ς.set i (some (.s,D.ins c fds')))[j]?=some (some (.s,d))->∃ d',ς[j]?=some (some (.s,d')):=fun j d h=>by
    rcases Qs h with⟨rfl,h2,l⟩ | ⟨hne,h2⟩
    ·exact⟨_,hi⟩
    ·exact⟨_,h2⟩
   obtain⟨d1',g1⟩:=get j d1 h1
   obtain⟨d2',g2⟩:=get k d2 h2
   rw[QiC hp]at h3 ⊢
   exact S.su j k d1' d2' q hjk g1 g2 h3 }
 rw[QiC hp]at S'
 exact S'
def sFldS(cs:List Str)(f:Str)(i:Nat)(E:SD->Out D):SD->Out Fl:=fun ς=>E ς>>=fun d=>match ς[i]? with
 | some (some (.s,.ins c fds))=>if (cs.contains c&&decide (fds.length<1000))=true then .ok (.nx (ς.set i (some (.s,.ins c (putD f d fds))))) else .stuck
 | _=>.stuck
theorem Qhg(i:Nat){x:Str}{px pa:Pos}(hF:FldOk C.X.K C.CT cs f)(h:DE C e E)(hN:C.X.N[i]?=some x:=by rfl)(hv:‹"bI"›:=by first | exact Or.inl rfl | exact Or.inr (Or.inl rfl) | exact Or.inr (Or.inr rfl))
 (hd:‹"f"›:=by decide) (hcd:‹"t"›:=by decide)
 (hs:swapsWith e (some (.Attribute (.Name x px) f pa)) pos.line C.X.env=pure false:=by rfl):DS C (.Assign [.Attribute (.Name x px) f pa] e pos) (sFldS cs f i E):=by
 obtain⟨t,p,q⟩:=h
 refine⟨_,QQE ‹"aI"› p hs,fun G H σ ς W S k=>?_⟩
 unfold sFldS at k
 rw[Out.post_bind]at k
 refine q G H σ ς _ S (Out.post_mono k fun d k v H1 G1 S1 a1 b1 r=>?_)
 split at k
 ·rename_i c fds z
  rcases QQ k with⟨hc,k⟩ | ⟨_,k⟩
  ·rw[Bool.and_eq_true]at hc
   obtain⟨pp,e1',hg,h0,hM,hB,A,dx,fs,hA,hH,rf⟩:=S1.sf i _ z
   obtain⟨cl,na⟩:=hF c hc.1 A hA
   refine⟨_,e1',pp,A,dx,fs,rfl,hH,cl,na,by rw[← rf.len];exact of_decide_eq_true hc.2,?_⟩
   exact(show FlK C G W (.nx (ς.set i (some (.s,.ins c (putD f d fds))))) from k) σ _ G1 (S1.writeS z e1' hA (rf.put r)) b1
  ·exact k.elim
 ·exact k.elim
end
end DL
namespace L2
open PySem PySem.Spec PyProof.Rows
section
variable{X:Cx}{CX:CXT}{k:Nat}{m:Str}{dvs:List V}{E:XK}{o e:Expr}{es:List Expr}{ta:TE}{t:TA}{apos pos:Pos}{cs:Addr->Sp->Prop}
def MTab(X:Cx)(CX:CXT)(k:Nat)(m:Str)(dvs:List V)(cs:Addr->Sp->Prop):Prop:=
 ∀ C sp,cs C sp->Cls X.K C/\∃ f fd ps ds,Meth X.K C m f/\FnOk X.prog X.w X.K X.mg X.base CX k f fd ps sp/\Binds X.K fd ps ds/\Vals dvs ds
def QMq(m:Str)(dvs:List V)(cs:Addr->Sp->Prop)(E:XK)(ta:TE)(t:TA):TE:=fun σ H Q=>ta σ H fun x H1=>∃ a C dx fs sp,x=.ref a/\H1 a=some (.ins C dx fs)/\cs C sp/\fs.lookup m=none/\t σ H1 fun vs H2=>sp (x::(vs++dvs)) H2 Q E
theorem QFc{pl:Sem Bool}(he:PE X o ta)(tab:MTab X CX k m dvs cs)(hr:Room k X.A)(hx:QfE CX X E)(ha:PA X (e::es) t)
 (hst:‹"j"›:=by rfl) (hpl:(backTo pos ‹"cz"›).any (·.1)=false:=by rfl)
 (ht:eval (.Call (.Attribute o m apos) (e::es) [] pos) X.env=(do
  let ov ← eval o X.env
  standAt apos.atName
  let (f,first) ← holding [ov] (getMethod ov m pl)
  callWith pos f first (backTo pos (starEach (e::es) X.env)) (backToKw pos (keywordEach [] X.env))):=by rfl):
 PE X (.Call (.Attribute o m apos) (e::es) [] pos) (QMq m dvs cs E ta t):=by
 intro pins s σ H Q I h
 refine W.methodCall_KW (pl:=pl) (thn ‹"cu"› fun u s1 ⟨x,H1,I1,rx,a,C,dx,fs,sp,ex,ea,hc,l,q⟩=>?_) ht
 subst ex
 obtain rfl:u=Value.ref a:=rx
 obtain⟨c,f,fd,ps,ds,hm,F,hb,hd⟩:=tab C sp hc
 refine Qxx I1 ea c hm l ?_
 refine W.callWith_K (first:=[.ref a]) (h₀:=X.base) I.ok.mod.kin hm.kp (thn (ha pos pins s1 σ H1 _ I1 q) fun us s2 ⟨vs,H2,I2,r,q2⟩=>⟨I2.kIn,?_⟩) hst hpl
 exact QEg (us:=.ref a::us) (vs:=.ref a::vs) F hr hb hd hx I2 (.cons rfl r) q2
theorem QMs{pl:Sem Bool}(he:PE X o ta)(tab:MTab X CX k m dvs cs)(hr:Room k X.A)(hx:QfE CX X E)
 (ht:eval (.Call (.Attribute o m apos) [] [] pos) X.env=(do
  let ov ← eval o X.env
  standAt apos.atName
  let (f,first) ← holding [ov] (getMethod ov m pl)
  callWith pos f first (backTo pos (starEach [] X.env)) (backToKw pos (keywordEach [] X.env))):=by rfl):
 PE X (.Call (.Attribute o m apos) [] [] pos) (QMq m dvs cs E ta tNil):=by
 intro pins s σ H Q I h
 refine W.methodCall_KW (pl:=pl) (thn ‹"cu"› fun u s1 ⟨x,H1,I1,rx,a,C,dx,fs,sp,ex,ea,hc,l,q⟩=>?_) ht
 subst ex
 obtain rfl:u=Value.ref a:=rx
 obtain⟨c,f,fd,ps,ds,hm,F,hb,hd⟩:=tab C sp hc
 refine Qxx I1 ea c hm l ?_
 exact W.callWith_K0 (first:=[.ref a]) I1.kIn hm.kp (QEg (us:=[.ref a]) (vs:=[.ref a]) F hr hb hd hx I1 (.cons rfl .nil) q)
end
end L2
namespace DL
open PySem PySem.Spec PyProof.Rows L2
def XDofI(CT:CTab)(E:XK)(H:Hp)(p:Addr):D->Prop:=fun d=>∃ c C,d=.err c/\CT c=some C/\∀ H',(∀ b o,H b=some o->b≠p->H' b=some o)->E (.ref C) none H'
def SpI(K:W.Frag)(CT:CTab)(m:‹"Y"›):Sp:=fun vs H Q E=>∃ p c A dx fs fds vs' ds G0,vs=.ref p::vs'/\CT c=some A/\H p=some (.ins A dx fs)/\G0 p=none/\Same G0 H/\RepF K CT G0 fds fs/\RepL K CT G0 ds vs'/\
 (m c fds ds).post (fun fds'=>∀ H' G' fs' dx',Same G0 G'->(∀ b o,H b=some o->b≠p->H' b=some o)->Same G' H'->(∀ b,G0 b=none->G' b≠none->H b=none)->H' p=some (.ins A dx' fs')->RepF K CT G' fds' fs'->Q .non H') (XDofI CT E H p)
def QsG(c:Str)(ς:SD):Out (List (Str×D)):=match (ς[0]?:Option (Option (SM×D))) with
 | some (some (SM.s,D.ins c' fds))=>if c'=c then .ok fds else .stuck
 | _=>.stuck
def QfF(c:Str):Fl->Out (List (Str×D))
 | .nx ς=>QsG c ς
 | _=>.stuck
def bodyI(n len:Nat)(T:SD->Out Fl):Str->List (Str×D)->List D->Out (List (Str×D)):=fun c fds ds=>
 if ds.length+1=n then T (some (.s,.ins c fds)::(ds.map (fun d=>some (.k,d))++List.replicate (len - n) none))>>=QfF c else .stuck
abbrev dcI(P:Program)(w:World)(K:W.Frag)(mg:‹"R"›)(base:Heap)(CT:CTab)(N:List Str)(qual:Str)(sc:Scope)(f:Addr)(cdv:Value)(A:Around)(outer:List Env)(s:Shared)(H:Hp)(E:XK)(G:Hp)(p:Addr):Dc:=
 { X:=cxOf (CXR P w) P w K mg base N qual sc f cdv A outer s H E,CT:=CT,G0:=G,XD:=XDofI CT E H p,B:=fun b=>if b=p then none else H b,M:=fun b=>b=p,W:=fun _=>some p }
theorem fnI{P:Program}{w:World}{K:W.Frag}{mg:‹"R"›}{base:Heap}{CT:CTab}{x qual:Str}{st:Stmt}{f:Addr}{fd:FuncData}{dV:Value}{N ps:List Str}{k:Nat}{T:SD->Out Fl}
 (F:FunV K x qual st f fd dV) (S:Qr N ps (Qa st))
 (hb:∀(cdv:Value)(A:Around)(outer:List Env)(s:Shared)(H:Hp)(E:XK)(G:Hp)(p:Addr),Room k ‹"ae"›->DSs (dcI P w K mg base CT N qual (Qa st) f cdv A outer s H E G p) (Qp st) T):
 FnOk P w K mg base (CXR P w) (k+1) f fd ps (SpI K CT (bodyI ps.length N.length T)):=by
 obtain⟨oc,od,kV,doc,pm,an,cdv,ct,osl,rfl,lk,hcd⟩:=F.ex
 have hpl:ps.length<=N.length:=by have:=congrArg List.length S.pre;rw[List.length_take]at this;omega
 have len:∀ vs H Q E,SpI K CT (bodyI ps.length N.length T) vs H Q E->vs.length=ps.length:=by
  intro vs H Q E ⟨p,c,A,dx,fs,fds,vs',ds,G0,e,_,_,_,_,_,r,q⟩
  unfold bodyI at q
  by_cases hl:ds.length+1=ps.length
  ·rw[e,List.length_cons, ← r.length];exact hl
  ·rw[if_neg hl]at q;exact q.elim
 refine fn_of lk hcd S len fun A outer s H vs Q E hr hsp=>?_
 have hlen:=len vs H Q E hsp
 obtain⟨p,c,Ac,dx,fs,fds,vs',ds,G0,rfl,hct,hp,hg,sub,rf,r,q⟩:=hsp
 obtain⟨t,p1,q1⟩:=hb cdv A outer s H E G0 p hr
 have hl:ds.length+1=ps.length:=by rw[r.length];exact hlen
 refine⟨t,p1,?_⟩
 unfold bodyI at q
 rw[if_pos hl,Out.post_bind]at q
 have get:∀(i:Nat) x,(some (SM.s,D.ins c fds)::(ds.map (fun d=>some (SM.k,d))++List.replicate (N.length - ps.length) none))[i]?=some (some x)->(i=0/\x=(.s,.ins c fds))∨∃ j d,i=j+1/\ds[j]?=some d/\x=(.k,d):=fun i x h=>by
  cases i with
  | zero=>exact .inl ⟨rfl,by simpa using h.symm⟩
  | succ j=>
   rw[List.getElem?_cons_succ]at h
   obtain⟨d,e1,e2⟩:=Qbw h
   exact .inr ⟨j,d,rfl,e1,e2⟩
 have S0:StR (dcI P w K mg base CT N qual (Qa st) f cdv A outer s H E G0 p) G0 H (L2.start N (.ref p::vs')) (some (.s,.ins c fds)::‹"aS"›):={
  sub:=sub
  g0:=Same.refl _
  new:=fun b h1 h2=>absurd h1 h2
  fr:=fun b o e _=>e
  dom:=fun b e=>e
  bs:=fun b o e=>by
   have e':(if b=p then none else H b)=some o:=e
   by_cases hb:b=p
   ·rw[if_pos hb]at e';cases e'
   ·rw[if_neg hb]at e';exact e'
  bh:=fun b e=>by
   show(if b=p then none else H b)=none
   by_cases hb:b=p
   ·rw[if_pos hb]
   ·rw[if_neg hb];exact e
  len:=by unfold L2.start;simp;have:=r.length;simp at hlen;omega
  fz:=fun i d e=>by
   rcases get i _ e with⟨_,z⟩ | ⟨j,d',rfl,e1,z⟩
   ·cases z
   ·cases z
    obtain⟨v,e3,rv⟩:=r.get e1
    exact⟨v,Qen (by simpa using e3),rv⟩
  ow:=fun i d e=>by
   rcases get i _ e with⟨_,z⟩ | ⟨j,d',rfl,e1,z⟩<;>cases z
  ln:=fun i d e=>by
   rcases get i _ e with⟨_,z⟩ | ⟨j,d',rfl,e1,z⟩<;>cases z
  inj:=fun i j d e p _ h=>by
   rcases get i _ h with⟨_,z⟩ | ⟨j,d',rfl,e1,z⟩<;>cases z
  sf:=fun i d e=>by
   rcases get i _ e with⟨rfl,z⟩ | ⟨j,d',rfl,e1,z⟩
   ·cases z
    exact⟨p,Qen rfl,hg,(by show H p≠none;rw[hp];simp),⟨rfl,rfl⟩,if_pos rfl,⟨Ac,dx,fs,hct,hp,rf⟩⟩
   ·cases z
  su:=fun i j d e q hij h1 h2=>by
   rcases get i _ h1 with⟨rfl,z⟩ | ⟨j,d',rfl,e1,z⟩
   ·rcases get j _ h2 with⟨rfl,z⟩ | ⟨j,d',rfl,e1,z⟩
    ·exact absurd rfl hij
    ·cases z
   ·cases z }
 refine q1 G0 H (L2.start N (.ref p::vs')) _ _ S0 (Out.post_mono q fun fl kk=>?_)
 cases fl with
 | nx ς'=>
  intro σ' H' G' S' s'
  have kk:(QsG c ς').post _ _:=kk
  unfold QsG at kk
  split at kk
  ·rename_i c' fds' z
   rcases QQ kk with⟨rfl,k2⟩ | ⟨_,k2⟩
   ·obtain⟨p',e1,hg',h0,⟨hM,_⟩,hB,A',dx',fs',hA',hH',rf'⟩:=S'.sf 0 _ z
    have hM:p'=p:=hM
    subst hM
    have hA':CT c'=some A':=hA'
    rw[hct]at hA'
    cases hA'
    exact k2 H' G' fs' dx' s' ‹"en"› S'.sub S'.new hH' rf'
   ·exact k2.elim
  ·exact kk.elim
 | bk ς'=>exact kk.elim
 | ct ς'=>exact kk.elim
 | rt b d=>exact kk.elim
end DL
namespace DL
open PySem PySem.Spec PyProof.Rows L2
theorem Qxi{P:Program}{w:World}{K:W.Frag}{mg:‹"R"›}{base:Heap}{CT:CTab}{N:List Str}{qual:Str}{sc:Scope}{f:Addr}{cdv:Value}{A:Around}{outer:List Env}{s:Shared}{H:Hp}{E:XK}{G:Hp}{p:Addr}:
 Rz (dcI P w K mg base CT N qual sc f cdv A outer s H E G p) E where
 pass:=passR
 xd:=fun d ⟨c,Cc,h1,h2,h3⟩=>⟨c,Cc,h1,h2,fun H' k=>h3 H' fun b o e hb=>k b o e hb⟩
 made:=fun Cc pins σ H1 s1 ea h' vs I hx hE=>QJt I rfl rfl rfl hx hE
 calm:=rfl
section
variable{C:Dc}{E:XK}{c:Str}{A f:Addr}{fd:FuncData}{ps:List Str}{ds:List Value}{dd:List D}{k:Nat}{m:Str->List (Str×D)->List D->Out (List (Str×D))}{e:Expr}{es:List Expr}{AA:SD->Out (List D)}{p pos:Pos}
def eMake(c:Str)(m:‹"Y"›)(a:‹"ak"›):SD->Out D:=fun ς=>a ς>>=fun xs=>m c [] xs>>=fun fds=>.ok (.ins c fds)
def MkOk(P:Program)(w:World)(K:W.Frag)(mg:‹"R"›)(base:Heap)(CT:CTab)(c:Str)(k:Nat)(m:‹"Y"›):Prop:=
 ∃ A f fd ps,CT c=some A/\mg c=some (.ref A)/\Mk K A f/\FnOk P w K mg base (CXR P w) k f fd ps (SpI K CT m)/\Binds K fd ps []
theorem Qpk(rz:Rz C E)(h:MkOk C.X.prog C.X.w C.X.K C.X.mg C.X.base C.CT c k m)(hr:Room (k+1) C.X.A)(ha:DA C (e::es) AA)(hg:Gl C.X c)
 (hdb:(c == ("__debug__":Str))=false:=by decide) (he:‹"b"›:=by rfl) (hpl:(backTo pos ‹"aC"›).any (·.1)=false:=by rfl):
 DF C (.Call (.Name c p) (e::es) [] pos) (eMake c m AA):=by
 obtain⟨A,f,fd,ps,hct,hm,M,F,hb⟩:=h
 obtain⟨t,p1,q1⟩:=ha
 refine⟨_,QOD M F hr hg hm hb .nil rz.pass p1 hdb he hpl,fun G H σ ς Q S q=>?_⟩
 unfold eMake at q
 rw[Out.post_bind]at q
 refine q1 G H σ ς _ S (Out.post_mono q fun xs kk vs H1 G1 S1 a1 b1 r1=>?_)
 intro x dx nx ndx ne
 rw[Out.post_bind]at kk
 have keep:∀ b o,H1 b=some o->upd (upd H1 dx (.own x)) x (.ins A dx []) b=some o:=fun b o e=>by
  rw[Qk (Q3 e nx),Qk (Q3 e ndx)];exact e
 have back:∀ b,upd (upd H1 dx (.own x)) x (.ins A dx []) b=none->H1 b=none:=fun b e=>by
  by_cases hx:b=x
  ·subst hx;exact nx
  ·rw[Qk hx]at e
   by_cases hd:b=dx
   ·subst hd;exact ndx
   ·rw[Qk hd]at e;exact e
 refine⟨x,c,A,dx,[],[],vs++[],xs,G1,rfl,hct,QM,S1.sub.free nx,fun b o e=>keep b o (S1.sub b o e),rfl,by rw[List.append_nil];exact r1,?_⟩
 cases z:m c [] xs with
 | stuck=>rw[z]at kk;exact kk.elim
 | exc y=>
  rw[z]at kk
  obtain⟨c',Cc,e1',e2',e3'⟩:=rz.xd y kk
  exact⟨c',Cc,e1',e2',fun H' s'=>e3' H' fun b o q m'=>s' b o (keep b o (S1.fr b o q m')) (Q3 (S1.fr b o q m') nx)⟩
 | ok fds=>
  rw[z]at kk
  intro H' G' fs' dx' g1 h1 s1 n1 hp rf
  have hh:Same H1 H':=fun b o e=>h1 b o (keep b o e) (Q3 e nx)
  have hgp:G' x=none:=by
   cases zz:G' x with
   | none=>rfl
   | some o=>have:=n1 x (S1.sub.free nx) (by rw[zz];simp);rw[QM]at this;cases this
  exact⟨rfl,(show KF C G H σ ς Q (.ins c fds) from kk) x H' G' (S1.grow hh g1 s1 fun b g g'=>back b (n1 b g g')) (a1.trans hh) (b1.trans g1) (a1.free nx) hgp ⟨A,dx',fs',hct,hp,rf⟩⟩
end
def MtOk(P:Program)(w:World)(K:W.Frag)(mg:‹"R"›)(base:Heap)(CT:CTab)(CX:CXT)(name:Str)(k:Nat)(cs:List Str)(sp:Str->Sp):Prop:=
 ∀ c,cs.contains c=true->∃ A f fd ps,CT c=some A/\Cls K A/\Meth K A name f/\FnOk P w K mg base CX k f fd ps (sp c)/\Binds K fd ps []
def csOf(CT:CTab)(cs:List Str)(sp:Str->Sp):Addr->Sp->Prop:=fun A s=>∃ c,cs.contains c=true/\CT c=some A/\s=sp c
theorem mtab{X:Cx}{CT:CTab}{CX:CXT}{name:Str}{k:Nat}{cs:List Str}{sp:Str->Sp}(h:MtOk X.prog X.w X.K X.mg X.base CT CX name k cs sp):MTab X CX k name [] (csOf CT cs sp):=by
 rintro A s ⟨c,hc,hA,rfl⟩
 obtain⟨A',f,fd,ps,h1,h2,h3,h4,h5⟩:=h c hc
 rw[hA]at h1;cases h1
 exact⟨h2,f,fd,ps,[],h3,h4,h5,.nil⟩
section
variable{C:Dc}{name:Str}{k:Nat}{cs:List Str}{fr:Bool}{mt:Str->List D->Out D}{o e:Expr}{es:List Expr}{O:SD->Out D}{AA:SD->Out (List D)}{apos pos:Pos}
def eMeth(cs:List Str)(name:Str)(mt:Str->List D->Out D)(O:SD->Out D)(A:‹"ak"›):SD->Out D:=fun ς=>O ς>>=fun d=>match d with
 | .ins c fds=>if (cs.contains c&&(fds.lookup name).isNone)=true then A ς>>=fun xs=>mt c (.ins c fds::xs) else .stuck
 | _=>.stuck
theorem QIi{G H:Hp}{σ:St}{ς:SD}{Q:VK}{t:TA}{c:Str}{fds:List (Str×D)}{v1:V}{H1 G1:Hp}(S1:StR C G1 H1 σ ς)(a1:Same H H1)(b1:Same G G1)(r1:Rep C.X.K C.CT G1 (.ins c fds) v1)
 (tk:‹"am"›) (hx:∀ x,¬ C.XD x)
 (hq:∀ G H σ ς Q,StR C G H σ ς->(AA ς).post ‹"cj"› C.XD->t σ H Q)
 {K':D->Prop} (hK:∀ d v H2 G2 H' G',StR C G2 H2 σ ς->Same H H2->Same G G2->K' d->Same G2 G'->Same H2 H'->Same G' H'->(∀ b,G2 b=none->G' b≠none->H2 b=none)->RetG C.X.K C.CT fr H2 G' H' d v->Q v H')
 (kk:(if (cs.contains c&&(fds.lookup name).isNone)=true then AA ς>>=fun xs=>mt c (.ins c fds::xs) else .stuck).post K' C.XD):
 ∃ a Cc dx fs sp,v1=.ref a/\H1 a=some (.ins Cc dx fs)/\csOf C.CT cs (fun c=>SpD C.X.K C.CT fr (mt c)) Cc sp/\fs.lookup name=none/\t σ H1 fun vs H2=>sp (v1::(vs++[])) H2 Q E0:=by
 rcases QQ kk with⟨hc,kk⟩ | ⟨_,kk⟩
 ·rw[Bool.and_eq_true]at hc
  obtain⟨a,Cc,dx,fs,rfl,hct,hh,rf⟩:=r1
  refine⟨a,Cc,dx,fs,_,rfl,S1.sub _ _ hh,⟨c,hc.1,hct,rfl⟩,(RepF.look rf).2 (by simpa using hc.2),?_⟩
  rw[Out.post_bind]at kk
  refine hq G1 H1 σ ς _ S1 (Out.post_mono kk fun xs k2 vs H2 G2 S2 a2 b2 r2=>?_)
  refine⟨.ins c fds::xs,G2,S2.sub,⟨_,_,rfl,Rep.mono b2 (.ins c fds) (.ref a) ⟨a,Cc,dx,fs,rfl,hct,hh,rf⟩,by rw[List.append_nil];exact r2⟩,?_⟩
  cases z:mt c (.ins c fds::xs) with
  | stuck=>rw[z]at k2;exact k2.elim
  | exc y=>rw[z]at k2;exact absurd k2 (hx y)
  | ok d=>
   rw[z]at k2
   intro v H' G' g1 h1 s1 n1 ret
   exact hK d v H2 G2 H' G' S2 (a1.trans a2) (b1.trans b2) k2 g1 h1 s1 n1 ret
 ·exact kk.elim
theorem retKD{G H:Hp}{σ:St}{ς:SD}{Q:VK}:∀ d v H2 G2 H' G',StR C G2 H2 σ ς->Same H H2->Same G G2->KD C G H σ ς Q d->Same G2 G'->Same H2 H'->Same G' H'->(∀ b,G2 b=none->G' b≠none->H2 b=none)->RetG C.X.K C.CT fr H2 G' H' d v->Q v H':=by
 intro d v H2 G2 H' G' S2 a b kd g1 h1 s1 n1 ret
 unfold RetG at ret
 by_cases hc:(fr && !d.scal)=true
 ·rw[if_pos hc]at ret
  obtain⟨pp,rfl,h0,hg',ow⟩:=ret
  obtain⟨o,ho⟩:=ow.there
  have S3:=(S2.grow h1 g1 s1 n1).freeze ho hg' (S2.h0none h0) (fun i d' z1 z2=>by
   obtain⟨o',ho'⟩:=S2.own_ne z1 z2
   rw[h0]at ho';cases ho')
  exact kd _ _ _ S3 (a.trans h1) ((b.trans g1).trans (QB hg')) (ow.known hg' ho)
 ·rw[if_neg hc]at ret
  exact kd v H' G' (S2.grow h1 g1 s1 n1) (a.trans h1) (b.trans g1) ret
theorem QyL{pl:Sem Bool}(tk:‹"am"›)(hr:Room k C.X.A)(ho:DE C o O)(ha:DA C (e::es) AA)(hx:∀ x,¬ C.XD x:=by exact fun _ h=>h)
 (hst:‹"b"›:=by rfl) (hpl:(backTo pos ‹"aC"›).any (·.1)=false:=by rfl)
 (ht:eval (.Call (.Attribute o name apos) (e::es) [] pos) C.X.env=(do
  let ov ← eval o C.X.env
  standAt apos.atName
  let (f,first) ← holding [ov] (getMethod ov name pl)
  callWith pos f first (backTo pos (starEach (e::es) C.X.env)) (backToKw pos ‹"di"›)):=by rfl):
 DE C (.Call (.Attribute o name apos) (e::es) [] pos) (eMeth cs name mt O AA):=by
 obtain⟨t1,p1,q1⟩:=ho
 obtain⟨t2,p2,q2⟩:=ha
 refine⟨_,QFc (pl:=pl) p1 (mtab tk) hr pass0 p2 hst hpl ht,fun G H σ ς Q S q=>?_⟩
 unfold eMeth at q
 rw[Out.post_bind]at q
 refine q1 G H σ ς _ S (Out.post_mono q fun d kk v1 H1 G1 S1 a1 b1 r1=>?_)
 cases d with
 | ins c fds=>exact QIi S1 a1 b1 r1 tk hx q2 retKD kk
 | _=>exact kk.elim
theorem Qq3{pl:Sem Bool}(tk:‹"am"›)(hr:Room k C.X.A)(ho:DE C o O)(hx:∀ x,¬ C.XD x:=by exact fun _ h=>h)
 (ht:eval (.Call (.Attribute o name apos) [] [] pos) C.X.env=(do
  let ov ← eval o C.X.env
  standAt apos.atName
  let (f,first) ← holding [ov] (getMethod ov name pl)
  callWith pos f first (backTo pos (starEach [] C.X.env)) (backToKw pos ‹"di"›)):=by rfl):
 DE C (.Call (.Attribute o name apos) [] [] pos) (eMeth cs name mt O aNil):=by
 obtain⟨t1,p1,q1⟩:=ho
 refine⟨_,QMs (pl:=pl) p1 (mtab tk) hr pass0 ht,fun G H σ ς Q S q=>?_⟩
 unfold eMeth at q
 rw[Out.post_bind]at q
 refine q1 G H σ ς _ S (Out.post_mono q fun d kk v1 H1 G1 S1 a1 b1 r1=>?_)
 cases d with
 | ins c fds=>exact QIi (AA:=aNil) (t:=tNil) S1 a1 b1 r1 tk hx (fun G H σ ς Q S q=>q [] H G S (Same.refl H) (Same.refl G) rfl) retKD kk
 | _=>exact kk.elim
end
end DL
namespace DL
open PySem PySem.Spec PyProof.Rows L2
section
variable{C:Dc}{name:Str}{k:Nat}{cs:List Str}{mt:Str->List D->Out D}{o e:Expr}{es:List Expr}{O:SD->Out D}{AA:SD->Out (List D)}{apos pos:Pos}
variable{E:XK}{m:Str->List (Str×D)->List D->Out (List (Str×D))}{x:Str}{px spos:Pos}
def QjH(cs:List Str)(name:Str)(m:‹"Y"›)(i:Nat)(A:‹"ak"›):SD->Out Fl:=fun ς=>match (ς[i]?:Option (Option (SM×D))) with
 | some (some (SM.s,D.ins c fds))=>if (cs.contains c&&(fds.lookup name).isNone)=true then A ς>>=fun xs=>m c fds xs>>=fun fds'=>.ok (.nx (ς.set i (some (.s,.ins c fds')))) else .stuck
 | _=>.stuck
theorem Qqx{pl:Sem Bool}(i:Nat)(rz:Rz C E)(tk:MtOk C.X.prog C.X.w C.X.K C.X.mg C.X.base C.CT (CXR C.X.prog C.X.w) name k cs (fun _=>SpI C.X.K C.CT m))(hr:Room k C.X.A)(ha:DA C (e::es) AA)
 (hN:C.X.N[i]?=some x:=by rfl) (hv:‹"bI"›:=by first | exact Or.inl rfl | exact Or.inr (Or.inl rfl) | exact Or.inr (Or.inr rfl))
 (hd:‹"f"›:=by decide) (hcd:‹"t"›:=by decide)
 (hst:‹"b"›:=by rfl) (hpl:(backTo pos ‹"aC"›).any (·.1)=false:=by rfl)
 (ht:eval ‹"bO"› C.X.env=(do
  let ov ← eval (.Name x px) C.X.env
  standAt apos.atName
  let (f,first) ← holding [ov] (getMethod ov name pl)
  callWith pos f first (backTo pos (starEach (e::es) C.X.env)) (backToKw pos ‹"di"›)):=by rfl)
 (hsw:swapsWith ‹"bO"› none spos.line C.X.env=pure false:=by rfl):
 DS C (.Expr ‹"bO"› spos) (QjH cs name m i AA):=by
 obtain⟨t2,p2,q2⟩:=ha
 refine⟨_,QtY (QFc (pl:=pl) ‹"aI"› (mtab tk) hr rz.pass p2 hst hpl ht) hsw,fun G H σ ς W S kk=>?_⟩
 unfold QjH at kk
 split at kk
 ·rename_i c fds z
  rcases QQ kk with⟨hc,kk⟩ | ⟨_,kk⟩
  ·rw[Bool.and_eq_true]at hc
   obtain⟨p,e1',hg,h0,⟨hM,_⟩,hB,A,dx,fs,hct,hh,rf⟩:=S.sf i _ z
   refine⟨_,e1',p,A,dx,fs,_,rfl,hh,⟨c,hc.1,hct,rfl⟩,(RepF.look rf).2 (by simpa using hc.2),?_⟩
   rw[Out.post_bind]at kk
   refine q2 G H σ ς _ S (Out.post_mono kk fun xs k2 vs H2 G2 S2 a2 b2 r2=>?_)
   obtain⟨p',e2',hg2,_,_,_,A2,dx2,fs2,hct2,hh2,rf2⟩:=S2.sf i _ z
   rw[e1']at e2';cases e2'
   rw[Out.post_bind]at k2
   refine⟨p,c,A2,dx2,fs2,fds,vs++[],xs,G2,rfl,hct2,hh2,hg2,S2.sub,rf2,by rw[List.append_nil];exact r2,?_⟩
   cases zz:m c fds xs with
   | stuck=>rw[zz]at k2;exact k2.elim
   | exc y=>
    rw[zz]at k2
    obtain⟨c',Cc,f1,f2,f3⟩:=rz.xd y k2
    exact⟨c',Cc,f1,f2,fun H' s'=>f3 H' fun b o q mm=>s' b o (S2.fr b o q mm) (by rintro rfl;exact mm hM)⟩
   | ok fds'=>
    rw[zz]at k2
    intro H' G' fs' dx' g1 h1 s1 n1 hp rf'
    have gp:G' p=none:=by
     cases y:G' p with
     | none=>rfl
     | some o=>have:=n1 p hg2 (by rw[y];simp);rw[hh2]at this;cases this
    have S3:StR C G' (upd H' p (.ins A2 dx2 fs2)) σ ς:=S2.grow (fun b o e=>by
     by_cases hb:b=p
     ·subst hb;rw[QM];rw[hh2]at e;exact e
     ·rw[Qk hb];exact h1 b o e hb) g1 (fun b o e=>by
     rw[Qk (by rintro rfl;rw[gp]at e;cases e)];exact s1 b o e) n1
    have S4:=S3.writeS (dx:=dx') z e1' hct2 rf'
    have eq:upd (upd H' p (.ins A2 dx2 fs2)) p (.ins A2 dx' fs')=H':=by
     rw[QOc]
     funext b
     by_cases hb:b=p
     ·subst hb;rw[QM,hp]
     ·rw[Qk hb]
    rw[eq]at S4
    exact(show FlK C G W (.nx (ς.set i (some (.s,.ins c fds')))) from k2) σ H' G' S4 (b2.trans g1)
  ·exact kk.elim
 ·exact kk.elim
end
end DL
namespace DL
open PySem PySem.Spec PyProof.Rows L2
def inCls(s:Stmt)(j:Nat):Stmt:=match s with
 | .ClassDef _ _ _ b _ _ _ _ _ _ _=>b.getD j (.Pass ⟨0,0,0,0⟩)
 | _=>.Pass ⟨0,0,0,0⟩
def KitI(K:W.Frag)(CT:CTab)(uc:Value)(tbl:List (Str×Bool)):Prop:=∀ c b,tbl.lookup c=some b->∀ A,CT c=some A->ClsD K A/\W.kitOne K (.ref A) uc=some b
theorem Qqr{K:W.Frag}{CT:CTab}{uc:Value}:KitI K CT uc []:=fun _ _ h=>nomatch h
theorem Qar{K:W.Frag}{CT:CTab}{uc:Value}{c:Str}{b:Bool}{A:Addr}{tbl:List (Str×Bool)}(hc:CT c=some A)(hx:ClsD K A)(hk:W.kitOne K (.ref A) uc=some b)(r:KitI K CT uc tbl):KitI K CT uc ((c,b)::tbl):=by
 intro c' b' h A' hA
 rw[List.lookup_cons]at h
 cases e:c' == c with
 | true=>
  rw[e]at h
  cases h
  rw[beq_iff_eq.mp e,hc]at hA
  cases hA
  exact⟨hx,hk⟩
 | false=>
  rw[e]at h
  exact r c' b' h A' hA
section
variable{C:Dc}{pos p:Pos}{e cx:Expr}{E:SD->Out D}
end
def eIxO(i:Nat)(b:SD->Out D):SD->Out D:=fun ς=>match (ς[i]?:Option (Option (SM×D))) with
 | some (some (SM.o,D.lst xs))=>b ς>>=fun k=>match k with | .int k=>optO (atI xs k) | _=>.stuck
 | _=>.stuck
section
variable{C:Dc}{pos px:Pos}{b:Expr}{B:SD->Out D}{x f:Str}{cs:List Str}
theorem QPK(i:Nat)(hb:DB C b B)(hN:C.X.N[i]?=some x:=by rfl)(hv:‹"bI"›:=by first | exact Or.inl rfl | exact Or.inr (Or.inl rfl) | exact Or.inr (Or.inr rfl))
 (hd:‹"f"›:=by decide) (hcd:‹"t"›:=by decide) (hs:QtQ b:=by intro _ _;rfl):DE C (.Subscript (.Name x px) b pos) (eIxO i B):=by
 obtain⟨tb,p2,q2⟩:=hb
 refine⟨_,pe_ix QCe ‹"aI"› p2 hs,fun G H σ ς Q S q=>?_⟩
 unfold eIxO at q
 split at q
 ·rename_i xs z
  obtain⟨p,e1',hg,h0,ow⟩:=S.ow i _ z
  rw[Out.post_bind]at q
  refine⟨_,e1',q2 G H σ ς _ S (Out.post_mono q fun y k2 v2 H2 G2 S2 a2 b2 r2=>?_)⟩
  cases y with
  | int k=>
   cases r2
   obtain⟨d,e2',kd⟩:=Qc2 k2
   obtain⟨p',e3',hg',h0',vs,hv1,hv2⟩:=S2.ow i _ z
   rw[e1']at e3';cases e3'
   obtain⟨v,e4',rv⟩:=QoZ hv2 e2'
   exact .inl ⟨p,vs,k,v,rfl,rfl,SqL.of hv1,e4',KD.now (KD.later kd a2 b2) S2 rv⟩
  | _=>exact k2.elim
 ·exact q.elim
end
end DL
namespace L2
open PySem PySem.Spec PyProof.Rows
def Ite(K:W.Frag)(a:Addr):It:=
 ⟨fun i H=>∃ xs x,SqL K H a xs/\xs[i]?=some x,
  fun i H v H'=>∃ p x,H p=none/\v=.ref p/\H'=upd H p (.tup [.int i,x])/\(∀ xs,SqL K H a xs->xs[i]?=some x),
  fun i H=>∃ xs,SqL K H a xs/\xs.length<=i⟩
theorem QMi{P:Program}{w:World}{K:W.Frag}{elts:List Expr}{k1:Nat}{pos:Pos}{e it l:Addr}(D1:e≠it):
 Turn P w K (.Tuple elts k1 pos) (Ite K l) [e,it] e (fun i h=>(∃ old,IsEnum h e it (i:Int) old)/\h.IsListIter it l i) where
 mem:=by simp
 obj:=fun i h st b hb=>by
  obtain⟨⟨old,s1⟩,⟨o4,e4,c4,d4⟩⟩:=st
  simp only[List.mem_cons,List.not_mem_nil,or_false]at hb
  rcases hb with rfl | rfl
  ·exact⟨_,s1,fun v q=>by cases q⟩
  ·exact⟨_,e4,fun v q=>by rw[d4]at q;cases q⟩
 keep:=fun i h h' st k=>by
  obtain⟨⟨old,s1⟩,s4⟩:=st
  exact⟨⟨old,k e (by simp) _ s1⟩,s4.at fun o q=>k it (by simp) o q⟩
 item:=by
  intro X hP hw hK hc i pins s σ H E I hf st hg
  subst hP hw hK
  obtain⟨xs,x,q1,hx⟩:=hg
  obtain⟨its1,rv1,p1,hz1⟩:=I.list q1
  obtain⟨u1,hu1,ru1⟩:=rv1.get hx
  obtain⟨⟨old,s1⟩,s4⟩:=st
  refine wpAny_pyNext_enum_item s1 s4 p1.isList (x:=u1) (by simpa using hu1) D1 fun h' a1 a3 a5 a6 hk=>?_
  have hT:H s.heap.objs.size=none:=I.hok.fresh ‹"ar"›
  have fp:∀ c∈[e,it],FpOk X pins H c:=hf
  have out:∀ c,c∉[e,it]->∀ o,s.heap.get? c=some o->h'.get? c=some o:=fun c hc o q=>hk c o (fun q=>hc (by simp[q])) (fun q=>hc (by simp[q])) q
  have trk:∀ c o,H c=some o->c∉[e,it]:=fun c o q hc=>by rw[(fp c hc).1]at q;cases q
  have hok:HOk X.prog X.w ‹"dT"› h':=fun c o q=>by
   by_cases hcT:c=s.heap.objs.size
   ·subst hcT
    rw[QM]at q
    cases q
    exact⟨by show 2<=sizeLine;decide,[.int i s.toks,u1],.cons ⟨_,rfl⟩ (.cons ru1 .nil),⟨_,a5,rfl,_,rfl⟩⟩
   ·rw[Qk hcT]at q
    refine(I.hok c o q).stay (fun b u hb q'=>out b ?_ u q') (fun b q'=>?_) fun b ts q'=>?_
    ·rcases hb with rfl | hb
     ·exact trk b _ q
     ·exact trk b _ hb
    ·rw[Qk (Q3 q' hT)];exact q'
    ·rw[Qk (Q3 q' hT)];exact q'
  have I1:Inv X pins σ ‹"dT"› { s with heap:=h',gens:=s.gens,drawn:=s.drawn,toks:=s.toks+1 }:=I.step (ch:=[e,it])
   ‹"F"› (fun c o _ _ hc q _=>out c hc o q) (fun c o _ _ hc q _=>⟨o.slots,out c hc o q⟩)
   (fun c o hc q n=>by rw[Qk (Nat.ne_of_lt (Heap.lt_size q))];exact n) (fun c o hc q=>⟨o,out c hc o q⟩)
   (fun c ts q=>by rw[Qk (Q3 q hT)];exact q) (fun c o u q=>by rw[Qk (Q3 q hT)];exact q) (fun c ts q=>⟨#[],by rw[Qk (Q3 q hT),q];simp⟩)
   (fun m hm=>by
    obtain⟨o,es,ep,ho,r⟩:=hm
    exact⟨o,es,ep,out _ (fun hc=>(fp _ hc).2.1 rfl) o ho,r⟩) hok I.bare
  have lt:∀{c o},s.heap.get? c=some o->s.heap.objs.size≠c:=fun q=>Nat.ne_of_gt (Heap.lt_size q)
  refine⟨_,rfl,wpAny_letOwnedTupleGo_enum a1 fun h2 hz2 hs2=>?_⟩
  obtain⟨z0,z1,z2,z3,z4,z5⟩:=hf e (by simp)
  have I2:Inv X pins σ ‹"dT"› { s with heap:=h2,toks:=s.toks+1 }:=Inv.turned (s:={ s with heap:=h',gens:=s.gens,drawn:=s.drawn,toks:=s.toks+1 }) (t':=s.toks+1) (it:=e) I1 (fun b o hb q=>(hs2.2 b hb).trans q) (by rw[Qk (lt s1).symm];exact z0) z1 z3 z4 z5
  refine⟨.ref s.heap.objs.size,_,I2,rfl,⟨_,x,hT,rfl,rfl,fun xs' q'=>by rw[I.list_inj q' q1];exact hx⟩,
   ⟨⟨_,by have:((i+1:Nat):Int)=(i:Int)+1:=by push_cast;rfl
          rw[this];exact hz2⟩,a3.extBut hs2.extBut D1.symm⟩,fun c hc=>?_⟩
  have:H c=none:=(hf c hc).1
  obtain⟨oc,hoc⟩:∃ o,s.heap.get? c=some o:=by
   simp only[List.mem_cons,List.not_mem_nil,or_false]at hc
   rcases hc with rfl | rfl
   ·exact⟨_,s1⟩
   ·obtain⟨o,q,_⟩:=s4;exact⟨o,q⟩
  rw[Qk (lt hoc).symm];exact this
 done:=by
  intro X hP hw hK hc i pins s σ H E I hf st hg
  subst hP hw hK
  obtain⟨xs,q1,hend⟩:=hg
  obtain⟨its1,rv1,p1,hz1⟩:=I.list q1
  have l1:=rv1.length
  obtain⟨⟨old,s1⟩,s4⟩:=st
  obtain⟨z0,z1,z2,z3,z4,z5⟩:=hf it (by simp)
  refine wpAny_pyNext_enum_end (I.ok.hd hc) s1 s4 p1.isList (by simp;omega) fun h' hk=>⟨rfl,?_⟩
  have fp:∀ c∈[it],FpOk X pins H c:=fun c hc=>hf c (by simp only[List.mem_cons,List.not_mem_nil,or_false]at hc ⊢;exact Or.inr hc)
  have out:∀ c,c∉[it]->∀ o,s.heap.get? c=some o->h'.get? c=some o:=fun c hc o q=>hk c o (fun q=>hc (by simp[q])) q
  have trk:∀ c o,H c=some o->c∉[it]:=fun c o q hc=>by rw[(fp c hc).1]at q;cases q
  exact I.step (g':=s.gens) (d':=s.drawn) (t':=s.toks) (ch:=[it]) ‹"F"› (fun c o _ _ hc q _=>out c hc o q) (fun c o _ _ hc q _=>⟨o.slots,out c hc o q⟩)
   (fun c o hc q n=>n) (fun c o hc q=>⟨o,out c hc o q⟩) (fun c ts q=>q) (fun c o u q=>q) (fun c ts q=>⟨#[],by rw[q];simp⟩)
   (fun m hm=>by
    obtain⟨o,es,ep,ho,r⟩:=hm
    exact⟨o,es,ep,out _ (fun hc=>(fp _ hc).2.1 rfl) o ho,r⟩)
   (fun c o q=>(I.hok c o q).stay (fun b u hb q'=>out b (by
    rcases hb with rfl | hb
    ·exact trk b _ q
    ·exact trk b _ hb) u q') (fun b q'=>q') fun b ts q'=>q') I.bare
 self:=fun _ _ _ _ _ st h=>wpAny_pyIter_enum st.1.choose_spec h
section
variable{X:Cx}
def iEnum(K:W.Frag)(ta:TA):TI:=fun σ H R=>ta σ H fun vs H1=>∃ a,vs=[.ref a]/\(∃ xs,SqL K H1 a xs)/\R (Ite K a) H1
theorem QOp{elts:List Expr}{k1:Nat}{tpos:Pos}{a:Expr}{ta:TA}{p pos:Pos}(hg:Gl X "enumerate")(hm:X.mg "enumerate"=none)(ha:PA X [a] ta)(hs:starEach [a] X.env=[(false,eval a X.env)]:=by rfl):
 PI X (.Tuple elts k1 tpos) (.Call (.Name "enumerate" p) [a] [] pos) (iEnum X.K ta):=by
 intro pins s σ H R I h
 refine Call_ (Qjy I hg hm PyProof.Rows.Boot.«enumerate» (PyProof.Rows.callWith_type1 (thn ‹"bn"› fun us s1 ⟨vs,H1,I1,r1,q1⟩=>?_) (by rw[hs];rfl) (by rfl)))
 obtain⟨l1,e,⟨xs,hx⟩,q⟩:=q1
 subst e
 cases r1 with
 | cons r rr=>
  cases rr
  cases r
  obtain⟨its1,rv1,p1,hz1⟩:=I1.list hx
  refine call_enumerate_list p1.isList fun h' c1 c4 c6 hk=>?_
  refine wpAny_pyIter_enum c1 ?_
  refine⟨_,_,_,Ite X.K l1,H1,rfl,I1.kept (t':=s1.toks) fun b o e=>hk b o e,QMi (e:=s1.heap.objs.size+1) (it:=s1.heap.objs.size) (l:=l1) (show ¬ ((s1.heap.objs.size+1:Nat)=s1.heap.objs.size) by omega),
   ⟨⟨_,c1⟩,c4⟩,fun b hb=>?_,q⟩
  have hb':s1.heap.objs.size<=b:=by
   simp only[List.mem_cons,List.not_mem_nil,or_false]at hb
   rcases hb with rfl | rfl<;>omega
  exact I1.fpOk hb' (I1.hok.fresh hb')
end
end L2
namespace DL
open PySem PySem.Spec PyProof.Rows L2
def enumD(i:Nat):List D->List D
 | []=>[]
 | x::xs=>.tup [.int i,x]::enumD (i+1) xs
theorem QzA:∀(xs:List D)(i:Nat),(enumD i xs).length=xs.length
 | [],_=>rfl
 | x::xs,i=>by simp[enumD,QzA xs]
theorem Qtg:∀(xs:List D)(n i:Nat),(enumD n xs)[i]?=xs[i]?.map fun x=>.tup [.int (n+i:Nat),x]
 | [],_,_=>rfl
 | x::xs,n,0=>rfl
 | x::xs,n,i+1=>by
  show(enumD (n+1) xs)[i]?=_
  rw[Qtg xs (n+1) i,show n+1+i=n+(i+1) by omega]
  rfl
def itE(A:SD->Out D):SD->Out (List D):=fun ς=>A ς>>=fun x=>match x with
 | .lst xs=>.ok (enumD 0 xs)
 | _=>.stuck
section
variable{C:Dc}{a:Expr}{A:SD->Out D}
theorem QNm{K:W.Frag}{CT:CTab}{G1:Hp}{p:Addr}{xs:List D}{us:List V}(h1:SqL K G1 p us)(r1:RepL K CT G1 xs us):DIt K CT G1 (Ite K p) (enumD 0 xs) where
 go:=fun G H i d s1 sH hd=>by
  rw[Qtg,Nat.zero_add]at hd
  cases e1':xs[i]? with
  | none=>rw[e1']at hd;cases hd
  | some x=>
   rw[e1']at hd
   cases hd
   obtain⟨u,hu,ru⟩:=r1.get e1'
   have q1:SqL K H p us:=sH.seq (s1.seq h1)
   refine⟨⟨us,u,q1,hu⟩,fun w H' ⟨t,x',n,e,e',k1⟩=>?_⟩
   have z1:=k1 us q1
   rw[hu]at z1;cases z1
   subst e e'
   have gn:G t=none:=sH.free n
   refine⟨upd G t (.tup [.int i,u]),QB gn,QB n,Qsj sH,fun b g g'=>?_,t,[.int i,u],rfl,SqT.of QM,⟨.int i,_,rfl,rfl,u,_,rfl,Rep.mono (s1.trans (QB gn)) x u ru,rfl⟩⟩
   by_cases hb:b=t
   ·subst hb;exact n
   ·rw[Qk hb]at g';exact absurd g g'
 stop:=fun G H s1 sH=>by
  refine⟨us,sH.seq (s1.seq h1),?_⟩
  have l1:=r1.length
  rw[QzA]
  omega
theorem Qyj{elts:List Expr}{k1:Nat}{tpos p pos:Pos}(hgl:Gl C.X "enumerate")(hm:C.X.mg "enumerate"=none)(ha:DE C a A)
 (hst:‹"br"›:=by rfl):DI C (.Tuple elts k1 tpos) (.Call (.Name "enumerate" p) [a] [] pos) (itE A):=by
 obtain⟨t0,p0,q0⟩:=ha
 refine⟨_,QOp hgl hm (Qbk p0 Qdz hst) (by rw[hst];rfl),fun G H σ ς R S k=>?_⟩
 unfold itE at k
 rw[Out.post_bind]at k
 refine q0 G H σ ς _ S (Out.post_mono k fun d k v H1 G1 S1 a1 b1 r=>?_)
 cases d with
 | lst xs=>
  obtain⟨p1,us,rfl,h1,r1⟩:=r
  exact⟨p1,rfl,⟨us,S1.sub.seq h1⟩,k _ H1 G1 S1 a1 b1 (QNm h1 r1)⟩
 | _=>exact k.elim
end
end DL
namespace L2
open PySem PySem.Spec PyProof.Rows
section
variable{X:Cx}
end
end L2
namespace DL
open PySem PySem.Spec PyProof.Rows L2
section
variable{C:Dc}{o e:Expr}{O E:SD->Out D}{apos cpos:Pos}
end
end DL
namespace L2
open PySem PySem.Spec PyProof.Rows
section
variable{X:Cx}{k:Nat}{f ea:Addr}{fd:FuncData}{ps:List Str}{sp:Sp}{dvs:List V}{ds:List Value}{x:Str}{p pos:Pos}{e:Expr}{es:List Expr}{t:TA}
end
end L2
namespace DL
open PySem PySem.Spec PyProof.Rows L2
section
variable{C:Dc}{ea:Addr}{x:Str}{k:Nat}{m:List D->Out D}{e:Expr}{es:List Expr}{A:SD->Out (List D)}{p pos:Pos}
end
end DL
namespace L2
open PySem PySem.Spec PyProof.Rows
section
variable{X:Cx}{tg:Expr}
end
end L2
namespace DL
open PySem PySem.Spec PyProof.Rows L2
section
variable{C:Dc}{a b c e:Expr}{es:List Expr}{A B E:SD->Out D}{AA:SD->Out (List D)}{tg:Expr}{p pos:Pos}
def frz(j:Nat)(ς:SD):SD:=match (ς[j]?:Option (Option (SM×D))) with
 | some (some (SM.o,d))=>ς.set j (some (.k,d))
 | _=>ς
theorem StR.frz{G H:Hp}{σ:L2.St}{ς:SD}(S:‹"au"›){j:Nat}{d:D}(z:ς[j]?=some (some (.o,d))):∃ G',Same G G'/\StR C G' H σ (ς.set j (some (.k,d))):=by
 obtain⟨p,e,hg,h0,ow⟩:=S.ow j d z
 obtain⟨o,ho⟩:=ow.there
 have hj:j<ς.length:=(List.getElem?_eq_some_iff.mp z).1
 have get:∀(i:Nat) x,(ς.set j (some (.k,d)))[i]?=some (some x)->(i=j/\x=(.k,d))∨(i≠j/\ς[i]?=some (some x)):=fun i x h=>by
  rw[List.getElem?_set]at h
  by_cases q:j=i
  ·rw[if_pos q,if_pos (by omega)]at h
   cases h
   exact .inl ⟨q.symm,rfl⟩
  ·rw[if_neg q]at h
   exact .inr ⟨fun w=>q w.symm,h⟩
 refine⟨upd G p o,QB hg,?_⟩
 have hn:∀(i:Nat) d',i≠j->ς[i]?=some (some (.o,d'))->σ[i]?≠some ‹"aT"›:=fun i d' hi q w=>S.inj i j d' d p hi q z w e
 exact {
  toGH:=GH.freezeR S.toGH ho hg h0
  len:=by rw[List.length_set];exact S.len
  fz:=fun i d' q=>by
   rcases get i _ q with⟨rfl,w⟩ | ⟨_,w⟩
   ·cases w
    exact⟨_,e,ow.known hg ho⟩
   ·obtain⟨v,a,b⟩:=S.fz i d' w
    exact⟨v,a,Rep.mono (QB hg) d' v b⟩
  ow:=fun i d' q=>by
   rcases get i _ q with⟨rfl,w⟩ | ⟨hi,w⟩
   ·cases w
   ·obtain⟨r,a,b,c,w'⟩:=S.ow i d' w
    refine⟨r,a,?_,c,w'.mono (QB hg) fun _ z=>z⟩
    rw[Qk (by rintro rfl;exact hn i d' hi w a)];exact b
  ln:=fun i d' q=>by
   rcases get i _ q with⟨rfl,w⟩ | ⟨_,w⟩
   ·cases w
   ·exact S.ln i d' w
  inj:=fun i k d1 d2 q hne h1 h2=>by
   rcases get i _ h1 with⟨rfl,w⟩ | ⟨_,w⟩
   ·cases w
   ·rcases get k _ h2 with⟨rfl,w2⟩ | ⟨_,w2⟩
    ·cases w2
    ·exact S.inj i k d1 d2 q hne w w2
  sf:=fun i d' q=>by
   rcases get i _ q with⟨rfl,w⟩ | ⟨_,w⟩
   ·cases w
   ·obtain⟨r,a,b,c,m,z',w'⟩:=S.sf i d' w
    refine⟨r,a,?_,c,m,z',w'.mono (QB hg) fun _ z=>z⟩
    rw[Qk (by rintro rfl;exact c h0)];exact b
  su:=fun i k d1 d2 q hne h1 h2=>by
   rcases get i _ h1 with⟨rfl,w⟩ | ⟨_,w⟩
   ·cases w
   ·rcases get k _ h2 with⟨rfl,w2⟩ | ⟨_,w2⟩
    ·cases w2
    ·exact S.su i k d1 d2 q hne w w2 }
theorem QwP(j:Nat){st:Stmt}{T:SD->Out Fl}(h:DS C st T):DS C st (fun ς=>T (frz j ς)):=by
 obtain⟨t,p1,q⟩:=h
 refine⟨t,p1,fun G H σ ς W S k=>?_⟩
 have k:(T (frz j ς)).post (FlK C G W) C.XD:=k
 by_cases z:∃ d,ς[j]?=some (some (SM.o,d))
 ·obtain⟨d,z⟩:=z
  have e:frz j ς=ς.set j (some (.k,d)):=by unfold frz;rw[z]
  rw[e]at k
  obtain⟨G',sG,S'⟩:=S.frz z
  exact q G' H σ _ W S' (Out.post_mono k fun f kf=>FlK.later kf sG)
 ·have e:frz j ς=ς:=by
   unfold frz
   split
   ·rename_i d w;exact absurd ⟨d,w⟩ z
   ·rfl
  rw[e]at k
  exact q G H σ ς W S k
end
end DL
namespace LS
open PySem PySem.Spec PyProof.Rows
def met(f:Nat->Str):Nat->List Str
 | 0=>[]
 | i+1=>if f i∈met f i then met f i else met f i++[f i]
theorem met_le(f:Nat->Str):∀ i,(met f i).length<=i
 | 0=>Nat.le_refl _
 | i+1=>by
  have h:=met_le f i
  show(if _ then _ else _:List Str).length<=_
  split
  ·omega
  ·rw[List.length_append,List.length_singleton];omega
abbrev isIn(f:Nat->Str)(i:Nat):Str->Bool:=fun y=>decide (y∈met f i)
theorem QLR(f:Nat->Str)(i:Nat)(y:Str):(isIn f i y||decide (y=f i))=isIn f (i+1) y:=by
 show _=decide (y∈(if _ then _ else _:List Str))
 by_cases h:f i∈met f i
 ·rw[if_pos h]
  by_cases e:y=f i
  ·subst e;simp[isIn,h]
  ·simp[isIn,e]
 ·rw[if_neg h]
  simp[isIn,Bool.decide_or]
theorem QNB(f:Nat->Str)(i:Nat):(if isIn f i (f i)=true then(met f i).length else(met f i).length+1)=(met f (i+1)).length:=by
 show _=(if _ then _ else _:List Str).length
 by_cases h:f i∈met f i
 ·rw[if_pos h,if_pos (decide_eq_true h)]
 ·rw[if_neg h,if_neg (by simpa [isIn] using h),List.length_append];rfl
section
variable{pg:Program}{wd:World}
theorem QKv{hp:Heap}{p:Addr}{f g:Str->Bool}{m n:Nat}(h:hp.SetOf (strKind pg wd) p f m)(hf:f=g)(hn:m=n):hp.SetOf (strKind pg wd) p g n:=hn ▸ hf ▸ h
variable{ar:Around}{Res:Result->Shared->Prop}{it:Addr}{ff wt:List Addr}{Gn:Array GenState->Array GenState->Prop}{n:Nat}{Pv:Nat->Value->Prop}{Sv:Nat->Shared->Prop}
theorem fill(Wk:WalksS pg wd ar.in1 it ff wt Gn n Pv Sv){p:Addr}(off:p∉ff){f:Nat->Str}(txt:∀ i v,Pv i v->∃ t,v=.str (f i) t)(few:n+1<scanBound):
 ∀(m i:Nat)(st:Shared),i+m=n->Sv i st->st.heap.SetOf (strKind pg wd) p (isIn f i) (met f i).length->
  (∀ st',Moved (p::wt) Gn st st'->st'.heap.SetOf (strKind pg wd) p (isIn f n) (met f n).length->Res (.ok (.ret .none)) st')->
  codeAny (model pg wd) ar (.builtin "set.update.loop" ⟨[.ref p,.ref it],[]⟩) Res st:=by
 have off':p∉wt:=fun z=>off (Wk.sub _ z)
 have more:∀ b,b∈wt->b∈p::wt:=fun b hb=>List.mem_cons_of_mem p hb
 have stays:∀{s s':Shared}{i:Nat},Moved wt Gn s s'->s.heap.SetOf (strKind pg wd) p (isIn f i) (met f i).length->s'.heap.SetOf (strKind pg wd) p (isIn f i) (met f i).length:=
  fun mv ⟨o,es,ep,tb,ho,rest⟩=>⟨o,es,ep,tb,mv.heap p o off' ho,rest⟩
 intro m
 induction m with
 | zero=>
  intro i st him hs hset fin
  obtain rfl:i=n:=by omega
  refine codeAny_builtin PyProof.Rows.F.entry_set_update_loop ?_
  rw[Around.under_plainId PyProof.Rows.F.plain_set_update_loop _]
  exact wpAny_bind (m:=pyNext (.ref it)) (Wk.done st _ _ hs fun st' mv=>wpAny_pure (fin st' (mv.mono more) (stays mv hset)))
 | succ m next=>
  intro i st him hs hset fin
  refine codeAny_builtin PyProof.Rows.F.entry_set_update_loop ?_
  rw[Around.under_plainId PyProof.Rows.F.plain_set_update_loop _]
  refine wpAny_bind (m:=pyNext (.ref it)) (Wk.item i st _ _ (by omega) hs fun v st' hv hs' mv=>?_)
  obtain⟨t,rfl⟩:=txt i v hv
  have key:=strKind_is pg wd (f i) t
  have hset1:=stays mv hset
  refine wpAny_bind (m:=holding [.str (f i) t] (setAdd p (.str (f i) t))) (wpAny_holding ?_)
  unfold setAdd
  refine wpAny_holding (wpAny_bind ((strKind pg wd).pyHash (k:=f i) key ?_))
  refine wpAny_setAddHashed_of (knd:=strKind pg wd) key rfl hset1 (by have:=met_le f i;omega) fun hp' same hset'=>?_
  have now:=QKv hset' (g:=isIn f (i+1)) (funext fun y=>QLR f i y) (QNB f i)
  have tt:st'.toks<=st'.toks+1:=Nat.le_succ _
  refine wpAny_pure ⟨plainId_quiet PyProof.Rows.F.plain_set_update_loop _,next (i+1) _ (by omega) (Wk.frame _ st' _ _ hs' tt fun b hb o e=>?_) now fun st2 mv2 hset2=>fin st2 (Moved.trans Wk.gtrans ((mv.mono more).then_heap tt fun b o hb e=>?_) mv2) hset2⟩
  ·rw[same.2 b fun z=>off (z ▸ hb)];exact e
  ·rw[same.2 b fun z=>hb (z ▸ List.mem_cons_self)];exact e
end
abbrev Qev(led:Bool):Obj:={ cls:=.type "set",dict:=none,data:=.set #[] 0 (.fresh 0 0 led) }
section
variable{pg:Program}{wd:World}{ar:Around}{Ex:Value->Shared->Prop}{st:Shared}
set_option maxHeartbeats 4000000 in
theorem of_list{l:Addr}{vs:Array Value}{f:Nat->Str}{Q:‹"m"›}(nh:ar.handled=none)(isl:st.heap.IsList l vs)(txt:∀ i v,vs[i]?=some v->∃ t,v=Value.str (f i) t)(few:vs.size+1<scanBound)
 (goal:∀(hp:Heap)(tk:Nat),hp.SetOf (strKind pg wd) st.heap.objs.size (isIn f vs.size) (met f vs.size).length->(∀ b o,b<st.heap.objs.size->st.heap.get? b=some o->hp.get? b=some o)->Q (.ref st.heap.objs.size) { st with heap:=hp,toks:=tk }):
 wpAny (model pg wd) ar (call (.type "set") [.ref l]) Q Ex st:=by
 have made:=PySem.F.called_set.made
 have sub:=PySem.F.called_set.sub
 have nt:=PySem.F.called_set.notType
 have cc:=PySem.F.called_set.canCreate
 have tc:=PySem.F.typeCall_set_1 (.ref l)
 obtain⟨c1,c2,mro⟩:=PySem.F.called_set.mro
 refine wpAny_call (codeAny_of_tree ?_)
 show wpAny (model pg wd) _ (callAny (.type "set") ⟨[.ref l],[]⟩) _ _ st
 refine wpAny_pure ⟨Code.quiet_builtin _ (dk),codeAny_builtin F.entry_type_call ?_⟩
 rw[Around.under_plain (weight_type_call_type "set" [.ref l] []) rfl]
 repeat (any_goals (first | assumption | wp_step))
 let mid:Shared->Prop:=fun s2=>∃ hp tk,s2={ st with heap:=hp,toks:=tk }/\hp.SetOf (strKind pg wd) st.heap.objs.size (isIn f vs.size) (met f vs.size).length/\∀ b o,b<st.heap.objs.size->st.heap.get? b=some o->hp.get? b=some o
 refine codeAny_mono (code_set_new_1 (.ref l) (E:=Ex) (Q₁:=fun v s1=>∃ led,v=.ref st.heap.objs.size/\s1={ st with heap:=st.heap.push (Qev led) }) fun led=>⟨led,rfl,rfl⟩) fun r1 s1 h1=>?_
 cases r1 with
 | error _=>exact h1
 | ok fl1=>
  cases fl1 with
  | ret v1=>
   obtain⟨led,rfl,rfl⟩:=h1
   have at1:(st.heap.push (Qev led)).get? st.heap.objs.size=some (Qev led):=Heap.get?_push_size _ rfl
   have ty1:Shared.TypeIs { st with heap:=st.heap.push (Qev led) } (.ref st.heap.objs.size) "set":=⟨_,at1,rfl⟩
   have lk:=PySem.F.called_set.init.lookup
   have bd:=PySem.F.called_set.init.bind (.ref st.heap.objs.size)
   repeat (any_goals (first | assumption | wp_step))
   refine codeAny_mono (codeAny_call_builtin (R:=wants (fun v s2=>v=.none/\mid s2) Ex) PySem.F.called_set.init.plain F.entry_set_init (check_set_init_1 ty1 ?_)) fun r2 s2 h2=>?_
   ·obtain⟨⟨oc,od,dt,os⟩,hol,e1,nl,e2⟩:=isl
    obtain rfl:oc=.type "list":=e1
    obtain rfl:dt=.seq vs nl:=e2
    have hol1:(st.heap.push (Qev led)).get? l=some ⟨.type "list",od,.seq vs nl,os⟩:=Heap.get?_push_of_some _ hol
    have isl1:(st.heap.push (Qev led)).IsList l vs:=⟨_,hol1,rfl,nl,rfl⟩
    have n1:=PySem.F.sub_list_set
    have n2:=PySem.F.sub_list_frozenset
    have n3:(Value.type "list" == Value.type "dict")=false:=by decide
    have lt : @LT.lt Nat _ l st.heap.objs.size:=Heap.lt_size hol
    have sz:=Heap.size_push st.heap (Qev led)
    unfold Builtin.«set.__init__» noKeywords Builtin.Frozenset.updateFrom
    generalize keep:pyIter=ITER
    wp_walk
    subst keep
    refine wpAny_pyIter_list isl1 (wpAny_bind (wpAny_runValue ?_))
    have off:st.heap.objs.size∉[(st.heap.push (Qev led)).objs.size,l]:=by
     rw[sz]
     intro z
     rcases List.mem_cons.mp z with z | z
     ·exact Nat.ne_of_lt (Nat.lt_succ_self _) z
     ·exact Nat.ne_of_gt lt (List.mem_singleton.mp z)
    have off2:l≠(st.heap.push (Qev led)).objs.size:=by rw[sz];exact Nat.ne_of_lt (Nat.lt_succ_of_lt lt)
    refine fill ((Walks.list (by simp[nh]) _ l off2 vs).toS) off txt few vs.size 0 _ (Nat.zero_add _) ⟨⟨_,Heap.get?_push_size _ rfl,rfl,rfl⟩,isl1.push _⟩ ?_ fun s3 mv hs3=>?_
    ·exact QKv ((setObjOf_fresh (knd:=strKind pg wd) led).setOf (Heap.get?_push_of_some _ at1) (by unfold scanBound;omega)) (funext fun y=>by simp[isIn,met]) rfl
    ·obtain⟨hp3,g3,d3,tk3,os3⟩:=s3
     obtain rfl:g3=st.gens:=mv.gens
     obtain rfl:d3=st.drawn:=mv.drawn
     obtain rfl:os3=st.os:=mv.os
     refine wpAny_pure (wpAny_pure ⟨rfl,hp3,tk3,rfl,hs3,fun b o hb e=>?_⟩)
     refine mv.heap b o (fun z=>?_) (Heap.get?_push_of_some _ (Heap.get?_push_of_some _ e))
     rw[sz]at z
     rcases List.mem_cons.mp z with z | z
     ·exact Nat.ne_of_lt hb z
     ·rcases List.mem_cons.mp z with z | z
      ·exact Nat.ne_of_lt (Nat.lt_succ_of_lt hb) z
      ·exact absurd z List.not_mem_nil
   ·cases r2 with
    | error _=>exact h2
    | ok fl2=>
     cases fl2 with
     | ret v2=>
      obtain⟨rfl,hp,tk,rfl,hs2,kp⟩:=h2
      repeat (any_goals (first | assumption | wp_step))
      exact goal hp tk hs2 kp
     | _=>exact h2.elim
  | _=>exact h1.elim
end
end LS
namespace DL
open PySem PySem.Spec PyProof.Rows L2
def dkey:D->Option Key
 | .int i=>some (.inl i)
 | .str x=>some (.inr x)
 | _=>none
def valD(kds:List (Key×D))(k:Key):Option D:=(kds.find? fun kv=>decide (kv.1=k)).map (·.2)
def putKD(kds:List (Key×D))(k:Key)(d:D):List (Key×D):=
 if (kds.any fun kv=>decide (kv.1=k))=true then kds.map (fun kv=>if kv.1=k then(kv.1,d) else kv) else kds++[(k,d)]
section
variable{K:W.Frag}{CT:CTab}{H:Hp}
theorem QvQ{d:D}{v:V}{k:Key}(h:dkey d=some k)(r:Rep K CT H d v):v=kV k:=by
 cases d with
 | int i=>cases h;exact r
 | str x=>cases h;exact r
 | _=>cases h
theorem RepK.len:∀{ds:List (Key×D)}{vs:List (Key×V)},RepK K CT H ds vs->ds.length=vs.length
 | [],_,h=>by cases h;rfl
 | (k,d)::ds,_,⟨v,r,h1,h2,h3⟩=>by rw[h1,List.length_cons,List.length_cons,RepK.len h3]
theorem RepK.val(k:Key):∀{ds:List (Key×D)}{vs:List (Key×V)},RepK K CT H ds vs->(valD ds k=none/\valV vs k=none)∨∃ d v,valD ds k=some d/\valV vs k=some v/\Rep K CT H d v
 | [],_,h=>by cases h;exact .inl ⟨rfl,rfl⟩
 | (k',d)::ds,_,⟨v,r,h1,h2,h3⟩=>by
  subst h1
  by_cases e:k'=k
  ·subst e
   exact .inr ⟨d,v,by simp[valD],by simp[valV],h2⟩
  ·have a:valD ((k',d)::ds) k=valD ds k:=by simp[valD,List.find?_cons,e]
   have b:valV ((k',v)::r) k=valV r k:=by simp[valV,List.find?_cons,e]
   rw[a,b];exact RepK.val k h3
theorem RepK.any(k:Key):∀{ds:List (Key×D)}{vs:List (Key×V)},RepK K CT H ds vs->(ds.any fun kv=>decide (kv.1=k))=vs.any fun kv=>decide (kv.1=k)
 | [],_,h=>by cases h;rfl
 | (k',d)::ds,_,⟨v,r,h1,h2,h3⟩=>by
  subst h1
  rw[List.any_cons,List.any_cons,RepK.any k h3]
theorem RepK.repl(k:Key){d:D}{v:V}(hd:Rep K CT H d v):∀{ds:List (Key×D)}{vs:List (Key×V)},RepK K CT H ds vs->RepK K CT H (ds.map fun kv=>if kv.1=k then(kv.1,d) else kv) (vs.map fun kv=>if kv.1=k then(kv.1,v) else kv)
 | [],_,h=>by cases h;rfl
 | (k',d')::ds,_,⟨v',r,h1,h2,h3⟩=>by
  subst h1
  rw[List.map_cons,List.map_cons]
  by_cases e:k'=k
  ·rw[if_pos (show(k',d').1=k from e),if_pos (show(k',v').1=k from e)]
   exact⟨v,_,rfl,hd,RepK.repl k hd h3⟩
  ·rw[if_neg (show ¬ (k',d').1=k from e),if_neg (show ¬ (k',v').1=k from e)]
   exact⟨v',_,rfl,h2,RepK.repl k hd h3⟩
theorem RepK.snoc(k:Key){d:D}{v:V}(hd:Rep K CT H d v):∀{ds:List (Key×D)}{vs:List (Key×V)},RepK K CT H ds vs->RepK K CT H (ds++[(k,d)]) (vs++[(k,v)])
 | [],_,h=>by cases h;exact⟨v,[],rfl,hd,rfl⟩
 | (k',d')::ds,_,⟨v',r,h1,h2,h3⟩=>by
  subst h1
  exact⟨v',_,rfl,h2,RepK.snoc k hd h3⟩
theorem RepK.put(k:Key){d:D}{v:V}(hd:Rep K CT H d v){ds:List (Key×D)}{vs:List (Key×V)}(h:RepK K CT H ds vs):RepK K CT H (putKD ds k d) (putK vs k v):=by
 unfold putKD putK
 rw[RepK.any k h]
 split
 ·exact RepK.repl k hd h
 ·exact RepK.snoc k hd h
end
def eDix(A B:SD->Out D):SD->Out D:=fun ς=>A ς>>=fun x=>match x with
 | .dic kds=>B ς>>=fun y=>match dkey y with | some k=>optO (valD kds k) | none=>.stuck
 | _=>.stuck
def eDget(A B:SD->Out D):SD->Out D:=fun ς=>A ς>>=fun x=>match x with
 | .dic kds=>B ς>>=fun y=>match dkey y with | some k=>.ok ((valD kds k).getD .non) | none=>.stuck
 | _=>.stuck
def sPutD(i:Nat)(I E:SD->Out D):SD->Out Fl:=fun ς=>E ς>>=fun d=>match ς[i]? with
 | some (some (.o,.dic kds))=>I ς>>=fun y=>match dkey y with
  | some k=>if decide (kds.length<sizeLine)=true then .ok (.nx (ς.set i (some (.o,.dic (putKD kds k d))))) else .stuck
  | none=>.stuck
 | _=>.stuck
section
variable{C:Dc}{a b c:Expr}{A B Z:SD->Out D}{pos apos:Pos}
theorem QPr(hu:‹"dg"›)(ha:DE C a A)(hb:DB C b B)(hs:NoSl b:=by intro _ _;rfl):DE C (.Subscript a b pos) (eDix A B):=by
 obtain⟨ta,p1,q1⟩:=ha
 obtain⟨tb,p2,q2⟩:=hb
 refine⟨_,QOm (by omega) p1 p2 hs,fun G H σ ς Q S q=>?_⟩
 unfold eDix at q
 rw[Out.post_bind]at q
 refine q1 G H σ ς _ S (Out.post_mono q fun x k v1 H1 G1 S1 a1 b1 r1=>?_)
 cases x with
 | dic kds=>
  have k:(B ς>>=fun y=>match dkey y with | some k=>optO (valD kds k) | none=>.stuck).post ‹"dW"› C.XD:=k
  rw[Out.post_bind]at k
  refine q2 G1 H1 σ ς _ S1 (Out.post_mono k fun y k2 v2 H2 G2 S2 a2 b2 r2=>?_)
  cases e:dkey y with
  | none=>rw[e]at k2;exact k2.elim
  | some kk=>
   rw[e]at k2
   obtain⟨d,ed,kd⟩:=Qc2 k2
   obtain⟨p,kvs,rfl,h2,h3⟩:=Rep.mono b2 _ v1 r1
   rcases RepK.val kk h3 with⟨n1,n2⟩ | ⟨d',v,n1,n2,r⟩
   ·rw[n1]at ed;cases ed
   ·rw[n1]at ed;cases ed
    exact⟨p,v,rfl,.inl ⟨kvs,kk,Same.rd S2.sub h2,QvQ e r2,n2.symm⟩,KD.now ‹"av"› S2 r⟩
 | _=>exact k.elim
theorem QN5{K:W.Frag}{CT:CTab}{H:Hp}:Rep K CT H .non .non:=rfl
theorem QOU(hu:‹"dg"›)(ha:DE C a A)(hb:DB C b B)
 (hbase:attributeBase a "get" C.X.env (eval a C.X.env)=eval a C.X.env:=by rfl)
 (hfew:((backTo pos (starEach [b] C.X.env)).all (fun x => !x.1)&&(backToKw pos ‹"di"›).all (fun x=>x.1.isSome)
  && decide (([b]:List Expr).length+([]:List Keyword).length+‹"aH"›<30))=true:=by rfl)
 (hline:(apos.endLine == pos.line)=true:=by rfl) (htr:backTo pos (starEach [b] C.X.env)=[(false,eval b C.X.env)]:=by rfl):DE C (.Call (.Attribute a "get" apos) [b] [] pos) (eDget A B):=by
 obtain⟨ta,p1,q1⟩:=ha
 obtain⟨tb,p2,q2⟩:=hb
 refine⟨_,QNJ (by omega) p1 p2 ⟨hbase,hfew,hline,htr⟩,fun G H σ ς Q S q=>?_⟩
 unfold eDget at q
 rw[Out.post_bind]at q
 refine q1 G H σ ς _ S (Out.post_mono q fun x k v1 H1 G1 S1 a1 b1 r1=>?_)
 cases x with
 | dic kds=>
  have k:(B ς>>=fun y=>match dkey y with | some k=>Out.ok ((valD kds k).getD .non) | none=>.stuck).post ‹"dW"› C.XD:=k
  rw[Out.post_bind]at k
  obtain⟨p,kvs,rfl,h2,h3⟩:=r1
  refine⟨p,rfl,.inl ⟨kvs,Same.rd S1.sub h2⟩,q2 G1 H1 σ ς _ S1 (Out.post_mono k fun y k2 v2 H2 G2 S2 a2 b2 r2=>?_)⟩
  cases e:dkey y with
  | none=>rw[e]at k2;exact k2.elim
  | some kk=>
   rw[e]at k2
   have kd:KD C G H σ ς Q ((valD kds kk).getD .non):=k2
   refine⟨valV kvs kk,.inl ⟨kvs,kk,Same.rd (S1.sub.trans a2) h2,QvQ e r2,rfl⟩,?_⟩
   rcases RepK.val kk (RepK.mono b2 kds kvs h3) with⟨n1,n2⟩ | ⟨d',v,n1,n2,r⟩
   ·rw[n1]at kd;rw[n2];exact KD.now ‹"av"› S2 QN5
   ·rw[n1]at kd;rw[n2];exact KD.now ‹"av"› S2 r
 | _=>exact k.elim
theorem StR.writeD{G H:Hp}{σ:St}{ς:SD}(S:‹"au"›){i:Nat}{p:Addr}{xs ys:List (Key×D)}{vs ws:List (Key×V)}(hi:ς[i]?=some (some (.o,.dic xs)))(hp:σ[i]?=some ‹"aT"›)(hH:H p=some (.dK vs))(r:RepK C.X.K C.CT G ys ws):
 StR C G (upd H p (.dK ws)) σ (ς.set i (some (.o,.dic ys))):=by
 obtain⟨p',e1,hg,h0,ow⟩:=S.ow i _ hi
 rw[hp]at e1;cases e1
 have hil:i<ς.length:=(List.getElem?_eq_some_iff.mp hi).1
 have ne:∀ b o,G b=some o->b≠p:=fun b o e z=>by subst z;rw[hg]at e;cases e
 have S':StR C G (upd H p (.dK ws)) (σ.set i ‹"aT"›) (ς.set i (some (.o,.dic ys))):={
  sub:=fun b o e=>by rw[Qk (ne b o e)];exact S.sub b o e
  g0:=S.g0
  new:=S.new
  fr:=fun b o e m=>by
   rw[Qk (by rintro rfl;rw[h0]at e;cases e)];exact S.fr b o e m
  dom:=fun b e=>by
   by_cases hb:b=p
   ·subst hb;exact h0
   ·rw[Qk hb]at e;exact S.dom b e
  bs:=fun b o e=>by
   rw[Qk (by rintro rfl;rw[S.bh _ h0]at e;cases e)];exact S.bs b o e
  bh:=S.bh
  len:=by rw[List.length_set,List.length_set];exact S.len
  fz:=fun j d h=>by
   rcases Qs h with⟨rfl,h2,l⟩ | ⟨hne,h2⟩
   ·cases h2
   ·rw[Qn hne];exact S.fz j d h2
  ow:=fun j d h=>by
   rcases Qs h with⟨rfl,h2,l⟩ | ⟨hne,h2⟩
   ·cases h2
    exact⟨p,Qhd (by rw[S.len];exact l),hg,h0,⟨ws,QM,r⟩⟩
   ·rw[Qn hne]
    obtain⟨q,a,b,c,w⟩:=S.ow j d h2
    have qp:q≠p:=by
     rintro rfl
     exact S.inj i j _ _ q hne hi h2 hp a
    exact⟨q,a,b,c,w.mono (Same.refl G) fun o z=>by rw[Qk qp];exact z⟩
  ln:=fun j d h=>by
   rcases Qs h with⟨rfl,h2,l⟩ | ⟨hne,h2⟩
   ·cases h2
   ·rw[Qn hne];exact S.ln j d h2
  inj:=fun j k d1 d2 q hjk h1 h2 h3=>by
   have get:∀(j:Nat) d,(ς.set i (some (.o,D.dic ys)))[j]?=some (some (.o,d))->∃ d',ς[j]?=some (some (.o,d')):=fun j d h=>by
    rcases Qs h with⟨rfl,h2,l⟩ | ⟨hne,h2⟩
    ·exact⟨_,hi⟩
    ·exact⟨_,h2⟩
   obtain⟨d1',g1⟩:=get j d1 h1
   obtain⟨d2',g2⟩:=get k d2 h2
   rw[QiC hp]at h3 ⊢
   exact S.inj j k d1' d2' q hjk g1 g2 h3
  sf:=fun j d h=>by
   rcases Qs h with⟨rfl,h2,l⟩ | ⟨hne,h2⟩
   ·cases h2
   ·rw[Qn hne]
    obtain⟨q,a,b,c,m,z,w⟩:=S.sf j d h2
    have qp:q≠p:=by
     rintro rfl
     exact c h0
    exact⟨q,a,b,c,m,z,w.mono (Same.refl G) fun o z=>by rw[Qk qp];exact z⟩
  su:=fun j k d1 d2 q hjk h1 h2 h3=>by
   rcases Qs h1 with⟨rfl,q1,l⟩ | ⟨n1,q1⟩
   ·cases q1
   ·rcases Qs h2 with⟨rfl,q2,l⟩ | ⟨n2,q2⟩
    ·cases q2
    ·rw[Qn n1]at h3
     rw[Qn n2];exact S.su j k d1 d2 q hjk q1 q2 h3 }
 rw[QiC hp]at S'
 exact S'
variable{e:Expr}{E:SD->Out D}{p1 p2:Pos}{x:Str}
theorem QIo(hu:‹"dg"›)(i:Nat)(hi:DB C a A)(he:DE C e E)(hN:C.X.N[i]?=some x:=by rfl)(hv:‹"bI"›:=by first | exact Or.inl rfl | exact Or.inr (Or.inl rfl) | exact Or.inr (Or.inr rfl))
 (hd:‹"f"›:=by decide) (hcd:‹"t"›:=by decide)
 (hs:swapsWith e (some ‹"cF"›) pos.line C.X.env=pure false:=by rfl):DS C ‹"da"› (sPutD i A E):=by
 obtain⟨t,p,q⟩:=he
 obtain⟨t2,p2',q2⟩:=hi
 refine⟨_,QOj (by omega) ‹"aI"› p2' p hs,fun G H σ ς W S k=>?_⟩
 unfold sPutD at k
 rw[Out.post_bind]at k
 refine q G H σ ς _ S (Out.post_mono k fun d k v H1 G1 S1 a1 b1 r1=>?_)
 split at k
 ·rename_i kds z
  obtain⟨pp,e1,hg,h0,ow⟩:=S1.ow i _ z
  rw[Out.post_bind]at k
  refine⟨_,e1,q2 G1 H1 σ ς _ S1 (Out.post_mono k fun y k2 w H2 G2 S2 a2 b2 r2=>?_)⟩
  cases ey:dkey y with
  | none=>rw[ey]at k2;exact k2.elim
  | some kk=>
   rw[ey]at k2
   obtain⟨pp',e1',hg',h0',kvs,hv1,hv2⟩:=S2.ow i _ z
   rw[e1]at e1';cases e1'
   rcases QQ k2 with⟨hc,k3⟩ | ⟨_,k3⟩
   ·refine⟨pp,_,rfl,.inl ⟨kvs,kk,hv1,QvQ ey r2,by rw[← hv2.len];exact of_decide_eq_true hc,rfl⟩,?_⟩
    exact k3 σ _ G2 (S2.writeD z e1 hv1 (RepK.put kk (Rep.mono b2 d v r1) hv2)) (b1.trans b2)
   ·exact k3.elim
 ·exact k.elim
end
end DL
namespace DL
open PySem PySem.Spec PyProof.Rows L2
def Qe7(xs:List Str):Nat:=(LS.met ‹"dE"› xs.length).length
def QOv(K:W.Frag)(te:TA):TE:=fun σ H Q=>te σ H fun vs H1=>∃ p xs,vs=[V.ref p]/\SqL K H1 p (xs.map V.str)/\xs.length<4000/\Q (.int (Qe7 xs)) H1
section
variable{X:Cx}{e:Expr}{te:TA}{p1 p2 p3 pos:Pos}
theorem QE9:∀{xs:List Str}{us:List Value},Vals (xs.map V.str) us->∀(i:Nat) v,us[i]?=some v->∃ t,v=.str (xs.getD i "") t
 | [],_,h,i,v,hv=>by cases h;simp at hv
 | x::xs,_,h,i,v,hv=>by
  cases h with
  | cons hx hr=>
   cases i with
   | zero=>
    obtain⟨t,ht⟩:=hx
    refine⟨t,?_⟩
    simp at hv
    rw[← hv,ht];rfl
   | succ i=>
    have:=QE9 hr i v (by simpa using hv)
    simpa using this
theorem QKS(hh:X.A.handled=none)(gl:Gl X "len")(ml:X.mg "len"=none)(gs:Gl X "set")(ms:X.mg "set"=none)(he:PA X [e] te)
 (h1:starEach [e] X.env=(false,eval e X.env)::starEach [] X.env:=by rfl)
 (h2:starEach [.Call ‹"eu"› [e] [] p3] X.env=(false,eval (.Call ‹"eu"› [e] [] p3) X.env)::starEach [] X.env:=by rfl)
 (h3:backTo pos (starEach [.Call ‹"eu"› [e] [] p3] X.env)=[(false,eval (.Call ‹"eu"› [e] [] p3) X.env)]:=by rfl):
 PE X (.Call (.Name "len" p1) [.Call ‹"eu"› [e] [] p3] [] pos) (QOv X.K te):=by
 intro pins s σ H Q I h
 have inner:wpAny ‹"k"› X.A (eval (.Call ‹"eu"› [e] [] p3) X.env) (fun u s'=>∃ D H1 xs,u=.ref D/\Inv X pins σ H1 s'/\s'.heap.SetOf (strKind X.prog X.w) D (LS.isIn ‹"dE"› xs.length) (Qe7 xs)/\Qe7 xs<4000/\Q (.int (Qe7 xs)) H1) X.xe s:=by
  refine wpAny_Call_Name_kw (Qjy I gs ms PyProof.Rows.Boot.«set» ?_ (by decide) (by decide))
  refine PyProof.Rows.callWith_type1 (thn (he p3 pins s σ H _ I h) fun us s1 ⟨vs,H1,I1,r1,p,xs,ev,sq,few,q⟩=>?_) h1 rfl
  ·subst ev
   obtain⟨u,rfl,rx⟩:=vals1 r1
   cases rx
   obtain⟨its,rv,pl,hz⟩:=I1.list sq
   have hl:=rv.length
   rw[List.length_map]at hl
   have le:=LS.met_le ‹"dE"› xs.length
   refine LS.of_list hh pl.isList (f:=fun i=>xs.getD i "") (fun i v hv=>QE9 rv i v (by simpa using hv)) (by rw[List.size_toArray, ← hl];unfold scanBound;omega) fun hp tk hs kp=>?_
   have sz:its.toArray.size=xs.length:=by rw[List.size_toArray];omega
   rw[sz]at hs
   exact⟨_,H1,xs,rfl,I1.kept fun b o eb=>kp b o (Heap.lt_size eb) eb,hs,by unfold Qe7;omega,q⟩
 refine wpAny_Call_Name_kw (Qjy I gl ml PySem.boot_len ?_ (by decide) (by decide))
 refine PyProof.Rows.callWith_builtin1 ?_ h2 rfl
 rw[h3]
 refine Calls.spliced_cons (thn inner fun u s1 ⟨D,H1,xs,eu,I1,hs,few,q⟩=>Calls.spliced_nil ?_)
 subst eu
 obtain⟨o,es,ep,t,ho,hex,hd,hel,hmem,hb,hf,hn⟩:=hs
 refine call_len_set ho hex hd hf (by rw[hn];omega) ?_
 rw[hn]
 exact⟨.int (Qe7 xs),H1,(I1.tok _).tok _,⟨_,rfl⟩,q⟩
end
def strsD:List D->Option (List Str)
 | []=>some []
 | .str x::ds=>(strsD ds).map (x :: ·)
 | _::_=>none
theorem QB7{K:W.Frag}{CT:CTab}{H:Hp}:∀{ds:List D}{vs:List V}{xs:List Str},strsD ds=some xs->RepL K CT H ds vs->vs=xs.map V.str
 | [],_,_,h,r=>by cases h;cases r;rfl
 | d::ds,_,xs,h,⟨v,r,h1,h2,h3⟩=>by
  cases d with
  | str x=>
   obtain⟨ys,hy,rfl⟩:=Option.map_eq_some_iff.mp (show(strsD ds).map (x :: ·)=some xs from h)
   rw[h1,QB7 hy h3,show v=V.str x from h2];rfl
  | _=>cases h
def Qy2:D->Out D
 | .lst ds=>match strsD ds with
  | some xs=>if decide (xs.length<4000)=true then .ok (.int (Qe7 xs)) else .stuck
  | none=>.stuck
 | _=>.stuck
section
variable{C:Dc}{a:Expr}{A:SD->Out D}{p1 p2 p3 pos:Pos}
theorem QMJ(hh:C.X.A.handled=none)(gl:Gl C.X "len")(ml:C.X.mg "len"=none)(gs:Gl C.X "set")(ms:C.X.mg "set"=none)(ha:DB C a A)
 (h1:‹"br"›:=by rfl)
 (h2:starEach [.Call ‹"eu"› [a] [] p3] C.X.env=(false,eval (.Call ‹"eu"› [a] [] p3) C.X.env)::starEach [] C.X.env:=by rfl)
 (h3:backTo pos (starEach [.Call ‹"eu"› [a] [] p3] C.X.env)=[(false,eval (.Call ‹"eu"› [a] [] p3) C.X.env)]:=by rfl):
 DE C (.Call (.Name "len" p1) [.Call ‹"eu"› [a] [] p3] [] pos) (e1 Qy2 A):=by
 obtain⟨ta,q1,q2⟩:=ha
 refine⟨_,QKS hh gl ml gs ms (Qbk q1 Qdz h1) h1 h2 h3,fun G H σ ς Q S q=>?_⟩
 unfold e1 at q
 rw[Out.post_bind]at q
 refine q2 G H σ ς _ S (Out.post_mono q fun x k v1 H1 G1 S1 a1 b1 r1=>?_)
 cases x with
 | lst ds=>
  obtain⟨p,vs,rfl,sq,r⟩:=r1
  have k:(match strsD ds with | some xs=>if decide (xs.length<4000)=true then Out.ok (D.int (Qe7 xs)) else .stuck | none=>.stuck).post ‹"dW"› C.XD:=k
  cases es:strsD ds with
  | none=>rw[es]at k;exact k.elim
  | some xs=>
   rw[es]at k
   have ev:=QB7 es r
   subst ev
   rcases QQ k with⟨hc,kd⟩ | ⟨_,kd⟩
   ·exact⟨p,xs,rfl,sq,of_decide_eq_true hc,KD.now (KD.later (show KD C G H σ ς Q (.int (Qe7 xs)) from kd) a1 b1) S1 rfl⟩
   ·exact kd.elim
 | _=>exact k.elim
end
end DL
namespace DL
open PySem PySem.Spec PyProof.Rows L2
def tVs(vs:List V):TA:=fun _ H Q=>Q vs H
def anyT:List (List (Str×Bool))->Str->Option Bool
 | [],_=>some false
 | t::ts,c=>match t.lookup c with
  | some true=>some true
  | some false=>anyT ts c
  | none=>none
def KitsT(K:W.Frag)(CT:CTab):List Value->List (List (Str×Bool))->Prop
 | [],[]=>True
 | u::us,t::ts=>KitI K CT u t/\KitsT K CT us ts
 | _,_=>False
theorem QDq{K:W.Frag}{CT:CTab}{c:Str}{A:Addr}(hA:CT c=some A):∀{us:List Value}{ts:List (List (Str×Bool))}{b:Bool},KitsT K CT us ts->anyT ts c=some b->W.kitAny K (.ref A) us=some b
 | [],[],b,_,h=>h
 | u::us,t::ts,b,⟨h1,h2⟩,h=>by
  unfold anyT at h
  unfold W.kitAny
  cases e:t.lookup c with
  | none=>rw[e]at h;cases h
  | some z=>
   rw[(h1 c z e A hA).2]
   rw[e]at h
   cases z with
   | true=>exact h
   | false=>exact QDq hA h2 h
theorem QM9{K:W.Frag}{CT:CTab}{c:Str}{A:Addr}(hA:CT c=some A){u:Value}{us:List Value}{t:List (Str×Bool)}{ts:List (List (Str×Bool))}{b:Bool}(h:KitsT K CT (u::us) (t::ts))(e:anyT (t::ts) c=some b):ClsD K A:=by
 unfold anyT at e
 cases q:t.lookup c with
 | none=>rw[q]at e;cases e
 | some z=>exact(h.1 c z q A hA).1
def isaTs(ts:List (List (Str×Bool))):D->Out Bool
 | .ins c _=>match anyT ts c with | some b=>.ok b | none=>.stuck
 | _=>.stuck
section
variable{C:Dc}{e:Expr}{E:SD->Out D}{p pos tp1:Pos}{cs:List Expr}
theorem QPi{X:Cx}:PA X [] (tVs []):=Qdz
theorem Qqk{X:Cx}{e:Expr}{es:List Expr}{v:V}{vs:List V}(h:PE X e (tC v))(r:PA X es (tVs vs))(he:‹"j"›:=by rfl):PA X (e::es) (tVs (v::vs)):=Qbk h r he
theorem QC9:∀{as:List Addr}{us:List Value},Vals (as.map V.ref) us->us=as.map Value.ref
 | [],_,h=>by cases h;rfl
 | a::as,_,h=>by
  cases h with
  | cons h1 h2=>rw[QC9 h2,show _=Value.ref a from h1];rfl
theorem QOC{x1}{a:Addr}{as:List Addr}{t:List (Str×Bool)}{ts:List (List (Str×Bool))}(hc:PA C.X cs (tVs ((a::as).map V.ref)))(hk:KitsT C.X.K C.CT ((a::as).map Value.ref) (t::ts))(hz:(a::as).length<=20)(hg:Gl C.X "isinstance")(hm:C.X.mg "isinstance"=none)(h:DB C e E)
 (he:starEach (e::[.Tuple cs x1 tp1]) C.X.env=(false,eval e C.X.env)::starEach [.Tuple cs x1 tp1] C.X.env:=by rfl) (he2:starEach (.Tuple cs x1 tp1::[]) C.X.env=(false,eval (.Tuple cs x1 tp1) C.X.env)::starEach [] C.X.env:=by rfl)
 (hpl:(backTo pos (starEach [.Tuple cs x1 tp1] C.X.env)).any (·.1)=false:=by rfl):DE C (.Call (.Name "isinstance" p) [e,.Tuple cs x1 tp1] [] pos) (eIsa (isaTs (t::ts)) E):=by
 obtain⟨te,p1,q1⟩:=h
 have hR:CallR C.X (.builtin "isinstance") (fun xs H Q=>∃ c fs x tp b,xs=[x,V.ref tp]/\Rep C.X.K C.CT H (.ins c fs) x/\H tp=some (.tup ((a::as).map V.ref))/\anyT (t::ts) c=some b/\Q (.bl b) H):=by
  intro pins s σ H xs us Q I r hq
  obtain⟨c,fs,x,tp,b,rfl,h1,h2,h3,q⟩:=hq
  obtain⟨u,w,rfl,r1,r2⟩:=vals2 r
  obtain rfl:w=Value.ref tp:=r2
  obtain⟨p',A',dx,fs',rfl,g1,g2,_⟩:=h1
  obtain rfl:u=Value.ref p':=r1
  have cd:=QM9 g1 hk h3
  obtain⟨mA,O,_⟩:=Qpp I.hok g2
  obtain⟨od,J,_⟩:=O.look
  obtain⟨_,its,rv,pt⟩:=(show ObjOk C.X.prog C.X.w H s.heap tp (.tup ((a::as).map V.ref)) from I.hok tp _ h2)
  obtain⟨⟨oc,odd,odt,osl⟩,ho,hcl,nn,hd⟩:=pt
  obtain rfl:oc=.type "tuple":=hcl
  obtain rfl:odt=.seq its.toArray nn:=hd
  obtain rfl:=QC9 rv
  exact W.kia_tup (W.kitx_own (cd.cl.get _) cd.cl.hd cd.ha cd.hn cd.htk cd.hm) I.kIn J ho (QDq g1 hk h3) (fun z=>nomatch z) fun tk=>⟨.bl b,H,I.tok _,rfl,q⟩
 refine⟨_,Qvl hR hg hm PyProof.Rows.Boot.«isinstance» (Qbk p1 (Qbk (QDd hc) Qdz he2) he) (by decide) (by decide) he hpl,fun G H σ ς Q S q=>?_⟩
 unfold eIsa at q
 rw[Out.post_bind]at q
 refine q1 G H σ ς _ S (Out.post_mono q fun d k v1 H1 G1 S1 a1 b1 r1=>?_)
 rw[Out.post_bind]at k
 cases d with
 | ins c fs=>
  cases ea:anyT (t::ts) c with
  | none=>
   have hs:isaTs (t::ts) (D.ins c fs)=.stuck:=by show(match anyT (t::ts) c with | some b=>Out.ok b | none=>Out.stuck)=_;rw[ea]
   rw[hs]at k;exact k.elim
  | some b=>
   have hs:isaTs (t::ts) (D.ins c fs)=.ok b:=by show(match anyT (t::ts) c with | some b=>Out.ok b | none=>Out.stuck)=_;rw[ea]
   rw[hs]at k
   refine⟨by rw[List.length_map];exact Nat.le_trans hz (by decide),fun tp htp=>?_⟩
   have S2:=S1.allocO (o:=.tup ((a::as).map V.ref)) htp
   exact⟨c,fs,v1,tp,b,rfl,Rep.mono (QB htp) _ v1 r1,QM,ea,KD.now (KD.later (show KD C G H σ ς Q (.bl b) from k) (a1.trans (QB htp)) b1) S2 rfl⟩
 | _=>exact k.elim
end
end DL
namespace DL
open PySem PySem.Spec PyProof.Rows L2
theorem QE5{K:W.Frag}{CT:CTab}{H:Hp}{d:D}{v:V}(h:d.scal=true)(r:Rep K CT H d v):v=toV d:=by
 cases d with
 | non=>exact r
 | bl b=>exact r
 | int i=>exact r
 | str x=>exact r
 | _=>cases h
theorem QzU{K:W.Frag}{CT:CTab}{H:Hp}:∀{ds:List D}{vs:List V},ds.all D.scal=true->RepL K CT H ds vs->vs=ds.map toV
 | [],_,_,r=>by cases r;rfl
 | d::ds,_,h,⟨v,r,h1,h2,h3⟩=>by
  rw[List.all_cons,Bool.and_eq_true]at h
  rw[h1,QE5 h.1 h2,QzU h.2 h3];rfl
theorem QzN{d:D}(h:d.scal=true):flatV (toV d)=true:=by
 cases d with
 | non=>rfl
 | bl b=>rfl
 | int i=>rfl
 | str x=>rfl
 | _=>cases h
theorem Qwa:∀{ds:List D},ds.all D.scal=true->(ds.map toV).all flatV=true
 | [],_=>rfl
 | d::ds,h=>by
  rw[List.all_cons,Bool.and_eq_true]at h
  rw[List.map_cons,List.all_cons,QzN h.1,Qwa h.2];rfl
def dInL:D->D->Out D
 | x,.lst ds=>if (x.scal&&ds.all D.scal)=true then .ok (.bl (inV (toV x) (ds.map toV))) else .stuck
 | _,_=>.stuck
section
variable{C:Dc}{a b:Expr}{A B:SD->Out D}{pos:Pos}
theorem QPh:DRS C (rIn C.X.K false) dInL:=by
 intro G H σ ς Q x y vx vy S hx hy q
 cases y with
 | lst ds=>
  have q:(if (x.scal&&ds.all D.scal)=true then Out.ok (D.bl (inV (toV x) (ds.map toV))) else .stuck).post _ _:=q
  rcases QQ q with⟨hc,q⟩ | ⟨_,q⟩
  ·rw[Bool.and_eq_true]at hc
   obtain⟨p,vs,rfl,h2,h3⟩:=hy
   have e1:=QE5 hc.1 hx
   have e2:=QzU hc.2 h3
   subst e1;subst e2
   exact⟨p,_,rfl,.inl h2,QzN hc.1,Qwa hc.2,q.2⟩
  ·exact q.elim
 | _=>exact q.elim
theorem QNL:scal2 dInL:=fun x y=>by
 cases y with
 | lst ds=>
  show match (if (x.scal&&ds.all D.scal)=true then Out.ok (D.bl (inV (toV x) (ds.map toV))) else .stuck) with | .ok d=>d.scal=true | .exc _=>False | .stuck=>True
  split<;>rename_i h<;>(split at h<;>cases h)<;>first | rfl | trivial
 | _=>exact True.intro
theorem QLo(ha:DB C a A)(hb:DB C b B)(hm:behindInMarks .In b=false:=by rfl):DE C (.Compare a [.In] [b] pos) (e2 dInL A B):=Qwr QLc QPh QNL ha hb hm
end
end DL
namespace DL
open PySem PySem.Spec PyProof.Rows L2
section
variable{C:Dc}{a b:Expr}{A B:SD->Out D}{pos:Pos}
end
end DL
namespace DL
open PySem PySem.Spec PyProof.Rows L2
section
variable{C:Dc}{e:Expr}{E:SD->Out D}{pos p1 p2 p3:Pos}{x:Str}
end
end DL
namespace DL
open PySem PySem.Spec PyProof.Rows L2
section
variable{K:W.Frag}{CT:CTab}{G H:Hp}
end
section
variable{C:Dc}{a b:Expr}{A B:SD->Out D}{pos:Pos}
end
end DL
namespace DL
open PySem PySem.Spec PyProof.Rows L2
def frzs:List Nat->SD->SD
 | [],ς=>ς
 | i::is,ς=>frzs is (frz i ς)
theorem QH8{C:Dc}{st:Stmt}:∀(is:List Nat){T:SD->Out Fl},DS C st T->DS C st (fun ς=>T (frzs is ς))
 | [],_,h=>h
 | i::is,_,h=>QwP i (QH8 is h)
section
variable{X:Cx}{e:Expr}{te:TA}{p1 p2 p3 pos:Pos}
end
section
variable{C:Dc}{e:Expr}{A:SD->Out (List D)}{p1 p2 p3 pos:Pos}
end
end DL
namespace DL
open PySem PySem.Spec PyProof.Rows L2
section
variable{C:Dc}{e:Expr}{E:SD->Out D}{pos:Pos}
end
end DL
namespace DL
open PySem PySem.Spec PyProof.Rows L2
section
variable{C:Dc}{o e:Expr}{es:List Expr}{O:SD->Out D}{A:SD->Out (List D)}{apos cpos:Pos}{m:Str}{id:String}{r:V->List V->Hp->VK->Prop}{f:D->List D->Out D}
end
end DL
namespace L2
open PySem PySem.Spec PyProof.Rows
section
variable{X:Cx}
end
end L2
namespace DL
open PySem PySem.Spec PyProof.Rows L2
section
variable{C:Dc}{a:Expr}{A:SD->Out D}
end
end DL
namespace DL
open PySem PySem.Spec PyProof.Rows L2
section
variable{C:Dc}{G G' H H':Hp}{σ:St}{ς ς':SD}
theorem StR.swap(S:‹"au"›)(P:Addr->Prop)(hl:ς'.length=ς.length)(g1:Same G G')(h1:∀ b o,H b=some o->¬ P b->H' b=some o)(s1:Same G' H')(n1:∀ b,G b=none->G' b≠none->H b=none)
 (hP:∀ b,P b->H' b≠none/\((C.X.H₀ b=none)∨(C.M b/\C.B b=none)))
 (hs:∀(i:Nat) m d',ς'[i]?=some (some (m,d'))->(ς[i]?=some (some (m,d'))/\∀ b,(m=.o∨m=.s)->σ[i]?=some (some (.ref b))->¬ P b)∨
  ((m=.o∨m=.s)/\∃ d b,ς[i]?=some (some (m,d))/\σ[i]?=some (some (.ref b))/\Own C.X.K C.CT G' H' b d')):StR C G' H' σ ς':=by
 have gn:∀ b,G b=none->(∃ o,H b=some o)->G' b=none:=fun b hb ⟨o,ho⟩=>by
  cases q:G' b with
  | none=>rfl
  | some u=>have:=n1 b hb (by rw[q];simp);rw[ho]at this;cases this
 have back:∀(i:Nat) m d',(m=.o∨m=.s)->ς'[i]?=some (some (m,d'))->∃ d,ς[i]?=some (some (m,d)):=fun i m d' hm h=>by
  rcases hs i m d' h with⟨e,_⟩ | ⟨_,d,b,e,_⟩
  ·exact⟨_,e⟩
  ·exact⟨_,e⟩
 exact {
  sub:=s1
  g0:=S.g0.trans g1
  new:=fun b h0 hn=>by
   cases q:G b with
   | none=>exact S.h0none (n1 b q hn)
   | some o=>exact S.new b h0 (by rw[q];simp)
  fr:=fun b o e m=>h1 b o (S.fr b o e m) fun p=>by
   rcases(hP b p).2 with z | z
   ·rw[z]at e;cases e
   ·exact m z.1
  dom:=fun b e=>by
   cases q:H b with
   | none=>exact S.dom b q
   | some o=>
    by_cases p:P b
    ·exact absurd e (hP b p).1
    ·rw[h1 b o q p]at e;cases e
  bs:=fun b o e=>h1 b o (S.bs b o e) fun p=>by
   rcases(hP b p).2 with z | z
   ·rw[S.bh b z]at e;cases e
   ·rw[z.2]at e;cases e
  bh:=S.bh
  len:=by rw[hl];exact S.len
  fz:=fun i d h=>by
   rcases hs i _ d h with⟨e,_⟩ | ⟨z | z,_⟩
   ·obtain⟨v,a,b⟩:=S.fz i d e
    exact⟨v,a,Rep.mono g1 d v b⟩
   ·cases z
   ·cases z
  ow:=fun i d h=>by
   rcases hs i _ d h with⟨e,np⟩ | ⟨_,d0,b,e,eb,w⟩
   ·obtain⟨p,a,hg,h0,w⟩:=S.ow i d e
    exact⟨p,a,gn p hg w.there,h0,w.mono g1 fun o z=>h1 p o z (np p (.inl rfl) a)⟩
   ·obtain⟨p,a,hg,h0,w0⟩:=S.ow i d0 e
    rw[eb]at a;cases a
    exact⟨b,eb,gn b hg w0.there,h0,w⟩
  ln:=fun i d h=>by
   rcases hs i _ d h with⟨e,_⟩ | ⟨z | z,_⟩
   ·exact S.ln i d e
   ·cases z
   ·cases z
  inj:=fun i j d e p n h1 h2=>by
   obtain⟨d1,q1⟩:=back i _ d (.inl rfl) h1
   obtain⟨d2,q2⟩:=back j _ e (.inl rfl) h2
   exact S.inj i j d1 d2 p n q1 q2
  sf:=fun i d h=>by
   rcases hs i _ d h with⟨e,np⟩ | ⟨_,d0,b,e,eb,w⟩
   ·obtain⟨p,a,hg,h0,m,z,w⟩:=S.sf i d e
    exact⟨p,a,gn p hg w.there,h0,m,z,w.mono g1 fun o z=>h1 p o z (np p (.inr rfl) a)⟩
   ·obtain⟨p,a,hg,h0,m,z,w0⟩:=S.sf i d0 e
    rw[eb]at a;cases a
    exact⟨b,eb,gn b hg w0.there,h0,m,z,w⟩
  su:=fun i j d e p n h1 h2=>by
   obtain⟨d1,q1⟩:=back i _ d (.inr rfl) h1
   obtain⟨d2,q2⟩:=back j _ e (.inr rfl) h2
   exact S.su i j d1 d2 p n q1 q2 }
theorem StR.wslot(S:‹"au"›){i:Nat}{m:SM}{d:D}(hm:m=.o∨m=.s)(h:ς[i]?=some (some (m,d))):∃ p,σ[i]?=some ‹"aT"›/\G p=none/\(C.X.H₀ p=none∨(C.M p/\C.B p=none))/\Own C.X.K C.CT G H p d/\
 ∀(j:Nat) m' d',j≠i->(m'=.o∨m'=.s)->ς[j]?=some (some (m',d'))->σ[j]?≠some ‹"aT"›:=by
 rcases hm with rfl | rfl
 ·obtain⟨p,a,hg,h0,w⟩:=S.ow i d h
  refine⟨p,a,hg,.inl h0,w,fun j m' d' hj hm' h2 z=>?_⟩
  rcases hm' with rfl | rfl
  ·exact S.inj i j d d' p (Ne.symm hj) h h2 a z
  ·obtain⟨q,a2,_,hq,_⟩:=S.sf j d' h2
   rw[z]at a2;cases a2
   exact hq h0
 ·obtain⟨p,a,hg,h0,m,z,w⟩:=S.sf i d h
  refine⟨p,a,hg,.inr ⟨m.1,z⟩,w,fun j m' d' hj hm' h2 z=>?_⟩
  rcases hm' with rfl | rfl
  ·obtain⟨q,a2,_,hq,_⟩:=S.ow j d' h2
   rw[z]at a2;cases a2
   exact h0 hq
  ·exact S.su i j d d' p (Ne.symm hj) h h2 a z
theorem StR.writeW(S:‹"au"›){i:Nat}{m:SM}{p:Addr}{xs ys:List D}{ws:List V}(hm:m=.o∨m=.s)(hi:ς[i]?=some (some (m,.lst xs)))(hp:σ[i]?=some ‹"aT"›)(r:RepL C.X.K C.CT G ys ws):
 StR C G (upd H p (.lst ws)) σ (ς.set i (some (m,.lst ys))):=by
 obtain⟨p',a,hg,h0,w,hne⟩:=S.wslot hm hi
 rw[hp]at a;cases a
 refine S.swap (fun b=>b=p) (List.length_set ..) (Same.refl G) (fun b o e n=>by rw[Qk n];exact e) (fun b o e=>by rw[Qk (by rintro rfl;rw[hg]at e;cases e)];exact S.sub b o e) (fun b e n=>absurd e n)
  (fun b e=>by subst e;exact⟨by rw[QM];simp,h0⟩) fun j m' d' h=>?_
 rcases Qs h with⟨rfl,h2,l⟩ | ⟨ne,h2⟩
 ·cases h2
  exact .inr ⟨hm,_,p,hi,hp,ws,QM,r⟩
 ·exact .inl ⟨h2,fun b hm' e z=>by subst z;exact hne j m' d' (Ne.symm ne) hm' h2 e⟩
end
end DL
namespace DL
open PySem PySem.Spec PyProof.Rows L2
def wr:SM->Bool
 | .o=>true
 | .s=>true
 | _=>false
theorem wr_of{m:SM}(h:wr m=true):m=.o∨m=.s:=by cases m<;>first | exact .inl rfl | exact .inr rfl | cases h
def sPutW(i:Nat)(A E:SD->Out D):SD->Out Fl:=fun ς=>E ς>>=fun d=>match (ς[i]?:Option (Option (SM×D))) with
 | some (some (m,.lst xs))=>if wr m=true then A ς>>=fun y=>match y with
  | .int j=>optO (ixN xs.length j)>>=fun j=>.ok (.nx (ς.set i (some (m,.lst (xs.set j d)))))
  | _=>.stuck else .stuck
 | _=>.stuck
section
variable{C:Dc}{a e:Expr}{A E:SD->Out D}{pos p1 p2:Pos}{x:Str}
theorem Qt0(i:Nat)(hi:DB C a A)(he:DE C e E)(hN:C.X.N[i]?=some x:=by rfl)(hv:‹"bI"›:=by first | exact Or.inl rfl | exact Or.inr (Or.inl rfl) | exact Or.inr (Or.inr rfl))
 (hd:‹"f"›:=by decide) (hcd:‹"t"›:=by decide)
 (hst:∀ v,assign ‹"cF"› C.X.env v=(do
  let ov ← holding [v] (eval (.Name x p1) C.X.env)
  let iv ← holding [v,ov] (eval a C.X.env)
  standAt p2
  holding [v,ov,iv] (setItem ov iv v)
  release [v,ov,iv] []):=by intro _;rfl)
 (hs:‹"dR"›:=by rfl) (hw:swappedStores [.Subscript (.Name x p1) a p2] e C.X.env=pure none:=by rfl)
 (h1:(assignEach [.Subscript (.Name x p1) a p2] C.X.env).map (·.2)=[assign ‹"cF"› C.X.env]:=by rfl):DS C ‹"da"› (sPutW i A E):=by
 obtain⟨t,p,q⟩:=he
 obtain⟨t2,p2,q2⟩:=hi
 refine⟨_,QEL p (QKZ ‹"aI"› p2 QEQ hst) hs hw h1,fun G H σ ς W S k=>?_⟩
 unfold sPutW at k
 rw[Out.post_bind]at k
 refine q G H σ ς _ S (Out.post_mono k fun d k v H1 G1 S1 a1 b1 r1=>?_)
 split at k
 ·rename_i m xs z
  rcases QQ k with⟨hc,k⟩ | ⟨_,k⟩
  ·obtain⟨pp,e1,hg,h0,ow,_⟩:=S1.wslot (wr_of hc) z
   obtain⟨vs,hv1,hv2⟩:=ow
   rw[Out.post_bind]at k
   refine⟨_,e1,q2 G1 H1 σ ς _ S1 (Out.post_mono k fun y k2 w H2 G2 S2 a2 b2 r2=>?_)⟩
   cases y with
   | int j=>
    cases r2
    have k2':(optO (ixN xs.length j)>>=fun j=>Out.ok (Fl.nx (ς.set i (some (m,D.lst (xs.set j d)))))).post (FlK C G W) C.XD:=k2
    rw[Out.post_bind]at k2'
    obtain⟨jj,ej,k3⟩:=Qc2 k2'
    refine⟨pp,vs,j,jj,rfl,rfl,a2 _ _ hv1,by rw[← hv2.length];exact ej,?_⟩
    exact k3 σ _ G2 (S2.writeW (wr_of hc) z e1 ((RepL.mono b2 xs vs hv2).set (Rep.mono b2 d v r1) jj)) (b1.trans b2)
   | _=>exact k2.elim
  ·exact k.elim
 ·exact k.elim
end
def ArgW(K:W.Frag)(CT:CTab)(G H:Hp):List Bool->List D->List V->List Addr->Prop
 | [],[],[],ps=>ps=[]
 | true::bs,d::ds,v::vs,ps=>∃ p ps',v=.ref p/\ps=p::ps'/\p∉ps'/\G p=none/\Own K CT G H p d/\ArgW K CT G H bs ds vs ps'
 | false::bs,d::ds,v::vs,ps=>Rep K CT G d v/\ArgW K CT G H bs ds vs ps
 | _,_,_,_=>False
def OwnL(K:W.Frag)(CT:CTab)(G H:Hp):List D->List Addr->Prop
 | [],[]=>True
 | d::ds,p::ps=>Own K CT G H p d/\OwnL K CT G H ds ps
 | _,_=>False
section
variable{K:W.Frag}{CT:CTab}{G H:Hp}
theorem ArgW.len:∀{bs:List Bool}{ds:List D}{vs:List V}{ps:List Addr},ArgW K CT G H bs ds vs ps->bs.length=vs.length/\ds.length=vs.length
 | [],[],[],_,_=>⟨rfl,rfl⟩
 | true::bs,d::ds,v::vs,ps,⟨_,_,_,_,_,_,_,h⟩=>by have:=ArgW.len h;simp[this.1,this.2]
 | false::bs,d::ds,v::vs,ps,⟨_,h⟩=>by have:=ArgW.len h;simp[this.1,this.2]
theorem ArgW.mem:∀{bs:List Bool}{ds:List D}{vs:List V}{ps:List Addr}{i:Nat}{v:V},ArgW K CT G H bs ds vs ps->bs[i]?=some true->vs[i]?=some v->∃ p,v=.ref p/\p∈ps
 | true::bs,d::ds,v::vs,ps,0,w,⟨p,ps',e,e2,_,_,_,_⟩,_,h=>by
  cases h;exact⟨p,e,by rw[e2];exact List.mem_cons_self ..⟩
 | true::bs,d::ds,v::vs,ps,i+1,w,⟨p,ps',e,e2,_,_,_,hh⟩,h1,h2=>by
  obtain⟨q,a,b⟩:=ArgW.mem (i:=i) hh (by simpa using h1) (by simpa using h2)
  exact⟨q,a,by rw[e2];exact List.mem_cons_of_mem _ b⟩
 | false::bs,d::ds,v::vs,ps,0,w,_,h,_=>by cases h
 | false::bs,d::ds,v::vs,ps,i+1,w,⟨_,hh⟩,h1,h2=>ArgW.mem (i:=i) hh (by simpa using h1) (by simpa using h2)
theorem ArgW.get:∀{bs:List Bool}{ds:List D}{vs:List V}{ps:List Addr}{i:Nat}{b:Bool}{d:D},ArgW K CT G H bs ds vs ps->bs[i]?=some b->ds[i]?=some d->∃ v,vs[i]?=some v/\(b=false->Rep K CT G d v)/\(b=true->∃ p,v=.ref p/\p∈ps/\G p=none/\Own K CT G H p d)
 | true::bs,d::ds,v::vs,ps,0,b,d',⟨p,ps',e,e2,_,g,o,_⟩,h1,h2=>by
  cases h1;cases h2;exact⟨v,rfl,fun z=>(nomatch z),fun _=>⟨p,e,by rw[e2];exact List.mem_cons_self ..,g,o⟩⟩
 | true::bs,d::ds,v::vs,ps,i+1,b,d',⟨p,ps',e,e2,_,_,_,hh⟩,h1,h2=>by
  obtain⟨w,a,a1,a2⟩:=ArgW.get (i:=i) hh (by simpa using h1) (by simpa using h2)
  exact⟨w,by simpa using a,a1,fun z=>let ⟨q,c1,c2,c3⟩:=a2 z;⟨q,c1,by rw[e2];exact List.mem_cons_of_mem _ c2,c3⟩⟩
 | false::bs,d::ds,v::vs,ps,0,b,d',⟨r,_⟩,h1,h2=>by
  cases h1;cases h2;exact⟨v,rfl,fun _=>r,fun z=>by cases z⟩
 | false::bs,d::ds,v::vs,ps,i+1,b,d',⟨_,hh⟩,h1,h2=>by
  obtain⟨w,a,a1,a2⟩:=ArgW.get (i:=i) hh (by simpa using h1) (by simpa using h2)
  exact⟨w,by simpa using a,a1,a2⟩
theorem ArgW.ne:∀{bs:List Bool}{ds:List D}{vs:List V}{ps:List Addr}{i j:Nat}{p:Addr},ArgW K CT G H bs ds vs ps->i<j->bs[i]?=some true->bs[j]?=some true->vs[i]?=some (.ref p)->vs[j]?≠some (.ref p)
 | true::bs,d::ds,v::vs,ps,0,j+1,p,⟨q,ps',e,_,n,_,_,hh⟩,_,_,hb,h1,h2=>by
  cases h1;cases e
  obtain⟨q',a,b⟩:=ArgW.mem (i:=j) hh (by simpa using hb) (by simpa using h2)
  cases a;exact n b
 | true::bs,d::ds,v::vs,ps,i+1,j+1,p,⟨q,ps',_,_,_,_,_,hh⟩,hl,ha,hb,h1,h2=>ArgW.ne (i:=i) (j:=j) hh (by omega) (by simpa using ha) (by simpa using hb) (by simpa using h1) (by simpa using h2)
 | false::bs,d::ds,v::vs,ps,0,j,p,_,_,h,_,_,_=>by cases h
 | false::bs,d::ds,v::vs,ps,i+1,j+1,p,⟨_,hh⟩,hl,ha,hb,h1,h2=>ArgW.ne (i:=i) (j:=j) hh (by omega) (by simpa using ha) (by simpa using hb) (by simpa using h1) (by simpa using h2)
end
def finW:List Bool->SD->Out (List D)
 | [],_=>.ok []
 | true::bs,some (.s,d)::ς=>finW bs ς>>=fun ws=>.ok (d::ws)
 | false::bs,_::ς=>finW bs ς
 | _,_=>.stuck
theorem Qx9{K:W.Frag}{CT:CTab}{G H G' H':Hp}:∀{bs:List Bool}{ds:List D}{vs:List V}{ps:List Addr}{ς:SD}{k:List D->Prop}{X:D->Prop},ArgW K CT G H bs ds vs ps->
 (∀(i:Nat) d v,bs[i]?=some true->ς[i]?=some (some (.s,d))->vs[i]?=some v->∃ p,v=.ref p/\Own K CT G' H' p d)->(finW bs ς).post k X->∃ ws,k ws/\OwnL K CT G' H' ws ps
 | [],[],[],ps,ς,k,X,h,_,q=>⟨[],q,by have h:ps=[]:=h;rw[h];trivial⟩
 | true::bs,d::ds,v::vs,ps,some (.s,d')::ς,k,X,⟨p,ps',e,e2,_,_,_,hh⟩,f,q=>by
  have q:(finW bs ς>>=fun ws=>.ok (d'::ws)).post k X:=q
  rw[Out.post_bind]at q
  obtain⟨ws,kw,ow⟩:=Qx9 hh (fun i d v a b c=>f (i+1) d v (by simpa using a) (by simpa using b) (by simpa using c)) q
  obtain⟨p',e3,o⟩:=f 0 d' v rfl rfl rfl
  rw[e]at e3;cases e3
  exact⟨d'::ws,kw,by rw[e2];exact⟨o,ow⟩⟩
 | false::bs,d::ds,v::vs,ps,x::ς,k,X,⟨_,hh⟩,f,q=>Qx9 (ς:=ς) hh (fun i d v a b c=>f (i+1) d v (by simpa using a) (by simpa using b) (by simpa using c)) q
 | true::bs,d::ds,v::vs,ps,[],k,X,_,_,q=>q.elim
 | true::bs,d::ds,v::vs,ps,none::ς,k,X,_,_,q=>q.elim
 | true::bs,d::ds,v::vs,ps,some (.k,_)::ς,k,X,_,_,q=>q.elim
 | true::bs,d::ds,v::vs,ps,some (.o,_)::ς,k,X,_,_,q=>q.elim
 | true::bs,d::ds,v::vs,ps,some (.l,_)::ς,k,X,_,_,q=>q.elim
 | false::bs,d::ds,v::vs,ps,[],k,X,_,_,q=>q.elim
end DL
namespace DL
open PySem PySem.Spec PyProof.Rows L2
def QlL:List Bool->List D->SD
 | b::bs,d::ds=>some (if b=true then SM.s else SM.k,d)::QlL bs ds
 | _,_=>[]
theorem QwF:∀{bs:List Bool}{ds:List D},bs.length=ds.length->(QlL bs ds).length=bs.length
 | [],[],_=>rfl
 | _::bs,_::ds,h=>by
  show(QlL bs ds).length+1=_
  rw[QwF (by simpa using h)];rfl
theorem Qes:∀{bs:List Bool}{ds:List D}{i:Nat}{x:SM×D}{n:Nat},(QlL bs ds++List.replicate n none)[i]?=some (some x)->∃ b d,bs[i]?=some b/\ds[i]?=some d/\x=(if b=true then SM.s else SM.k,d)
 | b::bs,d::ds,0,x,n,h=>by
  have h:some (some (if b=true then SM.s else SM.k,d))=some (some x):=h
  cases h;exact⟨b,d,rfl,rfl,rfl⟩
 | b::bs,d::ds,i+1,x,n,h=>by
  have h:(QlL bs ds++List.replicate n none)[i]?=some (some x):=h
  obtain⟨b',d',h1,h2,h3⟩:=Qes h
  exact⟨b',d',by simpa using h1,by simpa using h2,h3⟩
 | [],_,i,x,n,h=>by
  have h:([]++List.replicate n (none:Option (SM×D)))[i]?=some (some x):=h
  rw[List.nil_append,List.getElem?_replicate]at h
  split at h<;>cases h
 | b::bs,[],i,x,n,h=>by
  have h:([]++List.replicate n (none:Option (SM×D)))[i]?=some (some x):=h
  rw[List.nil_append,List.getElem?_replicate]at h
  split at h<;>cases h
def retW(fr:Bool)(bs:List Bool):Fl->Out (D×Option (List D))
 | .nx ς=>finW bs ς>>=fun ws=>.ok (.non,some ws)
 | .rt b d=>if (!fr||b||d.scal)=true then .ok (d,none) else .stuck
 | _=>.stuck
def bodyW(fr:Bool)(bs:List Bool)(len:Nat)(T:SD->Out Fl):List D->Out (D×Option (List D)):=fun ds=>
 if ds.length=bs.length then T (QlL bs ds++List.replicate (len - bs.length) none)>>=retW fr bs else .stuck
def SpW(K:W.Frag)(CT:CTab)(fr:Bool)(bs:List Bool)(m:‹"cf"›):Sp:=fun vs H Q _=>∃ ds ps G0,Same G0 H/\ArgW K CT G0 H bs ds vs ps/\
 (m ds).post (fun r=>∀ v H' G',Same G0 G'->(∀ b o,H b=some o->b∉ps->H' b=some o)->Same G' H'->(∀ b,G0 b=none->G' b≠none->H b=none)->(∀ b,H' b=none->H b=none)->(∀ ws,r.2=some ws->OwnL K CT G' H' ws ps)->RetG K CT fr H G' H' r.1 v->Q v H') (fun _=>False)
abbrev dcW(P:Program)(w:World)(K:W.Frag)(mg:‹"R"›)(base:Heap)(CT:CTab)(N:List Str)(qual:Str)(sc:Scope)(f:Addr)(cdv:Value)(A:Around)(outer:List Env)(s:Shared)(H:Hp)(E:XK)(G:Hp)(ps:List Addr)(vs:List V):Dc:=
 { X:=(cxOf CX0 P w K mg base N qual sc f cdv A outer s H E).nox,CT:=CT,G0:=G,XD:=fun _=>False,B:=fun b=>if b∈ps then none else H b,M:=fun b=>b∈ps,W:=fun i=>match vs[i]? with | some (.ref p)=>some p | _=>none }
theorem fnW{P:Program}{w:World}{K:W.Frag}{mg:‹"R"›}{base:Heap}{CT:CTab}{fr:Bool}{x qual:Str}{st:Stmt}{f:Addr}{fd:FuncData}{dV:Value}{N pn:List Str}{k:Nat}{T:SD->Out Fl}{bs:List Bool}(hbs:bs.length=pn.length)
 (F:FunV K x qual st f fd dV) (S:Qr N pn (Qa st))
 (hb:∀(cdv:Value)(A:Around)(outer:List Env)(s:Shared)(H:Hp)(E:XK)(G:Hp)(ps:List Addr)(vs:List V),Room k ‹"ae"›->DSs (dcW P w K mg base CT N qual (Qa st) f cdv A outer s H E G ps vs) (Qp st) T):
 FnOk P w K mg base CX0 (k+1) f fd pn (SpW K CT fr bs (bodyW fr bs N.length T)):=by
 obtain⟨oc,od,kV,doc,pm,an,cdv,ct,osl,rfl,lk,hcd⟩:=F.ex
 have hpl:pn.length<=N.length:=by have:=congrArg List.length S.pre;rw[List.length_take]at this;omega
 have len:∀ vs H Q E,SpW K CT fr bs (bodyW fr bs N.length T) vs H Q E->vs.length=pn.length:=by
  intro vs H Q E ⟨ds,ps,G0,sub,r,q⟩
  rw[← hbs,r.len.1]
 refine fn_of lk hcd S len fun A outer s H vs Q E hr hsp=>?_
 obtain⟨ds,ps,G0,sub,r,q⟩:=hsp
 obtain⟨t,p1,q1⟩:=hb cdv A outer s H E G0 ps vs hr
 have hl:=r.len
 refine⟨t,p1.nox,?_⟩
 unfold bodyW at q
 rw[if_pos (by rw[hl.1,hl.2]),Out.post_bind]at q
 have S0:StR (dcW P w K mg base CT N qual (Qa st) f cdv A outer s H E G0 ps vs) G0 H (L2.start N vs) (QlL bs ds++List.replicate (N.length - bs.length) none):={
  sub:=sub
  g0:=Same.refl _
  new:=fun b h1 h2=>absurd h1 h2
  fr:=fun b o e _=>e
  dom:=fun b e=>e
  bs:=fun b o e=>by
   have e':(if b∈ps then none else H b)=some o:=e
   by_cases hb:b∈ps
   ·rw[if_pos hb]at e';cases e'
   ·rw[if_neg hb]at e';exact e'
  bh:=fun b e=>by
   show(if b∈ps then none else H b)=none
   by_cases hb:b∈ps
   ·rw[if_pos hb]
   ·rw[if_neg hb];exact e
  len:=by unfold L2.start;rw[List.length_append,List.length_append,QwF (by rw[hl.1,hl.2]),List.length_map,List.length_replicate,List.length_replicate];omega
  fz:=fun i d e=>by
   obtain⟨b,d',h1,h2,h3⟩:=Qes e
   cases b with
   | true=>cases h3
   | false=>
    cases h3
    obtain⟨v,a,a1,_⟩:=r.get h1 h2
    exact⟨v,Qen a,a1 rfl⟩
  ow:=fun i d e=>by
   obtain⟨b,d',h1,h2,h3⟩:=Qes e
   cases b<;>cases h3
  ln:=fun i d e=>by
   obtain⟨b,d',h1,h2,h3⟩:=Qes e
   cases b<;>cases h3
  inj:=fun i j d e p _ h=>by
   obtain⟨b,d',h1,h2,h3⟩:=Qes h
   cases b<;>cases h3
  sf:=fun i d e=>by
   obtain⟨b,d',h1,h2,h3⟩:=Qes e
   cases b with
   | false=>cases h3
   | true=>
    cases h3
    obtain⟨v,a,_,a2⟩:=r.get h1 h2
    obtain⟨p,rfl,hm,hg,o⟩:=a2 rfl
    obtain⟨u,hu⟩:=o.there
    refine⟨p,Qen a,hg,(by show H p≠none;rw[hu];simp),⟨hm,?_⟩,if_pos hm,o⟩
    show(match vs[i]? with | some (.ref p)=>some p | _=>none)=some p
    rw[a]
  su:=fun i j d e p hij h1 h2 g1 g2=>by
   obtain⟨b,d1,c1,c2,c3⟩:=Qes h1
   obtain⟨b',d2,c4,c5,c6⟩:=Qes h2
   cases b with
   | false=>cases c3
   | true=>
    cases b' with
    | false=>cases c6
    | true=>
     obtain⟨v1,a1,_⟩:=r.get c1 c2
     obtain⟨v2,a2,_⟩:=r.get c4 c5
     rw[Qen a1]at g1;cases g1
     rw[Qen a2]at g2;cases g2
     rcases Nat.lt_or_gt_of_ne hij with l | l
     ·exact r.ne l c1 c4 a1 a2
     ·exact r.ne l c4 c1 a2 a1 }
 refine q1 G0 H (L2.start N vs) _ _ S0 (Out.post_mono q fun fl kk=>?_)
 cases fl with
 | nx ς'=>
  intro σ' H' G' S' s'
  have kk:(finW bs ς'>>=fun ws=>Out.ok (D.non,some ws)).post _ _:=kk
  rw[Out.post_bind]at kk
  obtain⟨ws,kw,ow⟩:=Qx9 (G':=G') (H':=H') r (fun i d v b1 b2 b3=>by
   obtain⟨p,a,_,_,⟨_,hW⟩,_,o⟩:=S'.sf i d b2
   have hW:(match vs[i]? with | some (.ref p)=>some p | _=>none)=some p:=hW
   obtain⟨p',e,_⟩:=r.mem b1 b3
   subst e
   rw[b3]at hW
   cases hW
   exact⟨_,rfl,o⟩) kk
  exact kw .non H' G' s' ‹"en"› S'.sub S'.new S'.dom (fun ws' e=>by cases e;exact ow) (by
   show RetG K CT fr H G' H' D.non V.non
   unfold RetG;rw[if_neg (by cases fr<;>decide)];rfl)
 | bk ς'=>exact fun σ' H' G' S' s'=>kk.elim
 | ct ς'=>exact fun σ' H' G' S' s'=>kk.elim
 | rt b d=>
  intro v H' G' S' s' ret
  rcases QQ (show(if (!fr||b||d.scal)=true then Out.ok (d,none) else Out.stuck).post _ _ from kk) with⟨hc,k2⟩ | ⟨_,k2⟩
  ·cases b with
   | false=>
    refine k2 v H' G' s' ‹"en"› S'.sub S'.new S'.dom (fun ws' e=>by cases e) ?_
    unfold RetG
    have hn:¬ (fr && !d.scal)=true:=by revert hc;cases fr<;>cases d.scal<;>simp
    rw[if_neg hn]
    exact ret
   | true=>
    obtain⟨p,rfl,h0,hg,ow⟩:=(show ∃ p,v=.ref p/\H p=none/\G' p=none/\Own K CT G' H' p d from ret)
    cases fr with
    | true=>
     refine k2 _ H' G' s' ‹"en"› S'.sub S'.new S'.dom (fun ws' e=>by cases e) ?_
     have hs:d.scal=false:=by cases d<;>first | rfl | exact ow.elim
     unfold RetG
     rw[if_pos (by rw[hs];rfl)]
     exact⟨p,rfl,h0,hg,ow⟩
    | false=>
     obtain⟨o,ho⟩:=ow.there
     have S2:=GH.freezeR S' ho hg h0
     refine k2 _ H' _ (s'.trans (QB hg)) (fun b o e hb=>S2.fr b o e hb) S2.sub S2.new S2.dom (fun ws' e=>by cases e) ?_
     unfold RetG
     rw[if_neg (by simp)]
     exact ow.known hg ho
  ·exact k2.elim
end DL
namespace DL
open PySem PySem.Spec PyProof.Rows L2
def eVarW(i:Nat):SD->Out D:=fun ς=>match (ς[i]?:Option (Option (SM×D))) with
 | some (some (m,d))=>if wr m=true then .ok d else .stuck
 | _=>.stuck
def RepA(K:W.Frag)(CT:CTab)(G:Hp)(σ:St)(ς:SD):List (Option Nat)->List D->List V->Prop
 | [],[],[]=>True
 | some s::ms,d::ds,v::vs=>(∃ m,wr m=true/\ς[s]?=some (some (m,d)))/\σ[s]?=some (some v)/\RepA K CT G σ ς ms ds vs
 | none::ms,d::ds,v::vs=>Rep K CT G d v/\RepA K CT G σ ς ms ds vs
 | _,_,_=>False
def DAW(C:Dc)(es:List Expr)(ms:‹"O"›)(A:‹"ak"›):Prop:=∃ t,PA C.X es t/\∀ G H σ ς Q,StR C G H σ ς->
 (A ς).post (fun ds=>∀ vs H' G',StR C G' H' σ ς->Same H H'->Same G G'->RepA C.X.K C.CT G' σ ς ms ds vs->Q vs H') C.XD->t σ H Q
def Qf4(s:Nat)(w:D)(ς:SD):SD:=match (ς[s]?:Option (Option (SM×D))) with
 | some (some (m,_))=>ς.set s (some (m,w))
 | _=>ς
def setW:List (Option Nat)->List D->SD->SD
 | some s::ms,w::ws,ς=>setW ms ws (Qf4 s w ς)
 | none::ms,ws,ς=>setW ms ws ς
 | _,_,ς=>ς
section
variable{C:Dc}{e:Expr}{es:List Expr}{E:SD->Out D}{A:SD->Out (List D)}{ms:List (Option Nat)}
theorem QIf:DAW C [] [] aNil:=⟨_,Qdz,fun G H σ ς Q S q=>q [] H G S (Same.refl H) (Same.refl G) trivial⟩
theorem daw_k(ha:DE C e E)(hr:DAW C es ms A)(hs:‹"b"›:=by rfl):DAW C (e::es) (none::ms) (aCons E A):=by
 obtain⟨t1,p1,q1⟩:=ha
 obtain⟨t2,p2,q2⟩:=hr
 refine⟨_,Qbk p1 p2 hs,fun G H σ ς Q S q=>?_⟩
 unfold aCons at q
 rw[Out.post_bind]at q
 refine q1 G H σ ς _ S (Out.post_mono q fun x k v1 H1 G1 S1 a1 b1 r1=>?_)
 rw[Out.post_bind]at k
 refine q2 G1 H1 σ ς _ S1 (Out.post_mono k fun xs k2 vs H2 G2 S2 a2 b2 r2=>?_)
 exact k2 (v1::vs) H2 G2 S2 (a1.trans a2) (b1.trans b2) ⟨Rep.mono b2 x v1 r1,r2⟩
theorem daw_w(i:Nat){x:Str}{px:Pos}(hr:DAW C es ms A)(hN:C.X.N[i]?=some x:=by rfl)(hv:‹"bI"›:=by first | exact Or.inl rfl | exact Or.inr (Or.inl rfl) | exact Or.inr (Or.inr rfl))
 (hd:‹"f"›:=by decide) (hcd:‹"t"›:=by decide) (hs:‹"cG"›:=by rfl):
 DAW C (.Name x px::es) (some i::ms) (aCons (eVarW i) A):=by
 obtain⟨t2,p2,q2⟩:=hr
 refine⟨_,Qbk ‹"aI"› p2 hs,fun G H σ ς Q S q=>?_⟩
 unfold aCons eVarW at q
 rw[Out.post_bind]at q
 split at q
 ·rename_i m d z
  rcases QQ q with⟨hc,k⟩ | ⟨_,k⟩
  ·obtain⟨p,a,_⟩:=S.wslot (wr_of hc) z
   have k:(A ς>>=fun xs=>Out.ok (d::xs)).post (fun ds=>∀ vs H' G',StR C G' H' σ ς->Same H H'->Same G G'->RepA C.X.K C.CT G' σ ς (some i::ms) ds vs->Q vs H') C.XD:=k
   rw[Out.post_bind]at k
   refine⟨_,a,q2 G H σ ς _ S (Out.post_mono k fun xs k2 vs H2 G2 S2 a2 b2 r2=>?_)⟩
   exact k2 (.ref p::vs) H2 G2 S2 a2 b2 ⟨⟨m,hc,z⟩,a,r2⟩
  ·exact k.elim
 ·exact q.elim
theorem QpA{G H:Hp}{σ:St}{ς:SD}(S:‹"au"›):∀{ms:‹"O"›}{ds:List D}{vs:List V},(ms.filterMap id).Nodup->RepA C.X.K C.CT G σ ς ms ds vs->
 ∃ ps,ArgW C.X.K C.CT G H (ms.map Option.isSome) ds vs ps/\∀ p,p∈ps↔∃ s,some s∈ms/\σ[s]?=some ‹"aT"›
 | [],[],[],_,_=>⟨[],rfl,fun p=>⟨fun h=>(nomatch h),fun⟨s,h,_⟩=>(nomatch h)⟩⟩
 | some s::ms,d::ds,v::vs,nd,⟨⟨m,hm,z⟩,e,r⟩=>by
  have nd:(s::ms.filterMap id).Nodup:=nd
  rw[List.nodup_cons]at nd
  obtain⟨ps,h1,h2⟩:=QpA S nd.2 r
  obtain⟨p,a,hg,h0,o,ne⟩:=S.wslot (wr_of hm) z
  rw[e]at a;cases a
  refine⟨p::ps,⟨p,ps,rfl,rfl,fun hp=>?_,hg,o,h1⟩,fun q=>?_⟩
  ·obtain⟨s',m1,m2⟩:=(h2 p).1 hp
   have hs:s'≠s:=by rintro rfl;exact nd.1 (List.mem_filterMap.mpr ⟨_,m1,rfl⟩)
   have:∃ m' d',wr m'=true/\ς[s']?=some (some (m',d')):=rep_slot r m1
   obtain⟨m',d',w',z'⟩:=this
   exact ne s' m' d' hs (wr_of w') z' m2
  ·rw[List.mem_cons,h2]
   constructor
   ·rintro (rfl | ⟨s',m1,m2⟩)
    ·exact⟨s,List.mem_cons_self ..,e⟩
    ·exact⟨s',List.mem_cons_of_mem _ m1,m2⟩
   ·rintro ⟨s',m1,m2⟩
    rcases List.mem_cons.mp m1 with q1 | q1
    ·cases q1
     rw[e]at m2;cases m2;exact .inl rfl
    ·exact .inr ⟨s',q1,m2⟩
 | none::ms,d::ds,v::vs,nd,⟨rr,r⟩=>by
  obtain⟨ps,h1,h2⟩:=QpA S (show(ms.filterMap id).Nodup from nd) r
  refine⟨ps,⟨rr,h1⟩,fun p=>?_⟩
  rw[h2]
  constructor
  ·rintro ⟨s',m1,m2⟩;exact⟨s',List.mem_cons_of_mem _ m1,m2⟩
  ·rintro ⟨s',m1,m2⟩
   rcases List.mem_cons.mp m1 with q1 | q1
   ·cases q1
   ·exact⟨s',q1,m2⟩
where rep_slot {G:Hp} {σ:St} {ς:SD}:∀{ms:‹"O"›}{ds:List D}{vs:List V}{s:Nat},RepA C.X.K C.CT G σ ς ms ds vs->some s∈ms->∃ m d,wr m=true/\ς[s]?=some (some (m,d))
 | [],[],[],_,_,h=>(nomatch h)
 | some s'::ms,d::ds,v::vs,s,⟨⟨m,hm,z⟩,_,r⟩,h=>by
  rcases List.mem_cons.mp h with q | q
  ·cases q;exact⟨m,d,hm,z⟩
  ·exact rep_slot r q
 | none::ms,d::ds,v::vs,s,⟨_,r⟩,h=>by
  rcases List.mem_cons.mp h with q | q
  ·cases q
  ·exact rep_slot r q
theorem QHE(s:Nat)(w:D)(ς:SD):(Qf4 s w ς).length=ς.length:=by
 unfold Qf4;split<;>simp
theorem QvT:∀(ms:‹"O"›)(ws:List D)(ς:SD),(setW ms ws ς).length=ς.length
 | some s::ms,w::ws,ς=>by show(setW ms ws (Qf4 s w ς)).length=_;rw[QvT ms ws,QHE]
 | none::ms,ws,ς=>QvT ms ws ς
 | [],ws,ς=>rfl
 | some s::ms,[],ς=>rfl
theorem Qx2{K:W.Frag}{CT:CTab}{G H G' H':Hp}{σ:St}{ς:SD}:∀{ms:‹"O"›}{ds:List D}{vs:List V}{ws:List D}{ps:List Addr}{τ:SD},RepA K CT G σ ς ms ds vs->ArgW K CT G H (ms.map Option.isSome) ds vs ps->OwnL K CT G' H' ws ps->
 (∀(i:Nat) m d,some i∈ms->ς[i]?=some (some (m,d))->∃ d',τ[i]?=some (some (m,d')))->
 ∀(i:Nat) m d',(setW ms ws τ)[i]?=some (some (m,d'))->(τ[i]?=some (some (m,d'))/\some i∉ms)∨(wr m=true/\∃ d b,τ[i]?=some (some (m,d))/\σ[i]?=some (some (.ref b))/\Own K CT G' H' b d')
 | [],[],[],ws,ps,τ,_,_,_,_,i,m,d',h=>.inl ⟨h,fun z=>(nomatch z)⟩
 | none::ms,d::ds,v::vs,ws,ps,τ,⟨_,r⟩,⟨_,a⟩,o,f,i,m,d',h=>by
  rcases Qx2 (τ:=τ) r a o (fun i m d hi=>f i m d (List.mem_cons_of_mem _ hi)) i m d' h with⟨e,n⟩ | e
  ·exact .inl ⟨e,fun z=>by
    rcases List.mem_cons.mp z with q | q
    ·cases q
    ·exact n q⟩
  ·exact .inr e
 | some s::ms,d::ds,v::vs,[],ps,τ,_,⟨p,ps',e1,e2,_⟩,o,_,i,m,d',h=>by rw[e2]at o;exact o.elim
 | some s::ms,d::ds,v::vs,w::ws,ps,τ,⟨⟨m0,hm0,z⟩,e,r⟩,⟨p,ps',e1,e2,_,_,_,a⟩,o,f,i,m,d',h=>by
  rw[e2]at o
  obtain⟨o1,o2⟩:=o
  obtain⟨d0,t0⟩:=f s m0 d ‹"dO"› z
  have es:Qf4 s w τ=τ.set s (some (m0,w)):=by unfold Qf4;rw[t0]
  have h:(setW ms ws (Qf4 s w τ))[i]?=some (some (m,d')):=h
  have back:∀(j:Nat) m1 d1,(Qf4 s w τ)[j]?=some (some (m1,d1))->(j=s/\m1=m0/\d1=w)∨(j≠s/\τ[j]?=some (some (m1,d1))):=fun j m1 d1 hj=>by
   rw[es]at hj
   rcases Qs hj with⟨rfl,h2,l⟩ | ⟨ne,h2⟩
   ·cases h2;exact .inl ⟨rfl,rfl,rfl⟩
   ·exact .inr ⟨Ne.symm ne,h2⟩
  have fwd:∀(j:Nat) m1 d1,some j∈ms->ς[j]?=some (some (m1,d1))->∃ d2,(Qf4 s w τ)[j]?=some (some (m1,d2)):=fun j m1 d1 hj hz=>by
   rw[es]
   by_cases hjs:j=s
   ·subst hjs
    rw[z]at hz;cases hz
    exact⟨w,Qhd (List.getElem?_eq_some_iff.mp t0).1⟩
   ·obtain⟨d2,q⟩:=f j m1 d1 (List.mem_cons_of_mem _ hj) hz
    exact⟨d2,by rw[Qn (Ne.symm hjs)];exact q⟩
  rcases Qx2 r a o2 fwd i m d' h with⟨q,n⟩ | ⟨hw,d1,b,q1,q2,q3⟩
  ·rcases back i m d' q with⟨rfl,rfl,rfl⟩ | ⟨ne,q⟩
   ·exact .inr ⟨hm0,d0,p,t0,by rw[e,e1],o1⟩
   ·exact .inl ⟨q,fun zz=>by
     rcases List.mem_cons.mp zz with y | y
     ·cases y;exact ne rfl
     ·exact n y⟩
  ·rcases back i m d1 q1 with⟨rfl,rfl,rfl⟩ | ⟨ne,q⟩
   ·exact .inr ⟨hw,d0,b,t0,q2,q3⟩
   ·exact .inr ⟨hw,d1,b,q,q2,q3⟩
def DefW(P:Program)(w:World)(K:W.Frag)(mg:‹"R"›)(base:Heap)(CT:CTab)(x:Str)(k:Nat)(fr:Bool)(bs:List Bool)(m:‹"cf"›):Prop:=
 ∃ f fd ps,FnOk P w K mg base CX0 k f fd ps (SpW K CT fr bs m)/\mg x=some (.ref f)/\W.keepIn K (.ref f)=true/\Binds K fd ps []
def Qpg(ms:‹"O"›)(m:‹"cf"›)(A:‹"ak"›):SD->Out Fl:=fun ς=>A ς>>=fun ds=>m ds>>=fun r=>match r.2 with
 | some ws=>.ok (.nx (setW ms ws ς))
 | none=>.stuck
theorem QEl{x:Str}{k:Nat}{fr:Bool}{bs:List Bool}{m:‹"cf"›}{p pos spos:Pos}(h:DefW C.X.prog C.X.w C.X.K C.X.mg C.X.base C.CT x k fr bs m)(hr:Room k C.X.A)(ha:DAW C (e::es) ms A)(hg:Gl C.X x)
 (hbs:bs=ms.map Option.isSome:=by rfl) (nd:(ms.filterMap id).Nodup:=by decide) (hx:∀ x,¬ C.XD x:=by exact fun _ h=>h)
 (hdb:‹"f"›:=by decide) (he:‹"b"›:=by rfl) (hpl:(backTo pos ‹"aC"›).any (·.1)=false:=by rfl)
 (hsw:swapsWith ‹"D"› none spos.line C.X.env=pure false:=by rfl):
 DS C (.Expr ‹"D"› spos) (Qpg ms m A):=by
 obtain⟨f,fd,pn,F,hm,hk,hb⟩:=h
 obtain⟨t,p1,q1⟩:=ha
 subst hbs
 refine⟨_,QtY (Qo9 F hr hg hm hk hb .nil pass0 p1 hdb he hpl) hsw,fun G H σ ς W S q=>?_⟩
 unfold Qpg at q
 rw[Out.post_bind]at q
 refine q1 G H σ ς _ S (Out.post_mono q fun ds kk vs H1 G1 S1 a1 b1 r1=>?_)
 obtain⟨ps,hA,hps⟩:=QpA S1 nd r1
 refine⟨ds,ps,G1,S1.sub,by rw[List.append_nil];exact hA,?_⟩
 rw[Out.post_bind]at kk
 cases z:m ds with
 | stuck=>rw[z]at kk;exact kk.elim
 | exc y=>rw[z]at kk;exact absurd kk (hx y)
 | ok r=>
  rw[z]at kk
  intro v H' G' g1 h1 s1 n1 d1 ow ret
  obtain⟨rv,rw'⟩:=r
  cases rw' with
  | none=>exact kk.elim
  | some ws=>
   have ow:=ow ws rfl
   refine(show FlK C G W (.nx (setW ms ws ς)) from kk) σ H' G' ?_ (b1.trans g1)
   refine S1.swap (fun b=>b∈ps) (QvT ms ws ς) g1 h1 s1 n1 (fun b hb=>?_) fun i mm d' hi=>?_
   ·obtain⟨s',m1,m2⟩:=(hps b).1 hb
    obtain⟨m',dd,w',z'⟩:=QpA.rep_slot r1 m1
    obtain⟨p',a,_,h0,o,_⟩:=S1.wslot (wr_of w') z'
    rw[m2]at a;cases a
    obtain⟨u,hu⟩:=o.there
    exact⟨fun y=>(by rw[d1 b y]at hu;cases hu),h0⟩
   ·rcases Qx2 (τ:=ς) r1 hA ow (fun i m d _ y=>⟨d,y⟩) i mm d' hi with⟨e1,e2⟩ | ⟨hw,d,b,e1,e2,e3⟩
    ·refine .inl ⟨e1,fun b hmm eb hb=>?_⟩
     obtain⟨s',m1,m2⟩:=(hps b).1 hb
     obtain⟨m',dd,w',z'⟩:=QpA.rep_slot r1 m1
     obtain⟨p',a,_,_,_,ne⟩:=S1.wslot (wr_of w') z'
     rw[m2]at a;cases a
     exact ne i mm d' (by rintro rfl;exact e2 m1) hmm e1 eb
    ·exact .inr ⟨wr_of hw,d,b,e1,e2,e3⟩
end
end DL
namespace DL
open PySem PySem.Spec PyProof.Rows L2
def flatL(o:Out D):Out D:=o>>=fun d=>match d with
 | .lst xs=>if xs.all D.scal=true then .ok (.lst xs) else .stuck
 | _=>.stuck
section
variable{C:Dc}{e:Expr}{es:List Expr}{E:SD->Out D}{A:SD->Out (List D)}{bs:List Bool}
end
end DL
namespace L2
open PySem PySem.Spec PyProof.Rows
section
variable{X:Cx}
end
end L2
namespace DL
open PySem PySem.Spec PyProof.Rows L2
section
variable{C:Dc}{e:Expr}{es:List Expr}{AA:SD->Out (List D)}{p pos:Pos}
end
end DL
namespace DL
open PySem PySem.Spec PyProof.Rows L2
section
variable{C:Dc}{x:Str}{k:Nat}{dd:List D}{m:List D->Out D}{e:Expr}{es:List Expr}{A:SD->Out (List D)}{p pos:Pos}
theorem df_fB(h:DefOk C.X.prog C.X.w C.X.K C.X.mg C.X.base C.CT x k true dd m)(hr:Room k C.X.A)(ha:DAB C (e::es) A)(hg:Gl C.X x)(hs:dd.all D.scal=true:=by rfl)(hx:∀ x,¬ C.XD x:=by exact fun _ h=>h)
 (hdb:‹"f"›:=by decide) (he:‹"b"›:=by rfl) (hpl:(backTo pos ‹"aC"›).any (·.1)=false:=by rfl):
 DF C ‹"D"› (fun ς=>flatL (eA (fun xs=>m (xs++dd)) A ς)):=by
 obtain⟨f,fd,ps,ds,F,hm,hk,hb,hd⟩:=h
 obtain⟨t,p1,q1⟩:=ha
 refine⟨_,Qo9 F hr hg hm hk hb hd pass0 p1 hdb he hpl,fun G H σ ς Q S q=>?_⟩
 unfold flatL eA at q
 rw[Out.post_bind,Out.post_bind]at q
 refine q1 G H σ ς _ S (Out.post_mono q fun xs kk vs H1 G1 S1 a1 b1 r1=>⟨xs++dd,H1,Same.refl _,r1.append (Qit hs),?_⟩)
 cases z:m (xs++dd) with
 | stuck=>rw[z]at kk;exact kk.elim
 | exc y=>rw[z]at kk;exact absurd kk (hx y)
 | ok d=>
  rw[z]at kk
  intro v H' G' g1 h1 s1 n1 ret
  have S2:StR C G1 H' σ ς:=S1.grow h1 (Same.refl _) (S1.sub.trans h1) fun b g n=>absurd g n
  cases d with
  | lst ys=>
   rcases QQ kk with⟨hc,kk⟩ | ⟨_,kk⟩
   ·unfold RetG at ret
    rw[if_pos (show(true && !(D.lst ys).scal)=true from rfl)]at ret
    obtain⟨pp,rfl,h0,hg',us,hu,ru⟩:=ret
    exact(show KF C G H σ ς Q (.lst ys) from kk) pp H' G1 S2 (a1.trans h1) b1 (a1.free h0) (S1.gnone h0) ⟨us,hu,ru.flat hc⟩
   ·exact kk.elim
  | _=>exact kk.elim
end
end DL
namespace L2
open PySem PySem.Spec PyProof.Rows
section
variable{prog:Program}{w:World}{A:Around}{E:Value->Shared->Prop}{s:Shared}{I l:Addr}
end
section
variable{prog:Program}{w:World}{A:Around}{s:Shared}{R:Result->Shared->Prop}{I l:Addr}
end
section
variable{prog:Program}{w:World}{A:Around}{E:Value->Shared->Prop}{s:Shared}{I l:Addr}
end
section
variable{X:Cx}{e:Expr}{te:TA}{p1 p2 p3 pos:Pos}
end
end L2
namespace DL
open PySem PySem.Spec PyProof.Rows L2
section
variable{C:Dc}{e:Expr}{A:SD->Out (List D)}{p1 p2 p3 pos:Pos}
end
end DL
namespace DL
open PySem PySem.Spec PyProof.Rows L2
def OwnAs(K:W.Frag)(CT:CTab)(H0 G H:Hp):List (List D)->List Addr->Prop
 | [],[]=>True
 | xs::r,a::as=>(H0 a=none/\G a=none/\Own K CT G H a (.lst xs))/\a∉as/\OwnAs K CT H0 G H r as
 | _,_=>False
def TupO(K:W.Frag)(CT:CTab)(H0 G H:Hp)(d:D)(v:V):Prop:=
 ∃(p:Addr)(as:List Addr)(xss:List (List D)),d=.tup (xss.map .lst)/\v=.ref p/\H0 p=none/\G p=none/\H p=some ‹"dI"›/\OwnAs K CT H0 G H xss as
theorem OwnAs.mono{K:W.Frag}{CT:CTab}{H0 G G' H H':Hp}(g:Same G G')(h:Same H H'):∀{xss:List (List D)}{as:List Addr},(∀ a∈as,G' a=none)->OwnAs K CT H0 G H xss as->OwnAs K CT H0 G' H' xss as
 | [],[],_,_=>trivial
 | xs::r,a::as,n,⟨⟨h0,_,o⟩,na,ho⟩=>⟨⟨h0,n a (List.mem_cons_self ..),o.mono g fun o e=>h _ _ e⟩,na,ho.mono g h fun b hb=>n b (List.mem_cons_of_mem _ hb)⟩
theorem OwnAs.mem{K:W.Frag}{CT:CTab}{H0 G H:Hp}:∀{xss:List (List D)}{as:List Addr}{a:Addr},OwnAs K CT H0 G H xss as->a∈as->H0 a=none/\G a=none/\∃ vs,H a=some (.lst vs)
 | [],[],_,_,hm=>(nomatch hm)
 | [],_::_,_,h,_=>h.elim
 | _::_,[],_,h,_=>h.elim
 | xs::r,b::as,a,⟨⟨h0,hg,vs,hv,_⟩,_,ho⟩,hm=>by
  rcases List.mem_cons.mp hm with rfl | hm
  ·exact⟨h0,hg,vs,hv⟩
  ·exact ho.mem hm
section
variable{C:Dc}{G G' H H':Hp}{σ:St}{ς:SD}
theorem StR.hide(S:‹"au"›)(i:Nat)(w:Option V):StR C G H (σ.set i w) (ς.set i none) where
 toGH:=S.toGH
 len:=by rw[List.length_set,List.length_set];exact S.len
 fz:=fun j e h=>by
  rcases Qs h with⟨rfl,h2,l⟩ | ⟨ne,h2⟩
  ·cases h2
  ·rw[Qn ne];exact S.fz j e h2
 ow:=fun j e h=>by
  rcases Qs h with⟨rfl,h2,l⟩ | ⟨ne,h2⟩
  ·cases h2
  ·rw[Qn ne];exact S.ow j e h2
 ln:=fun j e h=>by
  rcases Qs h with⟨rfl,h2,l⟩ | ⟨ne,h2⟩
  ·cases h2
  ·rw[Qn ne];exact S.ln j e h2
 inj:=fun j k d1 d2 p hjk h1 h2 h3=>by
  rcases Qs h1 with⟨rfl,q1,l⟩ | ⟨n1,q1⟩
  ·cases q1
  ·rcases Qs h2 with⟨rfl,q2,l⟩ | ⟨n2,q2⟩
   ·cases q2
   ·rw[Qn n1]at h3
    rw[Qn n2]
    exact S.inj j k d1 d2 p hjk q1 q2 h3
 sf:=fun j e h=>by
  rcases Qs h with⟨rfl,h2,l⟩ | ⟨ne,h2⟩
  ·cases h2
  ·rw[Qn ne];exact S.sf j e h2
 su:=fun j k d1 d2 p hjk h1 h2 h3=>by
  rcases Qs h1 with⟨rfl,q1,l⟩ | ⟨n1,q1⟩
  ·cases q1
  ·rcases Qs h2 with⟨rfl,q2,l⟩ | ⟨n2,q2⟩
   ·cases q2
   ·rw[Qn n1]at h3
    rw[Qn n2];exact S.su j k d1 d2 p hjk q1 q2 h3
theorem StR.freezeAs:∀{xss:List (List D)}{as:List Addr}{G:Hp},StR C G H σ ς->OwnAs C.X.K C.CT C.X.H₀ G H xss as->(∀ a∈as,∀(i:Nat) d,ς[i]?=some (some (.o,d))->σ[i]?≠some (some (.ref a)))->∃ G',StR C G' H σ ς/\Same G G'/\(∀ b,b∉as->G' b=G b)/\RepL C.X.K C.CT G' (xss.map .lst) (as.map V.ref)
 | [],[],G,S,_,_=>⟨G,S,Same.refl G,fun _ _=>rfl,rfl⟩
 | xs::r,a::as,G,S,⟨⟨h0,hg,o⟩,na,ho⟩,nn=>by
  obtain⟨vs,hv,rv⟩:=id o
  have S1:=S.freeze hv hg h0 (nn a ‹"dO"›)
  have ho1:OwnAs C.X.K C.CT C.X.H₀ (upd G a (.lst vs)) H r as:=ho.mono (QB hg) (Same.refl H) fun b hb=>by
   rw[Qk (by rintro rfl;exact na hb)]
   exact(ho.mem hb).2.1
  obtain⟨G',S',g',k',r'⟩:=StR.freezeAs S1 ho1 fun b hb=>nn b (List.mem_cons_of_mem _ hb)
  refine⟨G',S',(QB hg).trans g',fun b hb=>?_,?_⟩
  ·rw[k' b (fun h=>hb (List.mem_cons_of_mem _ h)),Qk (by rintro rfl;exact hb ‹"dO"›)]
  ·exact⟨.ref a,as.map V.ref,rfl,Rep.mono g' _ _ (o.known hg hv),r'⟩
end
def SpT(K:W.Frag)(CT:CTab)(m:List D->Out D):Sp:=fun vs H Q _=>∃ ds G0,Same G0 H/\RepL K CT G0 ds vs/\
 (m ds).post (fun d=>∀ v H' G',Same G0 G'->Same H H'->Same G' H'->(∀ b,G0 b=none->G' b≠none->H b=none)->TupO K CT H G' H' d v->Q v H') (fun _=>False)
def DTs(C:Dc)(sts:List Stmt)(T:SD->Out D):Prop:=∃ t,PSs C.X sts t/\∀ G H σ ς W,StR C G H σ ς->(T ς).post (fun d=>∀ v H' G',GH C G' H'->Same G G'->TupO C.X.K C.CT C.X.H₀ G' H' d v->W.rt v H') C.XD->t W σ H
def tSeq(T:SD->Out Fl)(U:SD->Out D):SD->Out D:=fun ς=>T ς>>=fun f=>match f with
 | .nx ς'=>U ς'
 | _=>.stuck
def oTup:List Nat->SD->Out (List (List D))
 | [],_=>.ok []
 | i::is,ς=>match (ς[i]?:Option (Option (SM×D))) with
  | some (some (.o,.lst xs))=>oTup is ς>>=fun r=>.ok (xs::r)
  | _=>.stuck
def tRet(is:List Nat):SD->Out D:=fun ς=>oTup is ς>>=fun xss=>.ok (.tup (xss.map .lst))
def AtO(σ:St)(ς:SD):List Nat->List (List D)->List Addr->Prop
 | [],[],[]=>True
 | i::is,xs::r,a::as=>ς[i]?=some (some (.o,.lst xs))/\σ[i]?=some (some (.ref a))/\AtO σ ς is r as
 | _,_,_=>False
section
variable{C:Dc}{G H:Hp}{σ:St}{ς:SD}
theorem AtO.mem:∀{is:List Nat}{xss:List (List D)}{as:List Addr}{a:Addr},AtO σ ς is xss as->a∈as->∃ j xs,j∈is/\ς[j]?=some (some (.o,.lst xs))/\σ[j]?=some (some (.ref a))
 | [],[],[],_,_,hm=>(nomatch hm)
 | i::is,xs::r,b::as,a,⟨h1,h2,h3⟩,hm=>by
  rcases List.mem_cons.mp hm with rfl | hm
  ·exact⟨i,xs,List.mem_cons_self ..,h1,h2⟩
  ·obtain⟨j,ys,q1,q2,q3⟩:=h3.mem hm
   exact⟨j,ys,List.mem_cons_of_mem _ q1,q2,q3⟩
theorem AtO.own(S:‹"au"›):∀{is:List Nat}{xss:List (List D)}{as:List Addr},is.Nodup->AtO σ ς is xss as->OwnAs C.X.K C.CT C.X.H₀ G H xss as
 | [],[],[],_,_=>trivial
 | i::is,xs::r,a::as,nd,⟨h1,h2,h3⟩=>by
  have nd:=List.nodup_cons.mp nd
  obtain⟨p,e,hg,h0,o⟩:=S.ow i _ h1
  rw[h2]at e
  cases e
  refine⟨⟨h0,hg,o⟩,fun hm=>?_,AtO.own S nd.2 h3⟩
  obtain⟨j,ys,q1,q2,q3⟩:=h3.mem hm
  exact S.inj i j _ _ a (by rintro rfl;exact nd.1 q1) h1 q2 h2 q3
theorem AtO.len:∀{is:List Nat}{xss:List (List D)}{as:List Addr},AtO σ ς is xss as->as.length=is.length
 | [],[],[],_=>rfl
 | i::is,xs::r,a::as,⟨_,_,h⟩=>by rw[List.length_cons,List.length_cons,h.len]
end
section
variable{C:Dc}{st:Stmt}{rest:List Stmt}{T:SD->Out Fl}{U:SD->Out D}{es:List Expr}{is:List Nat}{pos:Pos}
def DOA(C:Dc)(es:List Expr)(is:List Nat):Prop:=∃ t,PA C.X es t/\∀ G H σ ς (Q:List V->Hp->Prop),StR C G H σ ς->(oTup is ς).post (fun xss=>∀ as,AtO σ ς is xss as->Q (as.map V.ref) H) C.XD->t σ H Q
theorem QPk:DOA C [] []:=⟨_,Qdz,fun G H σ ς Q S q=>q [] trivial⟩
theorem Qp2(i:Nat){x:Str}{px:Pos}(hr:DOA C es is)(hN:C.X.N[i]?=some x:=by rfl)(hv:‹"bI"›:=by first | exact Or.inl rfl | exact Or.inr (Or.inl rfl) | exact Or.inr (Or.inr rfl))
 (hd:‹"f"›:=by decide) (hcd:‹"t"›:=by decide) (hs:‹"cG"›:=by rfl):DOA C (.Name x px::es) (i::is):=by
 obtain⟨t,p1,q1⟩:=hr
 refine⟨_,Qbk ‹"aI"› p1 hs,fun G H σ ς Q S q=>?_⟩
 unfold oTup at q
 split at q
 ·rename_i xs z
  obtain⟨p,e,_⟩:=S.ow i _ z
  rw[Out.post_bind]at q
  exact⟨_,e,q1 G H σ ς _ S (Out.post_mono q fun r k as ha=>k (p::as) ⟨z,e,ha⟩)⟩
 ·exact q.elim
theorem QiT(h1:DS C st T)(h2:DTs C rest U):DTs C (st::rest) (tSeq T U):=by
 obtain⟨t1,p1,q1⟩:=h1
 obtain⟨t2,p2,q2⟩:=h2
 refine⟨_,Qg8 p1 p2,fun G H σ ς W S q=>?_⟩
 unfold tSeq at q
 rw[Out.post_bind]at q
 refine q1 G H σ ς _ S (Out.post_mono q fun f k=>?_)
 cases f with
 | nx ς'=>exact fun σ' H' G' S' s'=>q2 G' H' σ' ς' W S' (Out.post_mono (show(U ς').post _ _ from k) fun d kd v H'' G'' gh s'' tu=>kd v H'' G'' gh (s'.trans s'') tu)
 | bk ς'=>exact k.elim
 | ct ς'=>exact k.elim
 | rt b d=>exact k.elim
theorem QN7{x1}{pt:Pos}(ha:DOA C es is)(nd:is.Nodup:=by decide)(hl:is.length<=100:=by decide):DTs C [.Return (some (.Tuple es x1 pt)) pos] (tRet is):=by
 obtain⟨t,p1,q1⟩:=ha
 refine⟨_,QtZ (Qv4 (QDd p1)),fun G H σ ς W S q=>?_⟩
 unfold tRet at q
 rw[Out.post_bind]at q
 refine q1 G H σ ς _ S (Out.post_mono q fun xss k as ha=>⟨?_,fun p hp=>?_⟩)
 ·rw[List.length_map,ha.len]
  exact Nat.le_trans hl (by decide)
 ·have k:∀ v H' G',GH C G' H'->Same G G'->TupO C.X.K C.CT C.X.H₀ G' H' (.tup (xss.map .lst)) v->W.rt v H':=k
  have ow:=ha.own S nd
  exact k _ _ G (S.allocO hp).toGH (Same.refl G) ⟨p,as,xss,rfl,rfl,S.h0none hp,S.gnone hp,QM,ow.mono (Same.refl G) (QB hp) fun a hm=>(ow.mem hm).2.1⟩
end
def bodyT(n len:Nat)(T:SD->Out D):List D->Out D:=fun ds=>if ds.length=n then T (ds.map (fun d=>some (SM.k,d))++List.replicate (len - n) none) else .stuck
theorem fnT{P:Program}{w:World}{K:W.Frag}{mg:‹"R"›}{base:Heap}{CT:CTab}{x qual:Str}{st:Stmt}{f:Addr}{fd:FuncData}{dV:Value}{N ps:List Str}{k:Nat}{T:SD->Out D}
 (F:FunV K x qual st f fd dV) (S:Qr N ps (Qa st))
 (hb:∀(cdv:Value)(A:Around)(outer:List Env)(s:Shared)(H:Hp)(E:XK)(G:Hp),Room k ‹"ae"›->DTs (dcOf P w K mg base CT N qual (Qa st) f cdv A outer s H E G) (Qp st) T):
 FnOk P w K mg base CX0 (k+1) f fd ps (SpT K CT (bodyT ps.length N.length T)):=by
 obtain⟨oc,od,kV,doc,pm,an,cdv,ct,osl,rfl,lk,hcd⟩:=F.ex
 have hpl:ps.length<=N.length:=by have:=congrArg List.length S.pre;rw[List.length_take]at this;omega
 have len:∀ vs H Q E,SpT K CT (bodyT ps.length N.length T) vs H Q E->vs.length=ps.length:=by
  intro vs H Q E ⟨ds,G0,sub,r,q⟩
  unfold bodyT at q
  by_cases hl:ds.length=ps.length
  ·rw[← r.length];exact hl
  ·rw[if_neg hl]at q;exact q.elim
 refine fn_of lk hcd S len fun A outer s H vs Q E hr hsp=>?_
 have hlen:=len vs H Q E hsp
 obtain⟨ds,G0,sub,r,q⟩:=hsp
 obtain⟨t,p1,q1⟩:=hb cdv A outer s H E G0 hr
 have hl:ds.length=ps.length:=by rw[r.length];exact hlen
 refine⟨t,p1.nox,?_⟩
 unfold bodyT at q
 rw[if_pos hl]at q
 have S0:StR (dcOf P w K mg base CT N qual (Qa st) f cdv A outer s H E G0) G0 H (L2.start N vs) ‹"aS"›:={
  sub:=sub
  g0:=Same.refl _
  new:=fun b h1 h2=>absurd h1 h2
  fr:=fun b o e _=>e
  dom:=fun b e=>e
  bs:=Same.refl _
  bh:=fun b e=>e
  len:=by unfold L2.start;simp;omega
  fz:=fun i d e=>by
   obtain⟨d',e1,e2⟩:=Qbw e
   cases e2
   obtain⟨v,e3,rv⟩:=r.get e1
   exact⟨v,Qen e3,rv⟩
  ow:=fun i d e=>by obtain⟨d',e1,e2⟩:=Qbw e;cases e2
  ln:=fun i d e=>by obtain⟨d',e1,e2⟩:=Qbw e;cases e2
  inj:=fun i j d e p _ h=>by obtain⟨d',e1,e2⟩:=Qbw h;cases e2
  sf:=fun i d e=>by obtain⟨d',e1,e2⟩:=Qbw e;cases e2
  su:=fun i j d e p _ h=>by obtain⟨d',e1,e2⟩:=Qbw h;cases e2 }
 exact q1 G0 H (L2.start N vs) _ _ S0 (Out.post_mono q fun d kk v H' G' gh s' tu=>kk v H' G' s' (fun b o e=>gh.fr b o e id) gh.sub gh.new tu)
section
variable{C:Dc}{G G' H H':Hp}{σ:St}{ς:SD}
theorem StR.touch(S:‹"au"›){a:Addr}{o o':HO}(ha:H a=some o)(hg:G a=none)(h0:C.X.H₀ a=none)(hn:∀(i:Nat) d,ς[i]?=some (some (.o,d))->σ[i]?≠some (some (.ref a))):StR C G (upd H a o') σ ς where
 sub:=fun b u e=>by rw[Qk (by rintro rfl;rw[hg]at e;cases e)];exact S.sub b u e
 g0:=S.g0
 new:=S.new
 fr:=fun b u e m=>by rw[Qk (by rintro rfl;rw[h0]at e;cases e)];exact S.fr b u e m
 dom:=fun b e=>by
  by_cases hb:b=a
  ·subst hb;exact h0
  ·rw[Qk hb]at e;exact S.dom b e
 bs:=fun b u e=>by rw[Qk (by rintro rfl;rw[S.bh _ h0]at e;cases e)];exact S.bs b u e
 bh:=S.bh
 len:=S.len
 fz:=S.fz
 ow:=fun i d e=>by
  obtain⟨p,e1,e2,e3,w⟩:=S.ow i d e
  exact⟨p,e1,e2,e3,w.mono (Same.refl G) fun u z=>by rw[Qk (by rintro rfl;exact hn i d e e1)];exact z⟩
 ln:=S.ln
 inj:=S.inj
 sf:=fun i d e=>by
  obtain⟨p,e1,e2,e3,m,z,w⟩:=S.sf i d e
  exact⟨p,e1,e2,e3,m,z,w.mono (Same.refl G) fun u z=>by rw[Qk (by rintro rfl;exact e3 h0)];exact z⟩
 su:=S.su
theorem QMN{ς:SD}{j:Nat}(h:ς[j]?=some none):ς.set j none=ς:=by
 apply List.ext_getElem?
 intro k
 rw[List.getElem?_set]
 split
 ·rename_i e
  subst e
  split
  ·exact h.symm
  ·rename_i hl
   rw[List.getElem?_eq_none (by omega)]at h
   cases h
 ·rfl
end
def QhQ(xss:List (List D)):Bool:=xss.all fun xs=>decide (xs.length<100000)
theorem OwnAs.short{K:W.Frag}{CT:CTab}{H0 G H:Hp}:∀{xss:List (List D)}{as:List Addr}{a:Addr},QhQ xss=true->OwnAs K CT H0 G H xss as->a∈as->∃ vs:List V,H a=some (.lst vs)/\vs.length<100000
 | [],[],_,_,_,hm=>(nomatch hm)
 | [],_::_,_,_,h,_=>h.elim
 | _::_,[],_,_,h,_=>h.elim
 | xs::r,b::as,a,hs,⟨⟨_,_,vs,hv,rv⟩,_,ho⟩,hm=>by
  unfold QhQ at hs
  rw[List.all_cons,Bool.and_eq_true]at hs
  rcases List.mem_cons.mp hm with rfl | hm
  ·exact⟨vs,hv,by rw[← rv.length];exact of_decide_eq_true hs.1⟩
  ·exact OwnAs.short (show QhQ r=true from hs.2) ho hm
def lstsD:List D->Option (List (List D))
 | []=>some []
 | .lst xs::r=>(lstsD r).map (xs :: ·)
 | _=>none
theorem QsC:∀ xss:List (List D),lstsD (xss.map .lst)=some xss
 | []=>rfl
 | xs::r=>by show(lstsD (r.map .lst)).map (xs :: ·)=_;rw[QsC r];rfl
section
variable{C:Dc}{i j:Nat}{x y:Str}{p2 p3 p4 p5 p6 p7 p8 p9:Pos}{cj:Nat}{c:Int}{body:List Stmt}
theorem QLP(hN:C.X.N.Nodup)(hj:C.X.N[j]?=some y)(hy:Loc C.X.env.scope y)(hfy:C.X.fn y=true∨C.X.env.scope.names.lookup y=some .local)(hcalm:C.X.calm=true)(hp:‹"aL"›)
 (hx:PE C.X (.Name x p4) (tVar i)) (hb:PSs C.X body ‹"ev"›) (hs:∀ z,foldedSetIterable (.Name x p4) C.X.env z=pure z):
 ∃ t,PS C.X (.For (.Name y p3) (.Name x p4) body [] p2) t/\
  ∀ G H σ ς (W:Ends) (p:Addr) (as:List Addr),StR C G H σ ς->ς[j]?=some none->σ[i]?=some ‹"aT"›->j<σ.length->H p=some ‹"dI"›->(∀ a∈as,C.X.H₀ a=none/\G a=none/\∀(k:Nat) d,ς[k]?=some (some (.o,d))->σ[k]?≠some (some (.ref a)))->(∀ a∈as,∃ vs:List V,H a=some (.lst vs)/\vs.length<100000)->as.Nodup->
   (∀ σ' H',StR C G H' σ' ς->W.nx σ' H')->t W σ H:=by
 refine⟨_,QL4 hp hcalm (QPu hx) (QyN hN hj hy hfy) hb hs,?_⟩
 intro G H σ ς W p as S hςj hσi hjl hpt hfr hls nd hnx
 refine⟨_,hσi,p,rfl,⟨_,.inl (.inl hpt)⟩,?_⟩
 refine⟨fun k mm σ' H'=>mm=as.length - k/\k<=as.length/\StR C G H' σ' ς/\(∀ n,n≠j->σ'[n]?=σ[n]?)/\σ'.length=σ.length/\H' p=some ‹"dI"›/\∀ a∈as.drop k,∃ vs:List V,H' a=some (.lst vs)/\vs.length<100000,
  ⟨as.length,by simp,Nat.zero_le _,S,fun _ _=>rfl,rfl,hpt,by simpa using hls⟩,?_⟩
 rintro k mm σ' H' ⟨rfl,hle,S',hσ,hln,hpt',hls'⟩
 by_cases hk:k<as.length
 ·have hat:as[k]?=some as[k]:=List.getElem?_eq_getElem hk
  have hat':(as.map V.ref)[k]?=some (.ref as[k]):=by rw[List.getElem?_map,hat];rfl
  have hdr:as.drop k=as[k]::as.drop (k+1):=List.drop_eq_getElem_cons hk
  have hmem:as[k]∈as:=List.getElem_mem hk
  rw[hdr]at hls'
  obtain⟨vs,hv,hvl⟩:=hls' as[k] ‹"dO"›
  obtain⟨h0,hg,hn⟩:=hfr as[k] hmem
  have hna:as[k]∉as.drop (k+1):=by
   have:=List.Nodup.sublist (List.drop_sublist k as) nd
   rw[hdr]at this
   exact(List.nodup_cons.mp this).1
  generalize as[k]=a at *
  refine .inr ⟨⟨_,_,.inl (.inl hpt'),hat'⟩,fun σ2 H2=>as.length - (k+1)=as.length - (k+1)/\k+1<=as.length/\StR C G H2 σ2 ς/\(∀ n,n≠j->σ2[n]?=σ[n]?)/\σ2.length=σ.length/\H2 p=some ‹"dI"›/\∀ a∈as.drop (k+1),∃ vs:List V,H2 a=some (.lst vs)/\vs.length<100000,fun σ2 H2 h=>⟨_,by omega,h⟩,?_⟩
  rintro z H'' ⟨rfl,hz⟩
  have hz:=hz _ (.inl (.inl hpt'))
  rw[hat']at hz
  cases hz
  have hjs:(σ'.set j (some (V.ref a)))[j]?=some (some (.ref a)):=by rw[List.getElem?_set];simp;omega
  refine⟨_,hjs,.inl ⟨rfl,vs,SqL.of hv⟩,a,vs,.int c,rfl,rfl,hv,Nat.lt_of_lt_of_le hvl (by decide),rfl,hk,?_,?_,?_,?_,?_⟩
  ·have S2:=S'.hide j (some (V.ref a))
   rw[QMN hςj]at S2
   refine S2.touch hv hg h0 fun n d hd=>?_
   have hnj:n≠j:=by rintro rfl;rw[hςj]at hd;cases hd
   rw[List.getElem?_set_ne (Ne.symm hnj),hσ n hnj]
   exact hn n d hd
  ·intro n hnj
   rw[List.getElem?_set_ne (Ne.symm hnj)]
   exact hσ n hnj
  ·rw[List.length_set];exact hln
  ·rw[Qk (by rintro rfl;rw[hpt']at hv;cases hv)];exact hpt'
  ·intro b hb'
   obtain⟨us,hu,hul⟩:=hls' b (List.mem_cons_of_mem _ hb')
   exact⟨us,by rw[Qk (by rintro rfl;exact hna hb')];exact hu,hul⟩
 ·have e:k=as.length:=by omega
  exact .inl ⟨⟨_,.inl (.inl hpt'),by rw[List.length_map];omega⟩,hnx σ' H' S'⟩
end
section
variable{C:Dc}{G H:Hp}{σ:St}{ς:SD}
theorem StR.forget(S:‹"au"›)(i:Nat):StR C G H σ (ς.set i none) where
 toGH:=S.toGH
 len:=by rw[List.length_set];exact S.len
 fz:=fun j e h=>by
  rcases Qs h with⟨rfl,h2,l⟩ | ⟨ne,h2⟩
  ·cases h2
  ·exact S.fz j e h2
 ow:=fun j e h=>by
  rcases Qs h with⟨rfl,h2,l⟩ | ⟨ne,h2⟩
  ·cases h2
  ·exact S.ow j e h2
 ln:=fun j e h=>by
  rcases Qs h with⟨rfl,h2,l⟩ | ⟨ne,h2⟩
  ·cases h2
  ·exact S.ln j e h2
 inj:=fun j k d1 d2 p hjk h1 h2 h3=>by
  rcases Qs h1 with⟨rfl,q1,l⟩ | ⟨n1,q1⟩
  ·cases q1
  ·rcases Qs h2 with⟨rfl,q2,l⟩ | ⟨n2,q2⟩
   ·cases q2
   ·exact S.inj j k d1 d2 p hjk q1 q2 h3
 sf:=fun j e h=>by
  rcases Qs h with⟨rfl,h2,l⟩ | ⟨ne,h2⟩
  ·cases h2
  ·exact S.sf j e h2
 su:=fun j k d1 d2 p hjk h1 h2 h3=>by
  rcases Qs h1 with⟨rfl,q1,l⟩ | ⟨n1,q1⟩
  ·cases q1
  ·rcases Qs h2 with⟨rfl,q2,l⟩ | ⟨n2,q2⟩
   ·cases q2
   ·exact S.su j k d1 d2 p hjk q1 q2 h3
end
theorem OwnAs.h0{K:W.Frag}{CT:CTab}{H0 H0' G H:Hp}:∀{xss:List (List D)}{as:List Addr},(∀ a,H0 a=none->H0' a=none)->OwnAs K CT H0 G H xss as->OwnAs K CT H0' G H xss as
 | [],[],_,_=>trivial
 | xs::r,a::as,n,⟨⟨h0,hg,o⟩,na,ho⟩=>⟨⟨n a h0,hg,o⟩,na,ho.h0 n⟩
theorem OwnAs.nodup{K:W.Frag}{CT:CTab}{H0 G H:Hp}:∀{xss:List (List D)}{as:List Addr},OwnAs K CT H0 G H xss as->as.Nodup
 | [],[],_=>List.nodup_nil
 | [],_::_,h=>h.elim
 | _::_,[],_=>List.nodup_nil
 | xs::r,a::as,⟨_,na,ho⟩=>List.nodup_cons.mpr ⟨na,ho.nodup⟩
def onlyR:Fl->Out Fl
 | .rt b d=>.ok (.rt b d)
 | _=>.stuck
section
variable{C:Dc}{i j:Nat}{x y fn:Str}{k:Nat}{m:List D->Out D}{e:Expr}{es:List Expr}{A:SD->Out (List D)}{tc:Expr}{TC:SD->Out Bool}{ra:List Stmt}{R U:SD->Out Fl}{rest:List Stmt}{sf:Stmt}{p0 p1 p2 p3 p4:Pos}
end
section
variable{C:Dc}{j:Nat}{y:Str}{p5 p6 p7 p8 p9:Pos}{cj:Nat}{c:Int}
theorem QJE(hN:C.X.N[j]?=some y:=by rfl)(hv:Vis C.X.env.scope y:=by first | exact Or.inl rfl | exact Or.inr (Or.inl rfl) | exact Or.inr (Or.inr rfl))
 (hd:(y == ("__debug__":Str))=false:=by decide) (hcd:(y == ("__classdict__":Str))=false:=by decide)
 (hbase:attributeBase (.Name y p6) "append" C.X.env (eval (.Name y p6) C.X.env)=eval (.Name y p6) C.X.env:=by rfl)
 (hfew:((backTo p9 (starEach (.Constant (.int c) cj p8::[]) C.X.env)).all (fun x => !x.1)&&(backToKw p9 ‹"di"›).all (fun x=>x.1.isSome)
  && decide ((Expr.Constant (.int c) cj p8::[]).length+([]:List Keyword).length+‹"aH"›<30))=true:=by rfl)
 (hline:(p7.endLine == p9.line)=true:=by rfl) (hs:starEach (.Constant (.int c) cj p8::[]) C.X.env=(false,eval (.Constant (.int c) cj p8) C.X.env)::starEach [] C.X.env:=by rfl)
 (hsw:swapsWith ‹"dz"› none p5.line C.X.env=pure false:=by rfl):
 PSs C.X [.Expr ‹"dz"› p5] ‹"ev"›:=
 QtZ (QtY (pe_bm PySem.F.plainAttrs_list PySem.F.slot_list_append PySem.F.type_list_append Qsa (Qdy (i:=j) hN hv hd hcd) (Qbk QMv Qdz hs) hbase hfew hline hs rfl) hsw)
end
end DL
namespace DL
open PySem PySem.Spec PyProof.Rows L2
structure NewT(C:Dc)(G H:Hp)(σ:St)(ς:SD)(i:Nat)(xss:List (List D))(p:Addr)(as:List Addr):Prop where
 sl:σ[i]?=some ‹"aT"›
 p0:C.X.H₀ p=none
 pg:G p=none
 pt:H p=some ‹"dI"›
 ow:OwnAs C.X.K C.CT C.X.H₀ G H xss as
 ne:∀ a,a=p∨a∈as->∀(n:Nat) d,ς[n]?=some (some (.o,d))->σ[n]?≠some (some (.ref a))
def KU(C:Dc)(i:Nat)(G:Hp)(W:Ends)(r:SD×List (List D)):Prop:=∀ σ' H' G' p as,StR C G' H' σ' r.1->Same G G'->NewT C G' H' σ' r.1 i r.2 p as->W.nx σ' H'
def DU(C:Dc)(i:Nat)(st:Stmt)(M:‹"bg"›):Prop:=∃ t,PS C.X st t/\∀ G H σ ς W,StR C G H σ ς->(M ς).post (KU C i G W) C.XD->t W σ H
def DUs(C:Dc)(i:Nat)(sts:List Stmt)(M:‹"bg"›):Prop:=∃ t,PSs C.X sts t/\∀ G H σ ς W,StR C G H σ ς->(M ς).post (KU C i G W) C.XD->t W σ H
theorem KU.later{C:Dc}{i:Nat}{G G1:Hp}{W:Ends}{r:SD×List (List D)}(h:KU C i G W r)(g:Same G G1):KU C i G1 W r:=fun σ' H' G' p as S s n=>h σ' H' G' p as S (g.trans s) n
def uSeq(T:SD->Out Fl)(M:‹"bg"›):SD->Out (SD×List (List D)):=fun ς=>T ς>>=fun f=>match f with
 | .nx ς'=>M ς'
 | _=>.stuck
def uIf(TC:SD->Out Bool)(M N:‹"bg"›):SD->Out (SD×List (List D)):=fun ς=>TC ς>>=fun b=>if b=true then M ς else N ς
def mkU(i:Nat)(ς:SD):D->Out (SD×List (List D))
 | .tup es=>match lstsD es with
  | some xss=>if i<ς.length then .ok (ς.set i none,xss) else .stuck
  | none=>.stuck
 | _=>.stuck
def uCall(i:Nat)(m:List D->Out D)(A:‹"ak"›):SD->Out (SD×List (List D)):=fun ς=>A ς>>=fun ds=>m ds>>=mkU i ς
section
variable{C:Dc}{i:Nat}{st:Stmt}{rest a b:List Stmt}{T:SD->Out Fl}{TC:SD->Out Bool}{M M1 M2:SD->Out (SD×List (List D))}{tc:Expr}{pos:Pos}
theorem QtS(h:DU C i st M):DUs C i [st] M:=by
 obtain⟨t,p,q⟩:=h
 exact⟨_,QtZ p,q⟩
theorem QNY(h1:DS C st T)(h2:DUs C i rest M):DUs C i (st::rest) (uSeq T M):=by
 obtain⟨t1,p1,q1⟩:=h1
 obtain⟨t2,p2,q2⟩:=h2
 refine⟨_,Qg8 p1 p2,fun G H σ ς W S q=>?_⟩
 unfold uSeq at q
 rw[Out.post_bind]at q
 refine q1 G H σ ς _ S (Out.post_mono q fun f k=>?_)
 cases f with
 | nx ς'=>exact fun σ' H' G' S' s'=>q2 G' H' σ' ς' W S' (Out.post_mono (show(M ς').post _ _ from k) fun r kr=>KU.later kr s')
 | bk ς'=>exact k.elim
 | ct ς'=>exact k.elim
 | rt b d=>exact k.elim
theorem du_if(hc:DT C tc TC)(ha:DUs C i a M1)(hb:DUs C i b M2):DU C i (.If tc a b pos) (uIf TC M1 M2):=by
 obtain⟨t0,p0,q0⟩:=hc
 obtain⟨t1,p1,q1⟩:=ha
 obtain⟨t2,p2,q2⟩:=hb
 refine⟨_,ps_if p0 p1 p2,fun G H σ ς W S k=>?_⟩
 unfold uIf at k
 rw[Out.post_bind]at k
 refine q0 G H σ ς _ S (Out.post_mono k fun b k H1 G1 S1 a1 b1=>?_)
 cases b with
 | true=>exact iteT (q1 G1 H1 σ ς W S1 (Out.post_mono (show(M1 ς).post _ _ from k) fun r k=>KU.later k b1))
 | false=>exact iteF (q2 G1 H1 σ ς W S1 (Out.post_mono (show(M2 ς).post _ _ from k) fun r k=>KU.later k b1))
end
def DefTD(P:Program)(w:World)(K:W.Frag)(mg:‹"R"›)(base:Heap)(CT:CTab)(x:Str)(k:Nat)(dd:List D)(m:List D->Out D):Prop:=
 ∃ f fd ps ds,FnOk P w K mg base CX0 k f fd ps (SpT K CT m)/\mg x=some (.ref f)/\W.keepIn K (.ref f)=true/\Binds K fd ps ds/\Vals (dd.map toV) ds
def DefTK(P:Program)(w:World)(K:W.Frag)(mg:‹"R"›)(base:Heap)(CT:CTab)(x:Str)(k:Nat)(n:Nat)(kw:Str)(dm:List D)(m:List D->Out D):Prop:=
 ∃ f fd ps ds,FnOk P w K mg base CX0 k f fd ps (SpT K CT m)/\mg x=some (.ref f)/\W.keepIn K (.ref f)=true/\(∀(s:Shared)(us:List Value)(v:Value),K.In s.heap->us.length=n->BindsTo s fd ⟨us,[(kw,v)]⟩ (ps.zip (us++(ds++[v]))))/\ps≠[]/\Vals (dm.map toV) ds
def gK{α:Type}(n:Nat)(ds us ws:List α):List α:=if us.length=n/\ws.length=1 then us++(ds++ws) else []
theorem kb_of{K:W.Frag}{fd:FuncData}{ps:List Str}{kw:Str}{n:Nat}{ds:List Value}{dv:List V}(hb:∀(s:Shared)(us:List Value)(v:Value),K.In s.heap->us.length=n->BindsTo s fd ⟨us,[(kw,v)]⟩ (ps.zip (us++(ds++[v]))))(hp:ps≠[])(hv:Vals dv ds):QDZ K fd ps [kw] (gK n ds) (gK n dv) where
 to:=fun s us ws kin hl=>by
  unfold gK at hl ⊢
  by_cases h:us.length=n/\ws.length=1
  ·rw[if_pos h]
   obtain⟨h1,h2⟩:=h
   match ws,h2 with
   | [v],_=>exact hb s us v kin h1
  ·rw[if_neg h]at hl
   exact absurd (List.length_eq_zero_iff.mp hl.symm) hp
 rel:=fun r1 r2=>by
  unfold gK
  rw[r1.length,r2.length]
  split
  ·exact r1.append (hv.append r2)
  ·exact .nil
def Qo3(i n:Nat)(dm:List D)(m:List D->Out D)(A:‹"ak"›)(E:SD->Out D):SD->Out (SD×List (List D)):=fun ς=>A ς>>=fun ds=>E ς>>=fun d=>m (gK n dm ds [d])>>=mkU i ς
section
variable{C:Dc}{i j:Nat}{x y fn kw:Str}{k n:Nat}{m:List D->Out D}{dd dm:List D}{e ke:Expr}{es:List Expr}{A:SD->Out (List D)}{E:SD->Out D}{p0 p1 p2 p3 p4 p5 kpos:Pos}
theorem QFj{G G1 H1 H2 G2:Hp}{σ:St}{ς:SD}{d:D}{v:V}{W:Ends}(S1:StR C G1 H1 σ ς)(b1:Same G G1)(g1:Same G1 G2)(h1:Same H1 H2)(s1:Same G2 H2)(n1:∀ b,G1 b=none->G2 b≠none->H1 b=none)(tu:TupO C.X.K C.CT H1 G2 H2 d v)(k:(mkU i ς d).post (KU C i G W) C.XD):W.nx (σ.set i (some v)) H2:=by
 obtain⟨p,as,xss,rfl,rfl,hp0,hpg,hpt,ow⟩:=tu
 have k:(match lstsD (xss.map D.lst) with
  | some xss=>if i<ς.length then Out.ok (ς.set i none,xss) else .stuck
  | none=>.stuck).post (KU C i G W) C.XD:=k
 rw[QsC]at k
 rcases QQ k with⟨hil,k⟩ | ⟨_,k⟩
 case inr=>exact k.elim
 have S2:StR C G2 H2 σ ς:=S1.grow h1 g1 s1 n1
 have hne:∀ a,H1 a=none->∀(n:Nat) d,ς[n]?=some (some (.o,d))->σ[n]?≠some (some (.ref a)):=fun a h1a n d hd hσ=>by
  obtain⟨o,ho⟩:=S1.own_ne hd hσ
  rw[h1a]at ho;cases ho
 have hlen:=S1.len
 refine(show KU C i G W (ς.set i none,xss) from k) _ H2 G2 p as (S2.hide i ‹"aT"›) (b1.trans g1) ⟨?_,S1.h0none hp0,hpg,hpt,ow.h0 fun a h=>S1.h0none h,fun a ha n d hd=>?_⟩
 ·rw[List.getElem?_set]
  simp
  omega
 ·rcases Qs hd with⟨rfl,h2,l⟩ | ⟨ni,h2⟩
  ·cases h2
  ·rw[Qn ni]
   rcases ha with rfl | ha
   ·exact hne _ hp0 n d h2
   ·exact hne a (ow.mem ha).1 n d h2
theorem QIe(h:DefTD C.X.prog C.X.w C.X.K C.X.mg C.X.base C.CT fn k dd m)(hr:Room k C.X.A)(ha:DA C (e::es) A)(hg:Gl C.X fn)(hN:C.X.N.Nodup)(hi:C.X.N[i]?=some x)(hx:Loc C.X.env.scope x)
 (hsc:dd.all D.scal=true:=by rfl) (hxd:∀ x,¬ C.XD x:=by exact fun _ h=>h)
 (hs:swapsWith (.Call (.Name fn p3) (e::es) [] p4) (some (.Name x p2)) p1.line C.X.env=pure false:=by rfl)
 (hf:C.X.fn x=true∨C.X.env.scope.names.lookup x=some .local:=by first | exact .inl rfl | exact .inr rfl | assumption)
 (hdb:(fn == ("__debug__":Str))=false:=by decide) (he:‹"b"›:=by rfl) (hpl:(backTo p4 ‹"aC"›).any (·.1)=false:=by rfl):
 DU C i (.Assign [.Name x p2] (.Call (.Name fn p3) (e::es) [] p4) p1) (uCall i (fun xs=>m (xs++dd)) A):=by
 obtain⟨f,fd,pn,ds,F,hm,hk,hb,hd⟩:=h
 obtain⟨ta,pa,qa⟩:=ha
 refine⟨_,QwA hN hi hx (Qo9 F hr hg hm hk hb hd pass0 pa hdb he hpl) hs hf,fun G H σ ς W S q=>?_⟩
 unfold uCall at q
 rw[Out.post_bind]at q
 refine qa G H σ ς _ S (Out.post_mono q fun ds kk vs H1 G1 S1 a1 b1 r1=>⟨ds++dd,G1,S1.sub,r1.append (Qit hsc),?_⟩)
 rw[Out.post_bind]at kk
 have kk:(m (ds++dd)).post (fun a=>(mkU i ς a).post (KU C i G W) C.XD) C.XD:=kk
 cases z:m (ds++dd) with
 | stuck=>rw[z]at kk;exact kk.elim
 | exc y=>rw[z]at kk;exact absurd kk (hxd y)
 | ok d=>
  rw[z]at kk
  intro v H2 G2 g1 h1 s1 n1 tu
  exact QFj S1 b1 g1 h1 s1 n1 tu kk
theorem QNy(h:DefTK C.X.prog C.X.w C.X.K C.X.mg C.X.base C.CT fn k n kw dm m)(hr:Room k C.X.A)(ha:DA C (e::es) A)(hke:DE C ke E)(hg:Gl C.X fn)(hN:C.X.N.Nodup)(hi:C.X.N[i]?=some x)(hx:Loc C.X.env.scope x)
 (hsc:dm.all D.scal=true:=by rfl) (hxd:∀ x,¬ C.XD x:=by exact fun _ h=>h)
 (hs:swapsWith (.Call (.Name fn p3) (e::es) [⟨some kw,ke,kpos⟩] p4) (some (.Name x p2)) p1.line C.X.env=pure false:=by rfl)
 (hf:C.X.fn x=true∨C.X.env.scope.names.lookup x=some .local:=by first | exact .inl rfl | exact .inr rfl | assumption)
 (hdb:(fn == ("__debug__":Str))=false:=by decide) (he:‹"b"›:=by rfl)
 (hpl:((backTo p4 (starEach (e::es) C.X.env)).any (·.1)||(backToKw p4 (keywordEach [⟨some kw,ke,kpos⟩] C.X.env)).any (·.1.isNone))=false:=by rfl):
 DU C i (.Assign [.Name x p2] (.Call (.Name fn p3) (e::es) [⟨some kw,ke,kpos⟩] p4) p1) (Qo3 i n dm m A E):=by
 obtain⟨f,fd,pn,ds,F,hm,hk,hb,hp,hd⟩:=h
 obtain⟨ta,pa,qa⟩:=ha
 obtain⟨te,pe,qe⟩:=hke
 refine⟨_,QwA hN hi hx (QNg F hr hg hm hk (kb_of hb hp hd) pass0 pa (QOM pe QQK) rfl rfl hdb he hpl) hs hf,fun G H σ ς W S q=>?_⟩
 unfold Qo3 at q
 rw[Out.post_bind]at q
 refine qa G H σ ς _ S (Out.post_mono q fun ds kk vs H1 G1 S1 a1 b1 r1=>?_)
 rw[Out.post_bind]at kk
 refine qe G1 H1 σ ς _ S1 (Out.post_mono kk fun d kk v1 H2 G2 S2 a2 b2 r2=>⟨gK n dm ds [d],G2,S2.sub,?_,?_⟩)
 ·have r3:=RepL.mono b2 _ _ r1
  unfold gK
  rw[r3.length]
  show RepL _ _ _ (if vs.length=n/\1=1 then _ else _) (if vs.length=n/\1=1 then _ else _)
  split
  ·exact r3.append ((Qit hsc).append ⟨_,_,rfl,r2,rfl⟩)
  ·rfl
 rw[Out.post_bind]at kk
 cases z:m (gK n dm ds [d]) with
 | stuck=>rw[z]at kk;exact kk.elim
 | exc y=>rw[z]at kk;exact absurd kk (hxd y)
 | ok d=>
  rw[z]at kk
  intro v H3 G3 g1 h1 s1 n1 tu
  exact QFj S2 (b1.trans b2) g1 h1 s1 n1 tu kk
end
theorem QNG{α:Type}{l:List α}{i:Nat}{a:α}(h:l[i]?=some a):l.set i a=l:=by
 apply List.ext_getElem?
 intro k
 rw[List.getElem?_set]
 split
 ·rename_i e
  subst e
  split
  ·exact h.symm
  ·rename_i hl
   rw[List.getElem?_eq_none (by omega)]at h
   cases h
 ·rfl
def QpD(i j:Nat)(M:‹"bg"›)(TC:SD->Out Bool)(R:SD->Out Fl)(TD:SD->Out Bool)(R' U:SD->Out Fl):SD->Out Fl:=fun ς=>M ς>>=fun r=>
 if (QhQ r.2&&decide (i<r.1.length)&&decide (j<r.1.length))=true then TC ‹"bJ"›>>=fun b=>if b=true then R ‹"bJ"›>>=onlyR else
  TD ‹"bJ"›>>=fun b=>if b=true then R' ‹"bJ"›>>=onlyR else U ((r.1.set i none).set j none) else .stuck
section
variable{C:Dc}{i j:Nat}{st sf:Stmt}{M:SD->Out (SD×List (List D))}{tc td:Expr}{TC TD:SD->Out Bool}{ra rb:List Stmt}{R R' U:SD->Out Fl}{rest:List Stmt}{p0 p1:Pos}
theorem QMF{G G5 H3:Hp}{σ:St}{ς:SD}{W W':Ends}{t3:TS}(hw:W'.rt=W.rt)(qr:∀ G H σ ς W,StR C G H σ ς->(R ς).post (FlK C G W) C.XD->t3 W σ H)(S6:StR C G5 H3 σ ς)(gg:Same G G5)(kb:(R ς>>=onlyR).post (FlK C G W) C.XD):t3 W' σ H3:=by
 obtain⟨wn,wr,wb,wc⟩:=W'
 cases hw
 refine qr G5 H3 _ _ _ S6 ?_
 rw[Out.post_bind]at kb
 refine Out.post_mono kb fun fl kf=>?_
 cases fl with
 | nx ς'=>exact kf.elim
 | bk ς'=>exact kf.elim
 | ct ς'=>exact kf.elim
 | rt b d=>exact FlK.later (show FlK C G W (.rt b d) from kf) gg
theorem QJi(hij:i≠j)(hu:DU C i st M)(hc:DT C tc TC)(hra:DSs C ra R)(hc':DT C td TD)(hrb:DSs C rb R')
 (hfor:∃ t,PS C.X sf t/\∀ G H σ ς (W:Ends) (p:Addr) (as:List Addr),StR C G H σ ς->ς[j]?=some none->σ[i]?=some ‹"aT"›->j<σ.length->H p=some ‹"dI"›->(∀ a∈as,C.X.H₀ a=none/\G a=none/\∀(k:Nat) d,ς[k]?=some (some (.o,d))->σ[k]?≠some (some (.ref a)))->(∀ a∈as,∃ vs:List V,H a=some (.lst vs)/\vs.length<100000)->as.Nodup->
  (∀ σ' H',StR C G H' σ' ς->W.nx σ' H')->t W σ H)
 (hrest:DSs C rest U):DSs C (st::.If tc ra [] p0::.If td rb [] p1::sf::rest) (QpD i j M TC R TD R' U):=by
 obtain⟨t1,pm,qm⟩:=hu
 obtain⟨t2,pt,qt⟩:=hc
 obtain⟨t3,pr,qr⟩:=hra
 obtain⟨t6,pt',qt'⟩:=hc'
 obtain⟨t7,pr',qr'⟩:=hrb
 obtain⟨t4,pf,qf⟩:=hfor
 obtain⟨t5,pu,qu⟩:=hrest
 refine⟨_,Qg8 pm (Qg8 (ps_if pt pr Qzi) (Qg8 (ps_if pt' pr' Qzi) (Qg8 pf pu))),fun G H σ ς W S q=>?_⟩
 unfold QpD at q
 rw[Out.post_bind]at q
 refine qm G H σ ς _ S (Out.post_mono q fun r kk=>?_)
 obtain⟨ς1,xss⟩:=r
 intro σ1 H2 G2 p as S2 b1 nt
 have S2:StR C G2 H2 σ1 ς1:=S2
 have nt:NewT C G2 H2 σ1 ς1 i xss p as:=nt
 obtain⟨hsl,hp0,hpg,hpt,ow,hne⟩:=nt
 rcases QQ kk with⟨hcc,kk⟩ | ⟨_,kk⟩
 case inr=>exact kk.elim
 rw[Bool.and_eq_true,Bool.and_eq_true]at hcc
 obtain⟨⟨hsh,hil⟩,hjl⟩:=hcc
 have hil:i<ς1.length:=of_decide_eq_true hil
 have hjl:j<ς1.length:=of_decide_eq_true hjl
 have hpa:p∉as:=fun hm=>by
  obtain⟨_,_,us,hu⟩:=ow.mem hm
  rw[hpt]at hu;cases hu
 obtain⟨G3,S3,g3,k3,r3⟩:=S2.freezeAs ow fun a hm=>hne a (.inr hm)
 have hG3:G3 p=none:=by rw[k3 p hpa];exact hpg
 have S4:=S3.freeze hpt hG3 hp0 (hne p (.inl rfl))
 have rp:Rep C.X.K C.CT (upd G3 p ‹"dI"›) (.tup (xss.map .lst)) (.ref p):=⟨p,as.map V.ref,rfl,.inl (.inl QM),RepL.mono (QB hG3) _ _ r3⟩
 have S5:=S4.set i rp
 rw[QNG hsl]at S5
 rw[Out.post_bind]at kk
 refine qt _ H2 _ _ _ S5 (Out.post_mono kk fun b kb H3 G5 S6 a6 b6=>?_)
 have gg:Same G G5:=b1.trans (g3.trans ((QB hG3).trans b6))
 cases b with
 | true=>exact iteT (QMF (R:=R) (W:=W) rfl qr S6 gg (show(R (ς1.set i (some (.k,.tup (xss.map .lst))))>>=onlyR).post (FlK C G W) C.XD from kb))
 | false=>
  refine iteF ?_
  have kb:(TD (ς1.set i ‹"az"›)>>=fun b=>if b=true then R' (ς1.set i ‹"az"›)>>=onlyR else U ((ς1.set i none).set j none)).post (FlK C G W) C.XD:=kb
  rw[Out.post_bind]at kb
  refine qt' _ H3 _ _ _ S6 (Out.post_mono kb fun b kb H4 G6 S8 a8 b8=>?_)
  cases b with
  | true=>exact iteT (QMF (R:=R') (W:=W) rfl qr' S8 (gg.trans b8) (show(R' (ς1.set i ‹"az"›)>>=onlyR).post (FlK C G W) C.XD from kb))
  | false=>
   refine iteF ?_
   have kb:(U ((ς1.set i none).set j none)).post (FlK C G W) C.XD:=kb
   have hlen:=S2.len
   have a9:Same H2 H4:=a6.trans a8
   have S7:StR C G2 H4 σ1 ((ς1.set i none).set j none):=((S2.forget i).grow a9 (Same.refl G2) (S2.sub.trans a9) fun b g n=>absurd g n).forget j
   refine qf G2 H4 _ _ _ p as S7 ?_ hsl (by omega) (a9 _ _ hpt) (fun a hm=>⟨(ow.mem hm).1,(ow.mem hm).2.1,fun n d hd=>?_⟩) (fun a hm=>?_) ow.nodup (fun σ' H' S'=>qu G2 H' σ' _ W S' (Out.post_mono kb fun f k=>FlK.later k b1))
   ·rw[List.getElem?_set]
    simp
    omega
   ·rcases Qs hd with⟨rfl,h2,l⟩ | ⟨nj,h2⟩
    ·cases h2
    ·rcases Qs h2 with⟨rfl,h3,l⟩ | ⟨ni,h3⟩
     ·cases h3
     ·exact hne a (.inr hm) n d h3
   ·obtain⟨us,hu,hul⟩:=OwnAs.short hsh ow hm
    exact⟨us,a9 _ _ hu,hul⟩
end
end DL
namespace DL
open PySem PySem.Spec PyProof.Rows L2
theorem QK{i j:Int}(h:0<j):dMod (.int i) (.int j)=.ok (.int (i % j)):=by
 show(if decide (j≠0)=true then Out.ok (D.int (i.fmod j)) else Out.stuck)=_
 rw[if_pos (decide_eq_true (by omega)),Int.fmod_eq_emod_of_nonneg i (by omega)]
theorem QNP{i j:Int}(h:j≠0)(hb:big j=true):dFdiv (.int i) (.int j)=.ok (.int (i.fdiv j)):=by
 show(if (decide (j≠0)&&big j)=true then Out.ok (D.int (i.fdiv j)) else Out.stuck)=_
 rw[if_pos (by rw[hb,decide_eq_true h];rfl)]
theorem QfC{i j:Int}(h:0<j)(hb:big j=true):dFdiv (.int i) (.int j)=.ok (.int (i / j)):=by
 rw[QNP (by omega) hb,Int.fdiv_eq_ediv_of_nonneg i (by omega)]
theorem Qlh{i:Int}{n:Nat}(h:i.natAbs<2 ^ n):bitsI i<=n:=PySem.intBits_le_iff.mpr h
theorem Qpt{i:Int}{n:Nat}(h:bitsI i<=n):i.natAbs<2 ^ n:=PySem.intBits_le_iff.mp h
theorem QPc{i j:Int}(h:bitsI i+bitsI j<=134217728):dMul (.int i) (.int j)=.ok (.int (i * j)):=by
 show(if decide (bitsI i+bitsI j<=134217728)=true then Out.ok (D.int (i * j)) else Out.stuck)=_
 rw[if_pos (decide_eq_true h)]
theorem QOH{i j:Int}{m n:Nat}(hi:bitsI i<=m)(hj:bitsI j<=n)(h:m+n<=134217728):dMul (.int i) (.int j)=.ok (.int (i * j)):=QPc (by omega)
theorem Qae(i j:Int):dAdd (.int i) (.int j)=.ok (.int (i+j)):=rfl
theorem QdV(i j:Int):dSub (.int i) (.int j)=.ok (.int (i - j)):=rfl
theorem Qex(i:Int):dNeg (.int i)=.ok (.int (-i)):=rfl
theorem QiK(i:Int):dAbs (.int i)=.ok (.int (i.natAbs:Int)):=by
 show Out.ok (D.int (if i<0 then -i else i))=_
 congr 2;split<;>omega
theorem QbC(i j:Int):dLt (.int i) (.int j)=.ok (.bl (decide (i<j))):=rfl
theorem Qf6(i j:Int):dLe (.int i) (.int j)=.ok (.bl (decide (i<=j))):=rfl
theorem Qee(i j:Int):dGt (.int i) (.int j)=.ok (.bl (decide (j<i))):=rfl
theorem Qlg(i j:Int):dGe (.int i) (.int j)=.ok (.bl (decide (j<=i))):=rfl
theorem QIb{i j:Int}(h:(decide (0<=j)&&decide (j<=1000000)&&decide (i.natAbs<2 ^ 64))=true):dPow (.int i) (.int j)=.ok (.int (i ^ j.toNat)):=by
 show(if _=true then Out.ok (D.int (i ^ j.toNat)) else Out.stuck)=_
 rw[if_pos h]
mutual
def layD:D->Bool
 | .non=>true
 | .bl _=>true
 | .int _=>true
 | .str x=>PyData.strOk x
 | .lst xs=>layDs xs
 | .tup xs=>layDs xs
 | _=>false
def layDs:List D->Bool
 | []=>true
 | x::xs=>layD x&&layDs xs
end
mutual
def dep:D->Nat
 | .lst xs=>deps xs+1
 | .tup xs=>deps xs+1
 | _=>0
def deps:List D->Nat
 | []=>0
 | x::xs=>max (dep x) (deps xs)
end
mutual
theorem QLX:∀ d:D,layD d=true->d.py.canLay0=true
 | .non,_=>rfl
 | .bl _,_=>rfl
 | .int _,_=>rfl
 | .str x,h=>h
 | .lst xs,h=>Qyk xs h
 | .tup xs,h=>Qyk xs h
theorem Qyk:∀ ds:List D,layDs ds=true->PyData.canLayAll0 (D.pys ds)=true
 | [],_=>rfl
 | x::xs,h=>by
  rw[layDs,Bool.and_eq_true]at h
  rw[D.pys,PyData.canLayAll0,Bool.and_eq_true]
  exact⟨QLX x h.1,Qyk xs h.2⟩
end
mutual
theorem QMk:∀ d:D,layD d=true->d.py.depth=dep d
 | .non,_=>rfl
 | .bl _,_=>rfl
 | .int _,_=>rfl
 | .str x,h=>rfl
 | .lst xs,h=>by rw[D.py,PyData.depth,dep,QxP xs h]
 | .tup xs,h=>by rw[D.py,PyData.depth,dep,QxP xs h]
theorem QxP:∀ ds:List D,layDs ds=true->PyData.depthAll (D.pys ds)=deps ds
 | [],_=>rfl
 | x::xs,h=>by
  rw[layDs,Bool.and_eq_true]at h
  rw[D.pys,PyData.depthAll,deps,QMk x h.1,QxP xs h.2]
end
theorem QEP{d:D}(h:layD d=true)(hd:dep d<=64):shp d=true:=by
 unfold shp SeqAt.shaped
 rw[QLX d h,QMk d h]
 simpa using hd
theorem QtN(i:Int):shp (.int i)=true:=QEP rfl (Nat.zero_le _)
theorem QEZ{x y:D}(hx:shp x=true)(hy:shp y=true):dEq x y=.ok (.bl (PyData.eqv x.py y.py)):=by
 unfold dEq;rw[hx,hy];rfl
theorem Qxg{x y:D}(hx:shp x=true)(hy:shp y=true):dNe x y=.ok (.bl (!PyData.eqv x.py y.py)):=by
 unfold dNe;rw[hx,hy];rfl
theorem QIa(i j:Int):(i == j)=decide (i=j):=by
 by_cases h:i=j
 ·subst h;simp
 ·simp[h]
theorem Q0(i j:Int):dEq (.int i) (.int j)=.ok (.bl (decide (i=j))):=by
 rw[QEZ (QtN i) (QtN j), ← QIa]
 rfl
theorem QcW(i j:Int):dNe (.int i) (.int j)=.ok (.bl (!decide (i=j))):=by
 rw[Qxg (QtN i) (QtN j), ← QIa]
 rfl
theorem Qdx{n:Nat}(h:n<=1000:=by decide):fits n=true:=decide_eq_true (Nat.le_trans h (by decide))
theorem ixT{xs:List D}{x:D}(k:Nat)(h:xs[k]?=some x):dIx (.tup xs) ‹"cw"›=.ok x:=by
 show optO (atI xs (k:Int))=_
 rw[Qyl h];rfl
theorem ixL{xs:List D}{x:D}(k:Nat)(h:xs[k]?=some x):dIx (.lst xs) ‹"cw"›=.ok x:=by
 show optO (atI xs (k:Int))=_
 rw[Qyl h];rfl
theorem QPX{α:Type}(xs:List α)(i k:Nat):cutD xs (some (i:Int)) (some (k:Int))=(xs.drop i).take (k - i):=by
 unfold cutD
 rw[HT.sIx_nat,HT.sIx_nat]
 by_cases h:i<=xs.length
 ·rw[Nat.min_eq_left h]
  by_cases h2:k<=xs.length
  ·rw[Nat.min_eq_left h2]
  ·rw[Nat.min_eq_right (by omega),List.take_of_length_le (by rw[List.length_drop];exact Nat.le_refl _),List.take_of_length_le (by rw[List.length_drop];omega)]
 ·rw[show min i xs.length=xs.length by omega,List.drop_length,List.drop_eq_nil_of_le (by omega:xs.length<=i)];simp
theorem QO6{xs ys:List D}(h:xs.length+ys.length<=1000):dCat (.lst xs) (.lst ys)=.ok (.lst (xs++ys)):=by
 show(if fits _=true then _ else _)=_
 rw[if_pos (Qdx h)]
theorem Qcw{g:D->SD->Out SD}{its:‹"ak"›}{T:SD->Out Fl}{ς:SD}{xs:List D}{r:Out Fl}(h:its ς=.ok xs)(hL:loopD ‹"ai"› xs ς=r):sFor g its T ς=r:=by
 unfold sFor
 rw[h];exact hL
theorem Qcb{A:SD->Out D}{ς:SD}(m:Nat)(h:A ς=.ok (.int (m:Int)))(hm:m<=1000000):itR1 A ς=.ok (QbT 0 m):=by
 have hs:Qo8 (m:Int)=true:=by
  unfold Qo8
  rw[Bool.and_eq_true]
  exact⟨decide_eq_true (by omega),decide_eq_true (by omega)⟩
 unfold itR1
 rw[h,Out.bind_ok]
 simp only[hs,if_true,Int.toNat_natCast]
end DL
namespace DL
open PySem PySem.Spec PyProof.Rows L2
theorem Qcm{body:D->SD->Out Fl}{P:Nat->SD->Prop}{n:Nat}(h:∀ k:Nat,k<n->∀ ς,P k ς->∃ ς',body ‹"cw"› ς=.ok (.nx ς')/\P (k+1) ς'):∀ ς,P 0 ς->∃ ς',loopD body (QbT 0 n) ς=.ok (.nx ς')/\P n ς':=by
 have key:∀(j:Nat)(k:Nat),k+j=n->∀ ς,P k ς->∃ ς',loopD body ((List.range' k j).map fun(i:Nat)=>D.int ((0:Int)+i)) ς=.ok (.nx ς')/\P n ς':=by
  intro j
  induction j with
  | zero=>
   intro k hk ς p
   have:k=n:=by omega
   subst this
   exact⟨ς,rfl,p⟩
  | succ j ih=>
   intro k hk ς p
   obtain⟨ς1,e1,p1⟩:=h k (by omega) ς p
   obtain⟨ς2,e2,p2⟩:=ih (k+1) (by omega) ς1 p1
   refine⟨ς2,?_,p2⟩
   rw[List.range'_succ,List.map_cons,loopD,Int.zero_add,e1]
   exact e2
 intro ς p
 have:=key n 0 (by omega) ς p
 unfold QbT
 rw[List.range_eq_range']
 exact this
theorem QvR{f:D->Out (Option D)}{h:D->Option D}:∀{xs:List D},(∀ x∈xs,f x=.ok (h x))->compM f xs=.ok (xs.filterMap h)
 | [],_=>rfl
 | x::xs,hf=>by
  rw[compM,hf x List.mem_cons_self,Out.bind_ok,QvR (xs:=xs) (fun y hy=>hf y (List.mem_cons_of_mem _ hy)),Out.bind_ok,List.filterMap_cons]
  cases h x<;>rfl
theorem Qtl{α:Type}(f:α->Bool):∀ xs:List α,blsOf (xs.map fun x=>D.bl (f x))=some (xs.map f)
 | []=>rfl
 | x::xs=>by rw[List.map_cons,blsOf,Qtl f xs];rfl
theorem Qik{α:Type}(f:α->Bool)(xs:List α):fAll (.lst (xs.map fun x=>D.bl (f x)))=.ok (.bl (xs.all f)):=by
 rw[fAll,Qtl]
 show Out.ok (D.bl ((xs.map f).all id))=_
 rw[List.all_map];rfl
theorem QM7{α:Type}(f:α->Bool)(xs:List α):fAny (.lst (xs.map fun x=>D.bl (f x)))=.ok (.bl (xs.any f)):=by
 rw[fAny,Qtl]
 show Out.ok (D.bl ((xs.map f).any id))=_
 rw[List.any_map];rfl
theorem Qhe{n:Nat}(h:n<=1000):fits n=true:=Qdx h
theorem QOT(z:Str):z.cps.toList.length=z.length:=by simp[Str.length]
end DL
namespace DL
open PySem PySem.Spec L2
section
variable{i j:Nat}{d x y:D}{m:SM}{ς ς' ς1:SD}{E A B:SD->Out D}{AA:SD->Out (List D)}{f:D->Out D}{g:D->D->Out D}{h:List D->Out D}{r:Out D}{xs ys:List D}{T U:SD->Out Fl}{P Q:SD->Out Bool}{b c:Bool}{fl:Fl}{rf:Out Fl}{rb:Out Bool}
theorem r_var(e:ς[i]?=some (some (.k,d))):eVar i ς=.ok d:=by unfold eVar;rw[e]
theorem Qdg(e:ς[i]?=some (some (m,d))):eVarB i ς=.ok d:=by unfold eVarB;rw[e]
theorem r_C:eC d ς=.ok d:=rfl
theorem r_e1(a:A ς=.ok x)(k:f x=r):e1 f A ς=r:=by unfold e1;rw[a];exact k
theorem r_e2(a:A ς=.ok x)(a':B ς=.ok y)(k:g x y=r):e2 g A B ς=r:=by unfold e2;rw[a,Out.bind_ok,a'];exact k
theorem r_eA(a:AA ς=.ok xs)(k:h xs=r):eA h AA ς=r:=by unfold eA;rw[a];exact k
theorem Qaj{dd:List D}(a:AA ς=.ok xs)(e:xs++dd=ys)(k:h ys=r):eA (fun xs=>h (xs++dd)) AA ς=r:=by unfold eA;rw[a];show h (xs++dd)=r;rw[e];exact k
theorem r_nil:aNil ς=.ok []:=rfl
theorem Qe(a:A ς=.ok x)(k:AA ς=.ok xs):aCons A AA ς=.ok (x::xs):=by unfold aCons;rw[a,Out.bind_ok,k];rfl
theorem r_tup(a:AA ς=.ok xs)(k:xs.length<=1000):eTup AA ς=.ok (.tup xs):=by unfold eTup;rw[a,Out.bind_ok,if_pos (Qhe k)]
theorem r_lst(a:AA ς=.ok xs)(k:xs.length<=1000):eLst AA ς=.ok (.lst xs):=by unfold eLst;rw[a,Out.bind_ok,if_pos (Qhe k)]
theorem QH(a:A ς=.ok (.bl b)):tVal A ς=.ok b:=by unfold tVal;rw[a];rfl
theorem Qmp(a:P ς=.ok b):tNot' P ς=.ok (!b):=by unfold tNot';rw[a];rfl
theorem r_or'(a:P ς=.ok b)(k:(if b=true then .ok true else Q ς)=rb):tOr' P Q ς=rb:=by unfold tOr';rw[a];exact k
theorem Qh3(a:P ς=.ok b)(k:(if b=true then Q ς else .ok false)=rb):tAnd' P Q ς=rb:=by unfold tAnd';rw[a];exact k
theorem QDv(a:A ς=.ok (.bl b))(k:(if b=true then B ς else .ok (.bl false))=r):eAnd A B ς=r:=by unfold eAnd;rw[a];cases b<;>exact k
theorem r_eIf(a:P ς=.ok b)(k:(if b=true then A ς else B ς)=r):eIf P A B ς=r:=by unfold eIf;rw[a];exact k
theorem r_isa{F:D->Out Bool}(a:A ς=.ok x)(k:F x=.ok b):eIsa F A ς=.ok (.bl b):=by unfold eIsa;rw[a,Out.bind_ok,k];rfl
theorem QOV{g':D->D->Out D}{E':SD->Out D}(a:A ς=.ok x)(a':B ς=.ok y)(k:g x y=.ok (.bl b))(k':(if b=true then E' ς>>=fun w=>g' y w else .ok (.bl false))=r):Qdt g g' A B E' ς=r:=by unfold Qdt;rw[a,Out.bind_ok,a',Out.bind_ok,k];cases b<;>exact k'
theorem QQP{z:D}(a:E ς=.ok z)(k:f z=r):(E ς>>=fun w=>f w)=r:=by rw[a];exact k
theorem r_set(a:E ς=.ok d)(k:ς.set i (some (.k,d))=ς'):sSet i E ς=.ok (.nx ς'):=by unfold sSet;rw[a,Out.bind_ok,k]
theorem Qeg(a:E ς=.ok d)(k:ς.set i (some (.o,d))=ς'):sSetO i E ς=.ok (.nx ς'):=by unfold sSetO;rw[a,Out.bind_ok,k]
theorem r_seq(a:T ς=.ok fl)(k:thenF U fl=rf):sSeq T U ς=rf:=by unfold sSeq;rw[a];exact k
theorem r_okR{α:Type}{a:α}:(Out.ok a)=Out.ok a:=rfl
theorem Ql(k:U ς=rf):thenF U (.nx ς)=rf:=k
theorem Qpj{z:Bool}:thenF U (.rt z d)=.ok (.rt z d):=rfl
theorem r_if(a:P ς=.ok b)(k:(if b=true then T ς else U ς)=rf):sIf P T U ς=rf:=by unfold sIf;rw[a];exact k
theorem Qdw{α:Type}{u v w:α}(a:b=true)(k:u=w):(if b=true then u else v)=w:=by rw[if_pos a];exact k
theorem QbO{α:Type}{u v w:α}(a:b=false)(k:v=w):(if b=true then u else v)=w:=by subst a;exact k
theorem r_ret(a:E ς=.ok d):sRet E ς=.ok (.rt false d):=by unfold sRet;rw[a];rfl
theorem Qs0(a:E ς=.ok d):sRetF E ς=.ok (.rt true d):=by unfold sRetF;rw[a];rfl
theorem QCK(e:ς[i]?=some (some (.o,d))):sRetO i ς=.ok (.rt true d):=by unfold sRetO;rw[e]
theorem QcJ:sNil ς=.ok (.nx ς):=rfl
theorem QIj{n:Nat}(k:n<=1000):decide (n<sizeLine)=true:=decide_eq_true (Nat.lt_of_le_of_lt k (by decide))
theorem r_app(e:ς[i]?=some (some (.o,.lst xs)))(a:E ς=.ok d)(k:xs.length<=1000)(l:ς.set i (some (.o,.lst (xs++[d])))=ς'):Qb3 i E ς=.ok (.nx ς'):=by
 unfold Qb3;rw[e];show(E ς>>=fun d=>if decide (xs.length<sizeLine)=true then _ else _)=_;rw[a,Out.bind_ok,if_pos (QIj k),l]
theorem r_put{I:SD->Out D}{k:Int}(a:E ς=.ok d)(e:ς[i]?=some (some (.o,.lst xs)))(a':I ς=.ok (.int k))(q:ixN xs.length k=some j)(l:ς.set i (some (.o,.lst (xs.set j d)))=ς'):sPutO i I E ς=.ok (.nx ς'):=by
 unfold sPutO;rw[a,Out.bind_ok,e]
 show(I ς>>=_)=_
 rw[a',Out.bind_ok]
 show(optO (ixN xs.length k)>>=_)=_
 rw[q]
 show Out.ok (Fl.nx (ς.set i (some (.o,.lst (xs.set j d)))))=_
 rw[l]
theorem QC5{o:Out D}(a:o=.ok d)(k:d.scal=true):Qpu o=.ok d:=by unfold Qpu;rw[a,Out.bind_ok,if_pos k]
theorem QzQ{o:Out D}(a:o=.ok d)(k:d.scal=false):QpK o=.ok d:=by unfold QpK;rw[a,Out.bind_ok,k];rfl
theorem r_noX{α:Type}{o:Out α}{a:α}(k:o=.ok a):noX o=.ok a:=by rw[k];rfl
theorem r_sl{l u:SD->Out (Option Int)}{p q:Option Int}(a:A ς=.ok (.lst xs))(k1:l ς=.ok p)(k2:u ς=.ok q)(e:cutD xs p q=ys):eSl A l u ς=.ok (.lst ys):=by unfold eSl;rw[a,Out.bind_ok,k1,Out.bind_ok,k2,Out.bind_ok];show Out.ok (D.lst _)=_;rw[e]
theorem QyZ{k:Int}(a:E ς=.ok (.int k)):oSome E ς=.ok (some k):=by unfold oSome;rw[a];rfl
theorem QzH:Qax [] [] ς=.ok ς:=rfl
theorem QzW{is:List Nat}{rs:Out SD}(a:ς.set i (some (.k,d))=ς1)(k:Qax is ys ς1=rs):Qax (i::is) (d::ys) ς=rs:=by show Qax is ys (ς.set i (some (.k,d)))=rs;rw[a];exact k
theorem r_unp{is:List Nat}(a:E ς=.ok (.tup ys))(k:Qax is ys ς=.ok ς'):sUnp is E ς=.ok (.nx ς'):=by unfold sUnp;rw[a,Out.bind_ok];show(Qax is ys ς>>=_)=_;rw[k];rfl
theorem Qbe{fr:Bool}(a:T ς=.ok fl)(k:retF fr fl=r):(T ς>>=retF fr)=r:=by rw[a];exact k
theorem r_rt{z:Bool}:retF false (.rt z d)=.ok d:=by unfold retF;simp
theorem r_rtT:retF true (.rt true d)=.ok d:=by unfold retF;simp
theorem r_gN{L:SD->Out Fl}(a:ς.set i (some (.k,d))=ς1)(k:L ς1=rf):(gN i d ς>>=fun ς'=>L ς')=rf:=by unfold gN;rw[a];exact k
theorem r_gT{L:SD->Out Fl}{is:List Nat}(a:Qax is ys ς=.ok ς1)(k:L ς1=rf):(gT is (.tup ys) ς>>=fun ς'=>L ς')=rf:=by unfold gT;show(Qax is ys ς>>=fun ς'=>L ς')=rf;rw[a];exact k
theorem QLJ{cl:Str}{fds:List (Str×D)}{mk:‹"Y"›}(a:AA ς=.ok xs)(k:mk cl [] xs=.ok fds):eMake cl mk AA ς=.ok (.ins cl fds):=by unfold eMake;rw[a,Out.bind_ok,k];rfl
theorem QO3{cs:List Str}{n cl:Str}{fds fds':List (Str×D)}{mk:‹"Y"›}(e:ς[i]?=some (some (.s,.ins cl fds)))(k1:cs.contains cl=true)(k2:fds.lookup n=none)(a:AA ς=.ok xs)(k:mk cl fds xs=.ok fds')(l:ς.set i (some (.s,.ins cl fds'))=ς'):QjH cs n mk i AA ς=.ok (.nx ς'):=by
 unfold QjH;rw[e]
 show(if (cs.contains cl&&(fds.lookup n).isNone)=true then _ else _)=_
 rw[k1,k2]
 show(AA ς>>=_)=_
 rw[a,Out.bind_ok,k,Out.bind_ok,l]
theorem r_itL(a:E ς=.ok (.lst xs)):itL E ς=.ok xs:=by unfold itL;rw[a];rfl
theorem r_itE(a:E ς=.ok (.lst xs)):itE E ς=.ok (enumD 0 xs):=by unfold itE;rw[a];rfl
end
theorem QP4{T:SD->Out Fl}{ς τ:SD}{c:Str}{fds:List (Str×D)}(a:T ς=.ok (.nx (some (.s,.ins c fds)::τ))):(T ς>>=QfF c)=.ok fds:=by
 rw[a];simp[QfF,QsG]
theorem c_nil{ς:SD}:captD [] ς=[]:=rfl
theorem Qe4{ς τ:SD}{js:‹"O"›}(k:captD js ς=τ):captD (none::js) ς=none::τ:=by rw[← k];rfl
theorem c_k{ς τ:SD}{js:‹"O"›}{j:Nat}{d:D}(e:ς[j]?=some (some (.k,d)))(k:captD js ς=τ):captD (some j::js) ς=some (.k,d)::τ:=by
 rw[← k];show captS ς j::_=_;unfold captS;rw[e];rfl
theorem Qav{js:‹"O"›}{i:Nat}{e:SD->Out D}{ς τ0 τ:SD}{x d:D}(c:captD js ς=τ0)(a:τ0.set i (some (.k,x))=τ)(k:e τ=.ok d):turnC js (gN i) cTrue e ς x=.ok (some d):=by
 unfold turnC gN cTrue
 rw[c,a,Out.bind_ok,Out.bind_ok,if_pos rfl,k];rfl
theorem QH5{js:‹"O"›}{is:List Nat}{e:SD->Out D}{ς τ0 τ:SD}{xs:List D}{d:D}(c:captD js ς=τ0)(a:Qax is xs τ0=.ok τ)(k:e τ=.ok d):turnC js (gT is) cTrue e ς (.tup xs)=.ok (some d):=by
 unfold turnC gT cTrue
 show((Qax is xs (captD js ς))>>=_)=_
 rw[c,a,Out.bind_ok,Out.bind_ok,if_pos rfl,k];rfl
theorem QOr{js:‹"O"›}{i:Nat}{q:SD->Out Bool}{e:SD->Out D}{ς τ0 τ:SD}{x d:D}{b:Bool}(c:captD js ς=τ0)(a:τ0.set i (some (.k,x))=τ)(h:q τ=.ok b)(k:e τ=.ok d):turnC js (gN i) q e ς x=.ok (if b=true then some d else none):=by
 unfold turnC gN
 rw[c,a,Out.bind_ok,h,Out.bind_ok,k];cases b<;>rfl
theorem QNN{js:‹"O"›}{is:List Nat}{q:SD->Out Bool}{e:SD->Out D}{ς τ0 τ:SD}{xs:List D}{d:D}{b:Bool}(c:captD js ς=τ0)(a:Qax is xs τ0=.ok τ)(h:q τ=.ok b)(k:e τ=.ok d):turnC js (gT is) q e ς (.tup xs)=.ok (if b=true then some d else none):=by
 unfold turnC gT
 show((Qax is xs (captD js ς))>>=_)=_
 rw[c,a,Out.bind_ok,h,Out.bind_ok,k];cases b<;>rfl
theorem Qas{α:Type}{js:‹"O"›}{its:‹"ak"›}{g:D->SD->Out SD}{e:SD->Out D}{ς:SD}{l:List α}(f:α->D)(h:α->D)(hi:its ς=.ok (l.map f))(ht:∀ x∈l,turnC js g cTrue e ς (f x)=.ok (some (h x)))(hl:l.length<=1000):
 eComp js its g cTrue e ς=.ok (.lst (l.map h)):=by
 have go:∀ l:List α,(∀ x∈l,turnC js g cTrue e ς (f x)=.ok (some (h x)))->compM (turnC js g cTrue e ς) (l.map f)=.ok (l.map h):=by
  intro l
  induction l with
  | nil=>intro _;rfl
  | cons x xs ih=>
   intro H
   have h1:=H x ‹"dO"›
   have h2:=ih fun y hy=>H y (List.mem_cons_of_mem _ hy)
   show compM (turnC js g cTrue e ς) (f x::xs.map f)=_
   unfold compM
   rw[h1,Out.bind_ok,h2];rfl
 unfold eComp
 rw[hi,Out.bind_ok,go l ht,Out.bind_ok,if_pos (Qhe (by rw[List.length_map];exact hl))]
theorem Ql1{js:‹"O"›}{its:‹"ak"›}{g:D->SD->Out SD}{e:SD->Out D}{ς:SD}{n:Nat}(h:Nat->D)(hi:its ς=.ok (QbT 0 n))(ht:∀ k:Nat,k<n->turnC js g cTrue e ς ‹"cw"›=.ok (some (h k)))(hl:n<=1000):
 eComp js its g cTrue e ς=.ok (.lst ((List.range n).map h)):=by
 refine Qas (fun i:Nat=>D.int (0+(i:Int))) h hi (fun k hk=>?_) (by rw[List.length_range];exact hl)
 show turnC js g cTrue e ς (.int (0+(k:Int)))=_
 rw[Int.zero_add]
 exact ht k (List.mem_range.mp hk)
theorem r_get{ς:SD}{i:Nat}{m:SM}{d:D}(h:ς[i]?=some (some (m,d))):ς[i]?=some (some (m,d)):=h
theorem r_len{n:Nat}(h:n<=1000):n<=1000:=h
theorem QQQ{i:Int}{n:Nat}(h:bitsI i<=n):bitsI i<=n:=h
theorem r_dec{m n:Nat}(h:decide (m<=n)=true):decide (m<=n)=true:=h
theorem r_id{α:Type}{a b:α}(h:a=b):a=b:=h
theorem QOy{n:Str}:List.lookup n ([]:List (Str×D))=none:=rfl
theorem QPx{α:Type}{x:α}{xs:List α}:(x::xs)[0]?=some x:=rfl
theorem QPS{α:Type}{x:α}{xs:List α}{n:Nat}{r:Option α}(h:xs[n]?=r):(x::xs)[n+1]?=r:=by rw[List.getElem?_cons_succ];exact h
theorem QMh{α:Type}{x y:α}{xs:List α}:(x::xs).set 0 y=y::xs:=rfl
theorem QLj{α:Type}{x y:α}{xs ys:List α}{n:Nat}(h:xs.set n y=ys):(x::xs).set (n+1) y=x::ys:=by rw[List.set_cons_succ,h]
theorem QQr{α:Type}{ys:List α}:[]++ys=ys:=rfl
theorem QPL{α:Type}{x:α}{xs ys zs:List α}(h:xs++ys=zs):x::xs++ys=x::zs:=by rw[List.cons_append,h]
theorem QCP{i:Int}(h:decide (i.natAbs<2 ^ 300)=true):bitsI i<=300:=Qlh (of_decide_eq_true h)
theorem QPD{i j:Int}{m n:Nat}(a:bitsI i<=m)(b:bitsI j<=n):bitsI (i+j)<=m+n+1:=by
 have a:=Qpt a
 have b:=Qpt b
 refine Qlh ?_
 have c1:2 ^ m<=2 ^ (m+n):=Nat.pow_le_pow_right (by decide) (by omega)
 have c2:2 ^ n<=2 ^ (m+n):=Nat.pow_le_pow_right (by decide) (by omega)
 rw[Nat.pow_succ]
 omega
theorem QP2{i j:Int}{m n:Nat}(a:bitsI i<=m)(b:bitsI j<=n):bitsI (i * j)<=m+n:=by
 have a:=Qpt a
 have b:=Qpt b
 refine Qlh ?_
 rw[Int.natAbs_mul,Nat.pow_add]
 exact Nat.mul_lt_mul'' a b
theorem QPm{i j:Int}{n:Nat}(h:0<j)(b:bitsI j<=n):bitsI (i % j)<=n:=by
 have b:=Qpt b
 have h1:=Int.emod_nonneg i (show j≠0 by omega)
 have h2:=Int.emod_lt_of_pos i h
 exact Qlh (by omega)
theorem QPp{n m:Nat}(h:n<2 ^ m):bitsI (n:Int)<=m:=Qlh (by simpa using h)
theorem bd_in{i:Int}{n:Nat}(h0:0<=i)(h:i<2 ^ n):bitsI i<=n:=Qlh (by
 have:((2 ^ n:Nat):Int)=2 ^ n:=by simp
 omega)
theorem r_mul{i j:Int}{m n:Nat}(hi:bitsI i<=m)(hj:bitsI j<=n)(h:decide (m+n<=134217728)=true):dMul (.int i) (.int j)=.ok (.int (i * j)):=QOH hi hj (of_decide_eq_true h)
end DL
set_option maxHeartbeats 4000000
namespace My
open PySem PySem.Spec L2 DL
set_option hygiene false
local macro_rules
 | `("e"^$q $s $k $b) => `(DefOk P w K mg base CT $s $k $b [] $q)
 | `("f"^$k $l $b $q) => `(FnOk P w K mg base CX0 $k f fd $l (SpD K CT $b $q))
set_option hygiene true
def top(i:Nat):Stmt:=PySem.Challenge.pw_dockethall_k34_served_by_picks.main.body.getD i (.Pass ⟨0,0,0,0⟩)
def Qm:List Str:=["Deal","Bundle","Copy","Rows","Office"]
def Qf:List Str:=["Deal","Bundle","Copy","Rows"]
def Q4:List Str:=["Office"]
abbrev Qch:Stmt:=top 50
theorem QFk:Qr ["_law_script","_law_k"] ["_law_script","_law_k"] (Qa Qch):=⟨rfl,rfl,rfl,dk,rfl,dk,dk⟩
noncomputable section
abbrev Lo(s:Stmt)(n:String):Prop:=(Qa s).names.lookup (n:Str)=some NameKind.local
abbrev Gl(s:Stmt)(n:String):Prop:=(Qa s).names.lookup (n:Str)=some NameKind.globalImplicit
variable{P:Program}{w:World}{K:W.Frag}{mg:Str->Option Value}{base:Heap}{CT:CTab}{f:Addr}{fd:FuncData}{dV:Value}
theorem QkF:Lo Qch "_law_k":=dk
theorem Qgz:Lo Qch "_law_script":=dk
theorem QxU:Gl Qch "len":=dk
def Qhp:SD->Out Fl:=(sSeq (sIf (tVal (e2 dLt (eVar 1) ‹"G"›)) (sRet (e2 dIx (eVar 0) (eVar 1))) sNil) (sRet (eC (.int 0))))
def Q7:List D->Out D:=bodyF false 2 2 Qhp
theorem Qw2(d0 d1:D):Q7 [d0,d1]=(Qhp ‹"K"›>>=retF false):=rfl
theorem QJN(F:FunV K "_law_cell" "_law_cell" Qch f fd dV)(z_len:mg "len"=none):"f"^1 ["_law_script","_law_k"] false Q7:=
 @fnV P w K mg base CT false "_law_cell" "_law_cell" Qch f fd dV ["_law_script","_law_k"] ["_law_script","_law_k"] 0 Qhp F QFk fun cdv A outer s H E G hr=>
  (Qg (ds_if (dt_lt (DE.db (Qb 1 rfl (oi QkF))) (DE.db (Q6 QxU z_len (Qu (DE.db (Qb 0 rfl (oi Qgz))) Qz)))) (Qh (QE (de_ix (Qb 0 rfl (oi Qgz)) (DE.db (Qb 1 rfl (oi QkF)))))) QZ) (Qh (QE Qd)))
abbrev QbN:Stmt:=top 52
theorem QhL:Qr ["_law_cell_here","_law_k","_law_number"] ["_law_cell_here","_law_k"] (Qa QbN):=⟨rfl,rfl,rfl,dk,rfl,dk,dk⟩
theorem Qkl:Lo QbN "_law_cell_here":=dk
theorem Qbz:Lo QbN "_law_k":=dk
theorem Qaf:Lo QbN "_law_number":=dk
def Qjd:SD->Out Fl:=(sSeq (sSet 2 ‹"S"›) (sSeq (sSet 2 (e2 dMod (eVar 2) (eC (.int 2305843009213693951)))) (sSeq (sSet 2 ‹"aB"›) (sRet (e2 dMod (e2 dMul (eVar 2) (eVar 2)) (eC (.int 2305843009213693951)))))))
def QdG:List D->Out D:=bodyF false 2 3 Qjd
theorem QHt(d0 d1:D):QdG [d0,d1]=(Qjd [some (.k,d0),some (.k,d1),none]>>=retF false):=rfl
theorem QGs(F:FunV K "_law_mixed" "_law_mixed" QbN f fd dV)  : "f"^1 ["_law_cell_here","_law_k"] false QdG:=
 @fnV P w K mg base CT false "_law_mixed" "_law_mixed" QbN f fd dV ["_law_cell_here","_law_k","_law_number"] ["_law_cell_here","_law_k"] 0 Qjd F QhL fun cdv A outer s H E G hr=>
  (Qg (QG (i:=2) QhL.nd rfl (oi Qaf) (QaH (DE.db (QaH (DE.db (QhN (DE.db (QaH (DE.db (QV (DE.db (Qb 0 rfl (oi Qkl))) (DE.db Qd))) (DE.db Qd))) (DE.db Qd))) (DE.db (QhN (DE.db (QhN (DE.db Qd) ‹"cr"›)) ‹"cr"›)))) (DE.db (QhN (DE.db Qd) ‹"cr"›)))) (Qg (QG (i:=2) QhL.nd rfl (oi Qaf) (QV ‹"dy"› (DE.db Qd))) (Qg (QG (i:=2) QhL.nd rfl (oi Qaf) (QV (DE.db (QaH (DE.db (QaH (DE.db (QhN ‹"dy"› ‹"dy"›)) (DE.db (QhN (DE.db (QhN (DE.db Qd) ‹"cr"›)) ‹"cr"›)))) ‹"cr"›)) (DE.db Qd))) (Qh (QE (QV (DE.db (QhN ‹"dy"› ‹"dy"›)) (DE.db Qd)))))))
abbrev Qaz:Stmt:=top 53
theorem Qe6:Qr ["_law_cell_here","_law_many","_law_found","_law_number","_law_k"] ["_law_cell_here","_law_many"] (Qa Qaz):=⟨rfl,rfl,rfl,dk,rfl,dk,dk⟩
theorem Qca:Lo Qaz "_law_found":=dk
theorem Qcn:Lo Qaz "_law_cell_here":=dk
theorem QbY:Lo Qaz "_law_number":=dk
theorem Qov:Lo Qaz "_law_many":=dk
theorem QrZ:Gl Qaz "range":=dk
theorem Qii:Lo Qaz "_law_k":=dk
theorem QmA:Gl Qaz "_law_mixed":=dk
def Qd2:SD->Out Fl:=(sIf (tVal (e2 dEq (e2 dMod (eVar 0) (eC (.int 2))) (eC (.int 0)))) (sSeq (Qb3 2 (e2 dMod (eVar 3) (e2 dPow (eC (.int 10)) (eC (.int 6))))) (sSet 3 (e2 dFdiv (eVar 3) (e2 dPow (eC (.int 10)) (eC (.int 6)))))) (Qb3 2 (e2 dMod (eA (fun xs=>QdG (xs++[])) (aCons (eVar 0) (aCons (eVar 4) aNil))) (e2 dPow (eC (.int 10)) (eC (.int 6))))))
def Qic:SD->Out Fl:=(sSeq (sSetO 2 (eLst aNil)) (sSeq (sSet 3 (e2 dFdiv (eVar 0) (eC (.int 2)))) (sSeq (sFor (gN 4) (itR1 (eVar 1)) Qd2) (sRetO 2))))
def QY:List D->Out D:=bodyF true 2 5 Qic
theorem QB4(d0 d1:D):QY [d0,d1]=(Qic [some (.k,d0),some (.k,d1),none,none,none]>>=retF true):=rfl
theorem QCa(F:FunV K "_law_digits" "_law_digits" Qaz f fd dV)(QHg:"e"^QdG "_law_mixed" 1 false)(z_range:‹"dL"›):"f"^2 ["_law_cell_here","_law_many"] true QY:=
 @fnV P w K mg base CT true "_law_digits" "_law_digits" Qaz f fd dV ["_law_cell_here","_law_many","_law_found","_law_number","_law_k"] ["_law_cell_here","_law_many"] 1 Qic F Qe6 fun cdv A outer s H E G hr=>
  (Qg (Qcf (i:=2) Qe6.nd rfl (oi Qca) (Qay Qj)) (Qg (QG (i:=3) Qe6.nd rfl (oi QbY) (Qio (DE.db (Qb 0 rfl (oi Qcn))) (DE.db Qd))) (Qg (QcA PassesOwn.never rfl (QaD QrZ z_range (DE.db (Qb 1 rfl (oi Qov)))) (QD (i:=4) Qe6.nd rfl (oi Qii)) (QA _) (Qh (ds_if (dt_eq hr.units (DE.db (QV (DE.db (Qb 0 rfl (oi Qcn))) (DE.db Qd))) (DE.db Qd)) (Qg (Qdr 2 (QV (DE.db (Qb 3 rfl (oi QbY))) ‹"cQ"›) rfl (oi Qca)) (Qh (QG (i:=3) Qe6.nd rfl (oi QbY) (Qio (DE.db (Qb 3 rfl (oi QbY))) ‹"cQ"›)))) (Qh (Qdr 2 (QV (DE.db (de_f QHg (hr.mono (by decide)) (Qc (Qb 0 rfl (oi Qcn)) (Qc (Qb 4 rfl (oi Qii)) Qj)) QmA)) ‹"cQ"›) rfl (oi Qca)))))) (Qh (QpN 2 rfl (oi Qca))))))
abbrev QaJ:Stmt:=top 54
theorem QgZ:Qr ["_law_digit","_law_many","_law_tame","_law_found","_law_k"] ["_law_digit","_law_many","_law_tame"] (Qa QaJ):=⟨rfl,rfl,rfl,dk,rfl,dk,dk⟩
theorem Qdo:Lo QaJ "_law_found":=dk
theorem QoK:Lo QaJ "_law_many":=dk
theorem QsO:Gl QaJ "range":=dk
theorem QrV:Lo QaJ "_law_k":=dk
theorem Qb9:Lo QaJ "_law_digit":=dk
theorem QnO:Lo QaJ "_law_tame":=dk
def Qd1:SD->Out Fl:=(sSeq (Qb3 3 (e2 dIx (eLst (aCons (e2 dMod (eVar 0) (eC (.int 10))) (aCons (e2 dIx (eLst (aCons (eC (.int 0)) (aCons (eC (.int 1)) (aCons (eC (.int 0)) (aCons (eC (.int 2)) (aCons (eC (.int 1)) (aCons (eC (.int 0)) (aCons (eC (.int 1)) (aCons (eC (.int 0)) (aCons (eC (.int 0)) (aCons (eC (.int 1)) aNil))))))))))) (e2 dMod (eVar 0) (eC (.int 10)))) aNil))) (eVar 2))) (sSet 0 (e2 dFdiv (eVar 0) (eC (.int 10)))))
def QhZ:SD->Out Fl:=(sSeq (sSetO 3 (eLst aNil)) (sSeq (sFor (gN 4) (itR1 (eVar 1)) Qd1) (sRetO 3)))
def Qco:List D->Out D:=bodyF true 3 5 QhZ
theorem QCt(d0 d1 d2:D):Qco [d0,d1,d2]=(QhZ [some (.k,d0),some (.k,d1),some (.k,d2),none,none]>>=retF true):=rfl
theorem QE0(F:FunV K "_law_counts" "_law_counts" QaJ f fd dV)(z_range:‹"dL"›):"f"^1 ["_law_digit","_law_many","_law_tame"] true Qco:=
 @fnV P w K mg base CT true "_law_counts" "_law_counts" QaJ f fd dV ["_law_digit","_law_many","_law_tame","_law_found","_law_k"] ["_law_digit","_law_many","_law_tame"] 0 QhZ F QgZ fun cdv A outer s H E G hr=>
  (Qg (Qcf (i:=3) QgZ.nd rfl (oi Qdo) (Qay Qj)) (Qg (QcA PassesOwn.never rfl (QaD QsO z_range (DE.db (Qb 1 rfl (oi QoK)))) (QD (i:=4) QgZ.nd rfl (oi QrV)) (QA _) (Qg (Qdr 3 (de_ix (DF.de (Qay (Qc (QV (DE.db (Qb 0 rfl (oi Qb9))) (DE.db Qd)) (Qc (de_ix (DF.de (Qay (Qc Qd (Qc Qd (Qc Qd (Qc Qd (Qc Qd ‹"dV"›))))))) (DE.db (QV (DE.db (Qb 0 rfl (oi Qb9))) (DE.db Qd)))) Qj)))) (DE.db (Qb 2 rfl (oi QnO)))) rfl (oi Qdo)) (Qh (QG (i:=0) QgZ.nd rfl (oi Qb9) (Qio (DE.db (Qb 0 rfl (oi Qb9))) (DE.db Qd)))))) (Qh (QpN 3 rfl (oi Qdo)))))
abbrev QC:Stmt:=top 55
theorem Qfd:Qr ["_law_digits_here","_law_tame","_law_kind","_law_size","_law_outs"] ["_law_digits_here","_law_tame"] (Qa QC):=⟨rfl,rfl,rfl,dk,rfl,dk,dk⟩
theorem Qbi:(Qa QC).names.lookup ("_law_digits_here":Str)=some NameKind.cell:=dk
theorem QaM:Lo QC "_law_kind":=dk
theorem QeJ:(Qa QC).names.lookup ("_law_tame":Str)=some NameKind.cell:=dk
theorem Qbd:(Qa QC).names.lookup ("_law_size":Str)=some NameKind.cell:=dk
theorem Qg2:Gl QC "range":=dk
abbrev Qb6:Scope:={ kind:=ScopeKind.function,names:=[ (Str.ofString ".0",NameKind.local),(Str.ofString "_law_s",NameKind.cell),(Str.ofString "range",NameKind.globalImplicit),(Str.ofString "_law_size",NameKind.free)],isGenerator:=false,isCoroutine:=false,more:=[]:Scope }
theorem Qty:QI ["_law_s","_law_size"] [none,some 3] Qb6 (Qa QC) ["_law_digits_here","_law_tame","_law_kind","_law_size","_law_outs"]:=⟨rfl,dk,dk,rfl,dk,dk⟩
theorem QqS:(Qi Qb6 (Qa QC)).names.lookup ("_law_s":Str)=some NameKind.cell:=dk
theorem Qmx:(Qi Qb6 (Qa QC)).names.lookup ("_law_size":Str)=some NameKind.cell:=dk
theorem QrI:(Qi Qb6 (Qa QC)).names.lookup ("range":Str)=some NameKind.globalImplicit:=dk
abbrev QgQ:Scope:={ kind:=ScopeKind.function,names:=[ (Str.ofString ".0",NameKind.local),(Str.ofString "_law_o",NameKind.local),(Str.ofString "int",NameKind.globalImplicit),(Str.ofString "_law_s",NameKind.free)],isGenerator:=false,isCoroutine:=false,more:=[]:Scope }
theorem Qsy:QI ["_law_o","_law_s"] [none,some 0] QgQ (Qi Qb6 (Qa QC)) ["_law_s","_law_size"]:=⟨rfl,dk,dk,rfl,dk,dk⟩
theorem QeX:(Qi QgQ (Qi Qb6 (Qa QC))).names.lookup ("_law_o":Str)=some NameKind.local:=dk
theorem QqO:(Qi QgQ (Qi Qb6 (Qa QC))).names.lookup ("_law_s":Str)=some NameKind.cell:=dk
theorem Qt7:(Qi QgQ (Qi Qb6 (Qa QC))).names.lookup ("int":Str)=some NameKind.globalImplicit:=dk
def QrW:SD->Out D:=(eA (f1 dInt) (aCons (e2 dEq (eVar 0) (eVar 1)) aNil))
def QlZ:SD->Out D:=(eComp [none,some 0] (itR1 (eVar 1)) (gN 0) cTrue QrW)
abbrev QgW:Scope:={ kind:=ScopeKind.function,names:=[ (Str.ofString ".0",NameKind.local),(Str.ofString "_law_s",NameKind.local),(Str.ofString "int",NameKind.globalImplicit),(Str.ofString "_law_size",NameKind.free)],isGenerator:=false,isCoroutine:=false,more:=[]:Scope }
theorem QsP:QI ["_law_s","_law_size"] [none,some 3] QgW (Qa QC) ["_law_digits_here","_law_tame","_law_kind","_law_size","_law_outs"]:=⟨rfl,dk,dk,rfl,dk,dk⟩
theorem QeA:(Qi QgW (Qa QC)).names.lookup ("_law_s":Str)=some NameKind.local:=dk
theorem QmE:(Qi QgW (Qa QC)).names.lookup ("_law_size":Str)=some NameKind.cell:=dk
theorem Quh:(Qi QgW (Qa QC)).names.lookup ("int":Str)=some NameKind.globalImplicit:=dk
def QlA:SD->Out D:=(eLst (aCons (eA (f1 dInt) (aCons (e2 dEq (eVar 0) (e2 dSub (eVar 1) (eC (.int 1)))) aNil)) aNil))
theorem QqR:(Qa QC).names.lookup ("_law_outs":Str)=some NameKind.cell:=dk
abbrev Qdq:Scope:={ kind:=ScopeKind.function,names:=[ (Str.ofString ".0",NameKind.local),(Str.ofString "_law_s",NameKind.local),(Str.ofString "_law_counts",NameKind.globalImplicit),(Str.ofString "_law_digits_here",NameKind.free),(Str.ofString "_law_outs",NameKind.free),(Str.ofString "_law_tame",NameKind.free)],isGenerator:=false,isCoroutine:=false,more:=[]:Scope }
theorem Qsw:QI ["_law_s","_law_digits_here","_law_outs","_law_tame"] [none,some 0,some 4,some 1] Qdq (Qa QC) ["_law_digits_here","_law_tame","_law_kind","_law_size","_law_outs"]:=⟨rfl,dk,dk,rfl,dk,dk⟩
theorem Qet:(Qi Qdq (Qa QC)).names.lookup ("_law_s":Str)=some NameKind.local:=dk
theorem Qh4:(Qi Qdq (Qa QC)).names.lookup ("_law_digits_here":Str)=some NameKind.cell:=dk
theorem Qmz:(Qi Qdq (Qa QC)).names.lookup ("_law_outs":Str)=some NameKind.cell:=dk
theorem QmJ:(Qi Qdq (Qa QC)).names.lookup ("_law_tame":Str)=some NameKind.cell:=dk
theorem QkO:(Qi Qdq (Qa QC)).names.lookup ("_law_counts":Str)=some NameKind.globalImplicit:=dk
def Qie:SD->Out D:=(eA (fun xs=>Qco (xs++[])) (aCons (e2 dIx (eVar 1) (e2 dAdd (eC (.int 10)) (eVar 0))) (aCons (eVar 2) (aCons (eVar 3) aNil))))
def QeT:SD->Out Fl:=(sSeq (sSet 2 (e2 dMod ‹"H"› (eC (.int 4)))) (sSeq (sSet 3 ‹"bs"›) (sSeq (sIf (tVal (e2 dEq (eVar 2) (eC (.int 0)))) (sSeq (sSet 3 ‹"bu"›) (sRet (eTup (aCons (eVar 2) (aCons (eComp [none,some 3] (itR1 (eVar 3)) (gN 0) cTrue QlZ) aNil))))) sNil) (sSeq (sIf (tVal (e2 dEq (eVar 2) (eC (.int 1)))) (sRet (eTup (aCons (eVar 2) (aCons (eComp [none,some 3] (itR1 (eVar 3)) (gN 0) cTrue QlA) aNil)))) sNil) (sSeq (sIf (tVal (e2 dEq (eVar 2) (eC (.int 2)))) (sSet 3 (eC (.int 1))) sNil) (sSeq ‹"bk"› ‹"bz"›))))))
def QeF:List D->Out D:=bodyF false 2 5 QeT
theorem Qk8(d0 d1:D):QeF [d0,d1]=(QeT [some (.k,d0),some (.k,d1),none,none,none]>>=retF false):=rfl
theorem QJo(F:FunV K "_law_rows" "_law_rows" QC f fd dV)(QFf:"e"^Qco "_law_counts" 1 true)(z_range:‹"dL"›)(z_int:mg "int"=none):"f"^2 ["_law_digits_here","_law_tame"] false QeF:=
 @fnV P w K mg base CT false "_law_rows" "_law_rows" QC f fd dV ["_law_digits_here","_law_tame","_law_kind","_law_size","_law_outs"] ["_law_digits_here","_law_tame"] 1 QeT F Qfd fun cdv A outer s H E G hr=>
  (Qg (QG (i:=2) Qfd.nd rfl (oi QaM) (QV (DE.db (de_ix (Qb 0 rfl (Or.inr (oi Qbi))) (DE.db Qd))) (DE.db Qd))) (Qg ‹"eq"› (Qg (ds_if ‹"bY"› (Qg ‹"eq"› (Qh (QE (Qe8 (Qc (Qb 2 rfl (oi QaM)) (Qc (DF.de (Q8 rfl Qty ‹"bA"› ‹"i"› (QA _) (fun fp s H G p=>⟨(QD (i:=0) Qty.nd rfl (Or.inr QqS) (hf:=Or.inl rfl)),QW,(DF.de (Q8 rfl Qsy (DI.b (QaD QrI z_range (DE.db (Qb 1 rfl (Or.inr (oi Qmx)))))) ‹"i"› (QA _) (fun fp s H G p=>⟨(QD (i:=0) Qsy.nd rfl (oi QeX) (hf:=Or.inr QeX)),QW,(Qyr Qt7 z_int (Qu (DE.db (de_eq hr.units (DE.db (Qb 0 rfl (oi QeX))) (DE.db (Qb 1 rfl (Or.inr (oi QqO)))))) Qz))⟩)))⟩))) Qj)))))) QZ) (Qg (ds_if ‹"bY"› (Qh (QE (Qe8 (Qc (Qb 2 rfl (oi QaM)) (Qc (DF.de (Q8 rfl QsP ‹"bA"› ‹"i"› (QA _) (fun fp s H G p=>⟨(QD (i:=0) QsP.nd rfl (oi QeA) (hf:=Or.inr QeA)),QW,(DF.de (Qay (Qc (Qyr Quh z_int (Qu (DE.db (de_eq hr.units (DE.db (Qb 0 rfl (oi QeA))) (DE.db (Qd6 (DE.db (Qb 1 rfl (Or.inr (oi QmE)))) (DE.db Qd))))) Qz)) Qj)))⟩))) Qj))))) QZ) (Qg (ds_if ‹"bY"› (Qh (QG (i:=3) Qfd.nd rfl (Or.inr Qbd) Qd)) QZ) (Qg (QG (i:=4) Qfd.nd rfl (Or.inr QqR) ‹"z"›) (Qh (QE (Qe8 (Qc (Qb 2 rfl (oi QaM)) (Qc (DF.de (Q8 rfl Qsw ‹"bA"› ‹"i"› (QA _) (fun fp s H G p=>⟨(QD (i:=0) Qsw.nd rfl (oi Qet) (hf:=Or.inr Qet)),QW,(de_f QFf (hr.mono (by decide)) (Qc (de_ix (Qb 1 rfl (Or.inr (oi Qh4))) (DE.db (QaH (DE.db Qd) (DE.db (Qb 0 rfl (oi Qet)))))) (Qc (Qb 2 rfl (Or.inr (oi Qmz))) (Qc (Qb 3 rfl (Or.inr (oi QmJ))) Qj))) QkO)⟩))) Qj)))))))))))
abbrev QaK:Stmt:=top 56
theorem QfL:Qr ["_law_first","_law_digit","_law_longer","_law_letters","_law_name","_law_j"] ["_law_first","_law_digit","_law_longer"] (Qa QaK):=⟨rfl,rfl,rfl,dk,rfl,dk,dk⟩
theorem Qc8:Lo QaK "_law_letters":=dk
theorem QnP:Lo QaK "_law_first":=dk
theorem Qcz:Lo QaK "_law_name":=dk
theorem Qoo:Lo QaK "_law_digit":=dk
theorem Qt4:Gl QaK "range":=dk
theorem QjD:Lo QaK "_law_j":=dk
theorem QmL:Lo QaK "_law_longer":=dk
def QgN:SD->Out Fl:=(sSet 4 (e2 dAdd (eVar 4) (e2 dIx (eVar 3) (e2 dMod (e2 dFdiv (eVar 2) (e2 dIx (eLst (aCons (eC (.int 1)) (aCons (eC (.int 26)) (aCons (eC (.int 676)) (aCons (eC (.int 17576)) (aCons (eC (.int 7)) aNil)))))) (eVar 5))) (eC (.int 26))))))
def Qjw:SD->Out Fl:=(sSeq (sSet 3 (eC ‹"bH"›)) (sSeq (sSet 4 (e2 dIx (eVar 3) (eVar 0))) (sSeq (sFor (gN 5) (itR1 (e2 dMod (eVar 1) (eC (.int 6)))) QgN) (sRet (eVar 4)))))
def QaO:List D->Out D:=bodyF false 3 6 Qjw
theorem QFK(d0 d1 d2:D):QaO [d0,d1,d2]=(Qjw [some (.k,d0),some (.k,d1),some (.k,d2),none,none,none]>>=retF false):=rfl
theorem QGa(F:FunV K "_law_named" "_law_named" QaK f fd dV)(z_range:‹"dL"›):"f"^1 ["_law_first","_law_digit","_law_longer"] false QaO:=
 @fnV P w K mg base CT false "_law_named" "_law_named" QaK f fd dV ["_law_first","_law_digit","_law_longer","_law_letters","_law_name","_law_j"] ["_law_first","_law_digit","_law_longer"] 0 Qjw F QfL fun cdv A outer s H E G hr=>
  (Qg (QG (i:=3) QfL.nd rfl (oi Qc8) QMI) (Qg (QG (i:=4) QfL.nd rfl (oi Qcz) (de_ix (Qb 3 rfl (oi Qc8)) (DE.db (Qb 0 rfl (oi QnP))))) (Qg (QcA PassesOwn.never rfl (QaD Qt4 z_range (DE.db (QV (DE.db (Qb 1 rfl (oi Qoo))) (DE.db Qd)))) (QD (i:=5) QfL.nd rfl (oi QjD)) (QA _) (Qh (QG (i:=4) QfL.nd rfl (oi Qcz) (QaH (DE.db (Qb 4 rfl (oi Qcz))) (DE.db (de_ix (Qb 3 rfl (oi Qc8)) (DE.db (QV (DE.db (Qio (DE.db (Qb 2 rfl (oi QmL))) (DE.db (de_ix (DF.de (Qay ‹"dV"›)) (DE.db (Qb 5 rfl (oi QjD))))))) (DE.db Qd))))))))) (Qh (QE (Qb 4 rfl (oi Qcz)))))))
abbrev QX:Stmt:=top 57
theorem QcS:Qr ["_law_cell_here","_law_k","_law_many","_law_doors","_law_ring","_law_digits_here","_law_kind","_law_rows_here","_law_leads","_law_o","_law_to"] ["_law_cell_here","_law_k","_law_many","_law_doors","_law_ring"] (Qa QX):=⟨rfl,rfl,rfl,dk,rfl,dk,dk⟩
theorem Qft:Lo QX "_law_cell_here":=dk
theorem QoQ:Gl QX "_law_digits":=dk
theorem Qaq:Lo QX "_law_digits_here":=dk
theorem Qqn:Gl QX "_law_rows":=dk
theorem QbI:Lo QX "_law_rows_here":=dk
theorem Qh5:Lo QX "_law_kind":=dk
theorem Qec:Lo QX "_law_leads":=dk
theorem QpH:Gl QX "len":=dk
theorem QvM:Gl QX "range":=dk
theorem QkC:Lo QX "_law_o":=dk
theorem QcM:Lo QX "_law_many":=dk
theorem Qhb:Lo QX "_law_doors":=dk
theorem QaX:Lo QX "_law_to":=dk
theorem Qqm:Lo QX "_law_ring":=dk
theorem QkG:Lo QX "_law_k":=dk
def QhM:SD->Out Fl:=(sSeq (sSet 10 ‹"cI"›) (sSeq (sIf (tAnd' (tNot' (tVal (eVar 4))) (tVal (e2 dLe (eVar 10) (eVar 1)))) (sSet 10 (e2 dAdd (eVar 2) (e2 dMod (eVar 10) (eVar 3)))) sNil) (Qb3 8 (eIf (tVal (e2 dLt (eVar 10) (eVar 2))) (eVar 10) (e2 dSub (e2 dSub (eVar 2) (eC (.int 1))) (eVar 10))))))
theorem QpE:Gl QX "_law_named":=dk
def Qk7:SD->Out Fl:=(sSeq (sSet 5 (eA (fun xs=>QY (xs++[])) (aCons (eVar 0) (aCons (eC (.int 26)) aNil)))) (sSeq (sUnp [6,7] (eA (fun xs=>QeF (xs++[])) (aCons (eVar 5) (aCons (e2 dMod (eVar 0) (eC (.int 2))) aNil)))) (sSeq (sSetO 8 (eLst aNil)) (sSeq (sFor (gN 9) (itR1 (eA fLen (aCons (e2 dIx (eVar 7) (eC (.int 0))) aNil))) QhM) (fun ς=>(sRet ‹"g"›) (frz 8 ς))))))
def QeY:List D->Out D:=bodyF false 5 11 Qk7
theorem QIH(d0 d1 d2 d3 d4:D):QeY [d0,d1,d2,d3,d4]=(Qk7 ‹"cl"›>>=retF false):=rfl
theorem QJq(F:FunV K "_law_seat" "_law_seat" QX f fd dV)(QbQ:‹"ds"›)(QJX:"e"^QeF "_law_rows" 2 false)(Qnv:"e"^QaO "_law_named" 1 false)(z_range:‹"dL"›)(z_len:mg "len"=none):"f"^3 ["_law_cell_here","_law_k","_law_many","_law_doors","_law_ring"] false QeY:=
 @fnV P w K mg base CT false "_law_seat" "_law_seat" QX f fd dV ["_law_cell_here","_law_k","_law_many","_law_doors","_law_ring","_law_digits_here","_law_kind","_law_rows_here","_law_leads","_law_o","_law_to"] ["_law_cell_here","_law_k","_law_many","_law_doors","_law_ring"] 2 Qk7 F QcS fun cdv A outer s H E G hr=>
  (Qg (QG (i:=5) QcS.nd rfl (oi Qaq) (de_f QbQ (hr.mono (by decide)) (Qc (Qb 0 rfl (oi Qft)) (Qc Qd Qj)) QoQ)) (Qg (QDh rfl (de_f QJX (hr.mono (by decide)) (Qc (Qb 5 rfl (oi Qaq)) (Qc (QV (DE.db (Qb 0 rfl (oi Qft))) (DE.db Qd)) Qj)) Qqn) (Qah (i:=6) QcS.nd rfl (oi Qh5) (Qah (i:=7) QcS.nd rfl (oi QbI) Qfc))) (Qg (Qcf (i:=8) QcS.nd rfl (oi Qec) (Qay Qj)) (Qg (QcA PassesOwn.never rfl (QaD QvM z_range (DE.db (Q6 QpH z_len (Qu (DE.db (de_ix (Qb 7 rfl (oi QbI)) (DE.db Qd))) Qz)))) (QD (i:=9) QcS.nd rfl (oi QkC)) (QA _) (Qg (QG (i:=10) QcS.nd rfl (oi QaX) (QV (DE.db (de_ix (Qb 5 rfl (oi Qaq)) (DE.db (QaH (DE.db Qd) (DE.db (Qb 9 rfl (oi QkC))))))) (DE.db (QaH (DE.db (Qb 2 rfl (oi QcM))) (DE.db (Qb 3 rfl (oi Qhb))))))) (Qg (ds_if (DW.dt (QwG (QaC (QaF (Qb 4 rfl (oi Qqm)))) (QtM (dt_le (DE.db (Qb 10 rfl (oi QaX))) (DE.db (Qb 1 rfl (oi QkG))))))) (Qh (QG (i:=10) QcS.nd rfl (oi QaX) (QaH (DE.db (Qb 2 rfl (oi QcM))) (DE.db (QV (DE.db (Qb 10 rfl (oi QaX))) (DE.db (Qb 3 rfl (oi Qhb)))))))) QZ) (Qh (Qdr 8 (de_if (dt_lt (DE.db (Qb 10 rfl (oi QaX))) (DE.db (Qb 2 rfl (oi QcM)))) (Qb 10 rfl (oi QaX)) (Qd6 (DE.db (Qd6 (DE.db (Qb 2 rfl (oi QcM))) (DE.db Qd))) (DE.db (Qb 10 rfl (oi QaX))))) rfl (oi Qec)))))) (Qh (QwP 8 (QE (Qe8 (Qc (Qb 6 rfl (oi Qh5)) (Qc (Qb 7 rfl (oi QbI)) (Qc (Qb 8 rfl (oi Qec)) (Qc (QV (DE.db (de_ix (Qb 5 rfl (oi Qaq)) (DE.db Qd))) (DE.db (Q6 QpH z_len (Qu (DE.db (Qb 7 rfl (oi QbI))) Qz)))) (Qc (de_f Qnv (hr.mono (by decide)) (Qc (Qb 1 rfl (oi QkG)) (Qc (de_ix (Qb 5 rfl (oi Qaq)) (DE.db Qd)) (Qc (de_ix (Qb 5 rfl (oi Qaq)) (DE.db Qd)) Qj))) QpE) Qj)))))))))))))
abbrev Qaa:Stmt:=top 58
theorem QcU:Qr ["_law_script","_law_clerks_at_most","_law_cell_here","_law_first","_law_many","_law_doors","_law_ring","_law_plan_here","_law_k"] ["_law_script","_law_clerks_at_most"] (Qa Qaa):=⟨rfl,rfl,rfl,dk,rfl,dk,dk⟩
theorem QgF:Lo Qaa "_law_script":=dk
theorem QhF:Gl Qaa "_law_cell":=dk
theorem QbJ:Lo Qaa "_law_cell_here":=dk
theorem Qob:Gl Qaa "_law_digits":=dk
theorem Qcu:Lo Qaa "_law_first":=dk
theorem Qhq:Lo Qaa "_law_clerks_at_most":=dk
theorem QeE:Lo Qaa "_law_many":=dk
theorem Qd5:Lo Qaa "_law_doors":=dk
theorem QhW:Lo Qaa "_law_ring":=dk
theorem QcP:Lo Qaa "_law_plan_here":=dk
theorem Qvu:Gl Qaa "range":=dk
theorem Qgt:Lo Qaa "_law_k":=dk
theorem QpR:Gl Qaa "_law_seat":=dk
def QhT:SD->Out Fl:=(Qb3 7 (eA (fun xs=>QeY (xs++[])) (aCons (eA (fun xs=>Q7 (xs++[])) (aCons (eVar 0) (aCons (e2 dAdd (eC (.int 1)) (eVar 8)) aNil))) (aCons (eVar 8) ‹"ca"›))))
def QkJ:SD->Out Fl:=(sSeq (sSet 2 (eA (fun xs=>Q7 (xs++[])) (aCons (eVar 0) (aCons (eC (.int 0)) aNil)))) (sSeq (sSet 3 (eA (fun xs=>QY (xs++[])) (aCons (eVar 2) (aCons (eC (.int 6)) aNil)))) (sSeq (sSet 4 (e2 dAdd (eC (.int 1)) (e2 dMod (e2 dIx (eVar 3) (eC (.int 0))) (e2 dIx (eLst (aCons (eVar 1) (aCons (eC (.int 5)) aNil))) (e2 dMod (eVar 2) (eC (.int 2))))))) (sSeq (sSet 5 (e2 dAdd (eC (.int 1)) (e2 dMod (e2 dIx (eVar 3) (eC (.int 1))) (e2 dIx (eLst (aCons (eC (.int 6)) (aCons (eC (.int 3)) aNil))) (e2 dMod (eVar 2) (eC (.int 2))))))) (sSeq (sSet 6 (e2 dEq (e2 dMod (e2 dIx (eVar 3) (eC (.int 2))) (eC (.int 2))) (eC (.int 1)))) (sSeq (sSetO 7 (eLst aNil)) (sSeq (sFor (gN 8) (itR1 (eVar 4)) QhT) (fun ς=>(sRet ‹"dk"›) (frz 7 ς)))))))))
def QeV:List D->Out D:=bodyF false 2 9 QkJ
theorem QJB(d0 d1:D):QeV [d0,d1]=(QkJ [some (.k,d0),some (.k,d1),none,none,none,none,none,none,none]>>=retF false):=rfl
theorem QKq(F:FunV K "_law_plan" "_law_plan" Qaa f fd dV)(Qdu:"e"^Q7 "_law_cell" 1 false)(QbQ:‹"ds"›)(QJ0:"e"^QeY "_law_seat" 3 false)(z_range:‹"dL"›):"f"^4 ["_law_script","_law_clerks_at_most"] false QeV:=
 @fnV P w K mg base CT false "_law_plan" "_law_plan" Qaa f fd dV ["_law_script","_law_clerks_at_most","_law_cell_here","_law_first","_law_many","_law_doors","_law_ring","_law_plan_here","_law_k"] ["_law_script","_law_clerks_at_most"] 3 QkJ F QcU fun cdv A outer s H E G hr=>
  (Qg (QG (i:=2) QcU.nd rfl (oi QbJ) (de_f Qdu (hr.mono (by decide)) (Qc (Qb 0 rfl (oi QgF)) (Qc Qd Qj)) QhF)) (Qg (QG (i:=3) QcU.nd rfl (oi Qcu) (de_f QbQ (hr.mono (by decide)) (Qc (Qb 2 rfl (oi QbJ)) (Qc Qd Qj)) Qob)) (Qg (QG (i:=4) QcU.nd rfl (oi QeE) (QaH (DE.db Qd) (DE.db (QV ‹"cZ"› (DE.db (de_ix (DF.de (Qay (Qc (Qb 1 rfl (oi Qhq)) (Qc Qd Qj)))) (DE.db (QV (DE.db (Qb 2 rfl (oi QbJ))) (DE.db Qd))))))))) (Qg (QG (i:=5) QcU.nd rfl (oi Qd5) (QaH (DE.db Qd) (DE.db (QV ‹"cZ"› (DE.db (de_ix (DF.de (Qay (Qc Qd (Qc Qd Qj)))) (DE.db (QV (DE.db (Qb 2 rfl (oi QbJ))) (DE.db Qd))))))))) (Qg (QG (i:=6) QcU.nd rfl (oi QhW) (de_eq hr.units (DE.db (QV ‹"cZ"› (DE.db Qd))) (DE.db Qd))) (Qg (Qcf (i:=7) QcU.nd rfl (oi QcP) (Qay Qj)) (Qg (QcA PassesOwn.never rfl (QaD Qvu z_range (DE.db (Qb 4 rfl (oi QeE)))) (QD (i:=8) QcU.nd rfl (oi Qgt)) (QA _) (Qh (Qdr 7 (de_f QJ0 (hr.mono (by decide)) (Qc (de_f Qdu (hr.mono (by decide)) (Qc (Qb 0 rfl (oi QgF)) (Qc (QaH (DE.db Qd) (DE.db (Qb 8 rfl (oi Qgt)))) Qj)) QhF) (Qc (Qb 8 rfl (oi Qgt)) (Qc (Qb 4 rfl (oi QeE)) (Qc (Qb 5 rfl (oi Qd5)) (Qc (Qb 6 rfl (oi QhW)) Qj))))) QpR) rfl (oi QcP)))) (Qh (QwP 7 (QE (Qe8 (Qc (Qb 7 rfl (oi QcP)) (Qc (Qb 5 rfl (oi Qd5)) Qj)))))))))))))
abbrev QaB:Stmt:=top 46
theorem Qea:Qr ["names","doors","places","k","name","d","door"] ["names","doors"] (Qa QaB):=⟨rfl,rfl,rfl,dk,rfl,dk,dk⟩
theorem Qds:Lo QaB "places":=dk
theorem Quo:Lo QaB "names":=dk
theorem Qhf:Gl QaB "enumerate":=dk
theorem QlJ:Lo QaB "name":=dk
theorem Qrm:Lo QaB "k":=dk
def QgS:SD->Out Fl:=(sPutD 2 (eVar 4) (eVar 3))
theorem Qum:Lo QaB "doors":=dk
theorem Qmj:Lo QaB "door":=dk
theorem QrA:Lo QaB "d":=dk
def QgY:SD->Out Fl:=(sPutD 2 (eVar 6) (e2 dSub ‹"aK"› (eVar 5)))
def Qje:SD->Out Fl:=(sSeq (sSetO 2 eDic0) (sSeq (sFor (gT [3,4]) (itE (eVar 0)) QgS) (sSeq (sFor (gT [5,6]) (itE (eVar 1)) QgY) (sRetO 2))))
def QdD:List D->Out D:=bodyF true 2 7 Qje
theorem QGD(d0 d1:D):QdD [d0,d1]=(Qje [some (.k,d0),some (.k,d1),none,none,none,none,none]>>=retF true):=rfl
theorem QFm(F:FunV K "places_of" "places_of" QaB f fd dV)(z_enumerate:mg "enumerate"=none):"f"^1 ["names","doors"] true QdD:=
 @fnV P w K mg base CT true "places_of" "places_of" QaB f fd dV ["names","doors","places","k","name","d","door"] ["names","doors"] 0 Qje F Qea fun cdv A outer s H E G hr=>
  (Qg (Qcf (i:=2) Qea.nd rfl (oi Qds) QOn) (Qg (QcA PassesOwn.never rfl (Qyj Qhf z_enumerate (Qb 0 rfl (oi Quo))) (Qmo rfl (Qah (i:=3) Qea.nd rfl (oi Qrm) (Qah (i:=4) Qea.nd rfl (oi QlJ) Qfc))) (Qha _) (Qh (QIo hr.units 2 (DE.db (Qb 4 rfl (oi QlJ))) (Qb 3 rfl (oi Qrm)) rfl (oi Qds)))) (Qg (QcA PassesOwn.never rfl (Qyj Qhf z_enumerate (Qb 1 rfl (oi Qum))) (Qmo rfl (Qah (i:=5) Qea.nd rfl (oi QrA) (Qah (i:=6) Qea.nd rfl (oi Qmj) Qfc))) (Qha _) (Qh (QIo hr.units 2 (DE.db (Qb 6 rfl (oi Qmj))) (Qd6 ‹"cv"› (DE.db (Qb 5 rfl (oi QrA)))) rfl (oi Qds)))) (Qh (QpN 2 rfl (oi Qds))))))
abbrev Qb5:Stmt:=top 38
theorem QJb:Qr ["thing","most"] ["thing","most"] (Qa Qb5):=⟨rfl,rfl,rfl,dk,rfl,dk,dk⟩
theorem Qnk:Lo Qb5 "thing":=dk
theorem Qyo:Gl Qb5 "list":=dk
theorem Qqa:Gl Qb5 "isinstance":=dk
theorem QBc:Gl Qb5 "len":=dk
theorem Qx1:Lo Qb5 "most":=dk
def Qnc:SD->Out Fl:=(sRet (eAnd ‹"cN"› (Qdt dLe dLe (eC (.int 1)) ‹"G"› (eVar 1))))
def Qb4:List D->Out D:=bodyF false 2 2 Qnc
theorem QLd(d0 d1:D):Qb4 [d0,d1]=(Qnc ‹"K"›>>=retF false):=rfl
theorem QMg(F:FunV K "is_list" "is_list" Qb5 f fd dV)(z_isinstance:‹"bo"›)(z_list:mg "list"=none)(z_len:mg "len"=none):"f"^1 ["thing","most"] false Qb4:=
 @fnV P w K mg base CT false "is_list" "is_list" Qb5 f fd dV ["thing","most"] ["thing","most"] 0 Qnc F QJb fun cdv A outer s H E G hr=>
  (Qh (QE (Qd8 (Qcd "list" Qi4 Qyo z_list PyProof.Rows.Boot.«list» Qqa z_isinstance (DE.db (Qb 0 rfl (oi Qnk)))) (Qif (QCU op_le Qcv ‹"by"› op_le Qcv ‹"by"› (DE.db Qd) (DE.db (Q6 QBc z_len (Qu (DE.db (Qb 0 rfl (oi Qnk))) Qz))) (DE.db (Qb 1 rfl (oi Qx1))))))))
abbrev Qbl:Stmt:=top 39
theorem QAl:Qr ["names"] ["names"] (Qa Qbl):=⟨rfl,rfl,rfl,dk,rfl,dk,dk⟩
theorem QjJ:Lo Qbl "names":=dk
theorem Ql2:Gl Qbl "len":=dk
theorem Qvg:Gl Qbl "set":=dk
def QhA:SD->Out Fl:=(sRet (e2 dEq (e1 Qy2 (eVar 0)) ‹"G"›))
def Qan:List D->Out D:=bodyF false 1 1 QhA
theorem QDL(d0:D):Qan [d0]=(QhA [some (.k,d0)]>>=retF false):=rfl
theorem QCq(F:FunV K "all_unlike" "all_unlike" Qbl f fd dV)(z_len:mg "len"=none)(z_set:mg "set"=none):"f"^1 ["names"] false Qan:=
 @fnV P w K mg base CT false "all_unlike" "all_unlike" Qbl f fd dV ["names"] ["names"] 0 QhA F QAl fun cdv A outer s H E G hr=>
  (Qh (QE (de_eq hr.units (DE.db (QMJ hr.hd Ql2 z_len Qvg z_set (DE.db (Qb 0 rfl (oi QjJ))))) (DE.db (Q6 Ql2 z_len (Qu (DE.db (Qb 0 rfl (oi QjJ))) Qz))))))
abbrev QaV:Stmt:=top 37
theorem QJH:Qr ["thing"] ["thing"] (Qa QaV):=⟨rfl,rfl,rfl,dk,rfl,dk,dk⟩
theorem Qhn:Lo QaV "thing":=dk
theorem QAd:Gl QaV "str":=dk
theorem QqA:Gl QaV "isinstance":=dk
theorem QAU:Gl QaV "len":=dk
theorem Qq1:Gl QaV "MOST_SIGNS":=dk
abbrev Ql3:Scope:={ kind:=ScopeKind.function,names:=[ (Str.ofString ".0",NameKind.local),(Str.ofString "sign",NameKind.local),(Str.ofString "LETTERS",NameKind.globalImplicit)],isGenerator:=false,isCoroutine:=false,more:=[]:Scope }
theorem QuO:QI ["sign"] [none] Ql3 (Qa QaV) ["thing"]:=⟨rfl,dk,dk,rfl,dk,dk⟩
theorem Qgu:(Qi Ql3 (Qa QaV)).names.lookup ("sign":Str)=some NameKind.local:=dk
theorem Qp6:(Qi Ql3 (Qa QaV)).names.lookup ("LETTERS":Str)=some NameKind.globalImplicit:=dk
def QnZ:SD->Out D:=(e2 dIn (eVar 0) (eC ‹"bH"›))
theorem QA9:Gl QaV "all":=dk
def Qnj:SD->Out Fl:=(sSeq (sIf (tOr' (tNot' (tVal (eIsa (isaT "str") (eVar 0)))) (tNot' (tVal (Qdt dLe dLe (eC (.int 1)) ‹"G"› (eC (.int 6)))))) ‹"W"› sNil) (sRet (eA (f1 fAll) (aCons (eComp [none] (itS (eVar 0)) (gN 0) cTrue QnZ) aNil))))
def QaT:List D->Out D:=bodyF false 1 1 Qnj
theorem QLf(d0:D):QaT [d0]=(Qnj [some (.k,d0)]>>=retF false):=rfl
theorem QKD{u_MOST_SIGNS:Value}{u_LETTERS:Value}(F:FunV K "is_name" "is_name" QaV f fd dV)(z_isinstance:‹"bo"›)(z_str:mg "str"=none)(z_len:mg "len"=none)(z_all:mg "all"=none)(c_MOST_SIGNS:mg "MOST_SIGNS"=some u_MOST_SIGNS)(r_MOST_SIGNS:RelV (toV (.int 6)) u_MOST_SIGNS)(c_LETTERS:mg "LETTERS"=some u_LETTERS)(r_LETTERS:RelV (toV ‹"bH"›) u_LETTERS):"f"^1 ["thing"] false QaT:=
 @fnV P w K mg base CT false "is_name" "is_name" QaV f fd dV ["thing"] ["thing"] 0 Qnj F QJH fun cdv A outer s H E G hr=>
  (Qg (ds_if (DW.dt (dw_or (QaC (QaF (Qcd "str" QH0 QAd z_str PyProof.Rows.Boot.«str» QqA z_isinstance (DE.db (Qb 0 rfl (oi Qhn)))))) (QcL (QaC (QD6 op_le Qcv ‹"by"› op_le Qcv ‹"by"› (DE.db Qd) (DE.db (Q6 QAU z_len (Qu (DE.db (Qb 0 rfl (oi Qhn))) Qz))) (DE.db (Qfa (d:=(.int 6)) Qq1 c_MOST_SIGNS rfl r_MOST_SIGNS))))))) ‹"cE"› QZ) (Qh (QE (QjE rfl QA9 z_all (Qu (DE.db (DF.de (Q8 rfl QuO (DI.b (QQR (DE.db (Qb 0 rfl (oi Qhn))))) ‹"i"› (QA _) (fun fp s H G p=>⟨(QD (i:=0) QuO.nd rfl (oi Qgu) (hf:=Or.inr Qgu)),QW,(de_in (DE.db (Qb 0 rfl (oi Qgu))) (DE.db (Qfa (d:=‹"bH"›) Qp6 c_LETTERS rfl r_LETTERS)))⟩)))) Qz)))))
abbrev QaA:Stmt:=top 40
theorem QE8:Qr ["thing","most"] ["thing","most"] (Qa QaA):=⟨rfl,rfl,rfl,dk,rfl,dk,dk⟩
theorem Qgp:Lo QaA "thing":=dk
theorem Qu6:Lo QaA "most":=dk
theorem QrQ:Gl QaA "is_list":=dk
abbrev Qin:Scope:={ kind:=ScopeKind.function,names:=[ (Str.ofString ".0",NameKind.local),(Str.ofString "name",NameKind.local),(Str.ofString "is_name",NameKind.globalImplicit)],isGenerator:=false,isCoroutine:=false,more:=[]:Scope }
theorem Qrw:QI ["name"] [none] Qin (Qa QaA) ["thing","most"]:=⟨rfl,dk,dk,rfl,dk,dk⟩
theorem Qfq:(Qi Qin (Qa QaA)).names.lookup ("name":Str)=some NameKind.local:=dk
theorem Qns:(Qi Qin (Qa QaA)).names.lookup ("is_name":Str)=some NameKind.globalImplicit:=dk
def Qkp:SD->Out D:=(eA (fun xs=>QaT (xs++[])) ‹"dG"›)
theorem Qv7:Gl QaA "all":=dk
theorem QnU:Gl QaA "all_unlike":=dk
def Qjj:SD->Out Fl:=(sRet (eAnd (eA (fun xs=>Qb4 (xs++[])) (aCons (eVar 0) ‹"X"›)) (eAnd (eA (f1 fAll) (aCons (eComp [none] ‹"cX"› (gN 0) cTrue Qkp) aNil)) (eA (fun xs=>Qan (xs++[])) ‹"dG"›))))
def QdO:List D->Out D:=bodyF false 2 2 Qjj
theorem QFI(d0 d1:D):QdO [d0,d1]=(Qjj ‹"K"›>>=retF false):=rfl
theorem QFt(F:FunV K "are_names" "are_names" QaA f fd dV)(Qjz:"e"^Qb4 "is_list" 1 false)(Qhi:"e"^QaT "is_name" 1 false)(QfM:"e"^Qan "all_unlike" 1 false)(z_all:mg "all"=none):"f"^2 ["thing","most"] false QdO:=
 @fnV P w K mg base CT false "are_names" "are_names" QaA f fd dV ["thing","most"] ["thing","most"] 1 Qjj F QE8 fun cdv A outer s H E G hr=>
  (Qh (QE (Qd8 (de_f Qjz (hr.mono (by decide)) (Qc (Qb 0 rfl (oi Qgp)) (Qc (Qb 1 rfl (oi Qu6)) Qj)) QrQ) (Qd8 (QjE rfl Qv7 z_all (Qu (DE.db (DF.de (Q8 rfl Qrw (DI.b (Qaw (Qb 0 rfl (oi Qgp)))) ‹"i"› (QA _) (fun fp s H G p=>⟨(QD (i:=0) Qrw.nd rfl (oi Qfq) (hf:=Or.inr Qfq)),QW,(de_f Qhi (hr.mono (by decide)) (Qc (Qb 0 rfl (oi Qfq)) Qj) Qns)⟩)))) Qz)) (Qif (de_f QfM (hr.mono (by decide)) (Qc (Qb 0 rfl (oi Qgp)) Qj) QnU))))))
abbrev Qak:Stmt:=top 41
theorem QEv:Qr ["thing","many"] ["thing","many"] (Qa Qak):=⟨rfl,rfl,rfl,dk,rfl,dk,dk⟩
theorem Qgl:Lo Qak "thing":=dk
theorem QvD:Gl Qak "list":=dk
theorem Qow:Gl Qak "isinstance":=dk
theorem Qw5:Gl Qak "len":=dk
theorem Qve:Lo Qak "many":=dk
abbrev QfT:Scope:={ kind:=ScopeKind.function,names:=[ (Str.ofString ".0",NameKind.local),(Str.ofString "text",NameKind.local),(Str.ofString "isinstance",NameKind.globalImplicit),(Str.ofString "str",NameKind.globalImplicit)],isGenerator:=false,isCoroutine:=false,more:=[]:Scope }
theorem Qrn:QI ["text"] [none] QfT (Qa Qak) ["thing","many"]:=⟨rfl,dk,dk,rfl,dk,dk⟩
theorem Qfj:(Qi QfT (Qa Qak)).names.lookup ("text":Str)=some NameKind.local:=dk
theorem Qr8:(Qi QfT (Qa Qak)).names.lookup ("str":Str)=some NameKind.globalImplicit:=dk
theorem Qk1:(Qi QfT (Qa Qak)).names.lookup ("isinstance":Str)=some NameKind.globalImplicit:=dk
def Qkb:SD->Out D:=(eIsa (isaT "str") (eVar 0))
theorem QxB:Gl Qak "all":=dk
def Qi6:SD->Out Fl:=(sRet (eAnd ‹"cN"› (eAnd (e2 dEq ‹"G"› (eVar 1)) (eA (f1 fAll) (aCons (eComp [none] ‹"cX"› (gN 0) cTrue Qkb) aNil)))))
def QdJ:List D->Out D:=bodyF false 2 2 Qi6
theorem QFP(d0 d1:D):QdJ [d0,d1]=(Qi6 ‹"K"›>>=retF false):=rfl
theorem QGN(F:FunV K "are_texts" "are_texts" Qak f fd dV)(z_isinstance:‹"bo"›)(z_list:mg "list"=none)(z_len:mg "len"=none)(z_all:mg "all"=none)(z_str:mg "str"=none):"f"^1 ["thing","many"] false QdJ:=
 @fnV P w K mg base CT false "are_texts" "are_texts" Qak f fd dV ["thing","many"] ["thing","many"] 0 Qi6 F QEv fun cdv A outer s H E G hr=>
  (Qh (QE (Qd8 (Qcd "list" Qi4 QvD z_list PyProof.Rows.Boot.«list» Qow z_isinstance (DE.db (Qb 0 rfl (oi Qgl)))) (Qd8 (de_eq hr.units (DE.db (Q6 Qw5 z_len (Qu (DE.db (Qb 0 rfl (oi Qgl))) Qz))) (DE.db (Qb 1 rfl (oi Qve)))) (Qif (QjE rfl QxB z_all (Qu (DE.db (DF.de (Q8 rfl Qrn (DI.b (Qaw (Qb 0 rfl (oi Qgl)))) ‹"i"› (QA _) (fun fp s H G p=>⟨(QD (i:=0) Qrn.nd rfl (oi Qfj) (hf:=Or.inr Qfj)),QW,(Qcd "str" QH0 Qr8 z_str PyProof.Rows.Boot.«str» Qk1 z_isinstance (DE.db (Qb 0 rfl (oi Qfj))))⟩)))) Qz)))))))
abbrev QbU:Stmt:=top 6
theorem QGe:Qr ["thing"] ["thing"] (Qa QbU):=⟨rfl,rfl,rfl,dk,rfl,dk,dk⟩
theorem QlR:Lo QbU "thing":=dk
theorem Qyq:Gl QbU "int":=dk
theorem Qhc:Gl QbU "isinstance":=dk
theorem QwO:Gl QbU "bool":=dk
def Qk4:SD->Out Fl:=‹"do"›
def QeB:List D->Out D:=bodyF false 1 1 Qk4
theorem QKp(d0:D):QeB [d0]=(Qk4 [some (.k,d0)]>>=retF false):=rfl
theorem QJQ(F:FunV K "is_whole" "is_whole" QbU f fd dV)(z_isinstance:‹"bo"›)(z_int:mg "int"=none)(z_bool:mg "bool"=none):"f"^1 ["thing"] false QeB:=
 @fnV P w K mg base CT false "is_whole" "is_whole" QbU f fd dV ["thing"] ["thing"] 0 Qk4 F QGe fun cdv A outer s H E G hr=>
  (Qh (QE (Qd8 (Qcd "int" QIm Qyq z_int PyProof.Rows.Boot.«int» Qhc z_isinstance (DE.db (Qb 0 rfl (oi QlR)))) (Qif (QLE (Qcd "bool" QBX QwO z_bool PyProof.Rows.Boot.«bool» Qhc z_isinstance (DE.db (Qb 0 rfl (oi QlR)))))))))
abbrev Qbo:Stmt:=top 7
theorem QCm:Qr ["thing","least","most"] ["thing","least","most"] (Qa Qbo):=⟨rfl,rfl,rfl,dk,rfl,dk,dk⟩
theorem QkD:Lo Qbo "thing":=dk
theorem QqG:Gl Qbo "is_whole":=dk
theorem Qt9:Lo Qbo "least":=dk
theorem QvP:Lo Qbo "most":=dk
def Qjc:SD->Out Fl:=(sRet (eAnd (eA (fun xs=>QeB (xs++[])) ‹"dG"›) (Qdt dLe dLe (eVar 1) (eVar 0) (eVar 2))))
def QaQ:List D->Out D:=bodyF false 3 3 Qjc
theorem QGC(d0 d1 d2:D):QaQ [d0,d1,d2]=(Qjc [some (.k,d0),some (.k,d1),some (.k,d2)]>>=retF false):=rfl
theorem QFn(F:FunV K "is_within" "is_within" Qbo f fd dV)(QI4:"e"^QeB "is_whole" 1 false):"f"^2 ["thing","least","most"] false QaQ:=
 @fnV P w K mg base CT false "is_within" "is_within" Qbo f fd dV ["thing","least","most"] ["thing","least","most"] 1 Qjc F QCm fun cdv A outer s H E G hr=>
  (Qh (QE (Qd8 (de_f QI4 (hr.mono (by decide)) (Qc (Qb 0 rfl (oi QkD)) Qj) QqG) (Qif (QCU op_le Qcv ‹"by"› op_le Qcv ‹"by"› (DE.db (Qb 1 rfl (oi Qt9))) (DE.db (Qb 0 rfl (oi QkD))) (DE.db (Qb 2 rfl (oi QvP))))))))
abbrev Qa4:Stmt:=top 29
theorem QHJ:Qr ["thing"] ["thing"] (Qa Qa4):=⟨rfl,rfl,rfl,dk,rfl,dk,dk⟩
theorem QvA:Lo Qa4 "thing":=dk
theorem Qxb:Gl Qa4 "Rows":=dk
theorem QwJ:Gl Qa4 "Copy":=dk
theorem Quj:Gl Qa4 "Bundle":=dk
theorem Qw8:Gl Qa4 "Deal":=dk
theorem Qps:Gl Qa4 "isinstance":=dk
def QkP:SD->Out Fl:=(sRet (eIsa (isaTs [[("Deal",true),("Bundle",false),("Copy",false),("Rows",false),("Office",false)],[("Deal",false),("Bundle",true),("Copy",false),("Rows",false),("Office",false)],[("Deal",false),("Bundle",false),("Copy",true),("Rows",false),("Office",false)],[("Deal",false),("Bundle",false),("Copy",false),("Rows",true),("Office",false)]]) (eVar 0)))
def QeS:List D->Out D:=bodyF false 1 1 QkP
theorem QKh(d0:D):QeS [d0]=(QkP [some (.k,d0)]>>=retF false):=rfl
theorem QJy{QO:Addr}{Qy:Addr}{QN:Addr}{QP:Addr}(F:FunV K "is_clerk" "is_clerk" Qa4 f fd dV)(z_isinstance:‹"bo"›)(QQc:mg "Deal"=some (.ref QO))(QMT:mg "Bundle"=some (.ref Qy))(QPv:mg "Copy"=some (.ref QN))(QPQ:mg "Rows"=some (.ref QP))(Qyw:KitI K CT (.ref QO) [("Deal",true),("Bundle",false),("Copy",false),("Rows",false),("Office",false)])(QrX:KitI K CT (.ref Qy) [("Deal",false),("Bundle",true),("Copy",false),("Rows",false),("Office",false)])(QyC:KitI K CT (.ref QN) [("Deal",false),("Bundle",false),("Copy",true),("Rows",false),("Office",false)])(QyI:KitI K CT (.ref QP) [("Deal",false),("Bundle",false),("Copy",false),("Rows",true),("Office",false)]):"f"^1 ["thing"] false QeS:=
 @fnV P w K mg base CT false "is_clerk" "is_clerk" Qa4 f fd dV ["thing"] ["thing"] 0 QkP F QHJ fun cdv A outer s H E G hr=>
  (Qh (QE (QOC (a:=QO) (as:=[Qy,QN,QP]) (Qqk (QpG (v:=.ref QO) Qw8 QQc rfl) (Qqk (QpG (v:=.ref Qy) Quj QMT rfl) (Qqk (QpG (v:=.ref QN) QwJ QPv rfl) (Qqk (QpG (v:=.ref QP) Qxb QPQ rfl) QPi)))) ⟨Qyw,QrX,QyC,QyI,True.intro⟩ (by simp) Qps z_isinstance (DE.db (Qb 0 rfl (oi QvA))))))
abbrev QbP:Stmt:=inCls (top 21) 3
theorem QAB:Qr ["self"] ["self"] (Qa QbP):=⟨rfl,rfl,rfl,dk,rfl,dk,dk⟩
theorem Que:Lo QbP "self":=dk
theorem Qva:Gl QbP "len":=dk
def QhH:SD->Out Fl:=(sRet (eA fLen (aCons (e2 dIx (e1 (dFld Qm "table") (eVar 0)) (eC (.int 0))) aNil)))
def Qcq:List D->Out D:=bodyF false 1 1 QhH
theorem QDE(d0:D):Qcq [d0]=(QhH [some (.k,d0)]>>=retF false):=rfl
theorem QB9(F:FunV K "outs" "Clerk.outs" QbP f fd dV)(z_len:mg "len"=none)(fo_table:FldOk K CT Qm "table"):"f"^1 ["self"] false Qcq:=
 @fnV P w K mg base CT false "outs" "Clerk.outs" QbP f fd dV ["self"] ["self"] 0 QhH F QAB fun cdv A outer s H E G hr=>
  (Qh (QE (Q6 Qva z_len (Qu (DE.db (de_ix (Qpw fo_table (Qb 0 rfl (oi Que))) (DE.db Qd))) Qz))))
abbrev Qa3:Stmt:=inCls (top 21) 2
theorem Qxp:Qr ["self"] ["self"] (Qa Qa3):=⟨rfl,rfl,rfl,dk,rfl,dk,dk⟩
theorem QrP:Lo Qa3 "self":=dk
theorem QtA:Gl Qa3 "len":=dk
def QfZ:SD->Out Fl:=(sRet (eA fLen (aCons (e1 (dFld Qm "table") (eVar 0)) aNil)))
def QaE:List D->Out D:=bodyF false 1 1 QfZ
theorem QyY(d0:D):QaE [d0]=(QfZ [some (.k,d0)]>>=retF false):=rfl
theorem Qzn(F:FunV K "period" "Clerk.period" Qa3 f fd dV)(z_len:mg "len"=none)(fo_table:FldOk K CT Qm "table"):"f"^1 ["self"] false QaE:=
 @fnV P w K mg base CT false "period" "Clerk.period" Qa3 f fd dV ["self"] ["self"] 0 QfZ F Qxp fun cdv A outer s H E G hr=>
  (Qh (QE (Q6 QtA z_len (Qu (DE.db (Qpw fo_table (Qb 0 rfl (oi QrP)))) Qz))))
abbrev Qa0:Stmt:=top 42
theorem QIP:Qr ["thing"] ["thing"] (Qa Qa0):=⟨rfl,rfl,rfl,dk,rfl,dk,dk⟩
theorem Qbj:Lo Qa0 "thing":=dk
theorem QwL:Gl Qa0 "tuple":=dk
theorem Qqs:Gl Qa0 "isinstance":=dk
theorem QBz:Gl Qa0 "len":=dk
theorem Qud:Gl Qa0 "is_name":=dk
theorem Qsd:Gl Qa0 "is_clerk":=dk
theorem QrU:Gl Qa0 "are_texts":=dk
theorem QrN:Gl Qa0 "is_within":=dk
def Qm6:SD->Out Fl:=(sSeq (sIf (tOr' (tNot' (tVal (eIsa (isaT "tuple") (eVar 0)))) (tVal (e2 dNe ‹"G"› (eC (.int 4))))) ‹"W"› sNil) (sSeq (sIf (tOr' (tNot' (tVal (eA (fun xs=>QaT (xs++[])) (aCons ‹"H"› aNil)))) (tNot' (tVal (eA (fun xs=>QeS (xs++[])) (aCons ‹"y"› aNil))))) ‹"W"› sNil) (sRet (eAnd (eA (fun xs=>QdJ (xs++[])) (aCons (e2 dIx (eVar 0) (eC (.int 2))) (aCons (eMeth Qf "outs" (fun _=>Qcq) ‹"y"› aNil) aNil))) (eA (fun xs=>QaQ (xs++[])) (aCons (e2 dIx (eVar 0) (eC (.int 3))) (aCons (eC (.int 0)) (aCons (e2 dSub (eMeth Qf "period" (fun _=>QaE) ‹"y"› aNil) (eC (.int 1))) aNil))))))))
def QfB:List D->Out D:=bodyF false 1 1 Qm6
theorem QLu(d0:D):QfB [d0]=(Qm6 [some (.k,d0)]>>=retF false):=rfl
theorem QMu(F:FunV K "is_seat" "is_seat" Qa0 f fd dV)(Qhi:"e"^QaT "is_name" 1 false)(QJZ:"e"^QeS "is_clerk" 1 false)(QFs:"e"^QdJ "are_texts" 1 false)(QdE:"e"^QaQ "is_within" 2 false)(z_isinstance:‹"bo"›)(z_tuple:mg "tuple"=none)(z_len:mg "len"=none)(mt_outs:MtOk P w K mg base CT CX0 "outs" 1 Qf (fun c=>SpD K CT false ((fun _=>Qcq) c)))(mt_period:‹"de"›):"f"^3 ["thing"] false QfB:=
 @fnV P w K mg base CT false "is_seat" "is_seat" Qa0 f fd dV ["thing"] ["thing"] 2 Qm6 F QIP fun cdv A outer s H E G hr=>
  (Qg (ds_if (DW.dt (dw_or (QaC (QaF (Qcd "tuple" QsY QwL z_tuple PyProof.Rows.Boot.«tuple» Qqs z_isinstance (DE.db (Qb 0 rfl (oi Qbj)))))) (QcL (dt_ne hr.units (DE.db (Q6 QBz z_len (Qu (DE.db (Qb 0 rfl (oi Qbj))) Qz))) (DE.db Qd))))) ‹"cE"› QZ) (Qg (ds_if (DW.dt (dw_or (QaC (QaF (de_f Qhi (hr.mono (by decide)) (Qc ‹"aE"› Qj) Qud))) (QcL (QaC (QaF (de_f QJZ (hr.mono (by decide)) (Qc ‹"aE"› Qj) Qsd)))))) ‹"cE"› QZ) (Qh (QE (Qd8 (de_f QFs (hr.mono (by decide)) (Qc ‹"aE"› (Qc (Qq3 mt_outs (hr.mono (by decide)) ‹"aE"›) Qj)) QrU) (Qif (de_f QdE (hr.mono (by decide)) (Qc ‹"aE"› (Qc Qd (Qc (Qd6 (DE.db (Qq3 mt_period (hr.mono (by decide)) ‹"aE"›)) (DE.db Qd)) Qj))) QrN)))))))
abbrev Qac:Stmt:=top 43
theorem QCC:Qr ["thing","doors"] ["thing","doors"] (Qa Qac):=⟨rfl,rfl,rfl,dk,rfl,dk,dk⟩
theorem Qgk:Lo Qac "thing":=dk
theorem QmI:Gl Qac "MOST_CLERKS":=dk
theorem QrG:Gl Qac "is_list":=dk
abbrev Qix:Scope:={ kind:=ScopeKind.function,names:=[ (Str.ofString ".0",NameKind.local),(Str.ofString "seat",NameKind.local),(Str.ofString "is_seat",NameKind.globalImplicit)],isGenerator:=false,isCoroutine:=false,more:=[]:Scope }
theorem Qrj:QI ["seat"] [none] Qix (Qa Qac) ["thing","doors"]:=⟨rfl,dk,dk,rfl,dk,dk⟩
theorem Qfe:(Qi Qix (Qa Qac)).names.lookup ("seat":Str)=some NameKind.local:=dk
theorem QnV:(Qi Qix (Qa Qac)).names.lookup ("is_seat":Str)=some NameKind.globalImplicit:=dk
def Qkr:SD->Out D:=(eA (fun xs=>QfB (xs++[])) ‹"dG"›)
theorem Qxy:Gl Qac "all":=dk
abbrev Qpr:Scope:={ kind:=ScopeKind.function,names:=[(Str.ofString ".0",NameKind.local),(Str.ofString "seat",NameKind.local)],isGenerator:=false,isCoroutine:=false,more:=[]:Scope }
theorem Qrr:QI ["seat"] [none] Qpr (Qa Qac) ["thing","doors"]:=⟨rfl,dk,dk,rfl,dk,dk⟩
theorem Qff:(Qi Qpr (Qa Qac)).names.lookup ("seat":Str)=some NameKind.local:=dk
def Qke:SD->Out D:=‹"H"›
theorem Qub:Lo Qac "doors":=dk
theorem QnS:Gl Qac "all_unlike":=dk
def Qi7:SD->Out Fl:=(sSeq (sIf (tOr' (tNot' (tVal (eA (fun xs=>Qb4 (xs++[])) (aCons (eVar 0) (aCons (eC (.int 60)) aNil))))) (tNot' (tVal (eA (f1 fAll) (aCons (eComp [none] ‹"cX"› (gN 0) cTrue Qkr) aNil))))) ‹"W"› sNil) (sRet (eA (fun xs=>Qan (xs++[])) (aCons (e2 dCat (eComp [none] ‹"cX"› (gN 0) cTrue Qke) (eVar 1)) aNil))))
def QdU:List D->Out D:=bodyF false 2 2 Qi7
theorem QF9(d0 d1:D):QdU [d0,d1]=(Qi7 ‹"K"›>>=retF false):=rfl
theorem QHC{u_MOST_CLERKS:Value}(F:FunV K "are_seats" "are_seats" Qac f fd dV)(Qjz:"e"^Qb4 "is_list" 1 false)(QL0:"e"^QfB "is_seat" 3 false)(QfM:"e"^Qan "all_unlike" 1 false)(z_all:mg "all"=none)(c_MOST_CLERKS:mg "MOST_CLERKS"=some u_MOST_CLERKS)(r_MOST_CLERKS:RelV (toV (.int 60)) u_MOST_CLERKS):"f"^4 ["thing","doors"] false QdU:=
 @fnV P w K mg base CT false "are_seats" "are_seats" Qac f fd dV ["thing","doors"] ["thing","doors"] 3 Qi7 F QCC fun cdv A outer s H E G hr=>
  (Qg (ds_if (DW.dt (dw_or (QaC (QaF (de_f Qjz (hr.mono (by decide)) (Qc (Qb 0 rfl (oi Qgk)) (Qc (Qfa (d:=(.int 60)) QmI c_MOST_CLERKS rfl r_MOST_CLERKS) Qj)) QrG))) (QcL (QaC (QaF (QjE rfl Qxy z_all (Qu (DE.db (DF.de (Q8 rfl Qrj (DI.b (Qaw (Qb 0 rfl (oi Qgk)))) ‹"i"› (QA _) (fun fp s H G p=>⟨(QD (i:=0) Qrj.nd rfl (oi Qfe) (hf:=Or.inr Qfe)),QW,(de_f QL0 (hr.mono (by decide)) (Qc (Qb 0 rfl (oi Qfe)) Qj) QnV)⟩)))) Qz))))))) ‹"cE"› QZ) (Qh (QE (de_f QfM (hr.mono (by decide)) (Qc (DF.de (QPV (DF.de (Q8 rfl Qrr (DI.b (Qaw (Qb 0 rfl (oi Qgk)))) ‹"i"› (QA _) (fun fp s H G p=>⟨(QD (i:=0) Qrr.nd rfl (oi Qff) (hf:=Or.inr Qff)),QW,(de_ix (Qb 0 rfl (oi Qff)) (DE.db Qd))⟩))) (Qb 1 rfl (oi Qub)))) Qj) QnS))))
abbrev Qa6:Stmt:=top 44
theorem QHc:Qr ["thing","names"] ["thing","names"] (Qa Qa6):=⟨rfl,rfl,rfl,dk,rfl,dk,dk⟩
theorem Qc6:Lo Qa6 "thing":=dk
theorem QvN:Gl Qa6 "tuple":=dk
theorem Qpa:Gl Qa6 "isinstance":=dk
theorem Qy5:Gl Qa6 "len":=dk
theorem QjI:Gl Qa6 "is_name":=dk
theorem Qvn:Lo Qa6 "names":=dk
def QkX:SD->Out Fl:=(sSeq (sIf (tOr' (tNot' (tVal (eIsa (isaT "tuple") (eVar 0)))) (tVal (e2 dNe ‹"G"› (eC (.int 2))))) ‹"W"› sNil) (sRet (eAnd (eA (fun xs=>QaT (xs++[])) (aCons ‹"H"› aNil)) (eAnd (eA (fun xs=>QaT (xs++[])) (aCons ‹"y"› aNil)) (e2 dInL ‹"y"› (eVar 1))))))
def QeU:List D->Out D:=bodyF false 2 2 QkX
theorem QIQ(d0 d1:D):QeU [d0,d1]=(QkX ‹"K"›>>=retF false):=rfl
theorem QIz(F:FunV K "is_entry" "is_entry" Qa6 f fd dV)(Qhi:"e"^QaT "is_name" 1 false)(z_isinstance:‹"bo"›)(z_tuple:mg "tuple"=none)(z_len:mg "len"=none):"f"^2 ["thing","names"] false QeU:=
 @fnV P w K mg base CT false "is_entry" "is_entry" Qa6 f fd dV ["thing","names"] ["thing","names"] 1 QkX F QHc fun cdv A outer s H E G hr=>
  (Qg (ds_if (DW.dt (dw_or (QaC (QaF (Qcd "tuple" QsY QvN z_tuple PyProof.Rows.Boot.«tuple» Qpa z_isinstance (DE.db (Qb 0 rfl (oi Qc6)))))) (QcL (dt_ne hr.units (DE.db (Q6 Qy5 z_len (Qu (DE.db (Qb 0 rfl (oi Qc6))) Qz))) (DE.db Qd))))) ‹"cE"› QZ) (Qh (QE (Qd8 (de_f Qhi (hr.mono (by decide)) (Qc (de_ix (Qb 0 rfl (oi Qc6)) (DE.db Qd)) Qj) QjI) (Qd8 (de_f Qhi (hr.mono (by decide)) (Qc (de_ix (Qb 0 rfl (oi Qc6)) (DE.db Qd)) Qj) QjI) (Qif (QLo (DE.db (de_ix (Qb 0 rfl (oi Qc6)) (DE.db Qd))) (DE.db (Qb 1 rfl (oi Qvn))))))))))
abbrev QU:Stmt:=top 45
theorem Qyn:Qr ["thing","names"] ["thing","names"] (Qa QU):=⟨rfl,rfl,rfl,dk,rfl,dk,dk⟩
theorem Qfl:Lo QU "thing":=dk
theorem QjV:Gl QU "MOST_ENTRIES":=dk
theorem Qpe:Gl QU "is_list":=dk
abbrev QeP:Scope:={ kind:=ScopeKind.function,names:=[ (Str.ofString ".0",NameKind.local),(Str.ofString "entry",NameKind.local),(Str.ofString "is_entry",NameKind.globalImplicit),(Str.ofString "names",NameKind.free)],isGenerator:=false,isCoroutine:=false,more:=[]:Scope }
theorem Qnh:QI ["entry","names"] [none,some 1] QeP (Qa QU) ["thing","names"]:=⟨rfl,dk,dk,rfl,dk,dk⟩
theorem QdR:(Qi QeP (Qa QU)).names.lookup ("entry":Str)=some NameKind.local:=dk
theorem Qoq:(Qi QeP (Qa QU)).names.lookup ("names":Str)=some NameKind.cell:=dk
theorem Qk2:(Qi QeP (Qa QU)).names.lookup ("is_entry":Str)=some NameKind.globalImplicit:=dk
def Qig:SD->Out D:=(eA (fun xs=>QeU (xs++[])) (aCons (eVar 0) ‹"X"›))
theorem Qug:Gl QU "all":=dk
abbrev Qlo:Scope:={ kind:=ScopeKind.function,names:=[(Str.ofString ".0",NameKind.local),(Str.ofString "entry",NameKind.local)],isGenerator:=false,isCoroutine:=false,more:=[]:Scope }
theorem Qm1:QI ["entry"] [none] Qlo (Qa QU) ["thing","names"]:=⟨rfl,dk,dk,rfl,dk,dk⟩
theorem QdW:(Qi Qlo (Qa QU)).names.lookup ("entry":Str)=some NameKind.local:=dk
def Qh0:SD->Out D:=‹"H"›
theorem Qmf:Gl QU "all_unlike":=dk
def QgM:SD->Out Fl:=(sSeq (sIf (tOr' (tNot' (tVal (eA (fun xs=>Qb4 (xs++[])) (aCons (eVar 0) (aCons (eC (.int 6)) aNil))))) (tNot' (tVal (eA (f1 fAll) (aCons (eComp [none,some 1] ‹"cX"› (gN 0) cTrue Qig) aNil))))) ‹"W"› sNil) (sRet (eA (fun xs=>Qan (xs++[])) (aCons (eComp [none] ‹"cX"› (gN 0) cTrue Qh0) aNil))))
def QcC:List D->Out D:=bodyF false 2 2 QgM
theorem QAb(d0 d1:D):QcC [d0,d1]=(QgM ‹"K"›>>=retF false):=rfl
theorem QAZ{u_MOST_ENTRIES:Value}(F:FunV K "are_entries" "are_entries" QU f fd dV)(Qjz:"e"^Qb4 "is_list" 1 false)(QIy:"e"^QeU "is_entry" 2 false)(QfM:"e"^Qan "all_unlike" 1 false)(z_all:mg "all"=none)(c_MOST_ENTRIES:mg "MOST_ENTRIES"=some u_MOST_ENTRIES)(r_MOST_ENTRIES:RelV (toV (.int 6)) u_MOST_ENTRIES):"f"^3 ["thing","names"] false QcC:=
 @fnV P w K mg base CT false "are_entries" "are_entries" QU f fd dV ["thing","names"] ["thing","names"] 2 QgM F Qyn fun cdv A outer s H E G hr=>
  (Qg (ds_if (DW.dt (dw_or (QaC (QaF (de_f Qjz (hr.mono (by decide)) (Qc (Qb 0 rfl (oi Qfl)) (Qc (Qfa (d:=(.int 6)) QjV c_MOST_ENTRIES rfl r_MOST_ENTRIES) Qj)) Qpe))) (QcL (QaC (QaF (QjE rfl Qug z_all (Qu (DE.db (DF.de (Q8 rfl Qnh (DI.b (Qaw (Qb 0 rfl (oi Qfl)))) ‹"i"› (QA _) (fun fp s H G p=>⟨(QD (i:=0) Qnh.nd rfl (oi QdR) (hf:=Or.inr QdR)),QW,(de_f QIy (hr.mono (by decide)) (Qc (Qb 0 rfl (oi QdR)) (Qc (Qb 1 rfl (Or.inr (oi Qoq))) Qj)) Qk2)⟩)))) Qz))))))) ‹"cE"› QZ) (Qh (QE (de_f QfM (hr.mono (by decide)) (Qc (DF.de (Q8 rfl Qm1 (DI.b (Qaw (Qb 0 rfl (oi Qfl)))) ‹"i"› (QA _) (fun fp s H G p=>⟨(QD (i:=0) Qm1.nd rfl (oi QdW) (hf:=Or.inr QdW)),QW,(de_ix (Qb 0 rfl (oi QdW)) (DE.db Qd))⟩))) Qj) Qmf))))
abbrev Qb0:Stmt:=top 47
theorem QHS:Qr ["seat","places"] ["seat","places"] (Qa Qb0):=⟨rfl,rfl,rfl,dk,rfl,dk,dk⟩
theorem Qxf:Lo Qb0 "seat":=dk
abbrev QjQ:Scope:={ kind:=ScopeKind.function,names:=[ (Str.ofString ".0",NameKind.local),(Str.ofString "text",NameKind.local),(Str.ofString "places",NameKind.free)],isGenerator:=false,isCoroutine:=false,more:=[]:Scope }
theorem Qtq:QI ["text","places"] [none,some 1] QjQ (Qa Qb0) ["seat","places"]:=⟨rfl,dk,dk,rfl,dk,dk⟩
theorem QfG:(Qi QjQ (Qa Qb0)).names.lookup ("text":Str)=some NameKind.local:=dk
theorem Qqj:(Qi QjQ (Qa Qb0)).names.lookup ("places":Str)=some NameKind.cell:=dk
def QlD:SD->Out D:=(eDget (eVar 1) (eVar 0))
def QkN:SD->Out Fl:=(sRetF (eComp [none,some 1] (itL (e2 dIx (eVar 0) (eC (.int 2)))) (gN 0) cTrue QlD))
def QeD:List D->Out D:=bodyF true 2 2 QkN
theorem QJ9(d0 d1:D):QeD [d0,d1]=(QkN ‹"K"›>>=retF true):=rfl
theorem QIU(F:FunV K "leads_to" "leads_to" Qb0 f fd dV)  : "f"^1 ["seat","places"] true QeD:=
 @fnV P w K mg base CT true "leads_to" "leads_to" Qb0 f fd dV ["seat","places"] ["seat","places"] 0 QkN F QHS fun cdv A outer s H E G hr=>
  (Qh (QcZ (Q8 rfl Qtq (DI.b (Qaw (de_ix (Qb 0 rfl (oi Qxf)) (DE.db Qd)))) ‹"i"› (QA _) (fun fp s H G p=>⟨(QD (i:=0) Qtq.nd rfl (oi QfG) (hf:=Or.inr QfG)),QW,(QOU hr.units (Qb 1 rfl (Or.inr (oi Qqj))) (DE.db (Qb 0 rfl (oi QfG))))⟩))))
abbrev Qo:Stmt:=inCls (top 48) 0
theorem Qf0:Qr ["self","clerks","entries","doors","names","places","ways"] ["self","clerks","entries","doors"] (Qa Qo):=⟨rfl,rfl,rfl,dk,rfl,dk,dk⟩
theorem Qdl:Lo Qo "doors":=dk
theorem Ql5:Gl Qo "MOST_DOORS":=dk
theorem QmQ:Gl Qo "are_names":=dk
theorem QbS:Lo Qo "clerks":=dk
theorem QmD:Gl Qo "are_seats":=dk
abbrev Qmv:Scope:={ kind:=ScopeKind.function,names:=[(Str.ofString ".0",NameKind.local),(Str.ofString "seat",NameKind.local)],isGenerator:=false,isCoroutine:=false,more:=[]:Scope }
theorem Qnf:QI ["seat"] [none] Qmv (Qa Qo) ["self","clerks","entries","doors","names","places","ways"]:=⟨rfl,dk,dk,rfl,dk,dk⟩
theorem Qd9:(Qi Qmv (Qa Qo)).names.lookup ("seat":Str)=some NameKind.local:=dk
def Qhv:SD->Out D:=‹"H"›
theorem Qdj:Lo Qo "names":=dk
theorem Qhj:Lo Qo "entries":=dk
theorem QkU:Gl Qo "are_entries":=dk
theorem QmM:Gl Qo "places_of":=dk
theorem Qq6:(Qa Qo).names.lookup ("places":Str)=some NameKind.cell:=dk
abbrev QeG:Scope:={ kind:=ScopeKind.function,names:=[ (Str.ofString ".0",NameKind.local),(Str.ofString "seat",NameKind.local),(Str.ofString "leads_to",NameKind.globalImplicit),(Str.ofString "places",NameKind.free)],isGenerator:=false,isCoroutine:=false,more:=[]:Scope }
theorem QmX:QI ["seat","places"] [none,some 5] QeG (Qa Qo) ["self","clerks","entries","doors","names","places","ways"]:=⟨rfl,dk,dk,rfl,dk,dk⟩
theorem Qek:(Qi QeG (Qa Qo)).names.lookup ("seat":Str)=some NameKind.local:=dk
theorem QmO:(Qi QeG (Qa Qo)).names.lookup ("places":Str)=some NameKind.cell:=dk
theorem Qld:(Qi QeG (Qa Qo)).names.lookup ("leads_to":Str)=some NameKind.globalImplicit:=dk
def Qh6:SD->Out D:=(eA (fun xs=>QeD (xs++[])) (aCons (eVar 0) ‹"X"›))
theorem Qfz:Lo Qo "ways":=dk
abbrev QlQ:Scope:={ kind:=ScopeKind.function,names:=[(Str.ofString ".0",NameKind.local),(Str.ofString "way",NameKind.local)],isGenerator:=false,isCoroutine:=false,more:=[]:Scope }
theorem QmV:QI ["way"] [none] QlQ (Qa Qo) ["self","clerks","entries","doors","names","places","ways"]:=⟨rfl,dk,dk,rfl,dk,dk⟩
theorem QeL:(Qi QlQ (Qa Qo)).names.lookup ("way":Str)=some NameKind.local:=dk
def QhK:SD->Out D:=(e2 dInL (eC .non) (eVar 0))
theorem Quc:Gl Qo "any":=dk
theorem Qbv:Lo Qo "self":=dk
theorem QsF:Gl Qo "list":=dk
abbrev Qg1:Scope:={ kind:=ScopeKind.function,names:=[ (Str.ofString ".0",NameKind.local),(Str.ofString "entry",NameKind.local),(Str.ofString "places",NameKind.free)],isGenerator:=false,isCoroutine:=false,more:=[]:Scope }
theorem Qnb:QI ["entry","places"] [none,some 5] Qg1 (Qa Qo) ["self","clerks","entries","doors","names","places","ways"]:=⟨rfl,dk,dk,rfl,dk,dk⟩
theorem Qcg:(Qi Qg1 (Qa Qo)).names.lookup ("entry":Str)=some NameKind.local:=dk
theorem QmN:(Qi Qg1 (Qa Qo)).names.lookup ("places":Str)=some NameKind.cell:=dk
def Qfr:SD->Out D:=(eTup (aCons ‹"H"› (aCons (eDix (eVar 1) ‹"y"›) aNil)))
abbrev Qmi:Scope:={ kind:=ScopeKind.function,names:=[(Str.ofString ".0",NameKind.local),(Str.ofString "seat",NameKind.local)],isGenerator:=false,isCoroutine:=false,more:=[]:Scope }
theorem Qm5:QI ["seat"] [none] Qmi (Qa Qo) ["self","clerks","entries","doors","names","places","ways"]:=⟨rfl,dk,dk,rfl,dk,dk⟩
theorem Qei:(Qi Qmi (Qa Qo)).names.lookup ("seat":Str)=some NameKind.local:=dk
def Qfu:SD->Out D:=‹"y"›
abbrev Qll:Scope:={ kind:=ScopeKind.function,names:=[(Str.ofString ".0",NameKind.local),(Str.ofString "seat",NameKind.local)],isGenerator:=false,isCoroutine:=false,more:=[]:Scope }
theorem Qm3:QI ["seat"] [none] Qll (Qa Qo) ["self","clerks","entries","doors","names","places","ways"]:=⟨rfl,dk,dk,rfl,dk,dk⟩
theorem Qd3:(Qi Qll (Qa Qo)).names.lookup ("seat":Str)=some NameKind.local:=dk
def Qfy:SD->Out D:=(e2 dIx (eVar 0) (eC (.int 3)))
def QgT:SD->Out Fl:=(sSeq (fun ς=>noX ((sIf (tNot' (tVal (eA (fun xs=>QdO (xs++[])) (aCons (eVar 3) (aCons (eC (.int 6)) aNil))))) Qhx sNil) ς)) (sSeq (fun ς=>noX ((sIf (tNot' (tVal (eA (fun xs=>QdU (xs++[])) (aCons (eVar 1) (aCons (eVar 3) aNil))))) Qhx sNil) ς)) (sSeq (fun ς=>noX ((sSet 4 (eComp [none] ‹"dt"› (gN 0) cTrue Qhv)) ς)) (sSeq (fun ς=>noX ((sIf (tNot' (tVal (eA (fun xs=>QcC (xs++[])) (aCons (eVar 2) (aCons (eVar 4) aNil))))) Qhx sNil) ς)) (sSeq (fun ς=>noX ((sSet 5 (eA (fun xs=>QdD (xs++[])) (aCons (eVar 4) (aCons (eVar 3) aNil)))) ς)) (sSeq (fun ς=>noX ((sSet 6 (eComp [none,some 5] ‹"dt"› (gN 0) cTrue Qh6)) ς)) (sSeq (fun ς=>noX ((sIf (tVal (eA (f1 fAny) (aCons (eComp [none] (itL (eVar 6)) (gN 0) cTrue QhK) aNil))) Qhx sNil) ς)) (sSeq (fun ς=>noX (sFldS Qm "clerk_names" 0 (eVar 4) ς)) (sSeq (fun ς=>noX (sFldS Qm "door_names" 0 (e1 dList (eVar 3)) ς)) (sSeq (fun ς=>noX (sFldS Qm "entry_places" 0 (eComp [none,some 5] (itL (eVar 2)) (gN 0) cTrue Qfr) ς)) (sSeq (fun ς=>noX (sFldS Qm "staff" 0 (eComp [none] ‹"dt"› (gN 0) cTrue Qfu) ς)) (sSeq (fun ς=>noX (sFldS Qm "first_states" 0 (eComp [none] ‹"dt"› (gN 0) cTrue Qfy) ς)) (fun ς=>noX (sFldS Qm "ways" 0 (eVar 6) ς))))))))))))))
def Qbr:Str->List (Str×D)->List D->Out (List (Str×D)):=bodyI 4 7 QgT
theorem QBq(c:Str)(fds:List (Str×D))(d1 d2 d3:D):Qbr c fds [d1,d2,d3]=(QgT [some (.s,.ins c fds),some (.k,d1),some (.k,d2),some (.k,d3),none,none,none]>>=QfF c):=rfl
theorem QBA{u_MOST_DOORS:Value}(F:FunV K "__init__" "Office.__init__" Qo f fd dV)(QHj:"e"^QdO "are_names" 2 false)(QHG:"e"^QdU "are_seats" 4 false)(QBC:"e"^QcC "are_entries" 3 false)(QGB:"e"^QdD "places_of" 1 true)(QIW:"e"^QeD "leads_to" 1 true)(z_any:mg "any"=none)(z_list:mg "list"=none)(c_MOST_DOORS:mg "MOST_DOORS"=some u_MOST_DOORS)(r_MOST_DOORS:RelV (toV (.int 6)) u_MOST_DOORS)(fo_clerk_names:FldOk K CT Qm "clerk_names")(fo_door_names:FldOk K CT Qm "door_names")(fo_entry_places:FldOk K CT Qm "entry_places")(fo_staff:FldOk K CT Qm "staff")(fo_first_states:FldOk K CT Qm "first_states")(fo_ways:FldOk K CT Qm "ways"):FnOk P w K mg base (CXR P w) 5 f fd ["self","clerks","entries","doors"] (SpI K CT Qbr):=
 @fnI P w K mg base CT "__init__" "Office.__init__" Qo f fd dV ["self","clerks","entries","doors","names","places","ways"] ["self","clerks","entries","doors"] 4 QgT F Qf0 fun cdv A outer s H E G p hr=>
  (Qg (DS.lift (ds_if (QaC (QaF (de_f QHj (hr.mono (by decide)) (Qc (Qb 3 rfl (oi Qdl)) (Qc (Qfa (d:=(.int 6)) Ql5 c_MOST_DOORS rfl r_MOST_DOORS) Qj)) QmQ))) (Qh QfA) QZ)) (Qg (DS.lift (ds_if (QaC (QaF (de_f QHG (hr.mono (by decide)) (Qc (Qb 1 rfl (oi QbS)) (Qc (Qb 3 rfl (oi Qdl)) Qj)) QmD))) (Qh QfA) QZ)) (Qg (DS.lift (QiR (i:=4) rfl Qnf ‹"dH"› ‹"i"› (QA _) (fun fp s H G p=>⟨(QD (i:=0) Qnf.nd rfl (oi Qd9) (hf:=Or.inr Qd9)),QW,(de_ix (Qb 0 rfl (oi Qd9)) (DE.db Qd))⟩) Qf0.nd rfl (oi Qdj))) (Qg (DS.lift (ds_if (QaC (QaF (de_f QBC (hr.mono (by decide)) (Qc (Qb 2 rfl (oi Qhj)) (Qc (Qb 4 rfl (oi Qdj)) Qj)) QkU))) (Qh QfA) QZ)) (Qg (DS.lift (QG (i:=5) Qf0.nd rfl (Or.inr Qq6) (de_f QGB (hr.mono (by decide)) (Qc (Qb 4 rfl (oi Qdj)) (Qc (Qb 3 rfl (oi Qdl)) Qj)) QmM))) (Qg (DS.lift (QiR (i:=6) rfl QmX ‹"dH"› ‹"i"› (QA _) (fun fp s H G p=>⟨(QD (i:=0) QmX.nd rfl (oi Qek) (hf:=Or.inr Qek)),QW,(de_f QIW (hr.mono (by decide)) (Qc (Qb 0 rfl (oi Qek)) (Qc (Qb 1 rfl (Or.inr (oi QmO))) Qj)) Qld)⟩) Qf0.nd rfl (oi Qfz))) (Qg (DS.lift (ds_if (QaF (QQI rfl Quc z_any (Qu (DE.db (DF.de (Q8 rfl QmV (DI.b (Qaw (Qb 6 rfl (oi Qfz)))) ‹"i"› (QA _) (fun fp s H G p=>⟨(QD (i:=0) QmV.nd rfl (oi QeL) (hf:=Or.inr QeL)),QW,(QLo (DE.db QLq) (DE.db (Qb 0 rfl (oi QeL))))⟩)))) Qz))) (Qh QfA) QZ)) (Qg (DS.lift (Qhg 0 fo_clerk_names (Qb 4 rfl (oi Qdj)) rfl (oi Qbv))) (Qg (DS.lift (Qhg 0 fo_door_names (DF.de (Qcx QsF z_list (Qb 3 rfl (oi Qdl)))) rfl (oi Qbv))) (Qg (DS.lift (Qhg 0 fo_entry_places (DF.de (Q8 rfl Qnb (DI.b (Qaw (Qb 2 rfl (oi Qhj)))) ‹"i"› (QA _) (fun fp s H G p=>⟨(QD (i:=0) Qnb.nd rfl (oi Qcg) (hf:=Or.inr Qcg)),QW,(Qe8 (Qc (de_ix (Qb 0 rfl (oi Qcg)) (DE.db Qd)) (Qc (QPr hr.units (Qb 1 rfl (Or.inr (oi QmN))) (DE.db (de_ix (Qb 0 rfl (oi Qcg)) (DE.db Qd)))) Qj)))⟩))) rfl (oi Qbv))) (Qg (DS.lift (Qhg 0 fo_staff (DF.de (Q8 rfl Qm5 ‹"dH"› ‹"i"› (QA _) (fun fp s H G p=>⟨(QD (i:=0) Qm5.nd rfl (oi Qei) (hf:=Or.inr Qei)),QW,(de_ix (Qb 0 rfl (oi Qei)) (DE.db Qd))⟩))) rfl (oi Qbv))) (Qg (DS.lift (Qhg 0 fo_first_states (DF.de (Q8 rfl Qm3 ‹"dH"› ‹"i"› (QA _) (fun fp s H G p=>⟨(QD (i:=0) Qm3.nd rfl (oi Qd3) (hf:=Or.inr Qd3)),QW,(de_ix (Qb 0 rfl (oi Qd3)) (DE.db Qd))⟩))) rfl (oi Qbv))) (Qh (DS.lift (Qhg 0 fo_ways (Qb 6 rfl (oi Qfz)) rfl (oi Qbv))))))))))))))))
abbrev QbA:Stmt:=top 19
theorem QI1:Qr ["one","other"] ["one","other"] (Qa QbA):=⟨rfl,rfl,rfl,dk,rfl,dk,dk⟩
theorem QBv:Lo QbA "one":=dk
theorem QwI:Lo QbA "other":=dk
theorem QAF:Gl QbA "zip":=dk
abbrev Qmk:Scope:={ kind:=ScopeKind.function,names:=[ (Str.ofString ".0",NameKind.local),(Str.ofString "each",NameKind.local),(Str.ofString "more",NameKind.local)],isGenerator:=false,isCoroutine:=false,more:=[]:Scope }
theorem QnM:QI ["each","more"] [none,none] Qmk (Qa QbA) ["one","other"]:=⟨rfl,dk,dk,rfl,dk,dk⟩
theorem Qgh:(Qi Qmk (Qa QbA)).names.lookup ("more":Str)=some NameKind.local:=dk
theorem Qgr:(Qi Qmk (Qa QbA)).names.lookup ("each":Str)=some NameKind.local:=dk
def QuM:SD->Out D:=(e2 dAdd (eVar 0) (eVar 1))
def QmZ:SD->Out Fl:=(sRetF (eComp [none,none] (itZ (eVar 0) (eVar 1)) (gT [0,1]) cTrue QuM))
def Qeo:List D->Out D:=bodyF true 2 2 QmZ
theorem QLi(d0 d1:D):Qeo [d0,d1]=(QmZ ‹"K"›>>=retF true):=rfl
theorem QLI(F:FunV K "sums_of" "sums_of" QbA f fd dV)(z_zip:mg "zip"=none):"f"^1 ["one","other"] true Qeo:=
 @fnV P w K mg base CT true "sums_of" "sums_of" QbA f fd dV ["one","other"] ["one","other"] 0 QmZ F QI1 fun cdv A outer s H E G hr=>
  (Qh (QcZ (Q8 rfl QnM (DI.b (QCb QAF z_zip (Qb 0 rfl (oi QBv)) (Qb 1 rfl (oi QwI)))) (fun ς=>Qvp (fun i hi=>Qx (by revert hi;revert i;decide) ς)) (Qha _) (fun fp s H G p=>⟨(Qmo rfl (Qah (i:=0) QnM.nd rfl (oi Qgr) (Qah (i:=1) QnM.nd rfl (oi Qgh) Qfc (hf:=Or.inr Qgh)) (hf:=Or.inr Qgr))),QW,(QaH (DE.db (Qb 0 rfl (oi Qgr))) (DE.db (Qb 1 rfl (oi Qgh))))⟩))))
abbrev Qam:Stmt:=top 20
theorem Qhy:Qr ["rows","sums","row"] ["rows"] (Qa Qam):=⟨rfl,rfl,rfl,dk,rfl,dk,dk⟩
theorem Qij:Lo Qam "rows":=dk
abbrev QkI:Scope:={ kind:=ScopeKind.function,names:=[(Str.ofString ".0",NameKind.local),(Str.ofString "each",NameKind.local)],isGenerator:=false,isCoroutine:=false,more:=[]:Scope }
theorem Qlq:QI ["each"] [none] QkI (Qa Qam) ["rows","sums","row"]:=⟨rfl,dk,dk,rfl,dk,dk⟩
theorem QgJ:(Qi QkI (Qa Qam)).names.lookup ("each":Str)=some NameKind.local:=dk
def Qg0:SD->Out D:=(eC (.int 0))
theorem Qdk:Lo Qam "sums":=dk
theorem QjC:Lo Qam "row":=dk
theorem QoF:Gl Qam "sums_of":=dk
def Qdc:SD->Out Fl:=(Qb3 1 (eA (fun xs=>Qeo (xs++[])) (aCons (eIxO 1 ‹"aK"›) (aCons (eVar 2) aNil))))
def QfW:SD->Out Fl:=(sSeq (sSetO 1 (eLst (aCons (eComp [none] (itL ‹"H"›) (gN 0) cTrue Qg0) aNil))) (sSeq (sFor (gN 2) ‹"cX"› Qdc) (sRetO 1)))
def Qba:List D->Out D:=bodyF true 1 3 QfW
theorem QyP(d0:D):Qba [d0]=(QfW [some (.k,d0),none,none]>>=retF true):=rfl
theorem QyG(F:FunV K "running_sums" "running_sums" Qam f fd dV)(QK0:"e"^Qeo "sums_of" 1 true):"f"^2 ["rows"] true Qba:=
 @fnV P w K mg base CT true "running_sums" "running_sums" Qam f fd dV ["rows","sums","row"] ["rows"] 1 QfW F Qhy fun cdv A outer s H E G hr=>
  (Qg (Qcf (i:=1) Qhy.nd rfl (oi Qdk) (Qay (Qc (DF.de (Q8 rfl Qlq (DI.b (Qaw (de_ix (Qb 0 rfl (oi Qij)) (DE.db Qd)))) ‹"i"› (QA _) (fun fp s H G p=>⟨(QD (i:=0) Qlq.nd rfl (oi QgJ) (hf:=Or.inr QgJ)),QW,Qd⟩))) Qj))) (Qg (QcA PassesOwn.never rfl (Qaw (Qb 0 rfl (oi Qij))) (QD (i:=2) Qhy.nd rfl (oi QjC)) (QA _) (Qh (Qdr 1 (de_f QK0 (hr.mono (by decide)) (Qc (QPK 1 ‹"cv"› rfl (oi Qdk)) (Qc (Qb 2 rfl (oi QjC)) Qj)) QoF) rfl (oi Qdk)))) (Qh (QpN 1 rfl (oi Qdk)))))
abbrev Q1:Stmt:=inCls (top 21) 1
theorem Qtn:Qr ["self","rows"] ["self","rows"] (Qa Q1):=⟨rfl,rfl,rfl,dk,rfl,dk,dk⟩
theorem Qgy:Lo Q1 "rows":=dk
abbrev QeZ:Scope:={ kind:=ScopeKind.function,names:=[ (Str.ofString ".0",NameKind.local),(Str.ofString "row",NameKind.local),(Str.ofString "list",NameKind.globalImplicit)],isGenerator:=false,isCoroutine:=false,more:=[]:Scope }
theorem Qih:QI ["row"] [none] QeZ (Qa Q1) ["self","rows"]:=⟨rfl,dk,dk,rfl,dk,dk⟩
theorem Qde:(Qi QeZ (Qa Q1)).names.lookup ("row":Str)=some NameKind.local:=dk
theorem Qk0:(Qi QeZ (Qa Q1)).names.lookup ("list":Str)=some NameKind.globalImplicit:=dk
def Qfn:SD->Out D:=(e1 dList (eVar 0))
theorem QgI:Lo Q1 "self":=dk
theorem Qhw:Gl Q1 "running_sums":=dk
def QdX:SD->Out Fl:=(sSeq (fun ς=>noX (sFldS Qm "table" 0 (eComp [none] ‹"dt"› (gN 0) cTrue Qfn) ς)) (fun ς=>noX (sFldS Qm "heads" 0 (eA (fun xs=>Qba (xs++[])) ‹"X"›) ς)))
def QS:Str->List (Str×D)->List D->Out (List (Str×D)):=bodyI 2 2 QdX
theorem Qt5(c:Str)(fds:List (Str×D))(d1:D):QS c fds [d1]=(QdX ‹"bD"›>>=QfF c):=rfl
theorem Qt6(F:FunV K "keep_rows" "Clerk.keep_rows" Q1 f fd dV)(QyK:"e"^Qba "running_sums" 2 true)(z_list:mg "list"=none)(fo_table:FldOk K CT Qm "table")(fo_heads:FldOk K CT Qm "heads"):FnOk P w K mg base (CXR P w) 3 f fd ["self","rows"] (SpI K CT QS):=
 @fnI P w K mg base CT "keep_rows" "Clerk.keep_rows" Q1 f fd dV ["self","rows"] ["self","rows"] 2 QdX F Qtn fun cdv A outer s H E G p hr=>
  (Qg (DS.lift (Qhg 0 fo_table (DF.de (Q8 rfl Qih (DI.b (Qaw (Qb 1 rfl (oi Qgy)))) ‹"i"› (QA _) (fun fp s H G p=>⟨(QD (i:=0) Qih.nd rfl (oi Qde) (hf:=Or.inr Qde)),QW,(DF.de (Qcx Qk0 z_list (Qb 0 rfl (oi Qde))))⟩))) rfl (oi QgI))) (Qh (DS.lift (Qhg 0 fo_heads (de_f QyK (hr.mono (by decide)) (Qc (Qb 1 rfl (oi Qgy)) Qj) Qhw) rfl (oi QgI)))))
abbrev QaZ:Stmt:=top 27
theorem QMa:Qr ["thing"] ["thing"] (Qa QaZ):=⟨rfl,rfl,rfl,dk,rfl,dk,dk⟩
theorem Qiv:Lo QaZ "thing":=dk
theorem QBw:Gl QaZ "list":=dk
theorem QrT:Gl QaZ "isinstance":=dk
theorem QC0:Gl QaZ "len":=dk
theorem QsU:Gl QaZ "MOST_OUTS":=dk
abbrev Qjs:Scope:={ kind:=ScopeKind.function,names:=[ (Str.ofString ".0",NameKind.local),(Str.ofString "count",NameKind.local),(Str.ofString "is_within",NameKind.globalImplicit),(Str.ofString "MOST_SENT",NameKind.globalImplicit)],isGenerator:=false,isCoroutine:=false,more:=[]:Scope }
theorem QwE:QI ["count"] [none] Qjs (Qa QaZ) ["thing"]:=⟨rfl,dk,dk,rfl,dk,dk⟩
theorem Qgn:(Qi Qjs (Qa QaZ)).names.lookup ("count":Str)=some NameKind.local:=dk
theorem Qo1:(Qi Qjs (Qa QaZ)).names.lookup ("MOST_SENT":Str)=some NameKind.globalImplicit:=dk
theorem QoY:(Qi Qjs (Qa QaZ)).names.lookup ("is_within":Str)=some NameKind.globalImplicit:=dk
def QqF:SD->Out D:=(eA (fun xs=>QaQ (xs++[])) (aCons (eVar 0) (aCons (eC (.int 0)) (aCons (eC (.int 9)) aNil))))
theorem QDx:Gl QaZ "all":=dk
def Qp9:SD->Out Fl:=(sSeq (sIf (tOr' (tNot' (tVal ‹"cN"›)) (tVal (e2 dGt ‹"G"› (eC (.int 6))))) ‹"W"› sNil) (sRet (eA (f1 fAll) (aCons (eComp [none] ‹"cX"› (gN 0) cTrue QqF) aNil))))
def QeM:List D->Out D:=bodyF false 1 1 Qp9
theorem QNx(d0:D):QeM [d0]=(Qp9 [some (.k,d0)]>>=retF false):=rfl
theorem QNQ{u_MOST_OUTS:Value}{u_MOST_SENT:Value}(F:FunV K "is_row" "is_row" QaZ f fd dV)(QdE:"e"^QaQ "is_within" 2 false)(z_isinstance:‹"bo"›)(z_list:mg "list"=none)(z_len:mg "len"=none)(z_all:mg "all"=none)(c_MOST_OUTS:mg "MOST_OUTS"=some u_MOST_OUTS)(r_MOST_OUTS:RelV (toV (.int 6)) u_MOST_OUTS)(c_MOST_SENT:mg "MOST_SENT"=some u_MOST_SENT)(r_MOST_SENT:RelV (toV (.int 9)) u_MOST_SENT):"f"^3 ["thing"] false QeM:=
 @fnV P w K mg base CT false "is_row" "is_row" QaZ f fd dV ["thing"] ["thing"] 2 Qp9 F QMa fun cdv A outer s H E G hr=>
  (Qg (ds_if (DW.dt (dw_or (QaC (QaF (Qcd "list" Qi4 QBw z_list PyProof.Rows.Boot.«list» QrT z_isinstance (DE.db (Qb 0 rfl (oi Qiv)))))) (QcL (dt_gt (DE.db (Q6 QC0 z_len (Qu (DE.db (Qb 0 rfl (oi Qiv))) Qz))) (DE.db (Qfa (d:=(.int 6)) QsU c_MOST_OUTS rfl r_MOST_OUTS)))))) ‹"cE"› QZ) (Qh (QE (QjE rfl QDx z_all (Qu (DE.db (DF.de (Q8 rfl QwE (DI.b (Qaw (Qb 0 rfl (oi Qiv)))) ‹"i"› (QA _) (fun fp s H G p=>⟨(QD (i:=0) QwE.nd rfl (oi Qgn) (hf:=Or.inr Qgn)),QW,(de_f QdE (hr.mono (by decide)) (Qc (Qb 0 rfl (oi Qgn)) (Qc Qd (Qc (Qfa (d:=(.int 9)) Qo1 c_MOST_SENT rfl r_MOST_SENT) Qj))) QoY)⟩)))) Qz)))))
abbrev Q9:Stmt:=top 28
theorem QG6:Qr ["thing"] ["thing"] (Qa Q9):=⟨rfl,rfl,rfl,dk,rfl,dk,dk⟩
theorem Qez:(Qa Q9).names.lookup ("thing":Str)=some NameKind.cell:=dk
theorem QwQ:Gl Q9 "list":=dk
theorem QpB:Gl Q9 "isinstance":=dk
theorem Qzd:Gl Q9 "len":=dk
theorem QpS:Gl Q9 "MOST_ROWS":=dk
abbrev QjO:Scope:={ kind:=ScopeKind.function,names:=[ (Str.ofString ".0",NameKind.local),(Str.ofString "row",NameKind.local),(Str.ofString "is_row",NameKind.globalImplicit)],isGenerator:=false,isCoroutine:=false,more:=[]:Scope }
theorem Qr0:QI ["row"] [none] QjO (Qa Q9) ["thing"]:=⟨rfl,dk,dk,rfl,dk,dk⟩
theorem Qgm:(Qi QjO (Qa Q9)).names.lookup ("row":Str)=some NameKind.local:=dk
theorem Qrd:(Qi QjO (Qa Q9)).names.lookup ("is_row":Str)=some NameKind.globalImplicit:=dk
def QlE:SD->Out D:=(eA (fun xs=>QeM (xs++[])) ‹"dG"›)
theorem QpC:Gl Q9 "all":=dk
abbrev QgV:Scope:={ kind:=ScopeKind.function,names:=[ (Str.ofString ".0",NameKind.local),(Str.ofString "row",NameKind.local),(Str.ofString "len",NameKind.globalImplicit),(Str.ofString "thing",NameKind.free)],isGenerator:=false,isCoroutine:=false,more:=[]:Scope }
theorem Qs5:QI ["row","thing"] [none,some 0] QgV (Qa Q9) ["thing"]:=⟨rfl,dk,dk,rfl,dk,dk⟩
theorem Qgo:(Qi QgV (Qa Q9)).names.lookup ("row":Str)=some NameKind.local:=dk
theorem QkH:(Qi QgV (Qa Q9)).names.lookup ("len":Str)=some NameKind.globalImplicit:=dk
theorem QrE:(Qi QgV (Qa Q9)).names.lookup ("thing":Str)=some NameKind.cell:=dk
def Qmt:SD->Out D:=(e2 dEq ‹"G"› (eA fLen (aCons (e2 dIx (eVar 1) (eC (.int 0))) aNil)))
def Qlf:SD->Out Fl:=(sSeq (sIf (tOr' (tNot' (tVal ‹"cN"›)) (tNot' (tVal (Qdt dLe dLe (eC (.int 1)) ‹"G"› (eC (.int 12)))))) ‹"W"› sNil) (sSeq (sIf (tNot' (tVal (eA (f1 fAll) (aCons (eComp [none] ‹"cX"› (gN 0) cTrue QlE) aNil)))) ‹"W"› sNil) (sRet (eA (f1 fAll) (aCons (eComp [none,some 0] ‹"cX"› (gN 0) cTrue Qmt) aNil)))))
def QeC:List D->Out D:=bodyF false 1 1 Qlf
theorem QJK(d0:D):QeC [d0]=(Qlf [some (.k,d0)]>>=retF false):=rfl
theorem QKt{u_MOST_ROWS:Value}(F:FunV K "is_table" "is_table" Q9 f fd dV)(QuZ:"e"^QeM "is_row" 3 false)(z_isinstance:‹"bo"›)(z_list:mg "list"=none)(z_len:mg "len"=none)(z_all:mg "all"=none)(c_MOST_ROWS:mg "MOST_ROWS"=some u_MOST_ROWS)(r_MOST_ROWS:RelV (toV (.int 12)) u_MOST_ROWS):"f"^4 ["thing"] false QeC:=
 @fnV P w K mg base CT false "is_table" "is_table" Q9 f fd dV ["thing"] ["thing"] 3 Qlf F QG6 fun cdv A outer s H E G hr=>
  (Qg (ds_if (DW.dt (dw_or (QaC (QaF (Qcd "list" Qi4 QwQ z_list PyProof.Rows.Boot.«list» QpB z_isinstance (DE.db (Qb 0 rfl (Or.inr (oi Qez))))))) (QcL (QaC (QD6 op_le Qcv ‹"by"› op_le Qcv ‹"by"› (DE.db Qd) (DE.db (Q6 Qzd z_len (Qu (DE.db (Qb 0 rfl (Or.inr (oi Qez)))) Qz))) (DE.db (Qfa (d:=(.int 12)) QpS c_MOST_ROWS rfl r_MOST_ROWS))))))) ‹"cE"› QZ) (Qg (ds_if (QaC (QaF (QjE rfl QpC z_all (Qu (DE.db (DF.de (Q8 rfl Qr0 (DI.b (Qaw (Qb 0 rfl (Or.inr (oi Qez))))) ‹"i"› (QA _) (fun fp s H G p=>⟨(QD (i:=0) Qr0.nd rfl (oi Qgm) (hf:=Or.inr Qgm)),QW,(de_f QuZ (hr.mono (by decide)) (Qc (Qb 0 rfl (oi Qgm)) Qj) Qrd)⟩)))) Qz)))) ‹"cE"› QZ) (Qh (QE (QjE rfl QpC z_all (Qu (DE.db (DF.de (Q8 rfl Qs5 (DI.b (Qaw (Qb 0 rfl (Or.inr (oi Qez))))) ‹"i"› (QA _) (fun fp s H G p=>⟨(QD (i:=0) Qs5.nd rfl (oi Qgo) (hf:=Or.inr Qgo)),QW,(de_eq hr.units (DE.db (Q6 QkH z_len (Qu (DE.db (Qb 0 rfl (oi Qgo))) Qz))) (DE.db (Q6 QkH z_len (Qu (DE.db (de_ix (Qb 1 rfl (Or.inr (oi QrE))) (DE.db Qd))) Qz))))⟩)))) Qz))))))
abbrev QbK:Stmt:=inCls (top 25) 0
theorem QES:Qr ["self","rows"] ["self","rows"] (Qa QbK):=⟨rfl,rfl,rfl,dk,rfl,dk,dk⟩
theorem Qlk:Lo QbK "rows":=dk
theorem QpW:Gl QbK "is_table":=dk
theorem Qvb:Lo QbK "self":=dk
def Qjf:SD->Out Fl:=(sSeq (fun ς=>noX ((sIf (tNot' (tVal (eA (fun xs=>QeC (xs++[])) ‹"X"›))) Qhx sNil) ς)) (QjH Qf "keep_rows" QS 0 (fun ς=>noX (‹"X"› ς))))
def QdP:Str->List (Str×D)->List D->Out (List (Str×D)):=bodyI 2 2 Qjf
theorem QGg(c:Str)(fds:List (Str×D))(d1:D):QdP c fds [d1]=(Qjf ‹"bD"›>>=QfF c):=rfl
theorem QFw(F:FunV K "__init__" "Rows.__init__" QbK f fd dV)(QJm:"e"^QeC "is_table" 4 false)(ms_keep_rows:‹"af"›):FnOk P w K mg base (CXR P w) 5 f fd ["self","rows"] (SpI K CT QdP):=
 @fnI P w K mg base CT "__init__" "Rows.__init__" QbK f fd dV ["self","rows"] ["self","rows"] 4 Qjf F QES fun cdv A outer s H E G p hr=>
  (Qg (DS.lift (ds_if (QaC (QaF (de_f QJm (hr.mono (by decide)) (Qc (Qb 1 rfl (oi Qlk)) Qj) QpW))) (Qh QfA) QZ)) (Qh (Qqx 0 Qxi ms_keep_rows (hr.mono (by decide)) (DA.lift (Qc (Qb 1 rfl (oi Qlk)) Qj)) rfl (oi Qvb))))
abbrev QaN:Stmt:=top 26
theorem QAP:Qr ["many","place"] ["many","place"] (Qa QaN):=⟨rfl,rfl,rfl,dk,rfl,dk,dk⟩
theorem Qun:Lo QaN "many":=dk
theorem Qtb:Gl QaN "range":=dk
abbrev QhO:Scope:={ kind:=ScopeKind.function,names:=[ (Str.ofString ".0",NameKind.local),(Str.ofString "out",NameKind.local),(Str.ofString "place",NameKind.free)],isGenerator:=false,isCoroutine:=false,more:=[]:Scope }
theorem Qph:QI ["out","place"] [none,some 1] QhO (Qa QaN) ["many","place"]:=⟨rfl,dk,dk,rfl,dk,dk⟩
theorem Qfo:(Qi QhO (Qa QaN)).names.lookup ("out":Str)=some NameKind.local:=dk
theorem Qo4:(Qi QhO (Qa QaN)).names.lookup ("place":Str)=some NameKind.cell:=dk
def Qiu:SD->Out D:=(eIf (tVal (e2 dEq (eVar 0) (eVar 1))) (eC (.int 1)) (eC (.int 0)))
def QhP:SD->Out Fl:=(sRetF (eComp [none,some 1] (itR1 (eVar 0)) (gN 0) cTrue Qiu))
def Qc4:List D->Out D:=bodyF true 2 2 QhP
theorem QDB(d0 d1:D):Qc4 [d0,d1]=(QhP ‹"K"›>>=retF true):=rfl
theorem QCf(F:FunV K "single_row" "single_row" QaN f fd dV)(z_range:‹"dL"›):"f"^1 ["many","place"] true Qc4:=
 @fnV P w K mg base CT true "single_row" "single_row" QaN f fd dV ["many","place"] ["many","place"] 0 QhP F QAP fun cdv A outer s H E G hr=>
  (Qh (QcZ (Q8 rfl Qph (DI.b (QaD Qtb z_range (DE.db (Qb 0 rfl (oi Qun))))) ‹"i"› (QA _) (fun fp s H G p=>⟨(QD (i:=0) Qph.nd rfl (oi Qfo) (hf:=Or.inr Qfo)),QW,(de_if (dt_eq hr.units (DE.db (Qb 0 rfl (oi Qfo))) (DE.db (Qb 1 rfl (Or.inr (oi Qo4))))) Qd Qd)⟩))))
abbrev Qau:Stmt:=inCls (top 22) 0
theorem QFa:Qr ["self","many"] ["self","many"] (Qa Qau):=⟨rfl,rfl,rfl,dk,rfl,dk,dk⟩
theorem Ql7:(Qa Qau).names.lookup ("many":Str)=some NameKind.cell:=dk
theorem QpF:Gl Qau "MOST_OUTS":=dk
theorem QpJ:Gl Qau "is_within":=dk
theorem Quf:Gl Qau "range":=dk
abbrev Qf2:Scope:={ kind:=ScopeKind.function,names:=[ (Str.ofString ".0",NameKind.local),(Str.ofString "state",NameKind.local),(Str.ofString "single_row",NameKind.globalImplicit),(Str.ofString "many",NameKind.free)],isGenerator:=false,isCoroutine:=false,more:=[]:Scope }
theorem Qrl:QI ["state","many"] [none,some 1] Qf2 (Qa Qau) ["self","many"]:=⟨rfl,dk,dk,rfl,dk,dk⟩
theorem QeQ:(Qi Qf2 (Qa Qau)).names.lookup ("state":Str)=some NameKind.local:=dk
theorem QrS:(Qi Qf2 (Qa Qau)).names.lookup ("many":Str)=some NameKind.cell:=dk
theorem Qk3:(Qi Qf2 (Qa Qau)).names.lookup ("single_row":Str)=some NameKind.globalImplicit:=dk
def Qka:SD->Out D:=(eA (fun xs=>Qc4 (xs++[])) (aCons (eVar 1) ‹"dG"›))
theorem QvI:Lo Qau "self":=dk
def Qjm:SD->Out Fl:=(sSeq (fun ς=>noX ((sIf (tNot' (tVal (eA (fun xs=>QaQ (xs++[])) (aCons (eVar 1) (aCons (eC (.int 1)) (aCons (eC (.int 6)) aNil)))))) Qhx sNil) ς)) (QjH Qf "keep_rows" QS 0 (fun ς=>noX ((aCons (eComp [none,some 1] (itR1 (eVar 1)) (gN 0) cTrue Qka) aNil) ς))))
def QdH:Str->List (Str×D)->List D->Out (List (Str×D)):=bodyI 2 2 Qjm
theorem QHI(c:Str)(fds:List (Str×D))(d1:D):QdH c fds [d1]=(Qjm ‹"bD"›>>=QfF c):=rfl
theorem QG9{u_MOST_OUTS:Value}(F:FunV K "__init__" "Deal.__init__" Qau f fd dV)(QdE:"e"^QaQ "is_within" 2 false)(QEc:"e"^Qc4 "single_row" 1 true)(z_range:‹"dL"›)(c_MOST_OUTS:mg "MOST_OUTS"=some u_MOST_OUTS)(r_MOST_OUTS:RelV (toV (.int 6)) u_MOST_OUTS)(ms_keep_rows:‹"af"›):FnOk P w K mg base (CXR P w) 4 f fd ["self","many"] (SpI K CT QdH):=
 @fnI P w K mg base CT "__init__" "Deal.__init__" Qau f fd dV ["self","many"] ["self","many"] 3 Qjm F QFa fun cdv A outer s H E G p hr=>
  (Qg (DS.lift (ds_if (QaC (QaF (de_f QdE (hr.mono (by decide)) (Qc (Qb 1 rfl (Or.inr (oi Ql7))) (Qc Qd (Qc (Qfa (d:=(.int 6)) QpF c_MOST_OUTS rfl r_MOST_OUTS) Qj))) QpJ))) (Qh QfA) QZ)) (Qh (Qqx 0 Qxi ms_keep_rows (hr.mono (by decide)) (DA.lift (Qc (DF.de (Q8 rfl Qrl (DI.b (QaD Quf z_range (DE.db (Qb 1 rfl (Or.inr (oi Ql7)))))) ‹"i"› (QA _) (fun fp s H G p=>⟨(QD (i:=0) Qrl.nd rfl (oi QeQ) (hf:=Or.inr QeQ)),QW,(de_f QEc (hr.mono (by decide)) (Qc (Qb 1 rfl (Or.inr (oi QrS))) (Qc (Qb 0 rfl (oi QeQ)) Qj)) Qk3)⟩))) Qj)) rfl (oi QvI))))
abbrev Qad:Stmt:=inCls (top 23) 0
theorem QyX:Qr ["self","size"] ["self","size"] (Qa Qad):=⟨rfl,rfl,rfl,dk,rfl,dk,dk⟩
theorem QjB:(Qa Qad).names.lookup ("size":Str)=some NameKind.cell:=dk
theorem QmB:Gl Qad "MOST_ROWS":=dk
theorem Qmy:Gl Qad "is_within":=dk
theorem QrF:Gl Qad "range":=dk
abbrev Qg4:Scope:={ kind:=ScopeKind.function,names:=[ (Str.ofString ".0",NameKind.local),(Str.ofString "state",NameKind.local),(Str.ofString "size",NameKind.free)],isGenerator:=false,isCoroutine:=false,more:=[]:Scope }
theorem Qm2:QI ["state","size"] [none,some 1] Qg4 (Qa Qad) ["self","size"]:=⟨rfl,dk,dk,rfl,dk,dk⟩
theorem QdI:(Qi Qg4 (Qa Qad)).names.lookup ("state":Str)=some NameKind.local:=dk
theorem Qpz:(Qi Qg4 (Qa Qad)).names.lookup ("size":Str)=some NameKind.cell:=dk
def Qh2:SD->Out D:=(eLst (aCons (eIf (tVal (e2 dEq (eVar 0) (e2 dSub (eVar 1) (eC (.int 1))))) (eC (.int 1)) (eC (.int 0))) aNil))
theorem Qs1:Lo Qad "self":=dk
def QgR:SD->Out Fl:=(sSeq (fun ς=>noX ((sIf (tNot' (tVal (eA (fun xs=>QaQ (xs++[])) (aCons (eVar 1) (aCons (eC (.int 1)) (aCons (eC (.int 12)) aNil)))))) Qhx sNil) ς)) (QjH Qf "keep_rows" QS 0 (fun ς=>noX ((aCons (eComp [none,some 1] (itR1 (eVar 1)) (gN 0) cTrue Qh2) aNil) ς))))
def QcF:Str->List (Str×D)->List D->Out (List (Str×D)):=bodyI 2 2 QgR
theorem QAq(c:Str)(fds:List (Str×D))(d1:D):QcF c fds [d1]=(QgR ‹"bD"›>>=QfF c):=rfl
theorem QAs{u_MOST_ROWS:Value}(F:FunV K "__init__" "Bundle.__init__" Qad f fd dV)(QdE:"e"^QaQ "is_within" 2 false)(z_range:‹"dL"›)(c_MOST_ROWS:mg "MOST_ROWS"=some u_MOST_ROWS)(r_MOST_ROWS:RelV (toV (.int 12)) u_MOST_ROWS)(ms_keep_rows:‹"af"›):FnOk P w K mg base (CXR P w) 4 f fd ["self","size"] (SpI K CT QcF):=
 @fnI P w K mg base CT "__init__" "Bundle.__init__" Qad f fd dV ["self","size"] ["self","size"] 3 QgR F QyX fun cdv A outer s H E G p hr=>
  (Qg (DS.lift (ds_if (QaC (QaF (de_f QdE (hr.mono (by decide)) (Qc (Qb 1 rfl (Or.inr (oi QjB))) (Qc Qd (Qc (Qfa (d:=(.int 12)) QmB c_MOST_ROWS rfl r_MOST_ROWS) Qj))) Qmy))) (Qh QfA) QZ)) (Qh (Qqx 0 Qxi ms_keep_rows (hr.mono (by decide)) (DA.lift (Qc (DF.de (Q8 rfl Qm2 (DI.b (QaD QrF z_range (DE.db (Qb 1 rfl (Or.inr (oi QjB)))))) ‹"i"› (QA _) (fun fp s H G p=>⟨(QD (i:=0) Qm2.nd rfl (oi QdI) (hf:=Or.inr QdI)),QW,(DF.de (Qay (Qc (de_if (dt_eq hr.units (DE.db (Qb 0 rfl (oi QdI))) (DE.db (Qd6 (DE.db (Qb 1 rfl (Or.inr (oi Qpz)))) (DE.db Qd)))) Qd Qd) Qj)))⟩))) Qj)) rfl (oi Qs1))))
abbrev QbL:Stmt:=inCls (top 24) 0
theorem QDT:Qr ["self","counts"] ["self","counts"] (Qa QbL):=⟨rfl,rfl,rfl,dk,rfl,dk,dk⟩
theorem QjG:Lo QbL "counts":=dk
theorem Qtw:Gl QbL "is_row":=dk
theorem QvS:Lo QbL "self":=dk
def Qjt:SD->Out Fl:=(sSeq (fun ς=>noX ((sIf (tNot' (tVal (eA (fun xs=>QeM (xs++[])) ‹"X"›))) Qhx sNil) ς)) (QjH Qf "keep_rows" QS 0 (fun ς=>noX ((aCons (eLst ‹"X"›) aNil) ς))))
def QdK:Str->List (Str×D)->List D->Out (List (Str×D)):=bodyI 2 2 Qjt
theorem QGu(c:Str)(fds:List (Str×D))(d1:D):QdK c fds [d1]=(Qjt ‹"bD"›>>=QfF c):=rfl
theorem QHu(F:FunV K "__init__" "Copy.__init__" QbL f fd dV)(QuZ:"e"^QeM "is_row" 3 false)(ms_keep_rows:‹"af"›):FnOk P w K mg base (CXR P w) 4 f fd ["self","counts"] (SpI K CT QdK):=
 @fnI P w K mg base CT "__init__" "Copy.__init__" QbL f fd dV ["self","counts"] ["self","counts"] 3 Qjt F QDT fun cdv A outer s H E G p hr=>
  (Qg (DS.lift (ds_if (QaC (QaF (de_f QuZ (hr.mono (by decide)) (Qc (Qb 1 rfl (oi QjG)) Qj) Qtw))) (Qh QfA) QZ)) (Qh (Qqx 0 Qxi ms_keep_rows (hr.mono (by decide)) (DA.lift (Qc (DF.de (Qay (Qc (Qb 1 rfl (oi QjG)) Qj))) Qj)) rfl (oi QvS))))
abbrev Qab:Stmt:=top 59
theorem QC7:Qr ["_law_kind","_law_rows_here"] ["_law_kind","_law_rows_here"] (Qa Qab):=⟨rfl,rfl,rfl,dk,rfl,dk,dk⟩
theorem Qed:Lo Qab "_law_kind":=dk
theorem Qbq:Lo Qab "_law_rows_here":=dk
theorem Qna:Gl Qab "len":=dk
theorem Qvf:Gl Qab "Deal":=dk
theorem QsK:Gl Qab "Bundle":=dk
theorem Qu5:Gl Qab "list":=dk
theorem Qvt:Gl Qab "Copy":=dk
abbrev Qil:Scope:={ kind:=ScopeKind.function,names:=[ (Str.ofString ".0",NameKind.local),(Str.ofString "_law_row",NameKind.local),(Str.ofString "list",NameKind.globalImplicit)],isGenerator:=false,isCoroutine:=false,more:=[]:Scope }
theorem Qrh:QI ["_law_row"] [none] Qil (Qa Qab) ["_law_kind","_law_rows_here"]:=⟨rfl,dk,dk,rfl,dk,dk⟩
theorem Qdm:(Qi Qil (Qa Qab)).names.lookup ("_law_row":Str)=some NameKind.local:=dk
theorem QrJ:(Qi Qil (Qa Qab)).names.lookup ("list":Str)=some NameKind.globalImplicit:=dk
def QrD:SD->Out D:=(e1 dList (eVar 0))
theorem Qu9:Gl Qab "Rows":=dk
def QdT:SD->Out Fl:=(sSeq (sIf (tVal (e2 dEq (eVar 0) (eC (.int 0)))) (sRetF (eMake "Deal" QdH (aCons ‹"ea"› aNil))) sNil) (sSeq (sIf (tVal (e2 dEq (eVar 0) (eC (.int 1)))) (sRetF (eMake "Bundle" QcF (aCons ‹"ea"› aNil))) sNil) (sSeq (sIf (tVal (e2 dEq (eVar 0) (eC (.int 2)))) (sRetF (eMake "Copy" QdK (aCons (e1 dList (e2 dIx (eVar 1) (eC (.int 0)))) aNil))) sNil) (sRetF (eMake "Rows" QdP (aCons (eComp [none] ‹"dt"› (gN 0) cTrue QrD) aNil))))))
def Qcj:List D->Out D:=bodyF true 2 2 QdT
theorem Qjh(d0 d1:D):Qcj [d0,d1]=(QdT ‹"K"›>>=retF true):=rfl
theorem QGF(F:FunV K "_law_clerk" "_law_clerk" Qab f fd dV)(z_len:mg "len"=none)(z_list:mg "list"=none)(Qys:MkOk P w K mg base CT "Deal" 4 QdH)(QsQ:MkOk P w K mg base CT "Bundle" 4 QcF)(Qx4:MkOk P w K mg base CT "Copy" 4 QdK)(Qzv:MkOk P w K mg base CT "Rows" 5 QdP):"f"^7 ["_law_kind","_law_rows_here"] true Qcj:=
 @fnV P w K mg base CT true "_law_clerk" "_law_clerk" Qab f fd dV ["_law_kind","_law_rows_here"] ["_law_kind","_law_rows_here"] 6 QdT F QC7 fun cdv A outer s H E G hr=>
  (Qg (ds_if ‹"bZ"› (Qh (QcZ (Qpk rz0 Qys (hr.mono (by decide)) (Qc (Q6 Qna z_len (Qu (DE.db (Qb 1 rfl (oi Qbq))) Qz)) Qj) Qvf))) QZ) (Qg (ds_if ‹"bZ"› (Qh (QcZ (Qpk rz0 QsQ (hr.mono (by decide)) (Qc (Q6 Qna z_len (Qu (DE.db (Qb 1 rfl (oi Qbq))) Qz)) Qj) QsK))) QZ) (Qg (ds_if ‹"bZ"› (Qh (QcZ (Qpk rz0 Qx4 (hr.mono (by decide)) (Qc (DF.de (Qcx Qu5 z_list (de_ix (Qb 1 rfl (oi Qbq)) (DE.db Qd)))) Qj) Qvt))) QZ) (Qh (QcZ (Qpk rz0 Qzv (hr.mono (by decide)) (Qc (DF.de (Q8 rfl Qrh (DI.b (Qaw (Qb 1 rfl (oi Qbq)))) ‹"i"› (QA _) (fun fp s H G p=>⟨(QD (i:=0) Qrh.nd rfl (oi Qdm) (hf:=Or.inr Qdm)),QW,(DF.de (Qcx QrJ z_list (Qb 0 rfl (oi Qdm))))⟩))) Qj) Qu9))))))
abbrev Qv:Stmt:=top 60
theorem Qa1:Qr ["_law_script","_law_plan_here","_law_doors","_law_first","_law_ends","_law_clerks","_law_kind","_law_rows_here","_law_leads","_law_state","_law_name","_law_names"] ["_law_script","_law_plan_here","_law_doors"] (Qa Qv):=⟨rfl,rfl,rfl,dk,rfl,dk,dk⟩
theorem QlH:Lo Qv "_law_script":=dk
theorem Qok:Gl Qv "_law_cell":=dk
theorem Qln:Gl Qv "_law_digits":=dk
theorem QmS:(Qa Qv).names.lookup ("_law_first":Str)=some NameKind.cell:=dk
theorem QmH:Lo Qv "_law_doors":=dk
theorem Qs7:Gl Qv "range":=dk
abbrev Qfx:Scope:={ kind:=ScopeKind.function,names:=[ (Str.ofString ".0",NameKind.local),(Str.ofString "_law_d",NameKind.local),(Str.ofString "_law_named",NameKind.globalImplicit),(Str.ofString "_law_first",NameKind.free)],isGenerator:=false,isCoroutine:=false,more:=[]:Scope }
theorem Qpc:QI ["_law_d","_law_first"] [none,some 3] Qfx (Qa Qv) ["_law_script","_law_plan_here","_law_doors","_law_first","_law_ends","_law_clerks","_law_kind","_law_rows_here","_law_leads","_law_state","_law_name","_law_names"]:=⟨rfl,dk,dk,rfl,dk,dk⟩
theorem QdQ:(Qi Qfx (Qa Qv)).names.lookup ("_law_d":Str)=some NameKind.local:=dk
theorem Qe2:(Qi Qfx (Qa Qv)).names.lookup ("_law_first":Str)=some NameKind.cell:=dk
theorem Qj5:(Qi Qfx (Qa Qv)).names.lookup ("_law_named":Str)=some NameKind.globalImplicit:=dk
def Qi5:SD->Out D:=(eA (fun xs=>QaO (xs++[])) (aCons (e2 dAdd (eC (.int 12)) (eVar 0)) (aCons (e2 dIx (eVar 1) (eC (.int 3))) (aCons (e2 dIx (eVar 1) (eC (.int 4))) aNil))))
theorem QgA:(Qa Qv).names.lookup ("_law_ends":Str)=some NameKind.cell:=dk
theorem Qda:Lo Qv "_law_clerks":=dk
theorem Qep:(Qa Qv).names.lookup ("_law_plan_here":Str)=some NameKind.cell:=dk
theorem QgH:Lo Qv "_law_name":=dk
theorem Qgb:Lo Qv "_law_state":=dk
theorem Qge:Lo Qv "_law_leads":=dk
theorem Qeq:Lo Qv "_law_rows_here":=dk
theorem QgG:Lo Qv "_law_kind":=dk
abbrev Qfw:Scope:={ kind:=ScopeKind.function,names:=[ (Str.ofString ".0",NameKind.local),(Str.ofString "_law_to",NameKind.local),(Str.ofString "_law_ends",NameKind.free),(Str.ofString "_law_plan_here",NameKind.free)],isGenerator:=false,isCoroutine:=false,more:=[]:Scope }
theorem QpL:QI ["_law_to","_law_ends","_law_plan_here"] [none,some 4,some 1] Qfw (Qa Qv) ["_law_script","_law_plan_here","_law_doors","_law_first","_law_ends","_law_clerks","_law_kind","_law_rows_here","_law_leads","_law_state","_law_name","_law_names"]:=⟨rfl,dk,dk,rfl,dk,dk⟩
theorem Qbf:(Qi Qfw (Qa Qv)).names.lookup ("_law_to":Str)=some NameKind.local:=dk
theorem Qlb:(Qi Qfw (Qa Qv)).names.lookup ("_law_ends":Str)=some NameKind.cell:=dk
theorem Qh9:(Qi Qfw (Qa Qv)).names.lookup ("_law_plan_here":Str)=some NameKind.cell:=dk
def QiQ:SD->Out D:=(eIf (tVal (e2 dLt (eVar 0) (eC (.int 0)))) (e2 dIx (eVar 1) (e2 dSub ‹"aK"› (eVar 0))) (e2 dIx (e2 dIx (eVar 2) (eVar 0)) (eC (.int 4))))
theorem Qgf:Lo Qv "_law_names":=dk
theorem QmC:Gl Qv "_law_clerk":=dk
def QfP:SD->Out Fl:=(sSeq (sSet 11 (eComp [none,some 4,some 1] (itL (eVar 8)) (gN 0) cTrue QiQ)) (Qb3 5 (eTup (aCons (eVar 10) (aCons (eA (fun xs=>Qcj (xs++[])) (aCons (eVar 6) (aCons (eVar 7) aNil))) (aCons (eVar 11) (aCons (eVar 9) aNil)))))))
theorem QrM:Gl Qv "Office":=dk
def QhC:SD->Out Fl:=(sSeq (sSet 3 ‹"aX"›) (sSeq (sSet 4 (eComp [none,some 3] (itR1 (eVar 2)) (gN 0) cTrue Qi5)) (sSeq (sSetO 5 (eLst aNil)) (sSeq (sFor (gT [6,7,8,9,10]) ‹"dt"› QfP) (fun ς=>(sRetF ‹"n"›) (frz 5 ς))))))
def Qc7:List D->Out D:=bodyF true 3 12 QhC
theorem QEB(d0 d1 d2:D):Qc7 [d0,d1,d2]=(QhC [some (.k,d0),some (.k,d1),some (.k,d2),none,none,none,none,none,none,none,none,none]>>=retF true):=rfl
theorem QDk(F:FunV K "_law_office" "_law_office" Qv f fd dV)(QbQ:‹"ds"›)(Qdu:"e"^Q7 "_law_cell" 1 false)(Qnv:"e"^QaO "_law_named" 1 false)(QGH:"e"^Qcj "_law_clerk" 7 true)(z_range:‹"dL"›)(QsS:MkOk P w K mg base CT "Office" 5 Qbr):"f"^8 ["_law_script","_law_plan_here","_law_doors"] true Qc7:=
 @fnV P w K mg base CT true "_law_office" "_law_office" Qv f fd dV ["_law_script","_law_plan_here","_law_doors","_law_first","_law_ends","_law_clerks","_law_kind","_law_rows_here","_law_leads","_law_state","_law_name","_law_names"] ["_law_script","_law_plan_here","_law_doors"] 7 QhC F Qa1 fun cdv A outer s H E G hr=>
  (Qg (QG (i:=3) Qa1.nd rfl (Or.inr QmS) (de_f QbQ (hr.mono (by decide)) (Qc (de_f Qdu (hr.mono (by decide)) (Qc (Qb 0 rfl (oi QlH)) (Qc Qd Qj)) Qok) (Qc Qd Qj)) Qln)) (Qg (QG (i:=4) Qa1.nd rfl (Or.inr QgA) (DF.de (Q8 rfl Qpc (DI.b (QaD Qs7 z_range (DE.db (Qb 2 rfl (oi QmH))))) ‹"i"› (QA _) (fun fp s H G p=>⟨(QD (i:=0) Qpc.nd rfl (oi QdQ) (hf:=Or.inr QdQ)),QW,(de_f Qnv (hr.mono (by decide)) (Qc (QaH (DE.db Qd) (DE.db (Qb 0 rfl (oi QdQ)))) (Qc (de_ix (Qb 1 rfl (Or.inr (oi Qe2))) (DE.db Qd)) (Qc (de_ix (Qb 1 rfl (Or.inr (oi Qe2))) (DE.db Qd)) Qj))) Qj5)⟩)))) (Qg (Qcf (i:=5) Qa1.nd rfl (oi Qda) (Qay Qj)) (Qg (QcA PassesOwn.never rfl (Qaw (Qb 1 rfl (Or.inr (oi Qep)))) (Qmo rfl (Qah (i:=6) Qa1.nd rfl (oi QgG) (Qah (i:=7) Qa1.nd rfl (oi Qeq) (Qah (i:=8) Qa1.nd rfl (oi Qge) (Qah (i:=9) Qa1.nd rfl (oi Qgb) (Qah (i:=10) Qa1.nd rfl (oi QgH) Qfc)))))) (Qha _) (Qg (QiR (i:=11) rfl QpL (DI.b (Qaw (Qb 8 rfl (oi Qge)))) ‹"i"› (QA _) (fun fp s H G p=>⟨(QD (i:=0) QpL.nd rfl (oi Qbf) (hf:=Or.inr Qbf)),QW,(de_if (dt_lt (DE.db (Qb 0 rfl (oi Qbf))) (DE.db Qd)) (de_ix (Qb 1 rfl (Or.inr (oi Qlb))) (DE.db (Qd6 ‹"cv"› (DE.db (Qb 0 rfl (oi Qbf)))))) (de_ix (de_ix (Qb 2 rfl (Or.inr (oi Qh9))) (DE.db (Qb 0 rfl (oi Qbf)))) (DE.db Qd)))⟩) Qa1.nd rfl (oi Qgf)) (Qh (Qdr 5 (Qe8 (Qc (Qb 10 rfl (oi QgH)) (Qc (de_f QGH (hr.mono (by decide)) (Qc (Qb 6 rfl (oi QgG)) (Qc (Qb 7 rfl (oi Qeq)) Qj)) QmC) (Qc (Qb 11 rfl (oi Qgf)) (Qc (Qb 9 rfl (oi Qgb)) Qj))))) rfl (oi Qda))))) (Qh (QwP 5 (QcZ (Qpk rz0 QsS (hr.mono (by decide)) (Qc (Qb 5 rfl (oi Qda)) (Qc (DF.de (Qay (Qc (Qe8 (Qc QMI (Qc (de_ix (de_ix (Qb 1 rfl (Or.inr (oi Qep))) (DE.db Qd)) (DE.db Qd)) Qj))) Qj))) (Qc (Qb 4 rfl (Or.inr (oi QgA))) Qj))) QrM))))))))
abbrev Qai:Stmt:=top 61
theorem Qc3:Qr ["_law_script","_law_many","_law_desks_here","_law_k","_law_cell_here","_law_digits_here","_law_some"] ["_law_script","_law_many"] (Qa Qai):=⟨rfl,rfl,rfl,dk,rfl,dk,dk⟩
theorem Qcr:Lo Qai "_law_desks_here":=dk
theorem Qpv:Lo Qai "_law_many":=dk
theorem Qul:Gl Qai "range":=dk
theorem QjA:Lo Qai "_law_k":=dk
theorem QmK:Lo Qai "_law_script":=dk
theorem Qpx:Gl Qai "_law_cell":=dk
theorem Qbp:Lo Qai "_law_cell_here":=dk
theorem QmG:Gl Qai "_law_digits":=dk
theorem Qbc:Lo Qai "_law_digits_here":=dk
theorem Qcy:Lo Qai "_law_some":=dk
def QgO:SD->Out Fl:=(sSeq (sSet 4 (eA (fun xs=>Q7 (xs++[])) (aCons (eVar 0) (aCons (e2 dAdd (eC (.int 1)) (eVar 3)) aNil)))) (sSeq (sSet 5 (eA (fun xs=>QY (xs++[])) (aCons (eVar 4) (aCons (eC (.int 26)) aNil)))) (sSeq (sSet 6 (e2 dMod (e2 dIx (eVar 5) (eC (.int 24))) (eC (.int 6)))) (sSeq (sIf ‹"ay"› (sSet 6 (e2 dIx (eVar 5) (eC (.int 24)))) sNil) (Qb3 2 (e2 dIx (eLst (aCons (eVar 6) (aCons (e2 dIx (eLst (aCons (eC (.int 0)) (aCons (eC (.int 1)) (aCons (eC (.int 2)) (aCons (eC (.int 3)) (aCons (eC (.int 0)) (aCons (eC (.int 5)) aNil))))))) (e2 dMod (eVar 6) (eC (.int 6)))) aNil))) (e2 dMod (eVar 4) (eC (.int 2)))))))))
def Qjr:SD->Out Fl:=(sSeq (sSetO 2 (eLst aNil)) (sSeq (sFor (gN 3) (itR1 (eVar 1)) QgO) (sRetO 2)))
def QdC:List D->Out D:=bodyF true 2 7 Qjr
theorem QGt(d0 d1:D):QdC [d0,d1]=(Qjr [some (.k,d0),some (.k,d1),none,none,none,none,none]>>=retF true):=rfl
theorem QGr(F:FunV K "_law_desks" "_law_desks" Qai f fd dV)(Qdu:"e"^Q7 "_law_cell" 1 false)(QbQ:‹"ds"›)(z_range:‹"dL"›):"f"^3 ["_law_script","_law_many"] true QdC:=
 @fnV P w K mg base CT true "_law_desks" "_law_desks" Qai f fd dV ["_law_script","_law_many","_law_desks_here","_law_k","_law_cell_here","_law_digits_here","_law_some"] ["_law_script","_law_many"] 2 Qjr F Qc3 fun cdv A outer s H E G hr=>
  (Qg (Qcf (i:=2) Qc3.nd rfl (oi Qcr) (Qay Qj)) (Qg (QcA PassesOwn.never rfl (QaD Qul z_range (DE.db (Qb 1 rfl (oi Qpv)))) (QD (i:=3) Qc3.nd rfl (oi QjA)) (QA _) (Qg (QG (i:=4) Qc3.nd rfl (oi Qbp) (de_f Qdu (hr.mono (by decide)) (Qc (Qb 0 rfl (oi QmK)) (Qc (QaH (DE.db Qd) (DE.db (Qb 3 rfl (oi QjA)))) Qj)) Qpx)) (Qg (QG (i:=5) Qc3.nd rfl (oi Qbc) (de_f QbQ (hr.mono (by decide)) (Qc (Qb 4 rfl (oi Qbp)) (Qc Qd Qj)) QmG)) (Qg (QG (i:=6) Qc3.nd rfl (oi Qcy) (QV (DE.db (de_ix (Qb 5 rfl (oi Qbc)) (DE.db Qd))) (DE.db Qd))) (Qg (ds_if (DW.dt (QwG (dt_eq hr.units (DE.db (QV (DE.db (Qb 4 rfl (oi Qbp))) (DE.db Qd))) (DE.db Qd)) (QtM (dt_eq hr.units (DE.db (QV (DE.db (de_ix (Qb 5 rfl (oi Qbc)) (DE.db Qd))) (DE.db Qd))) (DE.db Qd))))) (Qh (QG (i:=6) Qc3.nd rfl (oi Qcy) (de_ix (Qb 5 rfl (oi Qbc)) (DE.db Qd)))) QZ) (Qh (Qdr 2 (de_ix (DF.de (Qay (Qc (Qb 6 rfl (oi Qcy)) (Qc (de_ix (DF.de (Qay (Qc Qd ‹"dV"›))) (DE.db (QV (DE.db (Qb 6 rfl (oi Qcy))) (DE.db Qd)))) Qj)))) (DE.db (QV (DE.db (Qb 4 rfl (oi Qbp))) (DE.db Qd)))) rfl (oi Qcr)))))))) (Qh (QpN 2 rfl (oi Qcr)))))
abbrev Qa9:Stmt:=inCls (top 48) 2
theorem Qxu:Qr ["self"] ["self"] (Qa Qa9):=⟨rfl,rfl,rfl,dk,rfl,dk,dk⟩
theorem QrO:Lo Qa9 "self":=dk
theorem QrH:Gl Qa9 "list":=dk
def Qf9:SD->Out Fl:=(sRetF (e1 dList (e1 (dFld Qm "door_names") (eVar 0))))
def Qa8:List D->Out D:=bodyF true 1 1 Qf9
theorem Qza(d0:D):Qa8 [d0]=(Qf9 [some (.k,d0)]>>=retF true):=rfl
theorem Qze(F:FunV K "doors" "Office.doors" Qa9 f fd dV)(z_list:mg "list"=none)(fo_door_names:FldOk K CT Qm "door_names"):"f"^1 ["self"] true Qa8:=
 @fnV P w K mg base CT true "doors" "Office.doors" Qa9 f fd dV ["self"] ["self"] 0 Qf9 F Qxu fun cdv A outer s H E G hr=>
  (Qh (QcZ (Qcx QrH z_list (Qpw fo_door_names (Qb 0 rfl (oi QrO))))))
abbrev Qa2:Stmt:=top 10
theorem Qzt:Qr ["office"] ["office"] (Qa Qa2):=⟨rfl,rfl,rfl,dk,rfl,dk,dk⟩
theorem QqE:Lo Qa2 "office":=dk
abbrev QlO:Scope:={ kind:=ScopeKind.function,names:=[(Str.ofString ".0",NameKind.local),(Str.ofString "door",NameKind.local)],isGenerator:=false,isCoroutine:=false,more:=[]:Scope }
theorem Qnn:QI ["door"] [none] QlO (Qa Qa2) ["office"]:=⟨rfl,dk,dk,rfl,dk,dk⟩
theorem Qhh:(Qi QlO (Qa Qa2)).names.lookup ("door":Str)=some NameKind.local:=dk
def Qh1:SD->Out D:=(eC (.int 0))
def QgU:SD->Out Fl:=(sRetF (eComp [none] (itL (eMeth Q4 "doors" (fun _=>Qa8) (eVar 0) aNil)) (gN 0) cTrue Qh1))
def QcD:List D->Out D:=bodyF true 1 1 QgU
theorem QAA(d0:D):QcD [d0]=(QgU [some (.k,d0)]>>=retF true):=rfl
theorem QAw(F:FunV K "nothing_out" "nothing_out" Qa2 f fd dV)(mt_doors:MtOk P w K mg base CT CX0 "doors" 1 Q4 (fun c=>SpD K CT true ((fun _=>Qa8) c))):"f"^2 ["office"] true QcD:=
 @fnV P w K mg base CT true "nothing_out" "nothing_out" Qa2 f fd dV ["office"] ["office"] 1 QgU F Qzt fun cdv A outer s H E G hr=>
  (Qh (QcZ (Q8 rfl Qnn (DI.b (Qaw (Qq3 mt_doors (hr.mono (by decide)) (Qb 0 rfl (oi QqE))))) ‹"i"› (QA _) (fun fp s H G p=>⟨(QD (i:=0) Qnn.nd rfl (oi Qhh) (hf:=Or.inr Qhh)),QW,Qd⟩))))
abbrev Qe1:Stmt:=top 9
theorem QO8:Qr ["desks"] ["desks"] (Qa Qe1):=⟨rfl,rfl,rfl,dk,rfl,dk,dk⟩
theorem QCB:Lo Qe1 "desks":=dk
theorem Qu4:Gl Qe1 "enumerate":=dk
abbrev QtD:Scope:={ kind:=ScopeKind.function,names:=[ (Str.ofString ".0",NameKind.local),(Str.ofString "k",NameKind.local),(Str.ofString "dockets",NameKind.local)],isGenerator:=false,isCoroutine:=false,more:=[]:Scope }
theorem Qu7:QI ["k","dockets"] [none,none] QtD (Qa Qe1) ["desks"]:=⟨rfl,dk,dk,rfl,dk,dk⟩
theorem Qgs:(Qi QtD (Qa Qe1)).names.lookup ("dockets":Str)=some NameKind.local:=dk
theorem QnK:(Qi QtD (Qa Qe1)).names.lookup ("k":Str)=some NameKind.local:=dk
def Qvk:SD->Out Bool:=(tVal (e2 dGt (eVar 1) (eC (.int 0))))
def QvH:SD->Out D:=(eVar 0)
def Qv2:SD->Out Fl:=(sRetF (eComp [none,none] (itE (eVar 0)) (gT [0,1]) Qvk QvH))
def QgE:List D->Out D:=bodyF true 1 1 Qv2
theorem QPI(d0:D):QgE [d0]=(Qv2 [some (.k,d0)]>>=retF true):=rfl
theorem QQy(F:FunV K "able" "able" Qe1 f fd dV)(z_enumerate:mg "enumerate"=none):"f"^1 ["desks"] true QgE:=
 @fnV P w K mg base CT true "able" "able" Qe1 f fd dV ["desks"] ["desks"] 0 Qv2 F QO8 fun cdv A outer s H E G hr=>
  (Qh (QcZ (Q8 rfl Qu7 (DI.b (Qyj Qu4 z_enumerate (Qb 0 rfl (oi QCB)))) (fun ς=>Qvp (fun i hi=>Qx (by revert hi;revert i;decide) ς)) (Qha _) (fun fp s H G p=>⟨(Qmo rfl (Qah (i:=0) Qu7.nd rfl (oi QnK) (Qah (i:=1) Qu7.nd rfl (oi Qgs) Qfc (hf:=Or.inr Qgs)) (hf:=Or.inr QnK))),(QH1 (dt_gt (DE.db (Qb 1 rfl (oi Qgs))) (DE.db Qd))),(Qb 0 rfl (oi QnK))⟩))))
abbrev QcB:Stmt:=top 13
theorem QzY:Qr ["ready","picks","number","pick"] ["ready","picks","number"] (Qa QcB):=⟨rfl,rfl,rfl,dk,rfl,dk,dk⟩
theorem Qf7:Lo QcB "picks":=dk
theorem QlP:Gl QcB "len":=dk
theorem QiY:Lo QcB "ready":=dk
theorem Qwv:Lo QcB "number":=dk
theorem Qrp:Lo QcB "pick":=dk
def Qip:SD->Out Fl:=(sSeq (sIf (tOr' (tVal (e2 dIs (eVar 1) (eC .non))) (tVal (e2 dEq ‹"ea"› (eC (.int 0))))) (sRet ‹"H"›) sNil) (sSeq (sSet 3 (e2 dIx (eVar 1) (e2 dMod (eVar 2) ‹"ea"›))) (sRet (e2 dIx (eVar 0) (e2 dMod (eVar 3) ‹"G"›)))))
def QeI:List D->Out D:=bodyF false 3 4 Qip
theorem QvO(d0 d1 d2:D):QeI [d0,d1,d2]=(Qip [some (.k,d0),some (.k,d1),some (.k,d2),none]>>=retF false):=rfl
theorem QNE(F:FunV K "picked" "picked" QcB f fd dV)(z_len:mg "len"=none):"f"^1 ["ready","picks","number"] false QeI:=
 @fnV P w K mg base CT false "picked" "picked" QcB f fd dV ["ready","picks","number","pick"] ["ready","picks","number"] 0 Qip F QzY fun cdv A outer s H E G hr=>
  (Qg (ds_if (DW.dt (dw_or (dt_is (DE.db (Qb 1 rfl (oi Qf7))) (DE.db QLq)) (QcL (dt_eq hr.units (DE.db (Q6 QlP z_len (Qu (DE.db (Qb 1 rfl (oi Qf7))) Qz))) (DE.db Qd))))) (Qh (QE (de_ix (Qb 0 rfl (oi QiY)) (DE.db Qd)))) QZ) (Qg (QG (i:=3) QzY.nd rfl (oi Qrp) (de_ix (Qb 1 rfl (oi Qf7)) (DE.db (QV (DE.db (Qb 2 rfl (oi Qwv))) (DE.db (Q6 QlP z_len (Qu (DE.db (Qb 1 rfl (oi Qf7))) Qz))))))) (Qh (QE (de_ix (Qb 0 rfl (oi QiY)) (DE.db (QV (DE.db (Qb 3 rfl (oi Qrp))) (DE.db (Q6 QlP z_len (Qu (DE.db (Qb 0 rfl (oi QiY))) Qz))))))))))
abbrev Qa7:Stmt:=inCls (top 48) 5
theorem QxA:Qr ["self","k"] ["self","k"] (Qa Qa7):=⟨rfl,rfl,rfl,dk,rfl,dk,dk⟩
theorem QrK:Lo Qa7 "self":=dk
theorem Qu2:Lo Qa7 "k":=dk
def Qga:SD->Out Fl:=(sRet (e2 dIx (e1 (dFld Qm "staff") (eVar 0)) (eVar 1)))
def Qby:List D->Out D:=bodyF false 2 2 Qga
theorem QxS(d0 d1:D):Qby [d0,d1]=(Qga ‹"K"›>>=retF false):=rfl
theorem QxX(F:FunV K "clerk" "Office.clerk" Qa7 f fd dV)(fo_staff:FldOk K CT Qm "staff"):"f"^1 ["self","k"] false Qby:=
 @fnV P w K mg base CT false "clerk" "Office.clerk" Qa7 f fd dV ["self","k"] ["self","k"] 0 Qga F QxA fun cdv A outer s H E G hr=>
  (Qh (QE (de_ix (Qpw fo_staff (Qb 0 rfl (oi QrK))) (DE.db (Qb 1 rfl (oi Qu2))))))
abbrev Qfs:Stmt:=top 11
theorem QEG:Qr ["desks","out","leads","dockets","lead","count"] ["desks","out","leads","dockets"] (Qa Qfs):=⟨rfl,rfl,rfl,dk,rfl,dk,dk⟩
theorem QHQ:Lo Qfs "leads":=dk
theorem QAJ:Lo Qfs "dockets":=dk
theorem QLD:Gl Qfs "zip":=dk
theorem Qnx:Lo Qfs "count":=dk
theorem QfQ:Lo Qfs "lead":=dk
theorem Quw:Lo Qfs "desks":=dk
theorem QzS:Lo Qfs "out":=dk
def QtP:SD->Out Fl:=(sIf (tVal (e2 dGe (eVar 4) (eC (.int 0)))) (sPutW 0 (eVar 4) (e2 dAdd (e2 dIx (eVarB 0) (eVar 4)) (eVar 5))) (sPutW 1 (e2 dSub ‹"aK"› (eVar 4)) (e2 dAdd (e2 dIx (eVarB 1) (e2 dSub ‹"aK"› (eVar 4))) (eVar 5))))
def QBD:SD->Out Fl:=(sFor (gT [4,5]) (itZ (eVar 2) (eVar 3)) QtP)
def QpV:List D->Out (D×Option (List D)):=bodyW false [true,true,false,false] 6 QBD
theorem QQX(d0 d1 d2 d3:D):QpV [d0,d1,d2,d3]=(QBD [some (.s,d0),some (.s,d1),some (.k,d2),some (.k,d3),none,none]>>=retW false [true,true,false,false]):=rfl
theorem QQV(F:FunV K "lay" "lay" Qfs f fd dV)(z_zip:mg "zip"=none):FnOk P w K mg base CX0 1 f fd ["desks","out","leads","dockets"] (SpW K CT false [true,true,false,false] QpV):=
 @fnW P w K mg base CT false "lay" "lay" Qfs f fd dV ["desks","out","leads","dockets","lead","count"] ["desks","out","leads","dockets"] 0 QBD [true,true,false,false] rfl F QEG fun cdv A outer s H E G ps vs hr=>
  (Qh (QcA PassesOwn.never rfl (QCb QLD z_zip (Qb 2 rfl (oi QHQ)) (Qb 3 rfl (oi QAJ))) (Qmo rfl (Qah (i:=4) QEG.nd rfl (oi QfQ) (Qah (i:=5) QEG.nd rfl (oi Qnx) Qfc))) (Qha _) (Qh (ds_if (dt_ge ‹"dw"› (DE.db Qd)) (Qh (Qt0 0 ‹"dw"› (QaH (db_ix (Qe5 0 rfl (oi Quw)) ‹"dw"›) (DE.db (Qb 5 rfl (oi Qnx)))) rfl (oi Quw))) (Qh (Qt0 1 (DE.db (Qd6 ‹"cv"› ‹"dw"›)) (QaH (db_ix (Qe5 1 rfl (oi QzS)) (DE.db (Qd6 ‹"cv"› ‹"dw"›))) (DE.db (Qb 5 rfl (oi Qnx)))) rfl (oi QzS)))))))
abbrev QaR:Stmt:=inCls (top 48) 7
theorem Qv9:Qr ["self","k"] ["self","k"] (Qa QaR):=⟨rfl,rfl,rfl,dk,rfl,dk,dk⟩
theorem QrL:Lo QaR "self":=dk
theorem Qvh:Lo QaR "k":=dk
theorem QrR:Gl QaR "list":=dk
def Qf5:SD->Out Fl:=(sRetF (e1 dList (e2 dIx (e1 (dFld Qm "ways") (eVar 0)) (eVar 1))))
def QbF:List D->Out D:=bodyF true 2 2 Qf5
theorem Qx5(d0 d1:D):QbF [d0,d1]=(Qf5 ‹"K"›>>=retF true):=rfl
theorem Qyg(F:FunV K "leads" "Office.leads" QaR f fd dV)(z_list:mg "list"=none)(fo_ways:FldOk K CT Qm "ways"):"f"^1 ["self","k"] true QbF:=
 @fnV P w K mg base CT true "leads" "Office.leads" QaR f fd dV ["self","k"] ["self","k"] 0 Qf5 F Qv9 fun cdv A outer s H E G hr=>
  (Qh (QcZ (Qcx QrR z_list (de_ix (Qpw fo_ways (Qb 0 rfl (oi QrL))) (DE.db (Qb 1 rfl (oi Qvh)))))))
abbrev QbM:Stmt:=inCls (top 21) 4
theorem QCW:Qr ["self","state"] ["self","state"] (Qa QbM):=⟨rfl,rfl,rfl,dk,rfl,dk,dk⟩
theorem Qvs:Lo QbM "self":=dk
theorem Qua:Lo QbM "state":=dk
theorem Qvi:Gl QbM "list":=dk
def Qjp:SD->Out Fl:=(sRetF (e1 dList (e2 dIx (e1 (dFld Qm "table") (eVar 0)) (eVar 1))))
def QcQ:List D->Out D:=bodyF true 2 2 Qjp
theorem QFC(d0 d1:D):QcQ [d0,d1]=(Qjp ‹"K"›>>=retF true):=rfl
theorem QFz(F:FunV K "row" "Clerk.row" QbM f fd dV)(z_list:mg "list"=none)(fo_table:FldOk K CT Qm "table"):"f"^1 ["self","state"] true QcQ:=
 @fnV P w K mg base CT true "row" "Clerk.row" QbM f fd dV ["self","state"] ["self","state"] 0 Qjp F QCW fun cdv A outer s H E G hr=>
  (Qh (QcZ (Qcx Qvi z_list (de_ix (Qpw fo_table (Qb 0 rfl (oi Qvs))) (DE.db (Qb 1 rfl (oi Qua)))))))
abbrev QbZ:Stmt:=top 12
theorem QzX:Qr ["office","states","desks","out","k","clerk"] ["office","states","desks","out","k"] (Qa QbZ):=⟨rfl,rfl,rfl,dk,rfl,dk,dk⟩
theorem Qng:Lo QbZ "office":=dk
theorem QeK:Lo QbZ "k":=dk
theorem Qi0:Lo QbZ "clerk":=dk
theorem QiH:Lo QbZ "desks":=dk
theorem QCZ:Lo QbZ "out":=dk
theorem Qh8:Lo QbZ "states":=dk
theorem QCr:Gl QbZ "lay":=dk
def Qmu:SD->Out Fl:=(sSeq (sSet 5 (eMeth Q4 "clerk" (fun _=>Qby) (eVar 0) (aCons (eVar 4) aNil))) (sSeq (sPutW 2 (eVar 4) (e2 dSub (e2 dIx (eVarB 2) (eVar 4)) (eC (.int 1)))) (sSeq (Qpg [some 2,some 3,none,none] QpV (aCons (eVarW 2) (aCons (eVarW 3) (aCons (eMeth Q4 "leads" (fun _=>QbF) (eVar 0) (aCons (eVar 4) aNil)) (aCons (eMeth Qf "row" (fun _=>QcQ) (eVar 5) (aCons (fun ς=>Qpu ((e2 dIx (eVarB 1) (eVar 4)) ς)) aNil)) aNil))))) (sPutW 1 (eVar 4) (e2 dMod (e2 dAdd (e2 dIx (eVarB 1) (eVar 4)) (eC (.int 1))) (eMeth Qf "period" (fun _=>QaE) (eVar 5) aNil))))))
def QfJ:List D->Out (D×Option (List D)):=bodyW false [false,true,true,true,false] 6 Qmu
theorem QNt(d0 d1 d2 d3 d4:D):QfJ [d0,d1,d2,d3,d4]=(Qmu [some (.k,d0),some (.s,d1),some (.s,d2),some (.s,d3),some (.k,d4),none]>>=retW false [false,true,true,true,false]):=rfl
theorem QM5(F:FunV K "handle" "handle" QbZ f fd dV)(QQW:DefW P w K mg base CT "lay" 1 false [true,true,false,false] QpV)(mt_clerk:MtOk P w K mg base CT CX0 "clerk" 1 Q4 (fun c=>SpD K CT false ((fun _=>Qby) c)))(mt_leads:MtOk P w K mg base CT CX0 "leads" 1 Q4 (fun c=>SpD K CT true ((fun _=>QbF) c)))(mt_row:MtOk P w K mg base CT CX0 "row" 1 Qf (fun c=>SpD K CT true ((fun _=>QcQ) c)))(mt_period:‹"de"›):FnOk P w K mg base CX0 2 f fd ["office","states","desks","out","k"] (SpW K CT false [false,true,true,true,false] QfJ):=
 @fnW P w K mg base CT false "handle" "handle" QbZ f fd dV ["office","states","desks","out","k","clerk"] ["office","states","desks","out","k"] 1 Qmu [false,true,true,true,false] rfl F QzX fun cdv A outer s H E G ps vs hr=>
  (Qg (QG (i:=5) QzX.nd rfl (oi Qi0) (QyL mt_clerk (hr.mono (by decide)) (Qb 0 rfl (oi Qng)) (Qc (Qb 4 rfl (oi QeK)) Qj))) (Qg (Qt0 2 ‹"dx"› (Qd6 (db_ix (Qe5 2 rfl (oi QiH)) ‹"dx"›) (DE.db Qd)) rfl (oi QiH)) (Qg (QEl (ms:=[some 2,some 3,none,none]) QQW (hr.mono (by decide)) (daw_w 2 (daw_w 3 (daw_k (QyL mt_leads (hr.mono (by decide)) (Qb 0 rfl (oi Qng)) (Qc (Qb 4 rfl (oi QeK)) Qj)) (daw_k (QyL mt_row (hr.mono (by decide)) (Qb 5 rfl (oi Qi0)) (Qc (DB.de (db_ix (Qe5 1 rfl (oi Qh8)) ‹"dx"›)) Qj)) QIf)) rfl (oi QCZ)) rfl (oi QiH)) QCr) (Qh (Qt0 1 ‹"dx"› (QV (DE.db (QaH (db_ix (Qe5 1 rfl (oi Qh8)) ‹"dx"›) (DE.db Qd))) (DE.db (Qq3 mt_period (hr.mono (by decide)) (Qb 5 rfl (oi Qi0))))) rfl (oi Qh8))))))
abbrev QT:Stmt:=top 14
theorem Qer:Qr ["office","states","desks","picks","most","states_now","desks_now","out","log","ready","k"] ["office","states","desks","picks","most"] (Qa QT):=⟨rfl,rfl,rfl,dk,rfl,dk,dk⟩
theorem Qw9:Lo QT "states":=dk
theorem QrB:Gl QT "list":=dk
theorem Qfp:Lo QT "states_now":=dk
theorem Qyb:Lo QT "desks":=dk
theorem Qcp:Lo QT "desks_now":=dk
theorem Qno:Lo QT "office":=dk
theorem QqM:Gl QT "nothing_out":=dk
theorem Qlv:Lo QT "out":=dk
theorem QfN:Lo QT "log":=dk
theorem Qri:Gl QT "able":=dk
theorem QfV:Lo QT "ready":=dk
theorem Qlz:Gl QT "len":=dk
theorem QBp:Lo QT "most":=dk
theorem Qy3:Lo QT "picks":=dk
theorem Qwz:Gl QT "picked":=dk
theorem QpQ:Lo QT "k":=dk
theorem Qxq:Gl QT "handle":=dk
def Qf8:SD->Out Bool:=(tAnd' (tVal ‹"ch"›) (tVal ‹"bf"›))
def QkK:SD->Out Fl:=(sSeq (sSet 10 (eA (fun xs=>QeI (xs++[])) (aCons (eVar 9) (aCons (eVar 3) (aCons (eA fLen (aCons (eVarB 8) aNil)) aNil))))) (sSeq (Qpg [none,some 5,some 6,some 7,none] QfJ (aCons (eVar 0) (aCons (eVarW 5) (aCons (eVarW 6) (aCons (eVarW 7) (aCons (eVar 10) aNil)))))) (sSeq (Qb3 8 (eVar 10)) ‹"dh"›)))
def Qrb:SD->Out D:=(tSeq (sSetO 5 (e1 dList (eVar 1))) (tSeq (sSetO 6 (e1 dList (eVar 2))) (tSeq (sSetO 7 (fun ς=>QpK ((eA (fun xs=>QcD (xs++[])) ‹"dG"›) ς))) (tSeq (sSetO 8 (eLst aNil)) (tSeq ‹"dh"› (tSeq (Qb1 Qf8 QkK) (tRet [5,6,7,8])))))))
def QaY:List D->Out D:=bodyT 5 11 Qrb
theorem QMY(d0 d1 d2 d3 d4:D):QaY [d0,d1,d2,d3,d4]=Qrb ‹"cl"›:=rfl
theorem QNX(F:FunV K "served" "served" QT f fd dV)(QBf:"e"^QcD "nothing_out" 2 true)(QLN:"e"^QgE "able" 1 true)(QNc:"e"^QeI "picked" 1 false)(QMQ:DefW P w K mg base CT "handle" 2 false [false,true,true,true,false] QfJ)(z_list:mg "list"=none)(z_len:mg "len"=none):FnOk P w K mg base CX0 3 f fd ["office","states","desks","picks","most"] (SpT K CT QaY):=
 @fnT P w K mg base CT "served" "served" QT f fd dV ["office","states","desks","picks","most","states_now","desks_now","out","log","ready","k"] ["office","states","desks","picks","most"] 2 Qrb F Qer fun cdv A outer s H E G hr=>
  (QiT (Qcf (i:=5) Qer.nd rfl (oi Qfp) (Qcx QrB z_list (Qb 1 rfl (oi Qw9)))) (QiT (Qcf (i:=6) Qer.nd rfl (oi Qcp) (Qcx QrB z_list (Qb 2 rfl (oi Qyb)))) (QiT (Qcf (i:=7) Qer.nd rfl (oi Qlv) (df_f QBf (hr.mono (by decide)) (Qc (Qb 0 rfl (oi Qno)) Qj) QqM)) (QiT (Qcf (i:=8) Qer.nd rfl (oi QfN) (Qay Qj)) (QiT (QG (i:=9) Qer.nd rfl (oi QfV) (DF.de (df_fB QLN (hr.mono (by decide)) (Qu (Qe5 6 rfl (oi Qcp)) Qz) Qri))) (QiT (QLp PassesOwn.never (DW.dt (QwG (dt_gt (DE.db (Q6 Qlz z_len (Qu (DE.db (Qb 9 rfl (oi QfV))) Qz))) (DE.db Qd)) (QtM (dt_lt (DE.db (Q6 Qlz z_len (Qu (Qe5 8 rfl (oi QfN)) Qz))) (DE.db (Qb 4 rfl (oi QBp))))))) (Qg (QG (i:=10) Qer.nd rfl (oi QpQ) (de_f QNc (hr.mono (by decide)) (Qc (Qb 9 rfl (oi QfV)) (Qc (Qb 3 rfl (oi Qy3)) (Qc (Q6 Qlz z_len (Qu (Qe5 8 rfl (oi QfN)) Qz)) Qj))) Qwz)) (Qg (QEl (ms:=[none,some 5,some 6,some 7,none]) QMQ (hr.mono (by decide)) (daw_k (Qb 0 rfl (oi Qno)) (daw_w 5 (daw_w 6 (daw_w 7 (daw_k (Qb 10 rfl (oi QpQ)) QIf) rfl (oi Qlv)) rfl (oi Qcp)) rfl (oi Qfp))) Qxq) (Qg (Qdr 8 (Qb 10 rfl (oi QpQ)) rfl (oi QfN)) (Qh (QG (i:=9) Qer.nd rfl (oi QfV) (DF.de (df_fB QLN (hr.mono (by decide)) (Qu (Qe5 6 rfl (oi Qcp)) Qz) Qri)))))))) (QN7 (Qp2 5 (Qp2 6 (Qp2 7 (Qp2 8 QPk rfl (oi QfN)) rfl (oi Qlv)) rfl (oi Qcp)) rfl (oi Qfp)))))))))
abbrev Qbm:Stmt:=top 51
theorem QCS:Qr ["_law_found"] ["_law_found"] (Qa Qbm):=⟨rfl,rfl,rfl,dk,rfl,dk,dk⟩
theorem QgD:Lo Qbm "_law_found":=dk
theorem Qwj:Gl Qbm "int":=dk
theorem QgB:Gl Qbm "isinstance":=dk
theorem Qvc:Gl Qbm "bool":=dk
def Qup:SD->Out Fl:=‹"do"›
def QcR:List D->Out D:=bodyF false 1 1 Qup
theorem QHb(F:FunV K "_law_whole" "_law_whole" Qbm f fd dV)(z_isinstance:‹"bo"›)(z_int:mg "int"=none)(z_bool:mg "bool"=none):"f"^1 ["_law_found"] false QcR:=
 @fnV P w K mg base CT false "_law_whole" "_law_whole" Qbm f fd dV ["_law_found"] ["_law_found"] 0 Qup F QCS fun cdv A outer s H E G hr=>
  (Qh (QE (Qd8 (Qcd "int" QIm Qwj z_int PyProof.Rows.Boot.«int» QgB z_isinstance (DE.db (Qb 0 rfl (oi QgD)))) (Qif (QLE (Qcd "bool" QBX Qvc z_bool PyProof.Rows.Boot.«bool» QgB z_isinstance (DE.db (Qb 0 rfl (oi QgD)))))))))
abbrev Qao:Stmt:=top 63
theorem Qrt:Qr ["_law_found","_law_due","_law_k"] ["_law_found","_law_due"] (Qa Qao):=⟨rfl,rfl,rfl,dk,rfl,dk,dk⟩
theorem Qb8:Lo Qao "_law_found":=dk
theorem Qt2:Gl Qao "list":=dk
theorem QmF:Gl Qao "isinstance":=dk
theorem Qg3:Gl Qao "len":=dk
theorem Qem:Lo Qao "_law_due":=dk
theorem QsE:Gl Qao "range":=dk
theorem Qdi:Lo Qao "_law_k":=dk
theorem QmP:Gl Qao "_law_whole":=dk
def Qf1:SD->Out Fl:=(sIf (tOr' (tNot' (tVal (eA (fun xs=>QcR (xs++[])) (aCons (e2 dIx (eVar 0) (eVar 2)) aNil)))) (tVal (e2 dNe (e2 dIx (eVar 0) (eVar 2)) (e2 dIx (eVar 1) (eVar 2))))) ‹"W"› sNil)
def Qht:SD->Out Fl:=(sSeq (sIf (tOr' (tNot' (tVal ‹"cN"›)) (tVal (e2 dNe ‹"G"› ‹"ea"›))) ‹"W"› sNil) (sSeq (sFor (gN 2) (itR1 ‹"ea"›) Qf1) (sRet (eC (.bl true)))))
def QbV:List D->Out D:=bodyF false 2 3 Qht
theorem QDb(d0 d1:D):QbV [d0,d1]=(Qht [some (.k,d0),some (.k,d1),none]>>=retF false):=rfl
theorem QDF(F:FunV K "_law_wholes" "_law_wholes" Qao f fd dV)(Qoa:"e"^QcR "_law_whole" 1 false)(z_isinstance:‹"bo"›)(z_list:mg "list"=none)(z_len:mg "len"=none)(z_range:‹"dL"›):"f"^2 ["_law_found","_law_due"] false QbV:=
 @fnV P w K mg base CT false "_law_wholes" "_law_wholes" Qao f fd dV ["_law_found","_law_due","_law_k"] ["_law_found","_law_due"] 1 Qht F Qrt fun cdv A outer s H E G hr=>
  (Qg (ds_if (DW.dt (dw_or (QaC (QaF (Qcd "list" Qi4 Qt2 z_list PyProof.Rows.Boot.«list» QmF z_isinstance (DE.db (Qb 0 rfl (oi Qb8)))))) (QcL (dt_ne hr.units (DE.db (Q6 Qg3 z_len (Qu (DE.db (Qb 0 rfl (oi Qb8))) Qz))) (DE.db (Q6 Qg3 z_len (Qu (DE.db (Qb 1 rfl (oi Qem))) Qz))))))) ‹"cE"› QZ) (Qg (QcA PassesOwn.never rfl (QaD QsE z_range (DE.db (Q6 Qg3 z_len (Qu (DE.db (Qb 1 rfl (oi Qem))) Qz)))) (QD (i:=2) Qrt.nd rfl (oi Qdi)) (QA _) (Qh (ds_if (DW.dt (dw_or (QaC (QaF (de_f Qoa (hr.mono (by decide)) (Qc (de_ix (Qb 0 rfl (oi Qb8)) (DE.db (Qb 2 rfl (oi Qdi)))) Qj) QmP))) (QcL (dt_ne hr.units (DE.db (de_ix (Qb 0 rfl (oi Qb8)) (DE.db (Qb 2 rfl (oi Qdi))))) (DE.db (de_ix (Qb 1 rfl (oi Qem)) (DE.db (Qb 2 rfl (oi Qdi))))))))) ‹"cE"› QZ))) ‹"cE"›))
abbrev Q5:Stmt:=top 62
theorem QcT:Qr ["_law_plan_here","_law_doors","_law_states","_law_desks_here","_law_k","_law_rows_here","_law_leads","_law_row","_law_later","_law_left","_law_out","_law_o"] ["_law_plan_here","_law_doors","_law_states","_law_desks_here","_law_k"] (Qa Q5):=⟨rfl,rfl,rfl,dk,rfl,dk,dk⟩
theorem Qfv:Lo Q5 "_law_plan_here":=dk
theorem Qbg:Lo Q5 "_law_k":=dk
theorem QcN:Lo Q5 "_law_rows_here":=dk
theorem QaI:Lo Q5 "_law_leads":=dk
theorem QdN:Lo Q5 "_law_states":=dk
theorem Qfg:Lo Q5 "_law_row":=dk
theorem Qnq:Gl Q5 "list":=dk
theorem Qel:Lo Q5 "_law_later":=dk
theorem Qpl:Gl Q5 "len":=dk
theorem Qkf:Lo Q5 "_law_desks_here":=dk
theorem Qbb:Lo Q5 "_law_left":=dk
theorem Qpq:Lo Q5 "_law_doors":=dk
theorem Qdh:Lo Q5 "_law_out":=dk
theorem Qu3:Gl Q5 "range":=dk
theorem QaU:Lo Q5 "_law_o":=dk
def QhR:SD->Out Fl:=(sIf (tVal (e2 dLt ‹"cp"› (eC (.int 0)))) (sPutO 10 (e2 dSub ‹"aK"› ‹"cp"›) (e2 dAdd (e2 dIx (eVarB 10) (e2 dSub ‹"aK"› ‹"cp"›)) (e2 dIx (eVar 7) (eVar 11)))) (sPutO 9 ‹"cp"› (e2 dAdd (e2 dIx (eVarB 9) ‹"cp"›) (e2 dIx (eVar 7) (eVar 11)))))
def QkZ:SD->Out Fl:=(sSeq (sSet 5 (e2 dIx (e2 dIx (eVar 0) (eVar 4)) (eC (.int 1)))) (sSeq (sSet 6 (e2 dIx (e2 dIx (eVar 0) (eVar 4)) (eC (.int 2)))) (sSeq (sSet 7 (e2 dIx (eVar 5) (e2 dIx (eVar 2) (eVar 4)))) (sSeq (sSetO 8 (e1 dList (eVar 2))) (sSeq (sPutO 8 (eVar 4) (e2 dMod (e2 dAdd (e2 dIx (eVar 2) (eVar 4)) (eC (.int 1))) (eA fLen (aCons (eVar 5) aNil)))) (sSeq (sSetO 9 (e1 dList (eVar 3))) (sSeq (sPutO 9 (eVar 4) (e2 dSub (e2 dIx (eVarB 9) (eVar 4)) (eC (.int 1)))) (sSeq (sSetO 10 (e2 dRep (eLst (aCons (eC (.int 0)) aNil)) (eVar 1))) (sSeq (sFor (gN 11) (itR1 (eA fLen (aCons (eVar 6) aNil))) QhR) (fun ς=>(sRet (eTup (aCons (eVar 8) (aCons (eVar 9) (aCons (eVar 10) aNil))))) (frzs [8,9,10] ς)))))))))))
def QdA:List D->Out D:=bodyF false 5 12 QkZ
theorem QJ3(d0 d1 d2 d3 d4:D):QdA [d0,d1,d2,d3,d4]=(QkZ [some (.k,d0),some (.k,d1),some (.k,d2),some (.k,d3),some (.k,d4),none,none,none,none,none,none,none]>>=retF false):=rfl
theorem QJk(F:FunV K "_law_step" "_law_step" Q5 f fd dV)(z_list:mg "list"=none)(z_len:mg "len"=none)(z_range:‹"dL"›):"f"^1 ["_law_plan_here","_law_doors","_law_states","_law_desks_here","_law_k"] false QdA:=
 @fnV P w K mg base CT false "_law_step" "_law_step" Q5 f fd dV ["_law_plan_here","_law_doors","_law_states","_law_desks_here","_law_k","_law_rows_here","_law_leads","_law_row","_law_later","_law_left","_law_out","_law_o"] ["_law_plan_here","_law_doors","_law_states","_law_desks_here","_law_k"] 0 QkZ F QcT fun cdv A outer s H E G hr=>
  (Qg (QG (i:=5) QcT.nd rfl (oi QcN) (de_ix (de_ix (Qb 0 rfl (oi Qfv)) ‹"bC"›) (DE.db Qd))) (Qg (QG (i:=6) QcT.nd rfl (oi QaI) (de_ix (de_ix (Qb 0 rfl (oi Qfv)) ‹"bC"›) (DE.db Qd))) (Qg (QG (i:=7) QcT.nd rfl (oi Qfg) (de_ix (Qb 5 rfl (oi QcN)) (DE.db (de_ix (Qb 2 rfl (oi QdN)) ‹"bC"›)))) (Qg (Qcf (i:=8) QcT.nd rfl (oi Qel) (Qcx Qnq z_list (Qb 2 rfl (oi QdN)))) (Qg (QtR 8 ‹"bC"› (QV (DE.db (QaH (DE.db (de_ix (Qb 2 rfl (oi QdN)) ‹"bC"›)) (DE.db Qd))) (DE.db (Q6 Qpl z_len (Qu (DE.db (Qb 5 rfl (oi QcN))) Qz)))) rfl (oi Qel)) (Qg (Qcf (i:=9) QcT.nd rfl (oi Qbb) (Qcx Qnq z_list (Qb 3 rfl (oi Qkf)))) (Qg (QtR 9 ‹"bC"› (Qd6 (db_ix (Qe5 9 rfl (oi Qbb)) ‹"bC"›) (DE.db Qd)) rfl (oi Qbb)) (Qg (Qcf (i:=10) QcT.nd rfl (oi Qdh) (QKL (Qay (Qc Qd Qj)) (DE.db (Qb 1 rfl (oi Qpq))))) (Qg (QcA PassesOwn.never rfl (QaD Qu3 z_range (DE.db (Q6 Qpl z_len (Qu (DE.db (Qb 6 rfl (oi QaI))) Qz)))) (QD (i:=11) QcT.nd rfl (oi QaU)) (QA _) (Qh (ds_if (dt_lt ‹"Q"› (DE.db Qd)) (Qh (QtR 10 (DE.db (Qd6 ‹"cv"› ‹"Q"›)) (QaH (db_ix (Qe5 10 rfl (oi Qdh)) (DE.db (Qd6 ‹"cv"› ‹"Q"›))) (DE.db (de_ix (Qb 7 rfl (oi Qfg)) (DE.db (Qb 11 rfl (oi QaU)))))) rfl (oi Qdh))) (Qh (QtR 9 ‹"Q"› (QaH (db_ix (Qe5 9 rfl (oi Qbb)) ‹"Q"›) (DE.db (de_ix (Qb 7 rfl (oi Qfg)) (DE.db (Qb 11 rfl (oi QaU)))))) rfl (oi Qbb)))))) (Qh (QH8 [8,9,10] (QE (Qe8 (Qc (Qb 8 rfl (oi Qel)) (Qc (Qb 9 rfl (oi Qbb)) (Qc (Qb 10 rfl (oi Qdh)) Qj))))))))))))))))
abbrev Qt:Stmt:=top 64
theorem Qbs:Qr ["_law_plan_here","_law_doors","_law_states","_law_desks_here","_law_picks","_law_limit","_law_found","_law_out","_law_done","_law_some","_law_k","_law_sent"] ["_law_plan_here","_law_doors","_law_states","_law_desks_here","_law_picks","_law_limit","_law_found"] (Qa Qt):=⟨rfl,rfl,rfl,dk,rfl,dk,dk⟩
theorem QJ:Lo Qt "_law_found":=dk
theorem Qsg:Gl Qt "tuple":=dk
theorem Qgg:Gl Qt "isinstance":=dk
theorem Qbt:Gl Qt "len":=dk
theorem Qui:Gl Qt "list":=dk
theorem Qgc:Lo Qt "_law_doors":=dk
theorem Qct:Lo Qt "_law_out":=dk
theorem QjM:Gl Qt "range":=dk
theorem Qal:Lo Qt "_law_done":=dk
theorem Qa5:(Qa Qt).names.lookup ("_law_desks_here":Str)=some NameKind.cell:=dk
abbrev QhE:Scope:={ kind:=ScopeKind.function,names:=[ (Str.ofString ".0",NameKind.local),(Str.ofString "_law_k",NameKind.local),(Str.ofString "_law_desks_here",NameKind.free)],isGenerator:=false,isCoroutine:=false,more:=[]:Scope }
theorem QoV:QI ["_law_k","_law_desks_here"] [none,some 3] QhE (Qa Qt) ["_law_plan_here","_law_doors","_law_states","_law_desks_here","_law_picks","_law_limit","_law_found","_law_out","_law_done","_law_some","_law_k","_law_sent"]:=⟨rfl,dk,dk,rfl,dk,dk⟩
theorem Qcl:(Qi QhE (Qa Qt)).names.lookup ("_law_k":Str)=some NameKind.local:=dk
theorem Qhk:(Qi QhE (Qa Qt)).names.lookup ("_law_desks_here":Str)=some NameKind.cell:=dk
def QiD:SD->Out Bool:=(tVal (e2 dGt (e2 dIx (eVar 1) (eVar 0)) (eC (.int 0))))
def Qi1:SD->Out D:=(eVar 0)
theorem QaP:Lo Qt "_law_some":=dk
theorem Qgd:Lo Qt "_law_limit":=dk
theorem Qdn:Lo Qt "_law_picks":=dk
theorem Qfi:Lo Qt "_law_k":=dk
theorem QmR:Gl Qt "_law_whole":=dk
theorem QjF:Lo Qt "_law_plan_here":=dk
theorem Qdb:Lo Qt "_law_states":=dk
theorem Qop:Gl Qt "_law_step":=dk
theorem QgC:Lo Qt "_law_sent":=dk
theorem Qu0:Gl Qt "zip":=dk
abbrev Qhl:Scope:={ kind:=ScopeKind.function,names:=[ (Str.ofString ".0",NameKind.local),(Str.ofString "_law_one",NameKind.local),(Str.ofString "_law_other",NameKind.local)],isGenerator:=false,isCoroutine:=false,more:=[]:Scope }
theorem Qi2:QI ["_law_one","_law_other"] [none,none] Qhl (Qa Qt) ["_law_plan_here","_law_doors","_law_states","_law_desks_here","_law_picks","_law_limit","_law_found","_law_out","_law_done","_law_some","_law_k","_law_sent"]:=⟨rfl,dk,dk,rfl,dk,dk⟩
theorem QcE:(Qi Qhl (Qa Qt)).names.lookup ("_law_other":Str)=some NameKind.local:=dk
theorem Qc9:(Qi Qhl (Qa Qt)).names.lookup ("_law_one":Str)=some NameKind.local:=dk
def Qiw:SD->Out D:=(e2 dAdd (eVar 0) (eVar 1))
def Qd0:SD->Out Fl:=(sSeq (sSet 9 (eComp [none,some 3] (itR1 (eA fLen (aCons (eVar 3) aNil))) (gN 0) QiD Qi1)) (sIf (tOr' (tVal (e2 dEq (eVar 8) ‹"aJ"›)) (tOr' (tVal (e2 dEq (eVar 8) (eVar 5))) (tVal (e2 dEq (eVar 9) (eLst aNil))))) (sIf (tOr' (tVal (e2 dNe (eVar 8) ‹"aJ"›)) (tAnd' (tVal (e2 dNe (eVar 9) (eLst aNil))) (tVal (e2 dNe (eVar 8) (eVar 5))))) ‹"W"› sNil) (sSeq (sSet 10 (eIf (tVal (e2 dNe (eVar 4) (eLst aNil))) ‹"bh"› (e2 dIx (eVar 9) (eC (.int 0))))) (sSeq (sIf (tOr' (tNot' (tVal (eA (fun xs=>QcR (xs++[])) (aCons (e2 dIx (e2 dIx (eVar 6) (eC (.int 3))) (eVar 8)) aNil)))) (tVal (e2 dNe (e2 dIx (e2 dIx (eVar 6) (eC (.int 3))) (eVar 8)) (eVar 10)))) ‹"W"› sNil) (sSeq (sUnp [2,3,11] (eA (fun xs=>QdA (xs++[])) (aCons (eVar 0) (aCons (eVar 1) (aCons (eVar 2) (aCons (eVar 3) (aCons (eVar 10) aNil))))))) (sSet 7 (eComp [none,none] (itZ (eVar 7) (eVar 11)) (gT [0,1]) cTrue Qiw)))))))
theorem Qdf:Gl Qt "_law_wholes":=dk
def Qhu:SD->Out Fl:=(sSeq (sIf (tOr' (tNot' (tVal (eIsa (isaT "tuple") (eVar 6)))) (tOr' (tVal (e2 dNe (eA fLen (aCons (eVar 6) aNil)) (eC (.int 4)))) (tNot' (tVal (eIsa (isaT "list") (e2 dIx (eVar 6) (eC (.int 3)))))))) ‹"W"› sNil) (sSeq (sSet 7 (e2 dRep (eLst (aCons (eC (.int 0)) aNil)) (eVar 1))) (sSeq (sFor (gN 8) (itR1 (e2 dAdd ‹"aJ"› (eC (.int 1)))) Qd0) (sRet (eAnd (eA (fun xs=>QbV (xs++[])) (aCons (e2 dIx (eVar 6) (eC (.int 0))) (aCons (eVar 2) aNil))) (eAnd (eA (fun xs=>QbV (xs++[])) (aCons (e2 dIx (eVar 6) (eC (.int 1))) (aCons (eVar 3) aNil))) (eA (fun xs=>QbV (xs++[])) (aCons (e2 dIx (eVar 6) (eC (.int 2))) (aCons (eVar 7) aNil)))))))))
def QbW:List D->Out D:=bodyF false 7 12 Qhu
theorem QCk(d0 d1 d2 d3 d4 d5 d6:D):QbW [d0,d1,d2,d3,d4,d5,d6]=(Qhu [some (.k,d0),some (.k,d1),some (.k,d2),some (.k,d3),some (.k,d4),some (.k,d5),some (.k,d6),none,none,none,none,none]>>=retF false):=rfl
theorem QCA(F:FunV K "_law_walked" "_law_walked" Qt f fd dV)(Qoa:"e"^QcR "_law_whole" 1 false)(QIJ:"e"^QdA "_law_step" 1 false)(QlK:"e"^QbV "_law_wholes" 2 false)(z_isinstance:‹"bo"›)(z_tuple:mg "tuple"=none)(z_len:mg "len"=none)(z_list:mg "list"=none)(z_range:‹"dL"›)(z_zip:mg "zip"=none):"f"^3 ["_law_plan_here","_law_doors","_law_states","_law_desks_here","_law_picks","_law_limit","_law_found"] false QbW:=
 @fnV P w K mg base CT false "_law_walked" "_law_walked" Qt f fd dV ["_law_plan_here","_law_doors","_law_states","_law_desks_here","_law_picks","_law_limit","_law_found","_law_out","_law_done","_law_some","_law_k","_law_sent"] ["_law_plan_here","_law_doors","_law_states","_law_desks_here","_law_picks","_law_limit","_law_found"] 2 Qhu F Qbs fun cdv A outer s H E G hr=>
  (Qg (ds_if (DW.dt (dw_or (QaC (QaF (Qcd "tuple" QsY Qsg z_tuple PyProof.Rows.Boot.«tuple» Qgg z_isinstance (DE.db (Qb 6 rfl (oi QJ)))))) (dw_or (dt_ne hr.units (DE.db (Q6 Qbt z_len (Qu (DE.db (Qb 6 rfl (oi QJ))) Qz))) (DE.db Qd)) (QcL (QaC (QaF (Qcd "list" Qi4 Qui z_list PyProof.Rows.Boot.«list» Qgg z_isinstance (DE.db ‹"P"›)))))))) ‹"cE"› QZ) (Qg (QG (i:=7) Qbs.nd rfl (oi Qct) (DF.de (QKL (Qay (Qc Qd Qj)) (DE.db (Qb 1 rfl (oi Qgc)))))) (Qg (QcA PassesOwn.never rfl (QaD QjM z_range (DE.db (QaH ‹"cO"› (DE.db Qd)))) (QD (i:=8) Qbs.nd rfl (oi Qal)) (QA _) (Qg (QiR (i:=9) rfl QoV (DI.b (QaD QjM z_range (DE.db (Q6 Qbt z_len (Qu (DE.db (Qb 3 rfl (Or.inr (oi Qa5)))) Qz))))) ‹"i"› (QA _) (fun fp s H G p=>⟨(QD (i:=0) QoV.nd rfl (oi Qcl) (hf:=Or.inr Qcl)),(QH1 (dt_gt (DE.db (de_ix (Qb 1 rfl (Or.inr (oi Qhk))) (DE.db (Qb 0 rfl (oi Qcl))))) (DE.db Qd))),(Qb 0 rfl (oi Qcl))⟩) Qbs.nd rfl (oi QaP)) (Qh (ds_if (DW.dt (dw_or (dt_eq hr.units ‹"bB"› ‹"cO"›) (dw_or (dt_eq hr.units ‹"bB"› (DE.db (Qb 5 rfl (oi Qgd)))) (QcL (dt_eq hr.units (DE.db (Qb 9 rfl (oi QaP))) (DE.db (DF.de (Qay Qj)))))))) (Qh (ds_if (DW.dt (dw_or (dt_ne hr.units ‹"bB"› ‹"cO"›) (QcL (DW.dt (QwG (dt_ne hr.units (DE.db (Qb 9 rfl (oi QaP))) (DE.db (DF.de (Qay Qj)))) (QtM (dt_ne hr.units ‹"bB"› (DE.db (Qb 5 rfl (oi Qgd)))))))))) ‹"cE"› QZ)) (Qg (QG (i:=10) Qbs.nd rfl (oi Qfi) (de_if (dt_ne hr.units (DE.db (Qb 4 rfl (oi Qdn))) (DE.db (DF.de (Qay Qj)))) (de_ix (Qb 9 rfl (oi QaP)) (DE.db (QV (DE.db (de_ix (Qb 4 rfl (oi Qdn)) (DE.db (QV ‹"bB"› (DE.db (Q6 Qbt z_len (Qu (DE.db (Qb 4 rfl (oi Qdn))) Qz))))))) (DE.db (Q6 Qbt z_len (Qu (DE.db (Qb 9 rfl (oi QaP))) Qz)))))) (de_ix (Qb 9 rfl (oi QaP)) (DE.db Qd)))) (Qg (ds_if (DW.dt (dw_or (QaC (QaF (de_f Qoa (hr.mono (by decide)) (Qc (de_ix ‹"P"› ‹"bB"›) Qj) QmR))) (QcL (dt_ne hr.units (DE.db (de_ix ‹"P"› ‹"bB"›)) (DE.db (Qb 10 rfl (oi Qfi))))))) ‹"cE"› QZ) (Qg (QDh rfl (de_f QIJ (hr.mono (by decide)) (Qc (Qb 0 rfl (oi QjF)) (Qc (Qb 1 rfl (oi Qgc)) (Qc (Qb 2 rfl (oi Qdb)) (Qc (Qb 3 rfl (Or.inr (oi Qa5))) (Qc (Qb 10 rfl (oi Qfi)) Qj))))) Qop) (Qah (i:=2) Qbs.nd rfl (oi Qdb) (Qah (i:=3) Qbs.nd rfl (Or.inr Qa5) (Qah (i:=11) Qbs.nd rfl (oi QgC) Qfc)))) (Qh (QiR (i:=7) rfl Qi2 (DI.b (QCb Qu0 z_zip (Qb 7 rfl (oi Qct)) (Qb 11 rfl (oi QgC)))) (fun ς=>Qvp (fun i hi=>Qx (by revert hi;revert i;decide) ς)) (Qha _) (fun fp s H G p=>⟨(Qmo rfl (Qah (i:=0) Qi2.nd rfl (oi Qc9) (Qah (i:=1) Qi2.nd rfl (oi QcE) Qfc (hf:=Or.inr QcE)) (hf:=Or.inr Qc9))),QW,(QaH (DE.db (Qb 0 rfl (oi Qc9))) (DE.db (Qb 1 rfl (oi QcE))))⟩) Qbs.nd rfl (oi Qct)))))))))) (Qh (QE (Qd8 (de_f QlK (hr.mono (by decide)) (Qc ‹"P"› (Qc (Qb 2 rfl (oi Qdb)) Qj)) Qdf) (Qd8 (de_f QlK (hr.mono (by decide)) (Qc ‹"P"› (Qc (Qb 3 rfl (Or.inr (oi Qa5))) Qj)) Qdf) (Qif (de_f QlK (hr.mono (by decide)) (Qc ‹"P"› (Qc (Qb 7 rfl (oi Qct)) Qj)) Qdf)))))))))
abbrev Qap:Stmt:=top 65
theorem Qcs:Qr ["_law_script","_law_plan_here","_law_doors","_law_office_here","_law_states","_law_desks_here","_law_picks","_law_number","_law_limit","_law_handed","_law_way","_law_found","_law_one"] ["_law_script"] (Qa Qap):=⟨rfl,rfl,rfl,dk,rfl,dk,dk⟩
theorem QcH:Lo Qap "_law_script":=dk
theorem Qxn:Gl Qap "_law_plan":=dk
theorem Qg6:Lo Qap "_law_doors":=dk
theorem QbX:Lo Qap "_law_plan_here":=dk
theorem Qt3:Gl Qap "_law_office":=dk
theorem Qck:Lo Qap "_law_office_here":=dk
abbrev QC1:Scope:={ kind:=ScopeKind.function,names:=[(Str.ofString ".0",NameKind.local),(Str.ofString "_law_row",NameKind.local)],isGenerator:=false,isCoroutine:=false,more:=[]:Scope }
theorem QH4:QI ["_law_row"] [none] QC1 (Qa Qap) ["_law_script","_law_plan_here","_law_doors","_law_office_here","_law_states","_law_desks_here","_law_picks","_law_number","_law_limit","_law_handed","_law_way","_law_found","_law_one"]:=⟨rfl,dk,dk,rfl,dk,dk⟩
theorem Qgq:(Qi QC1 (Qa Qap)).names.lookup ("_law_row":Str)=some NameKind.local:=dk
def Qzw:SD->Out D:=(e2 dIx (eVar 0) (eC (.int 3)))
theorem QcG:Lo Qap "_law_states":=dk
theorem QL6:Gl Qap "len":=dk
theorem Qvw:Gl Qap "_law_desks":=dk
theorem QbB:Lo Qap "_law_desks_here":=dk
abbrev QDH:Scope:={ kind:=ScopeKind.function,names:=[(Str.ofString ".0",NameKind.local),(Str.ofString "_law_cell_here",NameKind.local)],isGenerator:=false,isCoroutine:=false,more:=[]:Scope }
theorem QIk:QI ["_law_cell_here"] [none] QDH (Qa Qap) ["_law_script","_law_plan_here","_law_doors","_law_office_here","_law_states","_law_desks_here","_law_picks","_law_number","_law_limit","_law_handed","_law_way","_law_found","_law_one"]:=⟨rfl,dk,dk,rfl,dk,dk⟩
theorem Qdp:(Qi QDH (Qa Qap)).names.lookup ("_law_cell_here":Str)=some NameKind.local:=dk
def Qzs:SD->Out D:=(e2 dMod (eVar 0) (e2 dAdd (e2 dPow (eC (.int 10)) (eC (.int 18))) (eC (.int 1))))
theorem Qbu:Lo Qap "_law_picks":=dk
theorem QxI:Gl Qap "_law_cell":=dk
theorem Quk:Gl Qap "_law_digits":=dk
theorem QcK:Lo Qap "_law_number":=dk
theorem QMH:Gl Qap "int":=dk
theorem Qc1:Lo Qap "_law_limit":=dk
theorem Qp1:Gl Qap "list":=dk
theorem Qat:Lo Qap "_law_handed":=dk
theorem Qiq:Lo Qap "_law_way":=dk
theorem Qms:Gl Qap "served":=dk
theorem Qdd:Lo Qap "_law_found":=dk
theorem Qt8:Gl Qap "_law_walked":=dk
theorem QoX:Lo Qap "_law_one":=dk
def QBF:SD->Out Fl:=(sSeq (sUnp [1,2] (eA (fun xs=>QeV (xs++[])) (aCons (eVar 0) (aCons (eC (.int 12)) aNil)))) (sSeq (sSet 3 (eA (fun xs=>Qc7 (xs++[])) (aCons (eVar 0) (aCons (eVar 1) (aCons (eVar 2) aNil))))) (sSeq (sSet 4 (eComp [none] ‹"dt"› (gN 0) cTrue Qzw)) (sSeq (sSet 5 (eA (fun xs=>QdC (xs++[])) (aCons (eVar 0) (aCons ‹"ea"› aNil)))) (sSeq (sSet 6 (eComp [none] (itL (eSl (eVar 0) (oSome (eC (.int 13))) (oSome (eC (.int 53))))) (gN 0) cTrue Qzs)) (sSeq (sSet 7 (e2 dIx ‹"aX"› (eC (.int 5)))) (sSeq (sIf (tVal (e2 dEq (e2 dMod (eVar 7) (eC (.int 4))) (eC (.int 1)))) (sSet 6 (eLst aNil)) sNil) (sSeq (sSet 8 (e2 dMul (e2 dMod (e2 dFdiv (eVar 7) (eC (.int 4))) (eC (.int 151))) ‹"bF"›)) (sSeq (sSet 9 (eTup (aCons (e1 dList (eVar 4)) (aCons (e1 dList (eVar 5)) (aCons (e1 dList (eVar 6)) aNil))))) (sSeq (sSet 10 (e2 dMod (e2 dFdiv (eVar 7) (eC (.int 4832))) (eC (.int 3)))) (QpD 11 12 (uIf ‹"cS"› ‹"ac"› ‹"o"›) (tVal (e2 dNe (eVar 9) (eTup ‹"ca"›))) ‹"W"› (tNot' (tVal (eA (fun xs=>QbW (xs++[])) (aCons (eVar 1) (aCons (eVar 2) (aCons (eVar 4) (aCons (eVar 5) (aCons (eVar 6) (aCons (eVar 8) (aCons (eVar 11) aNil)))))))))) ‹"W"› (sRet (e2 dEq (eVar 9) (eTup ‹"ca"›))))))))))))))
def QmY:List D->Out D:=bodyF false 1 13 QBF
theorem QQZ(d0:D):QmY [d0]=(QBF [some (.k,d0),none,none,none,none,none,none,none,none,none,none,none,none]>>=retF false):=rfl
theorem QQY(F:FunV K "law" "law" Qap f fd dV)(QIG:"e"^QeV "_law_plan" 4 false)(QEE:"e"^Qc7 "_law_office" 8 true)(QGb:"e"^QdC "_law_desks" 3 true)(QbQ:‹"ds"›)(Qdu:"e"^Q7 "_law_cell" 1 false)(QN1:DefTD P w K mg base CT "served" 3 [] QaY)(h_served_k3:DefTK P w K mg base CT "served" 3 3 "most" [.non] QaY)(h_served_2:DefTD P w K mg base CT "served" 3 [.non,(.int 2000)] QaY)(QBK:"e"^QbW "_law_walked" 3 false)(z_len:mg "len"=none)(z_int:mg "int"=none)(z_list:mg "list"=none):"f"^9 ["_law_script"] false QmY:=
 @fnV P w K mg base CT false "law" "law" Qap f fd dV ["_law_script","_law_plan_here","_law_doors","_law_office_here","_law_states","_law_desks_here","_law_picks","_law_number","_law_limit","_law_handed","_law_way","_law_found","_law_one"] ["_law_script"] 8 QBF F Qcs fun cdv A outer s H E G hr=>
  (Qg (QDh rfl (de_f QIG (hr.mono (by decide)) (Qc (Qb 0 rfl (oi QcH)) (Qc Qd Qj)) Qxn) (Qah (i:=1) Qcs.nd rfl (oi QbX) (Qah (i:=2) Qcs.nd rfl (oi Qg6) Qfc))) (Qg (QG (i:=3) Qcs.nd rfl (oi Qck) (de_f QEE (hr.mono (by decide)) (Qc (Qb 0 rfl (oi QcH)) (Qc (Qb 1 rfl (oi QbX)) (Qc (Qb 2 rfl (oi Qg6)) Qj))) Qt3)) (Qg (QiR (i:=4) rfl QH4 (DI.b (Qaw (Qb 1 rfl (oi QbX)))) ‹"i"› (QA _) (fun fp s H G p=>⟨(QD (i:=0) QH4.nd rfl (oi Qgq) (hf:=Or.inr Qgq)),QW,(de_ix (Qb 0 rfl (oi Qgq)) (DE.db Qd))⟩) Qcs.nd rfl (oi QcG)) (Qg (QG (i:=5) Qcs.nd rfl (oi QbB) (de_f QGb (hr.mono (by decide)) (Qc (Qb 0 rfl (oi QcH)) (Qc (Q6 QL6 z_len (Qu (DE.db (Qb 1 rfl (oi QbX))) Qz)) Qj)) Qvw)) (Qg (QiR (i:=6) rfl QIk (DI.b (Qaw (DF.de (df_sl (Qb 0 rfl (oi QcH)) (QIs (DE.db Qd)) (QIs (DE.db Qd)))))) ‹"i"› (QA _) (fun fp s H G p=>⟨(QD (i:=0) QIk.nd rfl (oi Qdp) (hf:=Or.inr Qdp)),QW,(QV (DE.db (Qb 0 rfl (oi Qdp))) (DE.db (QaH ‹"cQ"› (DE.db Qd))))⟩) Qcs.nd rfl (oi Qbu)) (Qg (QG (i:=7) Qcs.nd rfl (oi QcK) (de_ix (de_f QbQ (hr.mono (by decide)) (Qc (de_f Qdu (hr.mono (by decide)) (Qc (Qb 0 rfl (oi QcH)) (Qc Qd Qj)) QxI) (Qc Qd Qj)) Quk) (DE.db Qd))) (Qg (ds_if (dt_eq hr.units (DE.db (QV (DE.db (Qb 7 rfl (oi QcK))) (DE.db Qd))) (DE.db Qd)) (Qh (QG (i:=6) Qcs.nd rfl (oi Qbu) (DF.de (Qay Qj)))) QZ) (Qg (QG (i:=8) Qcs.nd rfl (oi Qc1) (QhN (DE.db ‹"bj"›) (DE.db (Qyr QMH z_int (Qu (DE.db (de_gt (DE.db ‹"bj"›) (DE.db Qd))) Qz))))) (Qg (QG (i:=9) Qcs.nd rfl (oi Qat) (Qe8 (Qc (DF.de (Qcx Qp1 z_list (Qb 4 rfl (oi QcG)))) (Qc (DF.de (Qcx Qp1 z_list (Qb 5 rfl (oi QbB)))) (Qc (DF.de (Qcx Qp1 z_list (Qb 6 rfl (oi Qbu)))) Qj))))) (Qg (QG (i:=10) Qcs.nd rfl (oi Qiq) ‹"bj"›) (QJi (i:=11) (j:=12) (by decide) (du_if (DW.dt (dw_or (dt_ne hr.units (DE.db (Qb 6 rfl (oi Qbu))) (DE.db (DF.de (Qay Qj)))) (QcL (dt_eq hr.units (DE.db (Qb 10 rfl (oi Qiq))) (DE.db Qd))))) (QtS (QIe (i:=11) QN1 (hr.mono (by decide)) (Qc (Qb 3 rfl (oi Qck)) (Qc ‹"ao"› (Qc ‹"ao"› (Qc ‹"ao"› (Qc (Qb 8 rfl (oi Qc1)) Qj))))) Qms Qcs.nd rfl (oi Qdd))) (QtS (du_if (dt_eq hr.units (DE.db (Qb 10 rfl (oi Qiq))) (DE.db Qd)) (QtS (QNy (i:=11) h_served_k3 (hr.mono (by decide)) (Qc (Qb 3 rfl (oi Qck)) (Qc ‹"ao"› (Qc ‹"ao"› Qj))) (Qb 8 rfl (oi Qc1)) Qms Qcs.nd rfl (oi Qdd))) (QNY (QG (i:=8) Qcs.nd rfl (oi Qc1) Qd) (QtS (QIe (i:=11) h_served_2 (hr.mono (by decide)) (Qc (Qb 3 rfl (oi Qck)) (Qc ‹"ao"› (Qc ‹"ao"› Qj))) Qms Qcs.nd rfl (oi Qdd))))))) (dt_ne hr.units (DE.db (Qb 9 rfl (oi Qat))) ‹"cA"›) ‹"cE"› (QaC (QaF (de_f QBK (hr.mono (by decide)) (Qc (Qb 1 rfl (oi QbX)) (Qc (Qb 2 rfl (oi Qg6)) (Qc (Qb 4 rfl (oi QcG)) (Qc (Qb 5 rfl (oi QbB)) (Qc (Qb 6 rfl (oi Qbu)) (Qc (Qb 8 rfl (oi Qc1)) (Qc (Qb 11 rfl (oi Qdd)) Qj))))))) Qt8))) ‹"cE"› (QLP Qcs.nd rfl (oi QoX) (by first | exact .inl rfl | exact .inr rfl) rfl PassesOwn.never (Qdy (i:=11) rfl (oi Qdd)) (QJE rfl (oi QoX)) (by intro _;rfl)) (Qh (QE (de_eq hr.units (DE.db (Qb 9 rfl (oi Qat))) ‹"cA"›))))))))))))))
end
end My
set_option exponentiation.threshold 20000
namespace My
open PySem PySem.Spec L2 DL
local macro_rules | `(tactic| walk_at "g") => `(tactic| ((repeat (first | exact QPx | apply QPS));done))
local macro_rules | `(tactic| walk_at "s") => `(tactic| repeat (first | exact QMh | apply QLj))
local macro_rules | `(tactic| walk_at "all") => `(tactic| repeat (first | with_reducible exact QzH | (apply QzW;focus walk_at "s")))
local macro_rules | `(tactic| walk_at "cap") => `(tactic| repeat (first | exact c_nil | apply Qe4 | (apply c_k;focus walk_at "g") | (apply c_o;focus walk_at "g") | (apply c_l;focus walk_at "g") | (apply c_s;focus walk_at "g")))
local macro_rules | `(tactic| walk_at "b") => `(tactic| first | rfl | with_reducible assumption | (simp only[Bool.not_eq_true',Bool.not_eq_false',decide_eq_true_eq,decide_eq_false_iff_not,Bool.not_true,Bool.not_false];first | with_reducible assumption | omega) | (simp;done))
local macro_rules | `(tactic| walk_at "p") => `(tactic| first | decide | with_reducible assumption | omega)
local macro_rules | `(tactic| walk_at "l") => `(tactic| first | decide | with_reducible assumption | (simp only[List.length_map,List.length_cons,List.length_nil,List.length_range,List.length_append];omega) | omega | (simp;omega))
local macro_rules | `(tactic| walk_at "e") => `(tactic| first
 | ((with_reducible apply r_id);with_reducible assumption)
 | with_reducible exact r_okR | with_reducible exact QOy
 | with_reducible apply r_var | with_reducible apply Qdg | with_reducible exact r_C | with_reducible exact r_nil | with_reducible exact r_oNo | with_reducible exact QcJ | with_reducible exact Qpj
 | with_reducible exact Qae _ _ | with_reducible exact QdV _ _ | with_reducible exact Qex _ | with_reducible exact QiK _ | with_reducible exact QbC _ _ | with_reducible exact Qf6 _ _ | with_reducible exact Qee _ _ | with_reducible exact Qlg _ _ | with_reducible exact Q0 _ _ | with_reducible exact QcW _ _
 | with_reducible exact QK (by walk_at "p")
 | with_reducible exact r_rt | with_reducible exact r_rtT | with_reducible exact r_rtS rfl
 | with_reducible apply QCK
 | with_reducible exact QMh | with_reducible apply QLj
 | with_reducible exact QQr | with_reducible apply QPL
 | with_reducible exact QzH | with_reducible apply QzW
 | with_reducible exact c_nil | with_reducible apply Qe4 | ((with_reducible apply c_k);focus walk_at "g") | ((with_reducible apply c_o);focus walk_at "g") | ((with_reducible apply c_l);focus walk_at "g") | ((with_reducible apply c_s);focus walk_at "g")
 | ((with_reducible apply r_scal);exact rfl)
 | ((with_reducible apply r_get);focus walk_at "g")
 | ((with_reducible apply QQQ);with_reducible assumption)
 | ((with_reducible apply QPm);focus walk_at "p") | with_reducible apply QPD | with_reducible apply bd_sub | with_reducible apply QP2 | with_reducible apply bd_div | with_reducible apply bd_neg | with_reducible exact QCP rfl
 | ((with_reducible apply r_dec);focus exact rfl)
 | ((with_reducible apply r_len);focus walk_at "l")
 | with_reducible apply r_mul
 | ((with_reducible apply r_fdiv);focus walk_at "p")
 | ((with_reducible apply Qdw);focus walk_at "b")
 | ((with_reducible apply QbO);focus walk_at "b")
 | with_reducible apply Qe | with_reducible apply r_e2 | with_reducible apply r_e1 | with_reducible apply r_seq | with_reducible apply r_set | with_reducible apply Qeg | with_reducible apply r_if | with_reducible apply Ql | with_reducible apply QH | with_reducible apply Qmp | with_reducible apply r_or' | with_reducible apply Qh3 | with_reducible apply QDv | with_reducible apply r_eOr | with_reducible apply r_eNot | with_reducible apply r_eIf | with_reducible apply r_isa | with_reducible apply QOV | with_reducible apply QQP | with_reducible apply r_ret | with_reducible apply Qs0 | with_reducible apply r_drop | with_reducible apply r_tup | with_reducible apply r_lst | with_reducible apply QC5 | with_reducible apply QzQ | with_reducible apply r_noX | with_reducible apply QyZ | with_reducible apply Qbe | with_reducible apply r_gN | with_reducible apply r_gT | with_reducible apply r_unp | with_reducible apply r_for | with_reducible apply r_itL | with_reducible apply r_itT | with_reducible apply r_itE | with_reducible apply r_itZ | with_reducible apply Qaj | with_reducible apply r_eA | with_reducible apply r_sl | with_reducible apply r_slB | with_reducible apply r_ixO | with_reducible apply r_meth | with_reducible apply QLJ | with_reducible apply r_app | with_reducible apply r_put | with_reducible apply Qav | with_reducible apply QH5 | with_reducible apply QP4 | with_reducible apply QO3 | with_reducible apply r_lm)
abbrev CK:List Str:=Qf
theorem QKR{c:Str}(h:‹"cg"›):Qm.contains c=true:=by
 have hm:c∈Qf:=by simpa using h
 simp only[Qf,List.mem_cons,List.not_mem_nil,or_false]at hm
 rcases hm with rfl | rfl | rfl | rfl<;>decide +kernel
def dl(r:List Int):D:=.lst (r.map .int)
def tbD(t:‹"aY"›):D:=.lst (t.map dl)
theorem QvW{js:‹"O"›}{its:‹"ak"›}{g:D->SD->Out SD}{e:SD->Out D}{ς:SD}{xs:List D}{h:D->D}(hi:its ς=.ok xs)(ht:∀ x∈xs,turnC js g cTrue e ς x=.ok (some (h x)))(hl:xs.length<=1000):
 eComp js its g cTrue e ς=.ok (.lst (xs.map h)):=by
 unfold eComp
 rw[hi,Out.bind_ok,QvR (h:=fun x=>some (h x)) ht,Out.bind_ok]
 have e:xs.filterMap (fun x=>some (h x))=xs.map h:=by rw[← List.filterMap_eq_map];rfl
 rw[e,if_pos (Qhe (by rw[List.length_map];exact hl))]
theorem QNI{js:‹"O"›}{its:‹"ak"›}{e:SD->Out D}{ς:SD}{a b:List Int}(f:Int->Int->Int)(hi:its ς=.ok (List.zipWith (fun x y=>.tup [x,y]) (a.map .int) (b.map .int)))
 (ht:∀ x∈a,∀ y∈b,turnC js (gT [0,1]) cTrue e ς (.tup [.int x,.int y])=.ok (some (.int (f x y)))) (hl:a.length<=1000):eComp js its (gT [0,1]) cTrue e ς=.ok (dl (List.zipWith f a b)):=by
 have hz:List.zipWith (fun x y=>D.tup [x,y]) (a.map .int) (b.map .int)=(List.zip a b).map fun p=>D.tup [.int p.1,.int p.2]:=by
  rw[List.zipWith_map,List.map_zip_eq_zipWith]
  rfl
 rw[QvW (h:=fun d=>match d with | .tup [.int x,.int y]=>.int (f x y) | _=>.non) (by rw[hi,hz]) ?_ ?_]
 ·unfold dl
  rw[List.map_map,List.map_zipWith,List.map_zip_eq_zipWith]
  rfl
 ·intro x hx
  obtain⟨⟨p,q⟩,hp,rfl⟩:=List.mem_map.mp hx
  exact ht p (List.of_mem_zip hp).1 q (List.of_mem_zip hp).2
 ·rw[List.length_map,List.length_zip]
  omega
theorem loopL{body:D->SD->Out Fl}{P:Nat->SD->Prop}:∀{xs:List D}(n:Nat),(∀ k x,xs[k]?=some x->∀ ς,P (n+k) ς->∃ ς',body x ς=.ok (.nx ς')/\P (n+k+1) ς')->∀ ς,P n ς->∃ ς',loopD body xs ς=.ok (.nx ς')/\P (n+xs.length) ς'
 | [],n,_,ς,p=>⟨ς,rfl,p⟩
 | x::xs,n,h,ς,p=>by
  obtain⟨ς1,e1',p1⟩:=h 0 x rfl ς p
  obtain⟨ς2,e2',p2⟩:=loopL (xs:=xs) (n+1) (fun k y hy ς q=>by
   have:=h (k+1) y hy ς (by rw[show n+(k+1)=n+1+k by omega];exact q)
   rw[show n+(k+1)+1=n+1+k+1 by omega]at this
   exact this) ς1 p1
  refine⟨ς2,?_,by rw[List.length_cons,show n+(xs.length+1)=n+1+xs.length by omega];exact p2⟩
  rw[loopD,e1']
  exact e2'
def cs(t:‹"aY"›)(k j:Nat):Int:=((t.take k).map fun r=>r.getD j 0).sum
def pre(t:‹"aY"›)(m k:Nat):List Int:=(List.range m).map (cs t k)
theorem QMV{t:‹"aY"›}{m k:Nat}{r:List Int}(hr:t[k]?=some r)(hm:r.length=m):List.zipWith (· + ·) (pre t m k) r=pre t m (k+1):=by
 apply List.ext_getElem?
 intro j
 unfold pre
 rw[List.getElem?_zipWith,List.getElem?_map,List.getElem?_map]
 by_cases hj:j<m
 ·have h1:(List.range m)[j]?=some j:=by simp[hj]
  have h2:r[j]?=some r[j]:=by simp[hm,hj]
  rw[h1,h2]
  show some (cs t k j+r[j])=some (cs t (k+1) j)
  unfold cs
  rw[List.take_add_one,hr]
  simp[hm,hj,List.getD_eq_getElem?_getD]
 ·have h1:(List.range m)[j]?=none:=by simp;omega
  rw[h1];rfl
theorem QM1(t:‹"aY"›)(m:Nat):pre t m 0=List.replicate m 0:=by
 unfold pre
 rw[List.eq_replicate_iff]
 refine⟨by simp,fun x hx=>?_⟩
 obtain⟨j,_,rfl⟩:=List.mem_map.mp hx
 rfl
structure Tb(t:List (List Int))(m:Nat):Prop where
 n1:1<=t.length
 n2:t.length<=12
 m6:m<=6
 row:∀ r∈t,r.length=m
 ent:∀ r∈t,∀ x∈r,0<=x/\x<=9
theorem QOQ{a b:List Int}(hl:a.length<=1000):Qeo [dl a,dl b]=.ok (dl (List.zipWith (· + ·) a b)):=by
 have h:=QNI (js:=[none,none]) (its:=itZ (eVar 0) (eVar 1)) (e:=QuM) (ς:=[some (.k,dl a),some (.k,dl b)]) (a:=a) (b:=b) (· + ·) rfl (fun x _ y _=>rfl) hl
 rw[QLi]
 unfold QmZ sRetF
 rw[h];rfl
def hdD(t:‹"aY"›)(m:Nat)(k:Nat):D:=.lst ((List.range (k+1)).map fun i=>dl (pre t m i))
theorem QJT{t:‹"aY"›}{m:Nat}(h:Tb t m):Qba [tbD t]=.ok (hdD t m t.length):=by
 obtain⟨n1,n2,m6,row,_⟩:=h
 have r0:t[0]?=some t[0]:=by simp
 have hr0:(t[0]).length=m:=row _ (List.getElem_mem _)
 have hix:dIx (tbD t) (.int 0)=.ok (dl t[0]):=ixL 0 (by rw[List.getElem?_map,r0];rfl)
 have hc:eComp [none] (itL ‹"H"›) (gN 0) cTrue Qg0 [some (.k,tbD t),none,none]=.ok (dl (pre t m 0)):=by
  rw[QvW (xs:=(t[0]).map .int) (h:=fun _=>.int 0) (by simp only[itL,e2,eVar,eC,Out.bind_ok,List.getElem?_cons_zero,hix];rfl) (fun x _=>rfl) (by rw[List.length_map];omega)]
  rw[QM1,List.map_map]
  unfold dl
  congr 2
  rw[List.map_replicate]
  exact List.eq_replicate_iff.mpr ⟨by simp[hr0],fun x hx=>by obtain⟨_,_,rfl⟩:=List.mem_map.mp hx;rfl⟩
 obtain⟨ς',hL,a2,rfl⟩:=loopL (body:=fun x ς=>gN 2 x ς>>=fun ς'=>Qdc ς') (xs:=t.map dl) (P:=fun k ς=>∃ a2,ς=[some (.k,tbD t),some (.o,hdD t m k),a2]) 0
  (by
   rintro k x hx ς ⟨a2,rfl⟩
   rw[Nat.zero_add]at *
   rw[List.getElem?_map]at hx
   cases ht:t[k]? with
   | none=>rw[ht]at hx;cases hx
   | some r=>
    rw[ht]at hx
    cases hx
    have hk:k<t.length:=(List.getElem?_eq_some_iff.mp ht).1
    have hrm:r.length=m:=row r (List.mem_of_getElem? ht)
    have hl:(pre t m k).length=m:=by simp[pre]
    have s:=QOQ (a:=pre t m k) (b:=r) (by omega)
    rw[QMV ht hrm]at s
    have hat:atI ((List.range (k+1)).map fun i=>dl (pre t m i)) (-1)=some (dl (pre t m k)):=by
     unfold atI ixN
     simp
     rw[if_pos (by omega),show((-1:Int)+((k:Int)+1)).toNat=k by omega]
     simp
    refine⟨[some (.k,tbD t),some (.o,hdD t m (k+1)),some (.k,dl r)],?_,_,rfl⟩
    have e1':eIxO 1 ‹"aK"› ‹"ct"›=.ok (dl (pre t m k)):=by
     unfold eIxO hdD
     simp only[List.getElem?_cons_succ,List.getElem?_cons_zero,e1,eC,Out.bind_ok,Qex,hat];rfl
    have hlt:decide (((List.range (k+1)).map fun i=>dl (pre t m i)).length<sizeLine)=true:=by
     have:(1000:Nat)<=sizeLine:=by decide
     rw[List.length_map,List.length_range]
     exact decide_eq_true (by omega)
    have hnext:((List.range (k+1)).map fun i=>dl (pre t m i))++[dl (pre t m (k+1))]=(List.range (k+1+1)).map fun i=>dl (pre t m i):=by
     rw[List.range_succ (n:=k+1),List.map_append];rfl
    show Qdc ‹"ct"›=_
    unfold Qdc Qb3
    simp only[List.getElem?_cons_succ,List.getElem?_cons_zero,hdD]
    have e3':eA (fun xs=>Qeo (xs++[])) (aCons (eIxO 1 ‹"aK"›) (aCons (eVar 2) aNil)) ‹"ct"›=.ok (dl (pre t m (k+1))):=by
     simp only[eA,aCons,aNil,e1',eVar,Out.bind_ok,List.getElem?_cons_succ,List.getElem?_cons_zero,List.append_nil,s]
    rw[show(D.lst ((List.range (k+1)).map fun i=>dl (pre t m i)))=hdD t m k from rfl,e3',Out.bind_ok,if_pos hlt,hnext]
    rfl)
  ‹"dQ"› ⟨_,rfl⟩
 rw[Nat.zero_add,List.length_map]at hL
 have hfor:=Qcw (g:=gN 2) (its:=itL (eVar 0)) (T:=Qdc) (ς:=‹"dQ"›) (xs:=t.map dl) rfl hL
 rw[QyP]
 unfold QfW
 have hs:sSetO 1 (eLst (aCons (eComp [none] (itL ‹"H"›) (gN 0) cTrue Qg0) aNil)) [some (.k,tbD t),none,none]=.ok (.nx ‹"dQ"›):=by
  simp only[sSetO,eLst,aCons,aNil,hc,Out.bind_ok,List.length_cons,List.length_nil,Qdx,Nat.reduceAdd,Nat.reduceLeDiff,if_true];rfl
 simp only[sSeq,hs,Out.bind_ok,thenF,hfor]
 rfl
def ckF(t:‹"aY"›)(m:Nat):List (Str×D):=[("table",tbD t),("heads",hdD t m t.length)]
def ck(c:Str)(t:‹"aY"›)(m:Nat):D:=.ins c (ckF t m)
theorem QQb(t:‹"aY"›)(m:Nat):(ckF t m).lookup ("table":Str)=some (tbD t):=by
 unfold ckF;rw[List.lookup_cons,beq_self_eq_true]
theorem QOE{n:Str}(h1:(n == ("table":Str))=false)(h2:(n == ("heads":Str))=false)(t:‹"aY"›)(m:Nat):(ckF t m).lookup n=none:=by
 unfold ckF;rw[List.lookup_cons,h1,List.lookup_cons,h2];rfl
theorem put_h(t:‹"aY"›)(m:Nat):putD "heads" (hdD t m t.length) [("table",tbD t)]=ckF t m:=by
 have:¬ (("table":Str)=("heads":Str)):=dk
 unfold putD
 rw[if_neg this];rfl
theorem QtX{c:Str}(hc:‹"cg"›){t:‹"aY"›}{m:Nat}(h:Tb t m):QS c [] [tbD t]=.ok (ckF t m):=by
 have hk:eComp [none] ‹"dt"› (gN 0) cTrue Qfn [some (.s,.ins c []),some (.k,tbD t)]=.ok (tbD t):=by
  rw[QvW (xs:=t.map dl) (h:=id) rfl ?_ (by rw[List.length_map];have:=h.n2;omega),List.map_id]
  ·rfl
  ·intro x hx
   obtain⟨r,_,rfl⟩:=List.mem_map.mp hx
   rfl
 have r1:=QJT h
 have hz:∀ n:Nat,n<10->(Qm.contains c&&decide (n<1000))=true:=fun n hn=>by rw[QKR hc,Bool.true_and];exact decide_eq_true (by omega)
 have s1:sFldS Qm "table" 0 (eComp [none] ‹"dt"› (gN 0) cTrue Qfn) [some (.s,.ins c []),some (.k,tbD t)]=.ok (.nx ‹"cs"›):=by
  unfold sFldS
  rw[hk,Out.bind_ok]
  show(if (Qm.contains c&&decide (([]:List (Str×D)).length<1000))=true then _ else _)=_
  exact(if_pos (c:=(Qm.contains c&&decide (0<1000))=true) (hz 0 (by decide))).trans rfl
 have s2:sFldS Qm "heads" 0 (eA (fun xs=>Qba (xs++[])) ‹"X"›) ‹"cs"›=.ok (.nx [some (.s,.ins c (ckF t m)),some (.k,tbD t)]):=by
  unfold sFldS
  have:eA (fun xs=>Qba (xs++[])) ‹"X"› ‹"cs"›=.ok (hdD t m t.length):=by
   simp only[eA,aCons,aNil,eVar,Out.bind_ok,List.getElem?_cons_succ,List.getElem?_cons_zero,List.append_nil,r1]
  rw[this,Out.bind_ok]
  show(if (Qm.contains c&&decide ([(("table":Str),tbD t)].length<1000))=true then _ else _)=_
  refine(if_pos (c:=(Qm.contains c&&decide (1<1000))=true) (hz 1 (by decide))).trans ?_
  rw[put_h];rfl
 rw[Qt5]
 unfold QdX
 simp only[sSeq,s1,QQi,Out.bind_ok,thenF,s2]
 simp only[QfF,QsG,List.getElem?_cons_zero,if_true]
theorem Qt1{c:Str}(hc:‹"cg"›){t:‹"aY"›}{m:Nat}{n:Str}{mt:Str->List D->Out D}{O:SD->Out D}{A:‹"ak"›}{ς:SD}{xs:List D}(hO:O ς=.ok (ck c t m))(hA:A ς=.ok xs)(h1:(n == ("table":Str))=false)(h2:(n == ("heads":Str))=false):
 eMeth CK n mt O A ς=mt c (ck c t m::xs):=by
 unfold eMeth
 rw[hO,Out.bind_ok]
 show(if (CK.contains c&&((ckF t m).lookup n).isNone)=true then A ς>>=fun xs=>mt c (.ins c (ckF t m)::xs) else .stuck)=_
 simp only[QOE h1 h2,hc,Option.isNone_none,Bool.and_self,if_true,hA,Out.bind_ok]
 rfl
theorem fld_t{c:Str}(hc:‹"cg"›)(t:‹"aY"›)(m:Nat):dFld Qm "table" (ck c t m)=.ok (tbD t):=by
 show(if Qm.contains c=true then optO ((ckF t m).lookup ("table":Str)) else .stuck)=_
 rw[if_pos (QKR hc),QQb];rfl
theorem Qzz{c:Str}(hc:‹"cg"›)(t:‹"aY"›)(m:Nat):QaE [ck c t m]=.ok (.int (t.length:Int)):=by
 have:fLen [tbD t]=.ok (.int (t.length:Int)):=by simp[fLen,tbD]
 simp only[QyY,QfZ,sRet,eA,aCons,aNil,e1,eVar,List.getElem?_cons_zero,Out.bind_ok,fld_t hc,this]
 rfl
theorem QLT(i:Int):QeB [.int i]=.ok (.bl true):=by
 rw[QKp];simp[Qk4,bodyF,retF,sSeq,thenF,sSet,sRet,sIf,sNil,eVar,eC,e1,e2,eA,f1,aNil,aCons,tVal,tAnd',tOr',tNot',eAnd,eOr,eNot,eIf,eTup,eLst,eIsa,isaT,QcI,oNo,oSome,sPar,sUnp,Qax,gN,gT,fLen,Qdx,Out.bind_ok,Out.bind_exc,Out.bind_stuck,Out.pure_eq,D.scal,Qae,QdV,Qex,QiK,QbC,Qf6,Qee,Qlg,Q0,QcW,List.length_cons,List.length_nil,List.map_cons,List.map_nil,List.cons_append,List.nil_append,List.append_nil,List.getElem?_cons_zero,List.getElem?_cons_succ,List.set_cons_zero,List.set_cons_succ,List.replicate,Nat.reduceAdd,Nat.reduceSub,Nat.reduceLeDiff,Nat.zero_add,Nat.add_zero,reduceIte,Bool.not_true,Bool.not_false,Bool.true_and,Bool.and_true,Bool.false_and,Bool.and_false,Bool.or_true,Bool.true_or,Bool.or_false,Bool.false_or,Bool.false_eq_true,decide_true,decide_false,decide_eq_true_eq,Bool.not_eq_true',decide_eq_false_iff_not,Int.reduceEq,Int.reduceLT,Int.reduceLE,Int.reduceNeg,Nat.reduceEqDiff, ↓reduceIte,not_true_eq_false,not_false_eq_true]
theorem QmW{i a b:Int}(h1:a<=i)(h2:i<=b):QaQ [.int i,.int a,.int b]=.ok (.bl true):=by
 have hw:=QLT i
 have e1':decide (a<=i)=true:=decide_eq_true h1
 have e2':decide (i<=b)=true:=decide_eq_true h2
 rw[QGC]
 simp[Qjc,bodyF,retF,sSeq,thenF,sSet,sRet,sIf,sNil,eVar,eC,e1,e2,eA,f1,aNil,aCons,tVal,tAnd',tOr',tNot',eAnd,eOr,eNot,eIf,eTup,eLst,eIsa,isaT,QcI,oNo,oSome,sPar,sUnp,Qax,gN,gT,fLen,Qdx,Out.bind_ok,Out.bind_exc,Out.bind_stuck,Out.pure_eq,D.scal,Qae,QdV,Qex,QiK,QbC,Qf6,Qee,Qlg,Q0,QcW,List.length_cons,List.length_nil,List.map_cons,List.map_nil,List.cons_append,List.nil_append,List.append_nil,List.getElem?_cons_zero,List.getElem?_cons_succ,List.set_cons_zero,List.set_cons_succ,List.replicate,Nat.reduceAdd,Nat.reduceSub,Nat.reduceLeDiff,Nat.zero_add,Nat.add_zero,reduceIte,Bool.not_true,Bool.not_false,Bool.true_and,Bool.and_true,Bool.false_and,Bool.and_false,Bool.or_true,Bool.true_or,Bool.or_false,Bool.false_or,Bool.false_eq_true,decide_true,decide_false,decide_eq_true_eq,Bool.not_eq_true',decide_eq_false_iff_not,Int.reduceEq,Int.reduceLT,Int.reduceLE,Int.reduceNeg,Nat.reduceEqDiff, ↓reduceIte,not_true_eq_false,not_false_eq_true,hw,Qdt,h1,h2]
theorem QCl{r:List Int}(hl:r.length<=6)(h:∀ x∈r,0<=x/\x<=9):QeM [dl r]=.ok (.bl true):=by
 have hlen:fLen [dl r]=.ok (.int (r.length:Int)):=by simp[fLen,dl]
 have hc:eComp [none] ‹"cX"› (gN 0) cTrue QqF [some (.k,dl r)]=.ok (.lst (r.map fun _=>D.bl true)):=by
  refine Qas D.int ‹"cK"› rfl (fun x hx=>?_) (by omega)
  have hw:=QmW (h x hx).1 (h x hx).2
  refine Qav (by walk_at "cap") (by walk_at "s") ?_
  unfold QqF
  (repeat walk_at "e")
 have ha:fAll (.lst (r.map fun _=>D.bl true))=.ok (.bl true):=by rw[Qik (fun _=>true)];simp
 have hf:f1 fAll [.lst (r.map fun _=>D.bl true)]=.ok (.bl true):=ha
 have hi:isaT "list" (dl r)=.ok true:=by simp[isaT,dl,QcI]
 have hg:decide ((6:Int)<(r.length:Int))=false:=decide_eq_false (by omega)
 rw[QNx]
 unfold Qp9
 (repeat walk_at "e")
theorem QIx{t:‹"aY"›}{m:Nat}(h:Tb t m):QeC [tbD t]=.ok (.bl true):=by
 obtain⟨n1,n2,m6,row,ent'⟩:=h
 have hlen:fLen [tbD t]=.ok (.int (t.length:Int)):=by simp[fLen,tbD]
 have hc:eComp [none] ‹"cX"› (gN 0) cTrue QlE [some (.k,tbD t)]=.ok (.lst (t.map fun _=>D.bl true)):=by
  refine Qas dl ‹"cK"› rfl (fun x hx=>?_) (by omega)
  have hw:=QCl (r:=x) (by rw[row x hx];exact m6) (ent' x hx)
  refine Qav (by walk_at "cap") (by walk_at "s") ?_
  unfold QlE
  (repeat walk_at "e")
 have r0:t[0]?=some t[0]:=by simp
 have hr0:(t[0]).length=m:=row _ (List.getElem_mem _)
 have hix0:dIx (tbD t) (.int 0)=.ok (dl t[0]):=ixL 0 (by rw[List.getElem?_map,r0];rfl)
 have hl0:fLen [dl t[0]]=.ok (.int (m:Int)):=by simp[fLen,dl,hr0]
 have hc2:eComp [none,some 0] ‹"cX"› (gN 0) cTrue Qmt [some (.k,tbD t)]=.ok (.lst (t.map fun _=>D.bl true)):=by
  refine Qas dl ‹"cK"› rfl (fun x hx=>?_) (by omega)
  have hlx:fLen [dl x]=.ok (.int (m:Int)):=by simp[fLen,dl,row x hx]
  have he:dEq (.int (m:Int)) (.int (m:Int))=.ok (.bl true):=by rw[Q0];simp
  refine Qav (by walk_at "cap") (by walk_at "s") ?_
  unfold Qmt
  (repeat walk_at "e")
 have ha:fAll (.lst (t.map fun _=>D.bl true))=.ok (.bl true):=by rw[Qik (fun _=>true)];simp
 have hf:f1 fAll [.lst (t.map fun _=>D.bl true)]=.ok (.bl true):=ha
 have hi:isaT "list" (tbD t)=.ok true:=by simp[isaT,tbD,QcI]
 have hg:decide ((1:Int)<=(t.length:Int))=true:=decide_eq_true (by omega)
 have hg2:decide ((t.length:Int)<=12)=true:=decide_eq_true (by omega)
 rw[QJK]
 unfold Qlf
 (repeat walk_at "e")
theorem QLm{c:Str}(hc:‹"cg"›){t:‹"aY"›}{m:Nat}(h:Tb t m):QdP c [] [tbD t]=.ok (ckF t m):=by
 have h1:=QIx h
 have h2:=QtX hc h
 rw[QGg]
 unfold Qjf
 (repeat walk_at "e")
theorem QL5{c:Str}(hc:‹"cg"›){r:List Int}{m:Nat}(h:Tb [r] m):QdK c [] [dl r]=.ok (ckF [r] m):=by
 have h1:=QCl (r:=r) (by rw[h.row r (by simp)];exact h.m6) (h.ent r (by simp))
 have h2:QS c [] [.lst [dl r]]=.ok (ckF [r] m):=QtX hc h
 rw[QGu]
 unfold Qjt
 (repeat walk_at "e")
def one(n s:Nat):List Int:=(List.range n).map fun k=>if k=s then 1 else 0
def dealT(n:Nat):List (List Int):=(List.range n).map (one n)
def bunT(n:Nat):List (List Int):=(List.range n).map fun s=>[if s+1=n then 1 else 0]
theorem QLw{n s:Nat}(h:n<=100):Qc4 [.int n,.int s]=.ok (dl (one n s)):=by
 have hc:eComp [none,some 1] (itR1 (eVar 0)) (gN 0) cTrue Qiu [some (.k,.int n),some (.k,.int s)]=.ok (.lst ((List.range n).map fun k=>D.int (if k=s then 1 else 0))):=by
  refine Ql1 (fun k=>D.int (if k=s then 1 else 0)) (Qcb n rfl (by omega)) (fun k hk=>?_) (by omega)
  refine Qav (by walk_at "cap") (by walk_at "s") ?_
  unfold Qiu
  by_cases e:k=s
  ·have e':decide ((k:Int)=(s:Int))=true:=decide_eq_true (by omega)
   rw[if_pos e]
   (repeat walk_at "e")
  ·have e':decide ((k:Int)=(s:Int))=false:=decide_eq_false (by omega)
   rw[if_neg e]
   (repeat walk_at "e")
 have he:dl (one n s)=.lst ((List.range n).map fun k=>D.int (if k=s then 1 else 0)):=by unfold dl one;rw[List.map_map];rfl
 rw[he,QDB]
 unfold QhP
 (repeat walk_at "e")
theorem QHV{n:Nat}(h1:1<=n)(h6:n<=6):Tb (dealT n) n:=by
 refine⟨by simp[dealT];omega,by simp[dealT];omega,h6,fun r hr=>?_,fun r hr x hx=>?_⟩<;>obtain⟨s,_,rfl⟩:=List.mem_map.mp hr
 ·simp[one]
 ·obtain⟨k,_,rfl⟩:=List.mem_map.mp hx
  split<;>decide
theorem QKK{n:Nat}(h1:1<=n)(h6:n<=12):Tb (bunT n) 1:=by
 refine⟨by simp[bunT];omega,by simp[bunT];omega,by decide,fun r hr=>?_,fun r hr x hx=>?_⟩<;>obtain⟨s,_,rfl⟩:=List.mem_map.mp hr
 ·simp
 ·rw[List.mem_singleton.mp hx]
  split<;>decide
theorem QLx{c:Str}(hc:‹"cg"›){n:Nat}(n1:1<=n)(n6:n<=6):QdH c [] [.int n]=.ok (ckF (dealT n) n):=by
 have h1:=QmW (i:=n) (a:=1) (b:=6) (by omega) (by omega)
 have h2:=QtX hc (QHV n1 n6)
 have hc':eComp [none,some 1] (itR1 (eVar 1)) (gN 0) cTrue Qka [some (.s,.ins c []),some (.k,.int n)]=.ok (tbD (dealT n)):=by
  have he:tbD (dealT n)=.lst ((List.range n).map fun s=>dl (one n s)):=by unfold tbD dealT;rw[List.map_map];rfl
  rw[he]
  refine Ql1 (fun s=>dl (one n s)) (Qcb n rfl (by omega)) (fun k hk=>?_) (by omega)
  have hs:=QLw (n:=n) (s:=k) (by omega)
  refine Qav (by walk_at "cap") (by walk_at "s") ?_
  unfold Qka
  (repeat walk_at "e")
 rw[QHI]
 unfold Qjm
 (repeat walk_at "e")
theorem QND{c:Str}(hc:‹"cg"›){n:Nat}(n1:1<=n)(n6:n<=12):QcF c [] [.int n]=.ok (ckF (bunT n) 1):=by
 have h1:=QmW (i:=n) (a:=1) (b:=12) (by omega) (by omega)
 have h2:=QtX hc (QKK n1 n6)
 have hc':eComp [none,some 1] (itR1 (eVar 1)) (gN 0) cTrue Qh2 [some (.s,.ins c []),some (.k,.int n)]=.ok (tbD (bunT n)):=by
  have he:tbD (bunT n)=.lst ((List.range n).map fun s=>D.lst [.int (if s+1=n then 1 else 0)]):=by unfold tbD bunT;rw[List.map_map];rfl
  rw[he]
  refine Ql1 (fun s=>D.lst [.int (if s+1=n then 1 else 0)]) (Qcb n rfl (by omega)) (fun k hk=>?_) (by omega)
  refine Qav (by walk_at "cap") (by walk_at "s") ?_
  unfold Qh2
  by_cases e:k+1=n
  ·have e':decide ((k:Int)=(n:Int) - 1)=true:=decide_eq_true (by omega)
   rw[if_pos e]
   (repeat walk_at "e")
  ·have e':decide ((k:Int)=(n:Int) - 1)=false:=decide_eq_false (by omega)
   rw[if_neg e]
   (repeat walk_at "e")
 rw[QAq]
 unfold QgR
 (repeat walk_at "e")
abbrev rl(n:Nat)(f:Nat->D):D:=.lst ((List.range n).map f)
theorem atR{n i:Nat}{f:Nat->D}(h:i<n):((List.range n).map f)[i]?=some (f i):=by
 rw[List.getElem?_map,List.getElem?_range h];rfl
theorem ixR{n i:Nat}{f:Nat->D}(h:i<n):dIx (rl n f) (.int (i:Int))=.ok (f i):=ixL i (atR h)
theorem lenR(n:Nat)(f:Nat->D):fLen [rl n f]=.ok (.int (n:Int)):=by simp[fLen]
theorem QeN{n:Nat}{f g:Nat->D}(h:∀ i,i<n->f i=g i):rl n f=rl n g:=by
 show D.lst _=D.lst _
 rw[List.map_congr_left fun i hi=>h i (List.mem_range.mp hi)]
theorem Qqh{body:D->SD->Out Fl}{P:Nat->SD->Prop}{f:Nat->D}{n:Nat}(h:∀ k:Nat,k<n->∀ ς,P k ς->∃ ς',body (f k) ς=.ok (.nx ς')/\P (k+1) ς')(ς:SD)(p0:P 0 ς):∃ ς',loopD body ((List.range n).map f) ς=.ok (.nx ς')/\P n ς':=by
 have go:∀ m k:Nat,k+m=n->∀ ς,P k ς->∃ ς',loopD body ((List.range' k m).map f) ς=.ok (.nx ς')/\P n ς':=by
  intro m
  induction m with
  | zero=>intro k hk ς p;exact⟨ς,rfl,by rw[← hk];exact p⟩
  | succ m ih=>
   intro k hk ς p
   obtain⟨ς1,e1',p1⟩:=h k (by omega) ς p
   obtain⟨ς2,e2',p2⟩:=ih (k+1) (by omega) ς1 p1
   refine⟨ς2,?_,p2⟩
   rw[List.range'_succ,List.map_cons,loopD,e1']
   exact e2'
 rw[List.range_eq_range']
 exact go n 0 (by omega) ς p0
theorem setR{n k:Nat}(hk:k<n)(f:Nat->D)(v:D):((List.range n).map f).set k v=(List.range n).map fun i=>if i=k then v else f i:=by
 apply List.ext_getElem?
 intro i
 rw[List.getElem?_set]
 by_cases hi:i<n
 ·have r1:((List.range n).map fun i=>if i=k then v else f i)[i]?=some (if i=k then v else f i):=atR hi
  rw[r1]
  by_cases e:k=i
  ·subst e
   rw[if_pos rfl,if_pos (by simpa using hi),if_pos rfl]
  ·rw[if_neg e,atR hi,if_neg (Ne.symm e)]
 ·have h1:((List.range n).map f)[i]?=none:=by simp;omega
  have h2:((List.range n).map fun i=>if i=k then v else f i)[i]?=none:=by simp;omega
  rw[h1,h2,if_neg (by omega)]
theorem ixNR{n k:Nat}(hk:k<n)(f:Nat->D):ixN ((List.range n).map f).length (k:Int)=some k:=by
 rw[List.length_map,List.length_range]
 unfold ixN
 rw[if_pos (by omega),if_pos (by omega)];simp
theorem allR{n:Nat}{f:Nat->D}(h:∀ i,i<n->(f i).scal=true):((List.range n).map f).all D.scal=true:=List.all_eq_true.mpr fun d hd=>by
 obtain⟨i,hi,rfl⟩:=List.mem_map.mp hd
 exact h i (List.mem_range.mp hi)
theorem QEu:∀ xs:List Str,strsD (xs.map D.str)=some xs
 | []=>rfl
 | x::xs=>by show(strsD (xs.map D.str)).map (x :: ·)=_;rw[QEu xs];rfl
def Inj(xs:List Str):Prop:=∀ i j,i<xs.length->xs[i]?=xs[j]?->i=j
theorem QEk{xs:List Str}(h:Inj xs):∀ i,i<=xs.length->LS.met ‹"dE"› i=xs.take i
 | 0,_=>rfl
 | i+1,hi=>by
  have ih:=QEk h i (by omega)
  have hl:i<xs.length:=by omega
  have e:xs.getD i ""=xs[i]:=by rw[List.getD_eq_getElem?_getD,List.getElem?_eq_getElem hl];rfl
  have ni:¬ xs[i]∈xs.take i:=fun z=>by
   obtain⟨j,hj,ej⟩:=List.getElem_of_mem z
   rw[List.getElem_take]at ej
   rw[List.length_take]at hj
   have:=h i j (by omega) (by rw[List.getElem?_eq_getElem hl,List.getElem?_eq_getElem (show j<xs.length by omega),ej])
   omega
  show(if xs.getD i ""∈LS.met ‹"dE"› i then LS.met ‹"dE"› i else LS.met ‹"dE"› i++[xs.getD i ""])=_
  rw[ih,e,if_neg ni,List.take_add_one,List.getElem?_eq_getElem hl];rfl
theorem Qr5{xs:List Str}(h:Inj xs)(hl:xs.length<=1000):Qan [.lst (xs.map .str)]=.ok (.bl true):=by
 have hu:Qy2 (.lst (xs.map .str))=.ok (.int (xs.length:Int)):=by
  show(match strsD (xs.map .str) with | some xs=>if decide (xs.length<4000)=true then Out.ok (D.int (Qe7 xs)) else .stuck | none=>.stuck)=_
  rw[QEu]
  show(if decide (xs.length<4000)=true then Out.ok (D.int (Qe7 xs)) else .stuck)=_
  rw[if_pos (decide_eq_true (by omega))]
  unfold Qe7
  rw[QEk h _ ‹"ar"›,List.take_length]
 have hlen:fLen [.lst (xs.map D.str)]=.ok (.int (xs.length:Int)):=by simp[fLen]
 have he:dEq (.int (xs.length:Int)) (.int (xs.length:Int))=.ok (.bl true):=by rw[Q0];simp
 rw[QDL]
 unfold QhA
 (repeat walk_at "e")
theorem Qre{n:Nat}{f:Nat->D}{M:Int}(h1:1<=n)(h2:(n:Int)<=M):Qb4 [rl n f,.int M]=.ok (.bl true):=by
 have hlen:=lenR n f
 have hi:isaT "list" (rl n f)=.ok true:=by simp[isaT,QcI]
 have g1:decide ((1:Int)<=(n:Int))=true:=decide_eq_true (by omega)
 have g2:decide ((n:Int)<=M)=true:=decide_eq_true h2
 have g3:dLe (.int (n:Int)) (.int M)=.ok (.bl true):=by rw[Qf6,g2]
 rw[QLd]
 unfold Qnc
 (repeat walk_at "e")
theorem QqQ(n:Nat):f1 fAll [rl n ‹"cK"›]=.ok (.bl true):=by
 show fAll (.lst ((List.range n).map fun _=>D.bl true))=_
 rw[Qik (fun _=>true)];simp
theorem QtJ(n:Nat)(f:Nat->Str):(List.range n).map (fun i=>D.str (f i))=((List.range n).map f).map D.str:=by rw[List.map_map];rfl
theorem QPd{n:Nat}{f:Nat->Str}(h:∀ i j,i<n->j<n->f i=f j->i=j):Inj ((List.range n).map f):=by
 intro i j hi z
 rw[List.length_map,List.length_range]at hi
 rw[List.getElem?_map,List.getElem?_map,List.getElem?_range hi]at z
 by_cases hj:j<n
 ·rw[List.getElem?_range hj]at z
  exact h i j hi hj (Option.some.inj z)
 ·have h1:(List.range n)[j]?=none:=by simp;omega
  rw[h1]at z;cases z
structure Seats(n nd:Nat)(nm dn c:Nat->Str)(t:Nat->List (List Int))(m:Nat->Nat)(ld:Nat->Nat->Int)(st:Nat->Int):Prop where
 n1:1<=n
 n2:n<=60
 d1:1<=nd
 d2:nd<=6
 ck:∀ k,k<n->CK.contains (c k)=true
 tb:∀ k,k<n->Tb (t k) (m k)
 ldr:∀ k j,k<n->j<m k -> -(nd:Int)<=ld k j/\ld k j<(n:Int)
 str:∀ k,k<n->0<=st k/\st k<((t k).length:Int)
 isn:∀ k,k<n->QaT [.str (nm k)]=.ok (.bl true)
 isd:∀ d,d<nd->QaT [.str (dn d)]=.ok (.bl true)
 inj:∀ i j,i<n->j<n->nm i=nm j->i=j
 injd:∀ i j,i<nd->j<nd->dn i=dn j->i=j
 sep:∀ i d,i<n->d<nd->nm i≠dn d
def nml(nm dn:Nat->Str)(l:Int):Str:=if l<0 then dn (-1 - l).toNat else nm l.toNat
def seatD(nm dn c:Nat->Str)(t:‹"bE"›)(m:Nat->Nat)(ld:Nat->Nat->Int)(st:Nat->Int)(k:Nat):D:=
 .tup [.str (nm k),ck (c k) (t k) (m k),rl (m k) ‹"bb"›,.int (st k)]
theorem ix_t{xs:List D}{d:D}(i:Nat)(h:xs[i]?=some d):dIx (.tup xs) (.int (i:Int))=.ok d:=by
 show optO (atI xs (i:Int))=_
 have hi:i<xs.length:=(List.getElem?_eq_some_iff.mp h).1
 have:atI xs (i:Int)=some d:=by
  unfold atI ixN
  rw[if_pos (by omega),if_pos (by omega)]
  simpa using h
 rw[this];rfl
theorem QM6{c:Str}(hc:‹"cg"›)(t:‹"aY"›)(m:Nat):QeS [ck c t m]=.ok (.bl true):=by
 have hm:c∈Qf:=by simpa using hc
 simp only[Qf,List.mem_cons,List.not_mem_nil,or_false]at hm
 have key:∀ c:Str,(c="Deal"∨c="Bundle"∨c="Copy"∨c="Rows")->anyT [[("Deal",true),("Bundle",false),("Copy",false),("Rows",false),("Office",false)],[("Deal",false),("Bundle",true),("Copy",false),("Rows",false),("Office",false)],[("Deal",false),("Bundle",false),("Copy",true),("Rows",false),("Office",false)],[("Deal",false),("Bundle",false),("Copy",false),("Rows",true),("Office",false)]] c=some true:=by
  rintro c (rfl | rfl | rfl | rfl)<;>decide +kernel
 have k:=key c hm
 rw[QKh]
 unfold QkP
 show(sRet (eIsa (isaTs _) (eVar 0)) [some (.k,.ins c (ckF t m))]>>=retF false)=_
 have hi:isaTs [[("Deal",true),("Bundle",false),("Copy",false),("Rows",false),("Office",false)],[("Deal",false),("Bundle",true),("Copy",false),("Rows",false),("Office",false)],[("Deal",false),("Bundle",false),("Copy",true),("Rows",false),("Office",false)],[("Deal",false),("Bundle",false),("Copy",false),("Rows",true),("Office",false)]] (.ins c (ckF t m))=.ok true:=by
  show(match anyT _ c with | some b=>Out.ok b | none=>Out.stuck)=_
  rw[k]
 (repeat walk_at "e")
theorem QOK{c:Str}(hc:‹"cg"›){t:‹"aY"›}{m:Nat}(h:Tb t m):Qcq [ck c t m]=.ok (.int (m:Int)):=by
 have n1:=h.n1
 have r0:t[0]?=some t[0]:=by simp
 have hix:dIx (tbD t) (.int 0)=.ok (dl t[0]):=ixL 0 (by rw[List.getElem?_map,r0];rfl)
 have hl0:fLen [dl t[0]]=.ok (.int (m:Int)):=by simp[fLen,dl,h.row _ (List.getElem_mem _)]
 have hf:=fld_t hc t m
 rw[QDE]
 unfold QhH
 (repeat walk_at "e")
theorem QNR{n:Nat}(hn:n<=100)(f:Nat->Str):QdJ [rl n (fun j=>.str (f j)),.int (n:Int)]=.ok (.bl true):=by
 have hlen:=lenR n (fun j=>D.str (f j))
 have hi:isaT "list" (rl n (fun j=>D.str (f j)))=.ok true:=by simp[isaT,QcI]
 have hc:eComp [none] ‹"cX"› (gN 0) cTrue Qkb [some (.k,rl n (fun j=>.str (f j))),some ‹"aw"›]=.ok (rl n ‹"cK"›):=by
  refine Qas (fun j=>D.str (f j)) ‹"cK"› rfl (fun j _=>?_) (by rw[List.length_range];omega)
  have hs:isaT "str" (D.str (f j))=.ok true:=by simp[isaT,QcI]
  refine Qav (by walk_at "cap") (by walk_at "s") ?_
  unfold Qkb
  (repeat walk_at "e")
 have he:dEq (.int (n:Int)) (.int (n:Int))=.ok (.bl true):=by rw[Q0];simp
 have ha:=QqQ n
 rw[QFP]
 unfold Qi6
 (repeat walk_at "e")
theorem QOA:QaT [.str "in"]=.ok (.bl true):=by with_unfolding_all rfl
section
variable{n nd:Nat}{nm dn c:Nat->Str}{t:Nat->List (List Int)}{m:Nat->Nat}{ld:Nat->Nat->Int}{st:Nat->Int}(hs:Seats n nd nm dn c t m ld st)
include hs
theorem QMU:QdO [rl nd ‹"u"›,.int 6]=.ok (.bl true):=by
 have d2:=hs.d2
 have h1:=Qre (n:=nd) (f:=fun d=>.str (dn d)) (M:=6) hs.d1 (by omega)
 have hc:eComp [none] ‹"cX"› (gN 0) cTrue Qkp [some ‹"ce"›,some (.k,.int 6)]=.ok (rl nd ‹"cK"›):=by
  refine Qas (fun d=>D.str (dn d)) ‹"cK"› rfl (fun d hd=>?_) (by rw[List.length_range];omega)
  have h:=hs.isd d (List.mem_range.mp hd)
  refine Qav (by walk_at "cap") (by walk_at "s") ?_
  unfold Qkp
  (repeat walk_at "e")
 have ha:=QqQ nd
 have hu:Qan [rl nd ‹"u"›]=.ok (.bl true):=by
  show Qan [.lst _]=_
  rw[QtJ]
  exact Qr5 (QPd hs.injd) (by simp;omega)
 rw[QFI]
 unfold Qjj
 (repeat walk_at "e")
theorem QOo{k:Nat}(hk:k<n):QfB [seatD nm dn c t m ld st k]=.ok (.bl true):=by
 have tb:=hs.tb k hk
 have hc:=hs.ck k hk
 have m6:=tb.m6
 obtain⟨s0,s1⟩:=hs.str k hk
 have hi:isaT "tuple" ‹"ax"›=.ok true:=by simp[isaT,QcI,seatD]
 have hl:fLen [seatD nm dn c t m ld st k]=.ok (.int 4):=by simp[fLen,seatD]
 have x0:dIx ‹"ax"› (.int 0)=.ok (.str (nm k)):=ix_t 0 rfl
 have x1:dIx ‹"ax"› (.int 1)=.ok ‹"eo"›:=ix_t 1 rfl
 have x2:dIx ‹"ax"› (.int 2)=.ok (rl (m k) ‹"bb"›):=ix_t 2 rfl
 have x3:dIx ‹"ax"› (.int 3)=.ok (.int (st k)):=ix_t 3 rfl
 have h0:=hs.isn k hk
 have h1:=QM6 hc (t k) (m k)
 have h2:=QNR (n:=m k) (by omega) (fun j=>nml nm dn (ld k j))
 have h3:=QmW (i:=st k) (a:=0) (b:=((t k).length:Int) - 1) s0 (by omega)
 have mo:eMeth Qf "outs" (fun _=>Qcq) ‹"y"› aNil [some (.k,seatD nm dn c t m ld st k)]=.ok (.int (m k:Int)):=by
  rw[Qt1 (c:=c k) (t:=t k) (m:=m k) hc (xs:=[]) (by (repeat walk_at "e")) rfl (dk) (dk)]
  exact QOK hc tb
 have mp:eMeth Qf "period" (fun _=>QaE) ‹"y"› aNil [some (.k,seatD nm dn c t m ld st k)]=.ok ‹"et"›:=by
  rw[Qt1 (c:=c k) (t:=t k) (m:=m k) hc (xs:=[]) (by (repeat walk_at "e")) rfl (dk) (dk)]
  exact Qzz hc _ _
 have hne:dNe (.int 4) (.int 4)=.ok (.bl false):=by rw[QcW];rfl
 rw[QLu]
 unfold Qm6
 (repeat walk_at "e")
theorem QNU:QdU [rl n ‹"A"›,rl nd ‹"u"›]=.ok (.bl true):=by
 have n2:=hs.n2
 have d2:=hs.d2
 have h1:=Qre (n:=n) (f:=seatD nm dn c t m ld st) (M:=60) hs.n1 (by omega)
 have hc:eComp [none] ‹"cX"› (gN 0) cTrue Qkr [some (.k,rl n ‹"A"›),some ‹"ce"›]=.ok (rl n ‹"cK"›):=by
  refine Qas ‹"A"› ‹"cK"› rfl (fun k hk=>?_) (by rw[List.length_range];omega)
  have h:=QOo hs (List.mem_range.mp hk)
  refine Qav (by walk_at "cap") (by walk_at "s") ?_
  unfold Qkr
  (repeat walk_at "e")
 have ha:=QqQ n
 have hn:eComp [none] ‹"cX"› (gN 0) cTrue Qke [some (.k,rl n ‹"A"›),some ‹"ce"›]=.ok (rl n ‹"dj"›):=by
  refine Qas ‹"A"› (fun k=>D.str (nm k)) rfl (fun k hk=>?_) (by rw[List.length_range];omega)
  have x0:dIx ‹"ax"› (.int 0)=.ok (.str (nm k)):=ix_t 0 rfl
  refine Qav (by walk_at "cap") (by walk_at "s") ?_
  unfold Qke
  (repeat walk_at "e")
 have hcat:dCat (rl n ‹"dj"›) (rl nd ‹"u"›)=.ok (.lst ((((List.range n).map nm)++((List.range nd).map dn)).map .str)):=by
  rw[QO6 (by simp;omega),List.map_append, ← QtJ, ← QtJ]
 have hu:Qan [.lst ((((List.range n).map nm)++((List.range nd).map dn)).map .str)]=.ok (.bl true):=by
  refine Qr5 ?_ (by simp;omega)
  intro i j hi z
  rw[List.length_append,List.length_map,List.length_map,List.length_range,List.length_range]at hi
  have at':∀ i,(((List.range n).map nm)++((List.range nd).map dn))[i]?=if i<n then some (nm i) else if i - n<nd then some (dn (i - n)) else none:=fun i=>by
   rw[List.getElem?_append,List.length_map,List.length_range]
   split
   ·rw[List.getElem?_map,List.getElem?_range (by assumption)];rfl
   ·split
    ·rw[List.getElem?_map,List.getElem?_range (by assumption)];rfl
    ·simp;omega
  rw[at',at']at z
  by_cases a:i<n
  ·rw[if_pos a]at z
   by_cases b:j<n
   ·rw[if_pos b]at z;exact hs.inj i j a b (Option.some.inj z)
   ·rw[if_neg b]at z
    by_cases d:j - n<nd
    ·rw[if_pos d]at z;exact absurd (Option.some.inj z) (hs.sep i _ a d)
    ·rw[if_neg d]at z;cases z
  ·rw[if_neg a,if_pos (show i - n<nd by omega)]at z
   by_cases b:j<n
   ·rw[if_pos b]at z;exact absurd (Option.some.inj z).symm (hs.sep j _ b (by omega))
   ·rw[if_neg b]at z
    by_cases d:j - n<nd
    ·rw[if_pos d]at z
     have:=hs.injd _ _ (by omega) d (Option.some.inj z)
     omega
    ·rw[if_neg d]at z;cases z
 rw[QF9]
 unfold Qi7
 (repeat walk_at "e")
theorem QNZ:dInL (.str (nm 0)) (rl n ‹"dj"›)=.ok (.bl true):=by
 have n1:=hs.n1
 show(if (_&&((List.range n).map fun k=>D.str (nm k)).all D.scal)=true then Out.ok (D.bl (inV _ _)) else _)=_
 rw[if_pos (by rw[Bool.and_eq_true];exact⟨rfl,allR fun i _=>rfl⟩)]
 have:inV (toV (.str (nm 0))) (((List.range n).map fun k=>D.str (nm k)).map toV)=true:=by
  unfold inV
  rw[List.any_eq_true]
  refine⟨V.str (nm 0),?_,by show(nm 0 == nm 0)=true;exact beq_self_eq_true _⟩
  rw[List.map_map,List.mem_map]
  exact⟨0,List.mem_range.mpr (by omega),rfl⟩
 rw[this]
theorem QJI:QcC [.lst [.tup [.str "in",.str (nm 0)]],rl n ‹"dj"›]=.ok (.bl true):=by
 have n1:=hs.n1
 have hin:=QOA
 have h0:=hs.isn 0 (by omega)
 have hL:=QNZ hs
 have e1':QeU [.tup [.str "in",.str (nm 0)],rl n ‹"dj"›]=.ok (.bl true):=by
  have hi:isaT "tuple" ‹"bG"›=.ok true:=by simp[isaT,QcI]
  have hl:fLen [.tup [.str "in",.str (nm 0)]]=.ok (.int 2):=by simp[fLen]
  have x0:dIx ‹"bG"› (.int 0)=.ok (.str "in"):=ix_t 0 rfl
  have x1:dIx ‹"bG"› (.int 1)=.ok (.str (nm 0)):=ix_t 1 rfl
  have hne:dNe (.int 2) (.int 2)=.ok (.bl false):=by rw[QcW];rfl
  rw[QIQ]
  unfold QkX
  (repeat walk_at "e")
 have h1:Qb4 [.lst [.tup [.str "in",.str (nm 0)]],.int 6]=.ok (.bl true):=Qre (n:=1) (f:=fun _=>.tup [.str "in",.str (nm 0)]) (M:=6) (by decide) (by decide)
 have hc:eComp [none,some 1] ‹"cX"› (gN 0) cTrue Qig [some (.k,.lst [.tup [.str "in",.str (nm 0)]]),some ‹"L"›]=.ok (rl 1 ‹"cK"›):=by
  refine Qas (l:=List.range 1) (fun _=>.tup [.str "in",.str (nm 0)]) ‹"cK"› rfl (fun k hk=>?_) (by simp)
  refine Qav (by walk_at "cap") (by walk_at "s") ?_
  unfold Qig
  (repeat walk_at "e")
 have ha:=QqQ 1
 have hn:eComp [none] ‹"cX"› (gN 0) cTrue Qh0 [some (.k,.lst [.tup [.str "in",.str (nm 0)]]),some ‹"L"›]=.ok (.lst ([("in":Str)].map .str)):=by
  refine Qas (l:=List.range 1) (fun _=>.tup [.str "in",.str (nm 0)]) (fun _=>.str "in") rfl (fun k hk=>?_) (by simp)
  have x0:dIx ‹"bG"› (.int 0)=.ok (.str "in"):=ix_t 0 rfl
  refine Qav (by walk_at "cap") (by walk_at "s") ?_
  unfold Qh0
  (repeat walk_at "e")
 have hu:Qan [.lst ([("in":Str)].map .str)]=.ok (.bl true):=Qr5 (by
  intro i j hi z
  have hi:i<1:=hi
  have:i=0:=by omega
  subst this
  cases j with
  | zero=>rfl
  | succ j=>simp at z) (by simp)
 rw[QAb]
 unfold QgM
 (repeat walk_at "e")
end
theorem QLz{i:Nat}{I E:SD->Out D}{ς ς':SD}{kds:List (Key×D)}{d y:D}{k:Key}(a:E ς=.ok d)(e:ς[i]?=some (some (.o,.dic kds)))(a':I ς=.ok y)(hk:dkey y=some k)(hl:kds.length<=1000)
 (l:ς.set i (some (.o,.dic (putKD kds k d)))=ς'):sPutD i I E ς=.ok (.nx ς'):=by
 unfold sPutD
 rw[a,Out.bind_ok,e]
 show(I ς>>=_)=_
 rw[a',Out.bind_ok,hk]
 show(if _ then _ else _)=_
 rw[if_pos (QIj hl),l]
theorem QQf{A B:SD->Out D}{ς:SD}{kds:List (Key×D)}{y:D}{k:Key}(a:A ς=.ok (.dic kds))(a':B ς=.ok y)(hk:dkey y=some k):eDget A B ς=.ok ((valD kds k).getD .non):=by
 unfold eDget
 rw[a,Out.bind_ok]
 show(B ς>>=_)=_
 rw[a',Out.bind_ok,hk]
theorem r_dix{A B:SD->Out D}{ς:SD}{kds:List (Key×D)}{y d:D}{k:Key}(a:A ς=.ok (.dic kds))(a':B ς=.ok y)(hk:dkey y=some k)(hv:valD kds k=some d):eDix A B ς=.ok d:=by
 unfold eDix
 rw[a,Out.bind_ok]
 show(B ς>>=_)=_
 rw[a',Out.bind_ok,hk]
 show optO (valD kds k)=_
 rw[hv];rfl
theorem QHZ{kds:List (Key×D)}{k:Key}{d:D}(h:∀ kv∈kds,kv.1≠k):putKD kds k d=kds++[(k,d)]:=by
 unfold putKD
 rw[if_neg]
 intro z
 obtain⟨kv,hk,e⟩:=List.any_eq_true.mp z
 exact h kv hk (of_decide_eq_true e)
theorem Qyh{k:Key}{d:D}:∀{kds:List (Key×D)}(i:Nat),kds[i]?=some (k,d)->(∀ j kv,j<i->kds[j]?=some kv->kv.1≠k)->valD kds k=some d
 | [],i,h,_=>by simp at h
 | kv::kds,0,h,_=>by
  simp at h
  subst h
  simp[valD]
 | kv::kds,i+1,h,hn=>by
  have h0:=hn 0 kv (by omega) rfl
  have:valD (kv::kds) k=valD kds k:=by simp[valD,List.find?_cons,h0]
  rw[this]
  exact Qyh i (by simpa using h) fun j kv' hj he=>hn (j+1) kv' (by omega) (by simpa using he)
theorem enumR(n:Nat)(f:Nat->D):enumD 0 ((List.range n).map f)=(List.range n).map fun i:Nat=>D.tup [.int (i:Int),f i]:=by
 apply List.ext_getElem?
 intro i
 rw[Qtg,Nat.zero_add]
 by_cases hi:i<n
 ·have r1:((List.range n).map fun i:Nat=>D.tup [.int (i:Int),f i])[i]?=some (D.tup [.int (i:Int),f i]):=atR hi
  rw[atR hi,r1];rfl
 ·have h1:((List.range n).map f)[i]?=none:=by simp;omega
  have h2:((List.range n).map fun i:Nat=>D.tup [.int (i:Int),f i])[i]?=none:=by simp;omega
  rw[h1,h2];rfl
def plc(n nd:Nat)(nm dn:Nat->Str):List (Key×D):=((List.range n).map fun i:Nat=>((.inr (nm i):Key),D.int (i:Int)))++((List.range nd).map fun i:Nat=>((.inr (dn i):Key),D.int ‹"aW"›))
theorem Qwy(n nd:Nat)(nm dn:Nat->Str)(i:Nat):‹"ei"›[i]?=if i<n then some (.inr (nm i),.int (i:Int)) else if i - n<nd then some (.inr (dn (i - n)),.int (-1 - ((i - n:Nat):Int))) else none:=by
 unfold plc
 rw[List.getElem?_append,List.length_map,List.length_range]
 split
 ·rw[List.getElem?_map,List.getElem?_range (by assumption)];rfl
 ·split
  ·rw[List.getElem?_map,List.getElem?_range (by assumption)];rfl
  ·simp;omega
section
variable{n nd:Nat}{nm dn c:Nat->Str}{t:Nat->List (List Int)}{m:Nat->Nat}{ld:Nat->Nat->Int}{st:Nat->Int}(hs:Seats n nd nm dn c t m ld st)
include hs
theorem plc_c{i:Nat}(hi:i<n):valD ‹"ei"› (.inr (nm i))=some (.int (i:Int)):=by
 refine Qyh i (by rw[Qwy,if_pos hi]) fun j kv hj he=>?_
 rw[Qwy,if_pos (by omega)]at he
 cases he
 intro z
 have:=hs.inj j i (by omega) hi (Sum.inr.inj z)
 omega
theorem plc_d{d:Nat}(hd:d<nd):valD ‹"ei"› (.inr (dn d))=some (.int (-1 - (d:Int))):=by
 refine Qyh (n+d) (by rw[Qwy,if_neg (by omega),if_pos (by omega),show n+d - n=d by omega]) fun j kv hj he=>?_
 rw[Qwy]at he
 by_cases a:j<n
 ·rw[if_pos a]at he
  cases he
  intro z
  exact hs.sep j d a hd (Sum.inr.inj z)
 ·rw[if_neg a,if_pos (by omega)]at he
  cases he
  intro z
  have:=hs.injd _ _ (by omega) hd (Sum.inr.inj z)
  omega
theorem QMx:QdD [rl n ‹"dj"›,rl nd ‹"u"›]=.ok (.dic ‹"ei"›):=by
 have n2:=hs.n2
 have d2:=hs.d2
 obtain⟨ς1,hL1,a3,a4,rfl⟩:=Qqh (body:=fun x ς=>gT [3,4] x ς>>=fun ς'=>QgS ς') (f:=fun i:Nat=>D.tup [.int (i:Int),.str (nm i)]) (n:=n)
  (P:=fun k ς=>∃(a3 a4:Option (SM×D)),ς=[some ‹"L"›,some ‹"ce"›,some (.o,.dic (plc k 0 nm dn)),a3,a4,none,none])
  (by
   rintro k hk ς ⟨a3,a4,rfl⟩
   refine⟨[some ‹"L"›,some ‹"ce"›,some (.o,.dic (plc (k+1) 0 nm dn)),some ‹"ab"›,some (.k,.str (nm k)),none,none],?_,_,_,rfl⟩
   have e:plc (k+1) 0 nm dn=putKD (plc k 0 nm dn) (.inr (nm k)) ‹"cw"›:=by
    rw[QHZ]
    ·show((List.range (k+1)).map _)++[]=((List.range k).map _++[])++[_]
     rw[List.append_nil,List.append_nil,List.range_succ,List.map_append];rfl
    ·intro kv hkv
     have hkv:kv∈((List.range k).map fun i:Nat=>((.inr (nm i):Key),D.int (i:Int)))++[]:=hkv
     rw[List.append_nil]at hkv
     obtain⟨i,hi,rfl⟩:=List.mem_map.mp hkv
     have hi:=List.mem_range.mp hi
     intro z
     have:=hs.inj i k (by omega) hk (Sum.inr.inj z)
     omega
   rw[e]
   refine r_gT (by walk_at "all") ?_
   unfold QgS
   exact QLz (d:=.int (k:Int)) (y:=.str (nm k)) (k:=.inr (nm k)) (by (repeat walk_at "e")) rfl (by (repeat walk_at "e")) rfl (by unfold plc;simp;omega) rfl)
  ‹"aD"› ⟨_,_,rfl⟩
 obtain⟨ς2,hL2,a5,a6,rfl⟩:=Qqh (body:=fun x ς=>gT [5,6] x ς>>=fun ς'=>QgY ς') (f:=fun i:Nat=>D.tup [.int (i:Int),.str (dn i)]) (n:=nd)
  (P:=fun k ς=>∃(a5 a6:Option (SM×D)),ς=[some ‹"L"›,some ‹"ce"›,some (.o,.dic (plc n k nm dn)),a3,a4,a5,a6])
  (by
   rintro k hk ς ⟨a5,a6,rfl⟩
   refine⟨[some ‹"L"›,some ‹"ce"›,some (.o,.dic (plc n (k+1) nm dn)),a3,a4,some ‹"ab"›,some (.k,.str (dn k))],?_,_,_,rfl⟩
   have e:plc n (k+1) nm dn=putKD (plc n k nm dn) (.inr (dn k)) (.int (-1 - (k:Int))):=by
    rw[QHZ]
    ·unfold plc
     rw[List.range_succ,List.map_append,List.append_assoc];rfl
    ·intro kv hkv
     rcases List.mem_append.mp hkv with w | w
     ·obtain⟨i,hi,rfl⟩:=List.mem_map.mp w
      intro z
      exact hs.sep i k (List.mem_range.mp hi) hk (Sum.inr.inj z)
     ·obtain⟨i,hi,rfl⟩:=List.mem_map.mp w
      have hi:=List.mem_range.mp hi
      intro z
      have:=hs.injd i k (by omega) hk (Sum.inr.inj z)
      omega
   rw[e]
   refine r_gT (by walk_at "all") ?_
   unfold QgY
   exact QLz (d:=.int (-1 - (k:Int))) (y:=.str (dn k)) (k:=.inr (dn k)) (by (repeat walk_at "e")) rfl (by (repeat walk_at "e")) rfl (by unfold plc;simp;omega) rfl)
  ‹"dl"› ⟨_,_,rfl⟩
 have hi1:itE (eVar 0) ‹"aD"›=.ok ((List.range n).map fun i:Nat=>D.tup [.int (i:Int),.str (nm i)]):=by rw[← enumR];rfl
 have hi2:itE (eVar 1) ‹"dl"›=.ok ((List.range nd).map fun i:Nat=>D.tup [.int (i:Int),.str (dn i)]):=by rw[← enumR];rfl
 have f1':=Qcw (g:=gT [3,4]) (T:=QgS) hi1 hL1
 have f2':=Qcw (g:=gT [5,6]) (T:=QgY) hi2 hL2
 have s0:sSetO 2 eDic0 [some ‹"L"›,some ‹"ce"›,none,none,none,none,none]=.ok (.nx ‹"aD"›):=rfl
 rw[QGD]
 unfold Qje
 (repeat walk_at "e")
theorem QNh{k:Nat}(hk:k<n):QeD [seatD nm dn c t m ld st k,.dic ‹"ei"›]=.ok ‹"cC"›:=by
 have m6:=(hs.tb k hk).m6
 have x2:dIx ‹"ax"› (.int 2)=.ok (rl (m k) ‹"bb"›):=ix_t 2 rfl
 have hc:eComp [none,some 1] (itL (e2 dIx (eVar 0) (eC (.int 2)))) (gN 0) cTrue QlD [some (.k,seatD nm dn c t m ld st k),some (.k,.dic ‹"ei"›)]=.ok ‹"cC"›:=by
  refine Qas (fun j=>D.str (nml nm dn (ld k j))) (fun j=>D.int (ld k j)) (by (repeat walk_at "e")) (fun j hj=>?_) (by rw[List.length_range];omega)
  obtain⟨l1,l2⟩:=hs.ldr k j hk (List.mem_range.mp hj)
  refine Qav (by walk_at "cap") (by walk_at "s") ?_
  unfold QlD
  have hv:valD ‹"ei"› (.inr (nml nm dn (ld k j)))=some (.int (ld k j)):=by
   unfold nml
   by_cases h:ld k j<0
   ·rw[if_pos h,plc_d hs (show(-1 - ld k j).toNat<nd by omega)]
    congr 2;omega
   ·rw[if_neg h,plc_c hs (show(ld k j).toNat<n by omega)]
    congr 2;omega
  rw[QQf (kds:=plc n nd nm dn) (y:=.str (nml nm dn (ld k j))) (k:=.inr (nml nm dn (ld k j))) (by (repeat walk_at "e")) (by (repeat walk_at "e")) rfl,hv];rfl
 rw[QJ9]
 unfold QkN
 (repeat walk_at "e")
end
theorem QH6{f:Str}{d:D}:∀{fs:List (Str×D)},(fs.map Prod.fst).contains f=false->putD f d fs=fs++[(f,d)]
 | [],_=>rfl
 | (g,x)::fs,h=>by
  rw[List.map_cons,List.contains_cons,Bool.or_eq_false_iff]at h
  have ne:¬ g=f:=fun z=>by subst z;simp at h
  show(if g=f then _ else(g,x)::putD f d fs)=_
  rw[if_neg ne,QH6 h.2];rfl
theorem Qpb{cs:List Str}{f c:Str}{i:Nat}{E:SD->Out D}{ς ς':SD}{d:D}{fds:List (Str×D)}(a:E ς=.ok d)(e:ς[i]?=some (some (.s,.ins c fds)))(hc:cs.contains c=true)(hl:fds.length<=900)(hf:(fds.map Prod.fst).contains f=false)
 (l:ς.set i (some (.s,.ins c (fds++[(f,d)])))=ς'):sFldS cs f i E ς=.ok (.nx ς'):=by
 unfold sFldS
 rw[a,Out.bind_ok,e]
 show(if (cs.contains c&&decide (fds.length<1000))=true then _ else _)=_
 rw[if_pos (by rw[hc,Bool.true_and];exact decide_eq_true (by omega)),QH6 hf,l]
section
variable(n nd:Nat)(nm dn c:Nat->Str)(t:Nat->List (List Int))(m:Nat->Nat)(ld:Nat->Nat->Int)(st:Nat->Int)
def offF:List (Str×D):=[("clerk_names",rl n ‹"dj"›),("door_names",rl nd ‹"u"›),("entry_places",.lst [.tup [.str "in",.int 0]]),("staff",rl n ‹"bl"›),("first_states",rl n (fun k=>.int (st k))),("ways",rl n ‹"cn"›)]
def offD:D:=.ins "Office" ‹"cL"›
end
theorem QHY:Qm.contains "Office"=true:=dk
section
variable{n nd:Nat}{nm dn c:Nat->Str}{t:Nat->List (List Int)}{m:Nat->Nat}{ld:Nat->Nat->Int}{st:Nat->Int}(hs:Seats n nd nm dn c t m ld st)
include hs
theorem QN6{k:Nat}(hk:k<n):dInL .non ‹"cC"›=.ok (.bl false):=by
 show(if (_&&((List.range (m k)).map fun j=>D.int (ld k j)).all D.scal)=true then Out.ok (D.bl (inV _ _)) else _)=_
 rw[if_pos (by rw[Bool.and_eq_true];exact⟨rfl,allR fun i _=>rfl⟩)]
 have:inV (toV .non) (((List.range (m k)).map fun j=>D.int (ld k j)).map toV)=false:=by
  unfold inV
  rw[List.any_eq_false]
  intro v hv
  rw[List.map_map]at hv
  obtain⟨j,_,rfl⟩:=List.mem_map.mp hv
  simp[toV,eqV]
 rw[this]
theorem QKw:Qbr "Office" [] [rl n ‹"A"›,.lst [.tup [.str "in",.str (nm 0)]],rl nd ‹"u"›]=.ok ‹"cL"›:=by
 have n1:=hs.n1
 have n2:=hs.n2
 have d2:=hs.d2
 have h1:=QMU hs
 have h2:=QNU hs
 have h3:=QJI hs
 have h4:=QMx hs
 have p0:=plc_c hs (i:=0) (by omega)
 have oc:=QHY
 generalize hS:rl n ‹"A"›=S at *
 generalize hE:D.lst [.tup [.str "in",.str (nm 0)]]=E at *
 generalize hDo:rl nd ‹"u"›=Do at *
 generalize hN:rl n ‹"dj"›=N at *
 generalize hP:D.dic ‹"ei"›=P at *
 generalize hW:rl n ‹"cn"›=W
 have q0:eComp [none] ‹"dt"› (gN 0) cTrue Qhv [some (.s,.ins "Office" []),some (.k,S),some (.k,E),some (.k,Do),none,none,none]=.ok N:=by
  subst hS;subst hN
  refine Qas ‹"A"› (fun k=>D.str (nm k)) rfl (fun k hk=>?_) (by rw[List.length_range];omega)
  have x0:dIx ‹"ax"› (.int 0)=.ok (.str (nm k)):=ix_t 0 rfl
  refine Qav (τ0:=[none]) (Qe4 c_nil) (by walk_at "s") ?_
  unfold Qhv
  (repeat walk_at "e")
 have q1:eComp [none,some 5] ‹"dt"› (gN 0) cTrue Qh6 [some (.s,.ins "Office" []),some (.k,S),some (.k,E),some (.k,Do),some (.k,N),some (.k,P),none]=.ok W:=by
  subst hS;subst hW;subst hP
  refine Qas ‹"A"› ‹"cn"› rfl (fun k hk=>?_) (by rw[List.length_range];omega)
  have hl:=QNh hs (List.mem_range.mp hk)
  refine Qav (τ0:=[none,some (.k,.dic ‹"ei"›)]) (Qe4 (c_k rfl c_nil)) (by walk_at "s") ?_
  unfold Qh6
  (repeat walk_at "e")
 have q2:eComp [none] (itL (eVar 6)) (gN 0) cTrue QhK ‹"bR"›=.ok (rl n (fun _=>.bl false)):=by
  subst hW
  refine Qas ‹"cn"› (fun _=>D.bl false) rfl (fun k hk=>?_) (by rw[List.length_range];omega)
  have hl:=QN6 hs (List.mem_range.mp hk)
  refine Qav (τ0:=[none]) (Qe4 c_nil) (by walk_at "s") ?_
  unfold QhK
  (repeat walk_at "e")
 have ha:f1 fAny [rl n (fun _=>.bl false)]=.ok (.bl false):=by
  show fAny (.lst ((List.range n).map fun _=>D.bl false))=_
  rw[QM7 (fun _=>false)];simp
 have q3:∀ F:List (Str×D),eComp [none,some 5] (itL (eVar 2)) (gN 0) cTrue Qfr ‹"ad"›=.ok (.lst [.tup [.str "in",.int 0]]):=fun F=>by
  subst hE;subst hP
  refine Qas (l:=List.range 1) (fun _=>.tup [.str "in",.str (nm 0)]) (fun _=>D.tup [.str "in",.int 0]) rfl (fun k hk=>?_) (by simp)
  have x0:dIx ‹"bG"› (.int 0)=.ok (.str "in"):=ix_t 0 rfl
  have x1:dIx ‹"bG"› (.int 1)=.ok (.str (nm 0)):=ix_t 1 rfl
  refine Qav (τ0:=[none,some (.k,.dic ‹"ei"›)]) (Qe4 (c_k rfl c_nil)) (by walk_at "s") ?_
  unfold Qfr
  have hd:eDix (eVar 1) ‹"y"› [some (.k,.tup [.str "in",.str (nm 0)]),some (.k,.dic ‹"ei"›)]=.ok (.int 0):=r_dix (kds:=plc n nd nm dn) (y:=.str (nm 0)) (k:=.inr (nm 0)) (by (repeat walk_at "e")) (by (repeat walk_at "e")) rfl p0
  (repeat walk_at "e")
 have q4:∀ F:List (Str×D),eComp [none] ‹"dt"› (gN 0) cTrue Qfu ‹"ad"›=.ok (rl n ‹"bl"›):=fun F=>by
  subst hS
  refine Qas ‹"A"› ‹"bl"› rfl (fun k hk=>?_) (by rw[List.length_range];omega)
  have x0:dIx ‹"ax"› (.int 1)=.ok ‹"eo"›:=ix_t 1 rfl
  refine Qav (τ0:=[none]) (Qe4 c_nil) (by walk_at "s") ?_
  unfold Qfu
  (repeat walk_at "e")
 have q5:∀ F:List (Str×D),eComp [none] ‹"dt"› (gN 0) cTrue Qfy ‹"ad"›=.ok (rl n (fun k=>.int (st k))):=fun F=>by
  subst hS
  refine Qas ‹"A"› (fun k=>D.int (st k)) rfl (fun k hk=>?_) (by rw[List.length_range];omega)
  have x0:dIx ‹"ax"› (.int 3)=.ok (.int (st k)):=ix_t 3 rfl
  refine Qav (τ0:=[none]) (Qe4 c_nil) (by walk_at "s") ?_
  unfold Qfy
  (repeat walk_at "e")
 have hdl:dList Do=.ok Do:=by subst hDo;rfl
 let F1:List (Str×D):=[("clerk_names",N)]
 let F2:List (Str×D):=[("clerk_names",N),("door_names",Do)]
 let F3:List (Str×D):=[("clerk_names",N),("door_names",Do),("entry_places",.lst [.tup [.str "in",.int 0]])]
 let F4:List (Str×D):=[("clerk_names",N),("door_names",Do),("entry_places",.lst [.tup [.str "in",.int 0]]),("staff",rl n ‹"bl"›)]
 let F5:List (Str×D):=[("clerk_names",N),("door_names",Do),("entry_places",.lst [.tup [.str "in",.int 0]]),("staff",rl n ‹"bl"›),("first_states",rl n (fun k=>.int (st k)))]
 have s1:sFldS Qm "clerk_names" 0 (eVar 4) ‹"bR"›=.ok (.nx ‹"bW"›):=
  Qpb (d:=N) (by (repeat walk_at "e")) rfl oc (by decide) (by decide) rfl
 have s2:sFldS Qm "door_names" 0 (e1 dList (eVar 3)) ‹"bW"›=.ok (.nx ‹"bV"›):=
  Qpb (d:=Do) (by (repeat walk_at "e")) rfl oc ‹"dv"› (by show(["clerk_names"]:List Str).contains "door_names"=false;decide +kernel) rfl
 have s3:sFldS Qm "entry_places" 0 (eComp [none,some 5] (itL (eVar 2)) (gN 0) cTrue Qfr) ‹"bV"›=.ok (.nx ‹"bU"›):=
  Qpb (q3 _) rfl oc ‹"dv"› (by show(["clerk_names","door_names"]:List Str).contains "entry_places"=false;decide +kernel) rfl
 have s4:sFldS Qm "staff" 0 (eComp [none] ‹"dt"› (gN 0) cTrue Qfu) ‹"bU"›=.ok (.nx ‹"bT"›):=
  Qpb (q4 _) rfl oc ‹"dv"› (by show(["clerk_names","door_names","entry_places"]:List Str).contains "staff"=false;decide +kernel) rfl
 have s5:sFldS Qm "first_states" 0 (eComp [none] ‹"dt"› (gN 0) cTrue Qfy) ‹"bT"›=.ok (.nx ‹"bS"›):=
  Qpb (q5 _) rfl oc ‹"dv"› (by show(["clerk_names","door_names","entry_places","staff"]:List Str).contains "first_states"=false;decide +kernel) rfl
 have s6:sFldS Qm "ways" 0 (eVar 6) ‹"bS"›=.ok ‹"aV"›:=
  Qpb (d:=W) (by (repeat walk_at "e")) rfl oc ‹"dv"› (by show(["clerk_names","door_names","entry_places","staff","first_states"]:List Str).contains "ways"=false;decide +kernel) (by subst hN;subst hDo;subst hW;rfl)
 have fin:QfF "Office" ‹"aV"›=.ok ‹"cL"›:=by
  show(if ("Office":Str)="Office" then Out.ok ‹"cL"› else .stuck)=_
  rw[if_pos rfl]
 rw[QBq]
 unfold QgT
 (repeat walk_at "e")
end
section
variable{n nd:Nat}{nm dn c:Nat->Str}{t:Nat->List (List Int)}{m:Nat->Nat}{ld:Nat->Nat->Int}{st:Nat->Int}
theorem QKo:(offF n nd nm dn c t m ld st).lookup ("staff":Str)=some (rl n ‹"bl"›):=by
 have h1:(("staff":Str) == "clerk_names")=false:=dk
 have h2:(("staff":Str) == "door_names")=false:=dk
 have h3:(("staff":Str) == "entry_places")=false:=dk
 unfold offF
 rw[List.lookup_cons,h1,List.lookup_cons,h2,List.lookup_cons,h3,List.lookup_cons,beq_self_eq_true]
theorem QMo:(offF n nd nm dn c t m ld st).lookup ("ways":Str)=some (rl n ‹"cn"›):=by
 have h1:(("ways":Str) == "clerk_names")=false:=dk
 have h2:(("ways":Str) == "door_names")=false:=dk
 have h3:(("ways":Str) == "entry_places")=false:=dk
 have h4:(("ways":Str) == "staff")=false:=dk
 have h5:(("ways":Str) == "first_states")=false:=dk
 unfold offF
 rw[List.lookup_cons,h1,List.lookup_cons,h2,List.lookup_cons,h3,List.lookup_cons,h4,List.lookup_cons,h5,List.lookup_cons,beq_self_eq_true]
theorem QLr{x:Str}(h:‹"bw"›):(offF n nd nm dn c t m ld st).lookup x=none:=by
 simp only[List.all_cons,List.all_nil,Bool.and_eq_true,Bool.not_eq_true',Bool.and_true]at h
 obtain⟨h1,h2,h3,h4,h5,h6⟩:=h
 unfold offF
 rw[List.lookup_cons,h1,List.lookup_cons,h2,List.lookup_cons,h3,List.lookup_cons,h4,List.lookup_cons,h5,List.lookup_cons,h6];rfl
theorem fld_o{x:Str}{d:D}(h:(offF n nd nm dn c t m ld st).lookup x=some d):dFld Qm x ‹"cM"›=.ok d:=by
 show(if Qm.contains "Office"=true then optO ((offF n nd nm dn c t m ld st).lookup x) else .stuck)=_
 rw[if_pos QHY,h];rfl
theorem Qu8{x:Str}{mt:Str->List D->Out D}{O:SD->Out D}{A:‹"ak"›}{ς:SD}{xs:List D}(hO:O ς=.ok ‹"cM"›)(hA:A ς=.ok xs)
 (h:‹"bw"›):eMeth Q4 x mt O A ς=mt "Office" (offD n nd nm dn c t m ld st::xs):=by
 have hc:Q4.contains "Office"=true:=dk
 unfold eMeth
 rw[hO,Out.bind_ok]
 show(if (Q4.contains "Office"&&((offF n nd nm dn c t m ld st).lookup x).isNone)=true then A ς>>=fun xs=>mt "Office" (.ins "Office" ‹"cL"›::xs) else .stuck)=_
 rw[QLr h,hc,if_pos (show(true&&(none:Option D).isNone)=true from rfl),hA];rfl
theorem QMc{k:Nat}(hk:k<n):Qby [offD n nd nm dn c t m ld st,.int (k:Int)]=.ok ‹"eo"›:=by
 have h1:=fld_o (QKo (n:=n) (nd:=nd) (nm:=nm) (dn:=dn) (c:=c) (t:=t) (m:=m) (ld:=ld) (st:=st))
 have x1:dIx (rl n ‹"bl"›) ‹"cw"›=.ok ‹"eo"›:=ixR hk
 rw[QxS]
 unfold Qga
 (repeat walk_at "e")
theorem QKO{k:Nat}(hk:k<n):QbF [offD n nd nm dn c t m ld st,.int (k:Int)]=.ok ‹"cC"›:=by
 have h1:=fld_o (QMo (n:=n) (nd:=nd) (nm:=nm) (dn:=dn) (c:=c) (t:=t) (m:=m) (ld:=ld) (st:=st))
 have x1:dIx (rl n ‹"cn"›) ‹"cw"›=.ok ‹"cC"›:=ixR hk
 have hd:dList ‹"cC"›=.ok ‹"cC"›:=rfl
 rw[Qx5]
 unfold Qf5
 (repeat walk_at "e")
end
def dkt:Nat->(Nat->Int)->(Nat->Int)->Int->Int
 | 0,_,_,_=>0
 | m+1,l,w,x=>dkt m l w x+if l m=x then w m else 0
theorem r_ifT{P:SD->Out Bool}{T U:SD->Out Fl}{ς:SD}{b:Bool}{rf:Out Fl}(a:P ς=.ok b)(hb:b=true)(k:T ς=rf):sIf P T U ς=rf:=r_if a (Qdw hb k)
theorem r_ifF{P:SD->Out Bool}{T U:SD->Out Fl}{ς:SD}{b:Bool}{rf:Out Fl}(a:P ς=.ok b)(hb:b=false)(k:U ς=rf):sIf P T U ς=rf:=r_if a (QbO hb k)
theorem QtO{N p:Nat}(hp:p<N)(F:Nat->Int)(c:Int):((List.range N).map fun i=>D.int (F i)).set p (.int (F p+c))=(List.range N).map fun i=>D.int (F i+if (p:Int)=(i:Int) then c else 0):=by
 rw[setR hp]
 apply List.map_congr_left
 intro i _
 by_cases e:i=p
 ·subst e
  rw[if_pos rfl,if_pos rfl]
 ·rw[if_neg e,if_neg (by omega),Int.add_zero]
theorem QLg{r:List Int}{m:Nat}(h:r.length=m):r.map D.int=(List.range m).map fun j=>D.int (r.getD j 0):=by
 apply List.ext_getElem?
 intro i
 rw[List.getElem?_map,List.getElem?_map]
 by_cases hi:i<m
 ·rw[List.getElem?_range hi,List.getElem?_eq_getElem (by omega)]
  simp[List.getD_eq_getElem?_getD,List.getElem?_eq_getElem (show i<r.length by omega)]
 ·rw[List.getElem?_eq_none (by omega),List.getElem?_eq_none (by rw[List.length_range];omega)];rfl
theorem QKM{x:D}{N:Nat}(h:N<=1000):dRep (.lst [x]) (.int (N:Int))=.ok (rl N (fun _=>x)):=by
 have e:(List.replicate N x)=(List.range N).map fun _=>x:=by
  apply List.ext_getElem?
  intro i
  rw[List.getElem?_map,List.getElem?_replicate]
  by_cases hi:i<N
  ·rw[if_pos hi,List.getElem?_range hi];rfl
  ·rw[if_neg hi,List.getElem?_eq_none (by rw[List.length_range];omega)];rfl
 show _=Out.ok (D.lst ((List.range N).map fun _=>x))
 rw[← e]
 unfold dRep
 simp only[Int.toNat_natCast,List.flatten_replicate_singleton,List.length_cons,List.length_nil]
 rw[if_pos]
 rw[Bool.and_eq_true,Bool.and_eq_true]
 exact⟨⟨decide_eq_true (by omega),decide_eq_true (by omega)⟩,Qhe (by omega)⟩
theorem Qwg{I E:SD->Out D}{ς ς':SD}{i j:Nat}{k:Int}{s:SM}{xs:List D}{d:D}(hm:wr s=true)(a:E ς=.ok d)(e:ς[i]?=some (some (s,.lst xs)))(a':I ς=.ok (.int k))(q:ixN xs.length k=some j)(l:ς.set i (some (s,.lst (xs.set j d)))=ς'):sPutW i I E ς=.ok (.nx ς'):=by
 unfold sPutW
 rw[a,Out.bind_ok,e]
 show(if wr s=true then _ else _)=_
 rw[if_pos hm,a',Out.bind_ok]
 show(optO (ixN xs.length k)>>=_)=_
 rw[q]
 show Out.ok (Fl.nx (ς.set i _))=_
 rw[l]
theorem QHW{ms:‹"O"›}{f:‹"cf"›}{A:‹"ak"›}{ς ς':SD}{ds ws:List D}{d:D}(a:A ς=.ok ds)(k:f ds=.ok (d,some ws))(l:setW ms ws ς=ς'):Qpg ms f A ς=.ok (.nx ς'):=by
 unfold Qpg
 rw[a,Out.bind_ok,k,Out.bind_ok]
 show Out.ok (Fl.nx (setW ms ws ς))=_
 rw[l]
theorem Qs9{ς:SD}{i:Nat}{s:SM}{d:D}(hm:wr s=true)(e:ς[i]?=some (some (s,d))):eVarW i ς=.ok d:=by
 unfold eVarW
 rw[e]
 show(if wr s=true then _ else _)=_
 rw[if_pos hm]
theorem QPs{n nd m:Nat}{l w F G:Nat->Int}(hl:∀ j,j<m -> -(nd:Int)<=l j/\l j<(n:Int)):
 QpV [rl n (fun i=>.int (F i)),rl nd (fun i=>.int (G i)),rl m (fun j=>.int (l j)),rl m (fun j=>.int (w j))]=.ok (.non,some [rl n (fun i=>.int (F i+dkt m l w (i:Int))),rl nd (fun i=>.int (G i+dkt m l w ‹"aW"›))]):=by
 have hz:∀ x y:Option (SM×D),itZ (eVar 2) (eVar 3) [x,y,some (.k,rl m (fun j=>.int (l j))),some (.k,rl m (fun j=>.int (w j))),none,none]=.ok ((List.range m).map fun j=>D.tup [.int (l j),.int (w j)]):=fun x y=>by
  unfold itZ
  rw[r_var rfl,Out.bind_ok,r_var rfl,Out.bind_ok]
  show Out.ok (List.zipWith _ ((List.range m).map _) ((List.range m).map _))=_
  rw[List.zipWith_map,List.zipWith_self]
 generalize rl m (fun j=>D.int (l j))=Nu at *
 generalize rl m (fun j=>D.int (w j))=Wu at *
 obtain⟨ς',hL,a4,a5,rfl⟩:=Qqh (body:=fun x ς=>gT [4,5] x ς>>=fun ς'=>QtP ς') (f:=fun j=>D.tup [.int (l j),.int (w j)]) (n:=m)
  (P:=fun j ς=>∃ a4 a5,ς=[some (.s,rl n (fun i=>.int ‹"bi"›)),some (.s,rl nd (fun i=>.int ‹"dX"›)),some (.k,Nu),some (.k,Wu),a4,a5])
  (by
   rintro j hj ς ⟨a4,a5,rfl⟩
   obtain⟨p0,p1⟩:=hl j hj
   refine⟨[some (.s,rl n (fun i=>.int ‹"cq"›)),some (.s,rl nd (fun i=>.int (G i+dkt (j+1) l w ‹"aW"›))),some (.k,Nu),some (.k,Wu),some (.k,.int (l j)),some (.k,.int (w j))],?_,_,_,rfl⟩
   refine r_gT (by walk_at "all") ?_
   unfold QtP
   by_cases h:0<=l j
   ·obtain⟨p,hp⟩:∃ p:Nat,l j=(p:Int):=⟨(l j).toNat,by omega⟩
    have hpn:p<n:=by omega
    have hx:dIx (rl n (fun i=>.int ‹"bi"›)) (.int (p:Int))=.ok (.int (F p+dkt j l w (p:Int))):=ixR hpn
    have hn:=ixNR hpn (fun i=>D.int ‹"bi"›)
    have hset:((List.range n).map fun i:Nat=>D.int ‹"bi"›).set p (.int (F p+dkt j l w (p:Int)+w j))=(List.range n).map fun i:Nat=>D.int ‹"cq"›:=by
     rw[QtO hpn (fun i=>F i+dkt j l w (i:Int)) (w j)]
     apply List.map_congr_left
     intro i _
     show D.int (F i+dkt j l w (i:Int)+‹"cH"›)=D.int ‹"aF"›
     rw[hp,Int.add_assoc]
    have hG:rl nd (fun i=>D.int (G i+dkt (j+1) l w ‹"aW"›))=rl nd (fun i=>D.int ‹"dX"›):=QeN fun i _=>by
     show D.int (G i+‹"aq"›)=_
     rw[if_neg (by omega),Int.add_zero]
    rw[hG]
    refine r_ifT (by (repeat walk_at "e")) (decide_eq_true h) ?_
    have hi:eVar 4 ‹"aj"›=.ok (.int (p:Int)):=by
     rw[← hp];exact r_var rfl
    exact Qwg (s:=.s) (k:=(p:Int)) (j:=p) rfl (r_e2 (r_e2 (Qdg rfl) hi hx) (r_var rfl) (Qae _ _)) rfl hi hn (by rw[hset];walk_at "s")
   ·obtain⟨p,hp⟩:∃ p:Nat, -1 - l j=(p:Int):=⟨(-1 - l j).toNat,by omega⟩
    have hpn:p<nd:=by omega
    have hx:dIx (rl nd (fun i=>.int ‹"dX"›)) (.int (p:Int))=.ok (.int (G p+dkt j l w (-1 - (p:Int)))):=ixR hpn
    have hn:=ixNR hpn (fun i=>D.int ‹"dX"›)
    have hset:((List.range nd).map fun i:Nat=>D.int ‹"dX"›).set p (.int (G p+dkt j l w (-1 - (p:Int))+w j))=(List.range nd).map fun i:Nat=>D.int (G i+dkt (j+1) l w ‹"aW"›):=by
     rw[QtO hpn (fun i=>G i+dkt j l w ‹"aW"›) (w j)]
     apply List.map_congr_left
     intro i _
     show D.int (G i+dkt j l w ‹"aW"›+‹"cH"›)=D.int (G i+‹"aq"›)
     by_cases e:p=i
     ·subst e
      rw[if_pos rfl,if_pos (by omega),Int.add_assoc]
     ·rw[if_neg (by omega),if_neg (by omega),Int.add_zero,Int.add_zero]
    have hF:rl n (fun i=>D.int ‹"cq"›)=rl n (fun i=>D.int ‹"bi"›):=QeN fun i _=>by
     show D.int ‹"aF"›=_
     rw[if_neg (by omega),Int.add_zero]
    rw[hF]
    refine r_ifF (by (repeat walk_at "e")) (decide_eq_false h) ?_
    have hi:e2 dSub ‹"aK"› (eVar 4) ‹"aj"›=.ok (.int (p:Int)):=by
     rw[← hp];(repeat walk_at "e")
    exact Qwg (s:=.s) (k:=(p:Int)) (j:=p) rfl (r_e2 (r_e2 (Qdg rfl) hi hx) (r_var rfl) (Qae _ _)) rfl hi hn (by rw[hset];walk_at "s"))
  [some (.s,rl n (fun i=>.int (F i))),some (.s,rl nd (fun i=>.int (G i))),some (.k,Nu),some (.k,Wu),none,none] ⟨none,none,by
   have h1:rl n (fun i=>D.int (F i))=rl n (fun i=>D.int (F i+dkt 0 l w (i:Int))):=QeN fun i _=>by show D.int (F i)=D.int (F i+0);rw[Int.add_zero]
   have h2:rl nd (fun i=>D.int (G i))=rl nd (fun i=>D.int (G i+dkt 0 l w ‹"aW"›)):=QeN fun i _=>by show D.int (G i)=D.int (G i+0);rw[Int.add_zero]
   rw[h1,h2]⟩
 have hfor:=Qcw (g:=gT [4,5]) (T:=QtP) (hz _ _) hL
 rw[QQX]
 unfold QBD
 rw[hfor]
 rfl
section
variable{n nd:Nat}{nm dn c:Nat->Str}{t:Nat->List (List Int)}{m:Nat->Nat}{ld:Nat->Nat->Int}{st:Nat->Int}(hs:Seats n nd nm dn c t m ld st)
include hs
theorem QMm:QcD [offD n nd nm dn c t m ld st]=.ok (rl nd (fun _=>.int 0)):=by
 have d2:=hs.d2
 have lk:(offF n nd nm dn c t m ld st).lookup ("door_names":Str)=some (rl nd ‹"u"›):=by
  have h1:(("door_names":Str) == "clerk_names")=false:=dk
  unfold offF
  rw[List.lookup_cons,h1,List.lookup_cons,beq_self_eq_true]
 have h1:=fld_o lk
 have hdl:dList (rl nd ‹"u"›)=.ok (rl nd ‹"u"›):=rfl
 have hd:Qa8 [offD n nd nm dn c t m ld st]=.ok (rl nd ‹"u"›):=by
  rw[Qza]
  unfold Qf9
  (repeat walk_at "e")
 have hm:eMeth Q4 "doors" (fun _=>Qa8) (eVar 0) aNil [some ‹"dJ"›]=.ok (rl nd ‹"u"›):=by
  rw[Qu8 (xs:=[]) (r_var rfl) rfl (dk)]
  exact hd
 have hc:eComp [none] (itL (eMeth Q4 "doors" (fun _=>Qa8) (eVar 0) aNil)) (gN 0) cTrue Qh1 [some ‹"dJ"›]=.ok (rl nd (fun _=>.int 0)):=by
  refine Qas (fun d=>D.str (dn d)) (fun _=>D.int 0) (r_itL hm) (fun i hi=>?_) (by rw[List.length_range];omega)
  refine Qav (by walk_at "cap") (by walk_at "s") ?_
  unfold Qh1
  (repeat walk_at "e")
 rw[QAA]
 unfold QgU
 exact Qbe (Qs0 hc) r_rtT
end
def rw'(t:‹"aY"›)(s:Int)(j:Nat):Int:=(t.getD s.toNat []).getD j 0
theorem QPg{c:Str}(hc:‹"cg"›){t:‹"aY"›}{m:Nat}(h:Tb t m){s:Int}(s0:0<=s)(s1:s<(t.length:Int)):QcQ [ck c t m,.int s]=.ok (rl m (fun j=>.int (rw' t s j))):=by
 obtain⟨k,rfl⟩:∃ k:Nat,s=(k:Int):=⟨s.toNat,by omega⟩
 have hk:k<t.length:=by omega
 have hg:t.getD k []=t[k]:=by simp[List.getD_eq_getElem?_getD,List.getElem?_eq_getElem hk]
 have hm:(t[k]).length=m:=h.row _ (List.getElem_mem hk)
 have hx:dIx (tbD t) ‹"cw"›=.ok (dl t[k]):=ixL k (by rw[List.getElem?_map,List.getElem?_eq_getElem hk];rfl)
 have hl:dList (dl t[k])=.ok (dl t[k]):=rfl
 have hf:=fld_t hc t m
 have e:rl m (fun j=>D.int (rw' t (k:Int) j))=dl t[k]:=by
  unfold dl rw'
  rw[QLg hm,Int.toNat_natCast,hg]
 rw[e,QFC]
 unfold Qjp
 exact Qbe (Qs0 (r_e1 (r_e2 (r_e1 (r_var rfl) hf) (r_var rfl) hx) hl)) r_rtT
theorem QH3{js:‹"O"›}{its:‹"ak"›}{g:D->SD->Out SD}{c:SD->Out Bool}{e:SD->Out D}{ς:SD}{n:Nat}(f:Nat->D)(p:Nat->Bool)(h:Nat->D)(hi:its ς=.ok ((List.range n).map f))(ht:∀ i,i<n->turnC js g c e ς (f i)=.ok (if p i=true then some (h i) else none))(hl:n<=1000):
 eComp js its g c e ς=.ok (.lst (((List.range n).filter p).map h)):=by
 have go:∀ l:List Nat,(∀ x∈l,turnC js g c e ς (f x)=.ok (if p x=true then some (h x) else none))->compM ‹"cV"› (l.map f)=.ok ((l.filter p).map h):=by
  intro l
  induction l with
  | nil=>intro _;rfl
  | cons x xs ih=>
   intro H
   have h1:=H x ‹"dO"›
   have h2:=ih fun y hy=>H y (List.mem_cons_of_mem _ hy)
   show compM ‹"cV"› (f x::xs.map f)=_
   unfold compM
   rw[h1,Out.bind_ok,h2,List.filter_cons]
   cases p x<;>rfl
 unfold eComp
 rw[hi,Out.bind_ok,go _ (fun x hx=>ht x (List.mem_range.mp hx)),Out.bind_ok,if_pos (Qhe (by
  rw[List.length_map]
  exact Nat.le_trans (List.length_filter_le ..) (by rw[List.length_range];exact hl)))]
theorem QLU{o:Out D}{xs:List D}(a:o=.ok (.lst xs))(h:xs.all D.scal=true):flatL o=.ok (.lst xs):=by
 unfold flatL
 rw[a,Out.bind_ok]
 show(if xs.all D.scal=true then _ else _)=_
 rw[if_pos h]
theorem QHX{n:Nat}(hn:n<=1000)(f:Nat->Int):QgE [rl n (fun i=>.int (f i))]=.ok ‹"cT"›:=by
 have hc:eComp [none,none] (itE (eVar 0)) (gT [0,1]) Qvk QvH [some (.k,rl n (fun i=>.int (f i)))]=.ok ‹"cT"›:=by
  refine QH3 (fun i:Nat=>D.tup [.int (i:Int),.int (f i)]) (fun i=>decide (0<f i)) (fun i:Nat=>D.int (i:Int)) ?_ (fun i hi=>?_) hn
  ·rw[r_itE (xs:=(List.range n).map fun i=>D.int (f i)) (r_var rfl),enumR]
  ·refine QNN (by walk_at "cap") (by walk_at "all") ?_ ?_
   ·unfold Qvk
    (repeat walk_at "e")
   ·unfold QvH
    (repeat walk_at "e")
 rw[QPI]
 unfold Qv2
 exact Qbe (Qs0 hc) r_rtT
def up1(t:‹"bE"›)(S:Nat->Int)(k i:Nat):Int:=if i=k then(S k+1) % ((t k).length:Int) else S i
def dn1(K:Nat->Int)(k i:Nat):Int:=if i=k then K k - 1 else K i
theorem Qw6{n k:Nat}(hk:k<n)(f:Nat->Int)(v:Int):((List.range n).map fun i=>D.int (f i)).set k (.int v)=(List.range n).map fun i=>D.int (if i=k then v else f i):=by
 rw[setR hk]
 apply List.map_congr_left
 intro i _
 split<;>rfl
section
variable{n nd:Nat}{nm dn c:Nat->Str}{t:Nat->List (List Int)}{m:Nat->Nat}{ld:Nat->Nat->Int}{st:Nat->Int}(hs:Seats n nd nm dn c t m ld st)
include hs
theorem QMG{S K G:Nat->Int}{k:Nat}(hk:k<n)(s0:0<=S k)(s1:S k<((t k).length:Int)):
 QfJ [offD n nd nm dn c t m ld st,rl n ‹"dZ"›,rl n ‹"aa"›,rl nd (fun i=>.int (G i)),.int (k:Int)]=
  .ok (.non,some [rl n ‹"co"›,rl n ‹"al"›,rl nd ‹"bq"›]):=by
 have hc:=hs.ck k hk
 have tb:=hs.tb k hk
 have n1:=tb.n1
 have hrow:=QPg hc tb s0 s1
 have hlay:=QPs (n:=n) (nd:=nd) (m:=m k) (l:=ld k) (w:=rw' (t k) (S k)) (F:=dn1 K k) (G:=G) (fun j hj=>hs.ldr k j hk hj)
 have hx1:dIx (rl n ‹"em"›) ‹"cw"›=.ok (.int (S k)):=ixR (f:=fun i=>D.int (S i)) hk
 have hx2:dIx (rl n ‹"bc"›) ‹"cw"›=.ok (.int (K k)):=ixR (f:=fun i=>D.int (K i)) hk
 have hn1:=ixNR hk ‹"em"›
 have hn2:=ixNR hk ‹"bc"›
 have p1:((List.range n).map fun i=>D.int (S i)).set k ‹"cB"›=(List.range n).map fun i=>D.int (up1 t S k i):=Qw6 hk S _
 have p2:((List.range n).map fun i=>D.int (K i)).set k (.int (K k - 1))=(List.range n).map fun i=>D.int (dn1 K k i):=Qw6 hk K _
 have hmod:dMod (.int (S k+1)) ‹"et"›=.ok ‹"cB"›:=QK (by omega)
 have hclk:∀ ς:SD,ς[0]?=some (some ‹"dJ"›)->ς[4]?=some (some ‹"ab"›)->eMeth Q4 "clerk" (fun _=>Qby) (eVar 0) (aCons (eVar 4) aNil) ς=.ok ‹"eo"›:=fun ς h0 h4=>by
  rw[Qu8 (xs:=[.int (k:Int)]) (r_var h0) (Qe (r_var h4) r_nil) (dk)]
  exact QMc hk
 have hlds:∀ ς:SD,ς[0]?=some (some ‹"dJ"›)->ς[4]?=some (some ‹"ab"›)->eMeth Q4 "leads" (fun _=>QbF) (eVar 0) (aCons (eVar 4) aNil) ς=.ok ‹"cC"›:=fun ς h0 h4=>by
  rw[Qu8 (xs:=[.int (k:Int)]) (r_var h0) (Qe (r_var h4) r_nil) (dk)]
  exact QKO hk
 have hro:∀ ς:SD,ς[1]?=some (some (.s,rl n ‹"dZ"›))->ς[4]?=some (some ‹"ab"›)->ς[5]?=some (some (.k,ck (c k) (t k) (m k)))->eMeth Qf "row" (fun _=>QcQ) (eVar 5) (aCons (fun ς=>Qpu ((e2 dIx (eVarB 1) (eVar 4)) ς)) aNil) ς=.ok (rl (m k) (fun j=>.int (rw' (t k) (S k) j))):=fun ς h1 h4 h5=>by
  rw[Qt1 (c:=c k) (t:=t k) (m:=m k) hc (xs:=[.int (S k)]) (r_var h5) (Qe (QC5 (r_e2 (Qdg h1) (r_var h4) hx1) rfl) r_nil) (dk) (dk)]
  exact hrow
 have hper:∀ ς:SD,ς[5]?=some (some (.k,ck (c k) (t k) (m k)))->eMeth Qf "period" (fun _=>QaE) (eVar 5) aNil ς=.ok ‹"et"›:=fun ς h5=>by
  rw[Qt1 (c:=c k) (t:=t k) (m:=m k) hc (xs:=[]) (r_var h5) rfl (dk) (dk)]
  exact Qzz hc _ _
 generalize offD n nd nm dn c t m ld st=O at *
 generalize hCk:ck (c k) (t k) (m k)=Ck at *
 have hb:Qmu [some (.k,O),some (.s,rl n ‹"dZ"›),some (.s,rl n ‹"aa"›),some (.s,rl nd (fun i=>.int (G i))),some ‹"ab"›,none]=.ok (.nx [some (.k,O),some (.s,rl n ‹"co"›),some (.s,rl n ‹"al"›),some (.s,rl nd ‹"bq"›),some ‹"ab"›,some (.k,Ck)]):=by
  unfold Qmu
  refine r_seq (r_set (hclk _ rfl rfl) (by walk_at "s")) (Ql ?_)
  refine r_seq (fl:=.nx [some (.k,O),some (.s,rl n ‹"dZ"›),some (.s,rl n (fun i=>.int (dn1 K k i))),some (.s,rl nd (fun i=>.int (G i))),some ‹"ab"›,some (.k,Ck)]) (Qwg (s:=.s) (k:=(k:Int)) (j:=k) (d:=.int (K k - 1)) rfl (r_e2 (r_e2 (Qdg rfl) (r_var rfl) hx2) r_C (QdV _ _)) rfl (r_var rfl) hn2 (by rw[p2];walk_at "s")) (Ql ?_)
  refine r_seq (fl:=.nx [some (.k,O),some (.s,rl n ‹"dZ"›),some (.s,rl n ‹"al"›),some (.s,rl nd ‹"bq"›),some ‹"ab"›,some (.k,Ck)]) (QHW (Qe (Qs9 (s:=.s) rfl rfl) (Qe (Qs9 (s:=.s) rfl rfl) (Qe (hlds _ rfl rfl) (Qe (hro _ rfl rfl rfl) r_nil)))) hlay rfl) (Ql ?_)
  exact Qwg (s:=.s) (k:=(k:Int)) (j:=k) (d:=.int ((S k+1) % ((t k).length:Int))) rfl (r_e2 (r_e2 (r_e2 (Qdg rfl) (r_var rfl) hx1) r_C (Qae _ _)) (hper _ rfl) hmod) rfl (r_var rfl) hn1 (by rw[p1];walk_at "s")
 rw[QNt,hb]
 rfl
end
theorem Qo2(ns:List Int)(k:Nat):∃ v:Int,Q7 [.lst (ns.map .int),.int (k:Int)]=.ok (.int v):=by
 have hlen:fLen [.lst (ns.map D.int)]=.ok (.int (ns.length:Int)):=by simp[fLen]
 by_cases h:k<ns.length
 ·have hlt:dLt ‹"cw"› (.int (ns.length:Int))=.ok (.bl true):=by rw[QbC,decide_eq_true (by omega)]
  have hix:dIx (.lst (ns.map .int)) ‹"cw"›=.ok (.int ns[k]):=ixL k (by rw[List.getElem?_map,List.getElem?_eq_getElem h];rfl)
  refine⟨ns[k],?_⟩
  rw[Qw2]
  unfold Qhp
  (repeat walk_at "e")
 ·have hlt:dLt ‹"cw"› (.int (ns.length:Int))=.ok (.bl false):=by rw[QbC,decide_eq_false (by omega)]
  refine⟨0,?_⟩
  rw[Qw2]
  unfold Qhp
  (repeat walk_at "e")
theorem QDM{ς ς':SD}{i:Nat}{d:D}(e:ς[i]?=some (some (.o,d)))(h:ς.set i (some (.k,d))=ς'):frz i ς=ς':=by
 unfold frz
 rw[e]
 exact h
theorem QD0{T:SD->Out Fl}{j:Nat}{ς ς1:SD}{r:Out Fl}(hz:frz j ς=ς1)(h:T ς1=r):(fun ς=>T (frz j ς)) ς=r:=by
 show T (frz j ς)=r
 rw[hz];exact h
theorem QwH(n:Nat)(f:Nat->D)(d:D):(List.range n).map f++[d]=(List.range (n+1)).map fun i=>if i<n then f i else d:=by
 rw[List.range_succ,List.map_append]
 congr 1
 ·exact List.map_congr_left fun j hj=>by rw[if_pos (List.mem_range.mp hj)]
 ·show [d]=[if n<n then f n else d];rw[if_neg (by omega)]
theorem QML(c:Int){k:Int}(hk:bitsI k<=300):∃ x:Int,0<=x/\x<2305843009213693951/\QdG [.int c,.int k]=.ok (.int x):=by
 generalize hy:(c % 1000000007+1) * 6364136223846793005+7919 * k * k+31 * k=y
 have s1:sSet 2 ‹"S"› [some (.k,.int c),some (.k,.int k),none]=.ok (.nx [some (.k,.int c),some (.k,.int k),some (.k,.int y)]):=by
  rw[← hy]
  (repeat walk_at "e")
 have s2:sSet 2 (e2 dMod (eVar 2) (eC (.int 2305843009213693951))) [some (.k,.int c),some (.k,.int k),some (.k,.int y)]=.ok (.nx [some (.k,.int c),some (.k,.int k),some (.k,.int (y % 2305843009213693951))]):=by (repeat walk_at "e")
 have b0:bitsI (y % 2305843009213693951)<=100:=bd_in (Int.emod_nonneg _ (by decide)) (Int.lt_trans (Int.emod_lt_of_pos _ (by decide)) (by decide))
 generalize y % 2305843009213693951=z at *
 have s3:sSet 2 ‹"aB"› [some (.k,.int c),some (.k,.int k),some (.k,.int z)]=.ok (.nx [some (.k,.int c),some (.k,.int k),some (.k,.int ((z * z+69621 * k * k+k) % 2305843009213693951))]):=by (repeat walk_at "e")
 have b1:bitsI ((z * z+69621 * k * k+k) % 2305843009213693951)<=100:=bd_in (Int.emod_nonneg _ (by decide)) (Int.lt_trans (Int.emod_lt_of_pos _ (by decide)) (by decide))
 generalize (z * z+69621 * k * k+k) % 2305843009213693951=w at *
 refine⟨w * w % 2305843009213693951,Int.emod_nonneg _ (by decide),Int.emod_lt_of_pos _ (by decide),?_⟩
 rw[QHt]
 unfold Qjd
 refine Qbe (fl:=.rt false (.int (w * w % 2305843009213693951))) (r_seq s1 (Ql (r_seq s2 (Ql (r_seq s3 (Ql ?_)))))) r_rt
 (repeat walk_at "e")
def Dg(M:Nat)(g:Nat->Int):Prop:=∀ i,i<M->0<=g i/\g i<1000000
theorem QjK(c:Int){M:Nat}(hM:M<=100):∃ g:Nat->Int,Dg M g/\QY [.int c,.int (M:Int)]=.ok (rl M ‹"J"›):=by
 have h6:dPow (.int 10) (.int 6)=.ok (.int 1000000):=by rw[QIb (by decide)];rfl
 have m2:dMod (.int c) (.int 2)=.ok (.int (c % 2)):=QK (by decide)
 obtain⟨ς',hL,g,z,a4,rfl,hg⟩:=Qcm (body:=fun x ς=>gN 4 x ς>>=fun ς'=>Qd2 ς') (n:=M)
  (P:=fun k ς=>∃(g:Nat->Int)(z:Int)(a4:Option (SM×D)),ς=[some (.k,.int c),some ‹"bX"›,some (.o,rl k ‹"J"›),some (.k,.int z),a4]/\Dg k g)
  (by
   rintro k hk ς ⟨g,z,a4,rfl,hg⟩
   have hle:((List.range k).map ‹"cD"›).length<=1000:=by rw[List.length_map,List.length_range];omega
   have ea:∀ v:Int,(List.range k).map (fun j=>D.int (g j))++[.int v]=(List.range (k+1)).map (fun i=>D.int (if i<k then g i else v)):=fun v=>by
    rw[QwH]
    exact List.map_congr_left fun i _=>by split<;>rfl
   have hd:∀ v:Int,0<=v->v<1000000->Dg (k+1) (fun i=>if i<k then g i else v):=fun v v0 v1 i hi=>by
    show 0<=(if i<k then g i else v)/\(if i<k then g i else v)<1000000
    split
    ·rename_i w;exact hg i w
    ·exact⟨v0,v1⟩
   by_cases h:c % 2=0
   ·have mz:dMod (.int z) (.int 1000000)=.ok (.int (z % 1000000)):=QK (by decide)
    have dz:dFdiv (.int z) (.int 1000000)=.ok (.int (z / 1000000)):=QfC (by decide) (by decide)
    have v0:=Int.emod_nonneg z (b:=1000000) (by decide)
    have v1:=Int.emod_lt_of_pos z (b:=1000000) (by decide)
    generalize z % 1000000=v at *
    refine⟨[some (.k,.int c),some ‹"bX"›,some (.o,rl (k+1) (fun i=>.int (if i<k then g i else v))),some (.k,.int (z / 1000000)),some ‹"ab"›],?_,_,_,_,rfl,hd v v0 v1⟩
    refine r_gN (by walk_at "s") ?_
    unfold Qd2
    refine r_ifT (b:=decide (c % 2=0)) (by (repeat walk_at "e")) (decide_eq_true h) ?_
    refine r_seq (r_app (xs:=(List.range k).map ‹"cD"›) rfl (r_e2 (r_var rfl) (r_e2 r_C r_C h6) mz) hle (by rw[ea v];walk_at "s")) (Ql ?_)
    exact r_set (r_e2 (r_var rfl) (r_e2 r_C r_C h6) dz) (by walk_at "s")
   ·obtain⟨x,x0,x1,hx⟩:=QML c (k:=(k:Int)) (QPp (Nat.lt_of_lt_of_le hk (Nat.le_trans hM (by decide))))
    have mz:dMod (.int x) (.int 1000000)=.ok (.int (x % 1000000)):=QK (by decide)
    have v0:=Int.emod_nonneg x (b:=1000000) (by decide)
    have v1:=Int.emod_lt_of_pos x (b:=1000000) (by decide)
    generalize x % 1000000=v at *
    refine⟨[some (.k,.int c),some ‹"bX"›,some (.o,rl (k+1) (fun i=>.int (if i<k then g i else v))),some (.k,.int z),some ‹"ab"›],?_,_,_,_,rfl,hd v v0 v1⟩
    refine r_gN (by walk_at "s") ?_
    unfold Qd2
    refine r_ifF (b:=decide (c % 2=0)) (by (repeat walk_at "e")) (decide_eq_false h) ?_
    exact r_app (xs:=(List.range k).map ‹"cD"›) rfl (r_e2 (Qaj (xs:=[.int c,.int (k:Int)]) ‹"dU"› rfl hx) (r_e2 r_C r_C h6) mz) hle (by rw[ea v];walk_at "s"))
  ‹"dc"› ⟨fun _=>0,_,_,rfl,fun i hi=>absurd hi (by omega)⟩
 have hR:itR1 (eVar 1) ‹"dc"›=.ok (QbT 0 M):=Qcb M (r_var rfl) (by omega)
 have hfor:=Qcw (g:=gN 4) (T:=Qd2) hR hL
 have d2:dFdiv (.int c) (.int 2)=.ok (.int (c / 2)):=QfC (by decide) (by decide)
 refine⟨g,hg,?_⟩
 rw[QB4]
 unfold Qic
 refine Qbe (fl:=.rt true (rl M ‹"J"›)) (r_seq (Qeg (d:=.lst []) (by (repeat walk_at "e")) (by walk_at "s")) (Ql (r_seq (r_set (r_e2 (r_var rfl) r_C d2) (by walk_at "s")) (Ql (r_seq hfor (Ql (QCK rfl))))))) r_rtT
theorem dg_ix{M i:Nat}{g:Nat->Int}(h:i<M):dIx (rl M ‹"J"›) (.int (i:Int))=.ok (.int (g i)):=ixR (f:=fun i=>D.int (g i)) h
theorem QPB(x:Int):∃ b:Int,0<=b/\b<=9/\dIx (.lst [.int 0,.int 1,.int 0,.int 2,.int 1,.int 0,.int 1,.int 0,.int 0,.int 1]) (.int (x % 10))=.ok (.int b):=by
 rcases(by omega:x % 10=0∨x % 10=1∨x % 10=2∨x % 10=3∨x % 10=4∨x % 10=5∨x % 10=6∨x % 10=7∨x % 10=8∨x % 10=9) with e | e | e | e | e | e | e | e | e | e<;>rw[e]
 ·exact⟨0,by omega,by omega,rfl⟩
 ·exact⟨1,by omega,by omega,rfl⟩
 ·exact⟨0,by omega,by omega,rfl⟩
 ·exact⟨2,by omega,by omega,rfl⟩
 ·exact⟨1,by omega,by omega,rfl⟩
 ·exact⟨0,by omega,by omega,rfl⟩
 ·exact⟨1,by omega,by omega,rfl⟩
 ·exact⟨0,by omega,by omega,rfl⟩
 ·exact⟨0,by omega,by omega,rfl⟩
 ·exact⟨1,by omega,by omega,rfl⟩
theorem pick2(a b:Int)(T:Int)(hT:T=0∨T=1):∃ v:Int,(v=a∨v=b)/\dIx (.lst [.int a,.int b]) (.int T)=.ok (.int v):=by
 rcases hT with rfl | rfl
 ·exact⟨a,.inl rfl,rfl⟩
 ·exact⟨b,.inr rfl,rfl⟩
theorem QLM(d:Int){m:Nat}(hm:m<=100){T:Int}(hT:T=0∨T=1):∃ r:List Int,r.length=m/\(∀ x∈r,0<=x/\x<=9)/\Qco [.int d,.int (m:Int),.int T]=.ok (dl r):=by
 obtain⟨ς',hL,v,r,a3,rfl,hl,hr⟩:=Qcm (body:=fun x ς=>gN 4 x ς>>=fun ς'=>Qd1 ς') (n:=m)
  (P:=fun k ς=>∃(v:Int)(r:List Int)(a3:Option (SM×D)),ς=[some (.k,.int v),some (.k,.int (m:Int)),some (.k,.int T),some (.o,dl r),a3]/\r.length=k/\∀ x∈r,0<=x/\x<=9)
  (by
   rintro k hk ς ⟨v,r,a3,rfl,hl,hr⟩
   obtain⟨b,b0,b9,hb⟩:=QPB v
   have hm10:dMod (.int v) (.int 10)=.ok (.int (v % 10)):=QK (by decide)
   have hd10:dFdiv (.int v) (.int 10)=.ok (.int (v / 10)):=QfC (by decide) (by decide)
   have q0:=Int.emod_nonneg v (b:=10) (by decide)
   have q1:=Int.emod_lt_of_pos v (b:=10) (by decide)
   obtain⟨e,he,hx⟩:=pick2 (v % 10) b T hT
   have e0:0<=e/\e<=9:=by rcases he with rfl | rfl<;>omega
   refine⟨[some (.k,.int (v / 10)),some (.k,.int (m:Int)),some (.k,.int T),some (.o,dl (r++[e])),some ‹"ab"›],?_,v / 10,r++[e],_,rfl,by rw[List.length_append,hl];rfl,fun x hx=>by
    rcases List.mem_append.mp hx with w | w
    ·exact hr x w
    ·rw[List.mem_singleton.mp w];exact e0⟩
   have hle:(r.map D.int).length<=1000:=by rw[List.length_map];omega
   have ea:dl (r++[e])=.lst (r.map D.int++[.int e]):=by unfold dl;simp
   rw[ea]
   show(gN 4 (D.int (k:Int)) [some (.k,.int v),some (.k,.int (m:Int)),some (.k,.int T),some (.o,.lst (r.map D.int)),a3]>>=fun ς'=>Qd1 ς')=_
   refine r_gN (by walk_at "s") ?_
   unfold Qd1
   (repeat walk_at "e"))
  ‹"db"› ⟨d,[],_,rfl,rfl,fun x hx=>absurd hx List.not_mem_nil⟩
 have hR:itR1 (eVar 1) ‹"db"›=.ok (QbT 0 m):=Qcb m (by (repeat walk_at "e")) (by omega)
 have hfor:=Qcw (g:=gN 4) (T:=Qd1) hR hL
 refine⟨r,hl,hr,?_⟩
 rw[QCt]
 unfold QhZ
 (repeat walk_at "e")
inductive Kd:Int->List (List Int)->Nat->Prop where
 | deal (n:Nat) (h1:1<=n) (h2:n<=6):Kd 0 (dealT n) n
 | bun (n:Nat) (h1:1<=n) (h2:n<=12):Kd 1 (bunT n) 1
 | copy (r:List Int) (m:Nat) (h:Tb [r] m):Kd 2 [r] m
 | rows (t:List (List Int)) (m:Nat) (h:Tb t m):Kd 3 t m
theorem Kd.tb{w:Int}{t:‹"aY"›}{m:Nat}:Kd w t m->Tb t m
 | .deal n h1 h2=>QHV h1 h2
 | .bun n h1 h2=>QKK h1 h2
 | .copy _ _ h=>h
 | .rows _ _ h=>h
theorem dbl(b:Bool):f1 dInt [.bl b]=.ok (.int (if b=true then 1 else 0)):=by cases b<;>rfl
theorem QNr{w:Int}{t:‹"aY"›}{m:Nat}(h:Kd w t m):∃ c,CK.contains c=true/\Qcj [.int w,tbD t]=.ok (ck c t m):=by
 have hlen:fLen [tbD t]=.ok (.int (t.length:Int)):=by simp[fLen,tbD]
 have e00:dEq (.int 0) (.int 0)=.ok (.bl true):=by rw[Q0];rfl
 have e10:dEq (.int 1) (.int 0)=.ok (.bl false):=by rw[Q0];rfl
 have e11:dEq (.int 1) (.int 1)=.ok (.bl true):=by rw[Q0];rfl
 have e20:dEq (.int 2) (.int 0)=.ok (.bl false):=by rw[Q0];rfl
 have e21:dEq (.int 2) (.int 1)=.ok (.bl false):=by rw[Q0];rfl
 have e22:dEq (.int 2) (.int 2)=.ok (.bl true):=by rw[Q0];rfl
 have e30:dEq (.int 3) (.int 0)=.ok (.bl false):=by rw[Q0];rfl
 have e31:dEq (.int 3) (.int 1)=.ok (.bl false):=by rw[Q0];rfl
 have e32:dEq (.int 3) (.int 2)=.ok (.bl false):=by rw[Q0];rfl
 cases h with
 | deal _ h1 h2=>
  have hl:(dealT m).length=m:=by simp[dealT]
  rw[hl]at hlen
  have hi:=QLx (c:="Deal") (dk) h1 (by omega)
  refine⟨"Deal",dk,?_⟩
  unfold ck
  rw[Qjh]
  unfold QdT
  (repeat walk_at "e")
 | bun n h1 h2=>
  have hl:(bunT n).length=n:=by simp[bunT]
  rw[hl]at hlen
  have hi:=QND (c:="Bundle") (dk) h1 (by omega)
  refine⟨"Bundle",dk,?_⟩
  unfold ck
  rw[Qjh]
  unfold QdT
  (repeat walk_at "e")
 | copy r m h=>
  have hi:=QL5 (c:="Copy") (dk) h
  have hix0:dIx (tbD [r]) (.int 0)=.ok (dl r):=ixL 0 rfl
  have hdl:dList (dl r)=.ok (dl r):=rfl
  refine⟨"Copy",dk,?_⟩
  unfold ck
  rw[Qjh]
  unfold QdT
  (repeat walk_at "e")
 | rows t m h=>
  have hi:=QLm (c:="Rows") (dk) h
  have hc:eComp [none] ‹"dt"› (gN 0) cTrue QrD [some (.k,.int 3),some (.k,tbD t)]=.ok (tbD t):=by
   refine Qas dl dl rfl (fun x hx=>?_) (by have:=h.n2;omega)
   refine Qav (by walk_at "cap") (by walk_at "s") ?_
   rfl
  refine⟨"Rows",dk,?_⟩
  unfold ck
  rw[Qjh]
  unfold QdT
  (repeat walk_at "e")
theorem QMn{n:Nat}(hn:n<=100){ς:SD}(h:ς[3]?=some (some ‹"aw"›))(hc:captD [none,some 3] ς=[none,some ‹"aw"›]):eComp [none,some 3] (itR1 (eVar 3)) (gN 0) cTrue QlZ ς=.ok (tbD (dealT n)):=by
 have e:tbD (dealT n)=.lst ((List.range n).map fun s=>dl (one n s)):=by unfold tbD dealT;rw[List.map_map];rfl
 rw[e]
 refine Qas (fun s:Nat=>D.int ((0:Int)+s)) (fun s=>dl (one n s)) (Qcb n (r_var h) (by omega)) (fun s _=>?_) (by rw[List.length_range];omega)
 refine Qav hc (by walk_at "s") ?_
 unfold QlZ
 have e2':dl (one n s)=.lst ((List.range n).map fun k=>D.int (if k=s then 1 else 0)):=by unfold dl one;rw[List.map_map];rfl
 rw[e2',Int.zero_add]
 refine Qas (fun k:Nat=>D.int ((0:Int)+k)) (fun k=>D.int (if k=s then 1 else 0)) (Qcb n rfl (by omega)) (fun k _=>?_) (by rw[List.length_range];omega)
 refine Qav (by walk_at "cap") (by walk_at "s") ?_
 unfold QrW
 have hd:=dbl (decide (((0:Int)+(k:Int))=(s:Int)))
 have hh:(if decide (((0:Int)+(k:Int))=(s:Int))=true then(1:Int) else 0)=if k=s then 1 else 0:=by
  by_cases q:k=s
  ·rw[if_pos q,if_pos (decide_eq_true (by omega))]
  ·rw[if_neg q,decide_eq_false (by omega)];rfl
 rw[hh]at hd
 (repeat walk_at "e")
theorem QN2{n:Nat}(hn:n<=100){ς:SD}(h:ς[3]?=some (some ‹"aw"›))(hc:captD [none,some 3] ς=[none,some ‹"aw"›]):eComp [none,some 3] (itR1 (eVar 3)) (gN 0) cTrue QlA ς=.ok (tbD (bunT n)):=by
 have e:tbD (bunT n)=.lst ((List.range n).map fun s=>dl [if s+1=n then 1 else 0]):=by unfold tbD bunT;rw[List.map_map];rfl
 rw[e]
 refine Qas (fun s:Nat=>D.int ((0:Int)+s)) (fun s=>dl [if s+1=n then 1 else 0]) (Qcb n (r_var h) (by omega)) (fun s _=>?_) (by rw[List.length_range];omega)
 refine Qav hc (by walk_at "s") ?_
 unfold QlA
 show _=Out.ok (D.lst [.int (if s+1=n then 1 else 0)])
 have hd:=dbl (decide (((0:Int)+(s:Int))=(n:Int) - 1))
 have hh:(if decide (((0:Int)+(s:Int))=(n:Int) - 1)=true then(1:Int) else 0)=if s+1=n then 1 else 0:=by
  by_cases q:s+1=n
  ·rw[if_pos q,if_pos (decide_eq_true (by omega))]
  ·rw[if_neg q,decide_eq_false (by omega)];rfl
 rw[hh]at hd
 (repeat walk_at "e")
theorem QOS{g:Nat->Int}(hg:Dg 26 g){T:Int}(hT:T=0∨T=1):∃ w t m,Kd w t m/\QeF [rl 26 ‹"J"›,.int T]=.ok (.tup [.int w,tbD t]):=by
 have x0:dIx (rl 26 ‹"J"›) (.int 0)=.ok (.int (g 0)):=dg_ix (M:=26) (i:=0) (by decide)
 have x1:dIx (rl 26 ‹"J"›) (.int 1)=.ok (.int (g 1)):=dg_ix (M:=26) (i:=1) (by decide)
 have x2:dIx (rl 26 ‹"J"›) (.int 2)=.ok (.int (g 2)):=dg_ix (M:=26) (i:=2) (by decide)
 have xs:∀ s:Nat,s<12->dIx (rl 26 ‹"J"›) (.int (10+(s:Int)))=.ok (.int (g (10+s))):=fun s hs=>by
  rw[show(10:Int)+(s:Int)=((10+s:Nat):Int) by omega]
  exact dg_ix (by omega)
 obtain⟨A,hA,pA⟩:=pick2 12 4 T hT
 obtain⟨B,hB,pB⟩:=pick2 6 4 T hT
 obtain⟨C,hC,pC⟩:=pick2 7 4 T hT
 have m4:dMod (.int (g 0)) (.int 4)=.ok (.int (g 0 % 4)):=QK (by decide)
 have A1:0<A:=by rcases hA with rfl | rfl<;>decide
 have B1:0<B:=by rcases hB with rfl | rfl<;>decide
 have C1:0<C:=by rcases hC with rfl | rfl<;>decide
 have mA:dMod (.int (g 1)) (.int A)=.ok (.int (g 1 % A)):=QK A1
 have mB:dMod (.int (g 1)) (.int B)=.ok (.int (g 1 % B)):=QK B1
 have mC:dMod (.int (g 2)) (.int C)=.ok (.int (g 2 % C)):=QK C1
 obtain⟨sz,hsz,z1,z12⟩:∃ n:Nat,1+g 1 % A=(n:Int)/\1<=n/\n<=12:=by
  have a:=Int.emod_nonneg (g 1) (b:=A) (by omega)
  have b:=Int.emod_lt_of_pos (g 1) A1
  exact⟨(1+g 1 % A).toNat,by omega,by omega,by rcases hA with rfl | rfl<;>omega⟩
 obtain⟨sb,hsb,y1,y6⟩:∃ n:Nat,1+g 1 % B=(n:Int)/\1<=n/\n<=6:=by
  have a:=Int.emod_nonneg (g 1) (b:=B) (by omega)
  have b:=Int.emod_lt_of_pos (g 1) B1
  exact⟨(1+g 1 % B).toNat,by omega,by omega,by rcases hB with rfl | rfl<;>omega⟩
 obtain⟨ot,hot,o6⟩:∃ n:Nat,g 2 % C=(n:Int)/\n<=6:=by
  have a:=Int.emod_nonneg (g 2) (b:=C) (by omega)
  have b:=Int.emod_lt_of_pos (g 2) C1
  exact⟨(g 2 % C).toNat,by omega,by rcases hC with rfl | rfl<;>omega⟩
 rw[hot]at mC
 generalize hG:rl 26 ‹"cD"›=G at *
 have w4:g 0 % 4=0∨g 0 % 4=1∨g 0 % 4=2∨g 0 % 4=3:=by omega
 generalize g 0 % 4=w at *
 have s2:sSet 2 (e2 dMod ‹"H"› (eC (.int 4))) [some (.k,G),some (.k,.int T),none,none,none]=.ok (.nx [some (.k,G),some (.k,.int T),some (.k,.int w),none,none]):=r_set (r_e2 (r_e2 (r_var rfl) r_C x0) r_C m4) (by walk_at "s")
 have s3:sSet 3 ‹"bs"› [some (.k,G),some (.k,.int T),some (.k,.int w),none,none]=.ok (.nx ‹"dA"›):=by
  rw[← hsz]
  exact r_set (r_e2 r_C (r_e2 (r_e2 (r_var rfl) r_C x1) (r_e2 (r_lst ‹"dN"› (show 2<=1000 by decide)) (r_var rfl) pA) mA) (Qae _ _)) (by walk_at "s")
 have s3b:sSet 3 ‹"bu"› ‹"dA"›=.ok (.nx [some (.k,G),some (.k,.int T),some (.k,.int w),some (.k,.int (sb:Int)),none]):=by
  rw[← hsb]
  exact r_set (r_e2 r_C (r_e2 (r_e2 (r_var rfl) r_C x1) (r_e2 (r_lst ‹"dN"› (show 2<=1000 by decide)) (r_var rfl) pB) mB) (Qae _ _)) (by walk_at "s")
 have tail:∀(w:Int)(n:Nat),1<=n->n<=12->∃ t:List (List Int),t.length=n/\Tb t ot/\sSeq ‹"bk"› ‹"bz"› [some (.k,G),some (.k,.int T),some (.k,.int w),some ‹"aw"›,none]=.ok (.rt false (.tup [.int w,tbD t])):=fun w n h1 h12=>by
  have H:∀ s:Nat,∃ r:List Int,s<12->r.length=ot/\(∀ x∈r,0<=x/\x<=9)/\Qco [.int (g (10+s)),.int (ot:Int),.int T]=.ok (dl r):=fun s=>by
   obtain⟨r,a,b,e⟩:=QLM (g (10+s)) (m:=ot) (by omega) hT
   exact⟨r,fun _=>⟨a,b,e⟩⟩
  obtain⟨R,hR⟩:=Classical.axiomOfChoice H
  refine⟨(List.range n).map R,by simp,⟨by simp;omega,by simp;omega,by omega,fun r hr=>?_,fun r hr=>?_⟩,?_⟩
  ·obtain⟨s,hs,rfl⟩:=List.mem_map.mp hr
   exact(hR s (by have:=List.mem_range.mp hs;omega)).1
  ·obtain⟨s,hs,rfl⟩:=List.mem_map.mp hr
   exact(hR s (by have:=List.mem_range.mp hs;omega)).2.1
  ·have hc:eComp [none,some 0,some 4,some 1] (itR1 (eVar 3)) (gN 0) cTrue Qie [some (.k,G),some (.k,.int T),some (.k,.int w),some ‹"aw"›,some (.k,.int (ot:Int))]=.ok (tbD ((List.range n).map R)):=by
    unfold tbD
    rw[List.map_map]
    refine Ql1 (fun s=>dl (R s)) (Qcb n (r_var rfl) (by omega)) (fun s hs=>?_) (by omega)
    refine Qav (by walk_at "cap") (by walk_at "s") ?_
    unfold Qie
    exact Qaj (xs:=[.int (g (10+s)),.int (ot:Int),.int T]) (Qe (r_e2 (r_var rfl) (r_e2 r_C (r_var rfl) (Qae _ _)) (xs s (by omega))) ‹"dU"›) rfl (hR s (by omega)).2.2
   refine r_seq (r_set (r_e2 (r_e2 (r_var rfl) r_C x2) (r_e2 (r_lst ‹"dN"› (show 2<=1000 by decide)) (r_var rfl) pC) mC) (by walk_at "s")) (Ql ?_)
   exact r_ret (r_tup (Qe (r_var rfl) (Qe hc r_nil)) (show 2<=1000 by decide))
 have q:∀(a b:Int)(z:Bool),decide (a=b)=z->∀ ς:SD,ς[2]?=some (some (.k,.int a))->tVal (e2 dEq (eVar 2) (eC (.int b))) ς=.ok z:=fun a b z h ς hς=>by
  rw[QH (r_e2 (r_var hς) r_C (Q0 a b)),h]
 rcases w4 with rfl | rfl | rfl | rfl
 ·refine⟨0,dealT sb,sb,.deal sb y1 y6,?_⟩
  have hc:=QMn (n:=sb) (by omega) (ς:=[some (.k,G),some (.k,.int T),some (.k,.int 0),some (.k,.int (sb:Int)),none]) rfl (by walk_at "cap")
  rw[Qk8]
  unfold QeT
  refine Qbe (fl:=.rt false (.tup [.int 0,tbD (dealT sb)])) (r_seq s2 (Ql (r_seq s3 (Ql (r_seq (fl:=.rt false (.tup [.int 0,tbD (dealT sb)])) ?_ Qpj))))) r_rt
  exact r_ifT (q 0 0 true rfl _ rfl) rfl (r_seq s3b (Ql (r_ret (r_tup (Qe (r_var rfl) (Qe hc r_nil)) (show 2<=1000 by decide)))))
 ·refine⟨1,bunT sz,1,.bun sz z1 z12,?_⟩
  have hc:=QN2 (n:=sz) (by omega) (ς:=[some (.k,G),some (.k,.int T),some (.k,.int 1),some (.k,.int (sz:Int)),none]) rfl (by walk_at "cap")
  rw[Qk8]
  unfold QeT
  refine Qbe (fl:=.rt false (.tup [.int 1,tbD (bunT sz)])) (r_seq s2 (Ql (r_seq s3 (Ql (r_seq (r_ifF (q 1 0 false rfl _ rfl) rfl QcJ) (Ql (r_seq (fl:=.rt false (.tup [.int 1,tbD (bunT sz)])) ?_ Qpj))))))) r_rt
  exact r_ifT (q 1 1 true rfl _ rfl) rfl (r_ret (r_tup (Qe (r_var rfl) (Qe hc r_nil)) (show 2<=1000 by decide)))
 ·obtain⟨t,tl,tb,ht⟩:=tail 2 1 (by decide) (by decide)
  obtain⟨r,rfl⟩:∃ r,t=[r]:=by
   match t,tl with
   | [r],_=>exact⟨r,rfl⟩
  refine⟨2,[r],ot,.copy r ot tb,?_⟩
  rw[Qk8]
  unfold QeT
  refine Qbe (fl:=.rt false (.tup [.int 2,tbD [r]])) (r_seq s2 (Ql (r_seq s3 (Ql (r_seq (r_ifF (q 2 0 false rfl _ rfl) rfl QcJ) (Ql (r_seq (r_ifF (q 2 1 false rfl _ rfl) rfl QcJ) (Ql (r_seq (fl:=.nx [some (.k,G),some (.k,.int T),some (.k,.int 2),some (.k,.int ((1:Nat):Int)),none]) ?_ (Ql ht)))))))))) r_rt
  exact r_ifT (q 2 2 true rfl _ rfl) rfl (r_set r_C (by walk_at "s"))
 ·obtain⟨t,tl,tb,ht⟩:=tail 3 sz z1 z12
  refine⟨3,t,ot,.rows t ot tb,?_⟩
  rw[Qk8]
  unfold QeT
  refine Qbe (fl:=.rt false (.tup [.int 3,tbD t])) (r_seq s2 (Ql (r_seq s3 (Ql (r_seq (r_ifF (q 3 0 false rfl _ rfl) rfl QcJ) (Ql (r_seq (r_ifF (q 3 1 false rfl _ rfl) rfl QcJ) (Ql (r_seq (r_ifF (q 3 2 false rfl _ rfl) rfl QcJ) (Ql ht)))))))))) r_rt
def inL(c:Nat):Bool := !(Builtin.Str.occurrences ("abcdefghijklmnopqrstuvwxyz":Str) ⟨#[c]⟩ 0 ("abcdefghijklmnopqrstuvwxyz":Str).length 1).isEmpty
theorem compN(z:Str)(hz:z.length<=1000):eComp [none] (itS (eVar 0)) (gN 0) cTrue QnZ [some (.k,.str z)]=.ok (.lst (z.cps.toList.map fun c=>D.bl (inL c))):=by
 unfold eComp
 have h:=QvR (f:=turnC [none] (gN 0) cTrue QnZ [some (.k,.str z)]) (h:=fun d=>match d with | .str x=>some (.bl (!(Builtin.Str.occurrences ("abcdefghijklmnopqrstuvwxyz":Str) x 0 ("abcdefghijklmnopqrstuvwxyz":Str).length 1).isEmpty)) | _=>none) (xs:=signs z) (by
  intro x hx
  obtain⟨c,_,rfl⟩:=List.mem_map.mp hx
  rfl)
 have e:(signs z).filterMap (fun d=>match d with | .str x=>some (D.bl (!(Builtin.Str.occurrences ("abcdefghijklmnopqrstuvwxyz":Str) x 0 ("abcdefghijklmnopqrstuvwxyz":Str).length 1).isEmpty)) | _=>none)=z.cps.toList.map fun c=>D.bl (inL c):=by
  unfold signs
  rw[List.filterMap_map]
  exact List.filterMap_eq_map' (f:=fun c=>D.bl (inL c)) ▸ rfl
 show(compM _ (signs z)>>=_)=_
 rw[h,e,Out.bind_ok,if_pos (Qhe (by rw[List.length_map,QOT];exact hz))]
def nmB(z:Str):Bool:=decide (1<=z.length)&&decide (z.length<=6)&&z.cps.toList.all inL
theorem QOt(z:Str)(hz:z.length<=1000):QaT [.str z]=.ok (.bl (nmB z)):=by
 rw[QLf]
 unfold Qnj
 have hf:=Qhe hz
 unfold nmB
 by_cases h1:1<=z.length
 ·by_cases h2:z.length<=6
  ·have h1':(1:Int)<=(z.length:Int):=by omega
   have h2':(z.length:Int)<=6:=by omega
   simp only[bodyF,retF,sSeq,thenF,sSet,sRet,sIf,sNil,eVar,eC,e1,e2,eA,f1,aNil,aCons,tVal,tAnd',tOr',tNot',eAnd,eOr,eNot,eIf,eTup,eLst,eIsa,isaT,QcI,oNo,oSome,sPar,sUnp,Qax,gN,gT,fLen,Qdx,Out.bind_ok,Out.bind_exc,Out.bind_stuck,Out.pure_eq,D.scal,Qae,QdV,Qex,QiK,QbC,Qf6,Qee,Qlg,Q0,QcW,List.length_cons,List.length_nil,List.map_cons,List.map_nil,List.cons_append,List.nil_append,List.append_nil,List.getElem?_cons_zero,List.getElem?_cons_succ,List.set_cons_zero,List.set_cons_succ,List.replicate,Nat.reduceAdd,Nat.reduceSub,Nat.reduceLeDiff,Nat.zero_add,Nat.add_zero,reduceIte,Bool.not_true,Bool.not_false,Bool.true_and,Bool.and_true,Bool.false_and,Bool.and_false,Bool.or_true,Bool.true_or,Bool.or_false,Bool.false_or,Bool.false_eq_true,decide_true,decide_false,decide_eq_true_eq,Bool.not_eq_true',decide_eq_false_iff_not,Int.reduceEq,Int.reduceLT,Int.reduceLE,Int.reduceNeg,Nat.reduceEqDiff, ↓reduceIte,not_true_eq_false,not_false_eq_true,Qdt,compN z hz,Qik,hf,h1,h2,h1',h2',beq_self_eq_true]
  ·have h1':(1:Int)<=(z.length:Int):=by omega
   have h2':¬ (z.length:Int)<=6:=by omega
   simp only[bodyF,retF,sSeq,thenF,sSet,sRet,sIf,sNil,eVar,eC,e1,e2,eA,f1,aNil,aCons,tVal,tAnd',tOr',tNot',eAnd,eOr,eNot,eIf,eTup,eLst,eIsa,isaT,QcI,oNo,oSome,sPar,sUnp,Qax,gN,gT,fLen,Qdx,Out.bind_ok,Out.bind_exc,Out.bind_stuck,Out.pure_eq,D.scal,Qae,QdV,Qex,QiK,QbC,Qf6,Qee,Qlg,Q0,QcW,List.length_cons,List.length_nil,List.map_cons,List.map_nil,List.cons_append,List.nil_append,List.append_nil,List.getElem?_cons_zero,List.getElem?_cons_succ,List.set_cons_zero,List.set_cons_succ,List.replicate,Nat.reduceAdd,Nat.reduceSub,Nat.reduceLeDiff,Nat.zero_add,Nat.add_zero,reduceIte,Bool.not_true,Bool.not_false,Bool.true_and,Bool.and_true,Bool.false_and,Bool.and_false,Bool.or_true,Bool.true_or,Bool.or_false,Bool.false_or,Bool.false_eq_true,decide_true,decide_false,decide_eq_true_eq,Bool.not_eq_true',decide_eq_false_iff_not,Int.reduceEq,Int.reduceLT,Int.reduceLE,Int.reduceNeg,Nat.reduceEqDiff, ↓reduceIte,not_true_eq_false,not_false_eq_true,Qdt,compN z hz,Qik,hf,h1,h2,h1',h2',beq_self_eq_true]
 ·have h1':¬ (1:Int)<=(z.length:Int):=by omega
  simp only[bodyF,retF,sSeq,thenF,sSet,sRet,sIf,sNil,eVar,eC,e1,e2,eA,f1,aNil,aCons,tVal,tAnd',tOr',tNot',eAnd,eOr,eNot,eIf,eTup,eLst,eIsa,isaT,QcI,oNo,oSome,sPar,sUnp,Qax,gN,gT,fLen,Qdx,Out.bind_ok,Out.bind_exc,Out.bind_stuck,Out.pure_eq,D.scal,Qae,QdV,Qex,QiK,QbC,Qf6,Qee,Qlg,Q0,QcW,List.length_cons,List.length_nil,List.map_cons,List.map_nil,List.cons_append,List.nil_append,List.append_nil,List.getElem?_cons_zero,List.getElem?_cons_succ,List.set_cons_zero,List.set_cons_succ,List.replicate,Nat.reduceAdd,Nat.reduceSub,Nat.reduceLeDiff,Nat.zero_add,Nat.add_zero,reduceIte,Bool.not_true,Bool.not_false,Bool.true_and,Bool.and_true,Bool.false_and,Bool.and_false,Bool.or_true,Bool.true_or,Bool.or_false,Bool.false_or,Bool.false_eq_true,decide_true,decide_false,decide_eq_true_eq,Bool.not_eq_true',decide_eq_false_iff_not,Int.reduceEq,Int.reduceLT,Int.reduceLE,Int.reduceNeg,Nat.reduceEqDiff, ↓reduceIte,not_true_eq_false,not_false_eq_true,Qdt,compN z hz,Qik,hf,h1,h1',beq_self_eq_true]
theorem ltr{i:Nat}(h:i<26):dIx ‹"bH"› (.int (i:Int))=.ok (.str ⟨#[97+i]⟩):=by
 have e:("abcdefghijklmnopqrstuvwxyz":Str).cps.toList=(List.range 26).map (97 + ·):=dk
 show(if fits ("abcdefghijklmnopqrstuvwxyz":Str).length=true then optO ((atI ("abcdefghijklmnopqrstuvwxyz":Str).cps.toList (i:Int)).map fun c=>D.str ⟨#[c]⟩) else .stuck)=_
 rw[if_pos (dk),e,Qyl (show((List.range 26).map (97 + ·))[i]?=some (97+i) by rw[List.getElem?_map,List.getElem?_range h];rfl)]
 rfl
theorem QIt{i:Nat}(h:i<26):inL (97+i)=true:=by
 have key:∀ a:Fin 26,inL (97+a)=true:=dk
 exact key ⟨i,h⟩
theorem QIp(x:Str)(c:Nat):(x++(⟨#[c]⟩:Str)).cps.toList=x.cps.toList++[c]:=by
 show(x.cps ++ #[c]).toList=_
 rw[Array.toList_append]
def Nh(x:Str)(f:Nat):Prop:=x.cps.toList.head?=some (97+f)/\nmB x=true
theorem Nh.isn{x:Str}{f:Nat}(h:Nh x f):QaT [.str x]=.ok (.bl true):=by
 have hn:=h.2
 have hl:x.length<=1000:=by
  unfold nmB at hn
  rw[Bool.and_eq_true,Bool.and_eq_true]at hn
  have:=of_decide_eq_true hn.1.2
  omega
 rw[QOt x hl,hn]
theorem Nh.ne{x y:Str}{f g:Nat}(hx:Nh x f)(hy:Nh y g)(e:x=y):f=g:=by
 have h1:=hx.1
 rw[e,hy.1]at h1
 have:=Option.some.inj h1
 omega
theorem pick5{j:Nat}(h:j<5):∃ b:Int,0<b/\big b=true/\dIx (.lst [.int 1,.int 26,.int 676,.int 17576,.int 7]) (.int (j:Int))=.ok (.int b):=by
 rcases(by omega:j=0∨j=1∨j=2∨j=3∨j=4) with rfl | rfl | rfl | rfl | rfl
 ·exact⟨1,by decide,by decide,rfl⟩
 ·exact⟨26,by decide,by decide,rfl⟩
 ·exact⟨676,by decide,by decide,rfl⟩
 ·exact⟨17576,by decide,by decide,rfl⟩
 ·exact⟨7,by decide,by decide,rfl⟩
theorem QD8{f:Nat}(hf:f<26)(d g:Int):∃ x:Str,Nh x f/\QaO [.int (f:Int),.int d,.int g]=.ok (.str x):=by
 obtain⟨q,hq,q5⟩:∃ q:Nat,d % 6=(q:Int)/\q<=5:=⟨(d % 6).toNat,by omega,by omega⟩
 have m6:dMod (.int d) (.int 6)=.ok (.int (q:Int)):=by rw[QK (by decide),hq]
 have x0:=ltr hf
 obtain⟨ς',hL,x,a5,rfl,h1,h2,h3⟩:=Qcm (body:=fun x ς=>gN 5 x ς>>=fun ς'=>QgN ς') (n:=q)
  (P:=fun k ς=>∃(x:Str)(a5:Option (SM×D)),ς=[some (.k,.int (f:Int)),some (.k,.int d),some (.k,.int g),some (.k,.str "abcdefghijklmnopqrstuvwxyz"),some (.k,.str x),a5]/\x.cps.toList.head?=some (97+f)/\x.length=k+1/\x.cps.toList.all inL=true)
  (by
   rintro k hk ς ⟨x,a5,rfl,h1,h2,h3⟩
   obtain⟨b,b0,bb,hb⟩:=pick5 (j:=k) (by omega)
   have hd:dFdiv (.int g) (.int b)=.ok (.int (g / b)):=QfC b0 bb
   obtain⟨i,hi,i26⟩:∃ i:Nat,g / b % 26=(i:Int)/\i<26:=⟨(g / b % 26).toNat,by omega,by omega⟩
   have hm:dMod (.int (g / b)) (.int 26)=.ok (.int (i:Int)):=by rw[QK (by decide),hi]
   have hl:=ltr i26
   have hadd:dAdd (.str x) (.str ⟨#[97+i]⟩)=.ok (.str (x++(⟨#[97+i]⟩:Str))):=by
    show(if x.length+(⟨#[97+i]⟩:Str).length<=sizeLine then _ else _)=_
    rw[if_pos]
    have:(1000:Nat)<=sizeLine:=by decide
    show x.length+1<=sizeLine
    omega
   refine⟨[some (.k,.int (f:Int)),some (.k,.int d),some (.k,.int g),some (.k,.str "abcdefghijklmnopqrstuvwxyz"),some (.k,.str (x++(⟨#[97+i]⟩:Str))),some ‹"ab"›],?_,_,_,rfl,?_,?_,?_⟩
   ·refine r_gN (by walk_at "s") ?_
    unfold QgN
    refine r_set (r_e2 (r_var rfl) (r_e2 (r_var rfl) (r_e2 (r_e2 (r_var rfl) (r_e2 (r_lst (Qe r_C (Qe r_C (Qe r_C ‹"dN"›))) (show 5<=1000 by decide)) (r_var rfl) hb) hd) r_C hm) hl) hadd) (by walk_at "s")
   ·rw[QIp,List.head?_append,h1];rfl
   ·show(x.cps ++ #[97+i]).size=_
    rw[Array.size_append]
    show x.length+1=_
    omega
   ·rw[QIp,List.all_append,h3]
    show(true&&(inL (97+i)&&true))=true
    rw[QIt i26];rfl)
  ‹"aQ"› ⟨_,_,rfl,rfl,rfl,by show(inL (97+f)&&true)=true;rw[QIt hf];rfl⟩
 have hR:itR1 (e2 dMod (eVar 1) (eC (.int 6))) ‹"aQ"›=.ok (QbT 0 q):=Qcb q (r_e2 (r_var rfl) r_C m6) (by omega)
 have hfor:=Qcw (g:=gN 5) (T:=QgN) hR hL
 refine⟨x,⟨h1,?_⟩,?_⟩
 ·unfold nmB
  rw[h2,h3,decide_eq_true (show 1<=q+1 by omega),decide_eq_true (show q+1<=6 by omega)];rfl
 ·rw[QFK]
  unfold Qjw
  exact Qbe (r_seq (r_set r_C (by walk_at "s")) (Ql (r_seq (r_set (r_e2 (r_var rfl) (r_var rfl) x0) (by walk_at "s")) (Ql (r_seq hfor (Ql (r_ret (r_var rfl)))))))) r_rt
theorem QNO{n nd k:Nat}(n1:1<=n)(n12:n<=12)(d1:1<=nd)(d6:nd<=6)(hk:k<n)(cell:Int)(ring:Bool):∃(w:Int)(t:‹"aY"›)(m:Nat)(ld:Nat->Int)(s:Int)(x:Str),Kd w t m/\(∀ j,j<m -> -(nd:Int)<=ld j/\ld j<(n:Int))/\(0<=s/\s<(t.length:Int))/\Nh x k/\
 QeY [.int cell,.int (k:Int),.int (n:Int),.int (nd:Int),.bl ring]=.ok (.tup [.int w,tbD t,rl m (fun j=>.int (ld j)),.int s,.str x]):=by
 obtain⟨g,hg,hdg⟩:=QjK cell (M:=26) (by decide)
 obtain⟨w,t,m,K',hrow⟩:=QOS hg (T:=cell % 2) (by omega)
 have tb:=K'.tb
 have t1:=tb.n1
 have m6:=tb.m6
 have mc:dMod (.int cell) (.int 2)=.ok (.int (cell % 2)):=QK (by decide)
 obtain⟨x,hx,hnm⟩:=QD8 (f:=k) (by omega) (g 22) (g 23)
 have x3:dIx (rl 26 ‹"J"›) (.int 3)=.ok (.int (g 3)):=dg_ix (M:=26) (i:=3) (by decide)
 have x22:dIx (rl 26 ‹"J"›) (.int 22)=.ok (.int (g 22)):=dg_ix (M:=26) (i:=22) (by decide)
 have x23:dIx (rl 26 ‹"J"›) (.int 23)=.ok (.int (g 23)):=dg_ix (M:=26) (i:=23) (by decide)
 have xl:∀ j:Nat,j<m->dIx (rl 26 ‹"J"›) (.int (4+(j:Int)))=.ok (.int (g (4+j))):=fun j hj=>by
  rw[show(4:Int)+(j:Int)=((4+j:Nat):Int) by omega]
  exact dg_ix (by omega)
 have r0:t[0]?=some t[0]:=by simp
 have hix:dIx (tbD t) (.int 0)=.ok (dl t[0]):=ixL 0 (by rw[List.getElem?_map,r0];rfl)
 have hl0:fLen [dl t[0]]=.ok (.int (m:Int)):=by simp[fLen,dl,tb.row _ (List.getElem_mem _)]
 have tl:fLen [tbD t]=.ok (.int (t.length:Int)):=by simp[fLen,tbD]
 have np:(0:Int)<(n:Int)+(nd:Int):=by omega
 have dp:(0:Int)<(nd:Int):=by omega
 generalize rl 26 ‹"cD"›=G at *
 generalize hTd:tbD t=Td at *
 obtain⟨ς',hL,ld,b9,b10,rfl,hld⟩:=Qcm (body:=fun x ς=>gN 9 x ς>>=fun ς'=>QhM ς') (n:=m)
  (P:=fun j ς=>∃(ld:Nat->Int)(b9 b10:Option (SM×D)),ς=[some (.k,.int cell),some ‹"ab"›,some ‹"aw"›,some ‹"ah"›,some (.k,.bl ring),some (.k,G),some (.k,.int w),some (.k,Td),some (.o,rl j (fun j=>.int (ld j))),b9,b10]/\∀ i,i<j -> -(nd:Int)<=ld i/\ld i<(n:Int))
  (by
   rintro j hj ς ⟨ld,b9,b10,rfl,hld⟩
   have hxj:=xl j hj
   generalize g (4+j)=x at *
   have y0:=Int.emod_nonneg x (show(n:Int)+(nd:Int)≠0 by omega)
   have y1:=Int.emod_lt_of_pos x np
   have hmd:dMod (.int x) (.int ((n:Int)+(nd:Int)))=.ok (.int (x % ((n:Int)+(nd:Int)))):=QK np
   generalize x % ((n:Int)+(nd:Int))=y at *
   have hdiv:sSet 10 ‹"cI"› [some (.k,.int cell),some ‹"ab"›,some ‹"aw"›,some ‹"ah"›,some (.k,.bl ring),some (.k,G),some (.k,.int w),some (.k,Td),some (.o,rl j (fun j=>.int (ld j))),some (.k,.int (j:Int)),b10]=.ok (.nx ‹"N"›):=r_set (r_e2 (r_e2 (r_var rfl) (r_e2 r_C (r_var rfl) (Qae _ _)) hxj) (r_e2 (r_var rfl) (r_var rfl) (Qae _ _)) hmd) (by walk_at "s")
   have hto:∃ z:Int,0<=z/\z<(n:Int)+(nd:Int)/\sIf (tAnd' (tNot' (tVal (eVar 4))) (tVal (e2 dLe (eVar 10) (eVar 1)))) (sSet 10 (e2 dAdd (eVar 2) (e2 dMod (eVar 10) (eVar 3)))) sNil ‹"N"›
    = .ok (.nx ‹"M"›):=by
    cases ring with
    | true=>
     refine⟨y,y0,y1,?_⟩
     (repeat walk_at "e")
    | false=>
     by_cases h:y<=(k:Int)
     ·have w0:=Int.emod_nonneg y (show(nd:Int)≠0 by omega)
      have w1:=Int.emod_lt_of_pos y dp
      have hle:dLe (.int y) ‹"cw"›=.ok (.bl true):=by rw[Qf6,decide_eq_true h]
      refine⟨(n:Int)+y % (nd:Int),by omega,by omega,?_⟩
      (repeat walk_at "e")
     ·have hle:dLe (.int y) ‹"cw"›=.ok (.bl false):=by rw[Qf6,decide_eq_false h]
      refine⟨y,y0,y1,?_⟩
      (repeat walk_at "e")
   obtain⟨z,z0,z1,hz⟩:=hto
   have hl:∃ v:Int, -(nd:Int)<=v/\v<(n:Int)/\eIf (tVal (e2 dLt (eVar 10) (eVar 2))) (eVar 10) (e2 dSub (e2 dSub (eVar 2) (eC (.int 1))) (eVar 10)) ‹"M"›=.ok (.int v):=by
    by_cases h:z<(n:Int)
    ·have hlt:dLt (.int z) (.int (n:Int))=.ok (.bl true):=by rw[QbC,decide_eq_true h]
     refine⟨z,by omega,h,?_⟩
     (repeat walk_at "e")
    ·have hlt:dLt (.int z) (.int (n:Int))=.ok (.bl false):=by rw[QbC,decide_eq_false h]
     refine⟨(n:Int) - 1 - z,by omega,by omega,?_⟩
     (repeat walk_at "e")
   obtain⟨v,v0,v1,hv⟩:=hl
   have ea:(List.range j).map (fun j=>D.int (ld j))++[.int v]=(List.range (j+1)).map (fun i=>D.int (if i<j then ld i else v)):=by
    rw[QwH]
    exact List.map_congr_left fun i _=>by split<;>rfl
   have hle:((List.range j).map (fun j=>D.int (ld j))).length<=1000:=by rw[List.length_map,List.length_range];omega
   refine⟨[some (.k,.int cell),some ‹"ab"›,some ‹"aw"›,some ‹"ah"›,some (.k,.bl ring),some (.k,G),some (.k,.int w),some (.k,Td),some (.o,rl (j+1) (fun i=>.int (if i<j then ld i else v))),some (.k,.int (j:Int)),some (.k,.int z)],?_,fun i=>if i<j then ld i else v,_,_,rfl,fun i hi=>?_⟩
   ·refine r_gN (by walk_at "s") ?_
    unfold QhM
    refine r_seq hdiv (Ql (r_seq hz (Ql ?_)))
    exact r_app (xs:=(List.range j).map (fun j=>D.int (ld j))) rfl hv hle (by rw[ea];walk_at "s")
   ·show -(nd:Int)<=(if i<j then ld i else v)/\(if i<j then ld i else v)<(n:Int)
    split
    ·rename_i w;exact hld i w
    ·exact⟨v0,v1⟩)
  ‹"aG"› ⟨fun _=>0,_,_,rfl,fun i hi=>absurd hi (by omega)⟩
 have hR:itR1 (eA fLen (aCons (e2 dIx (eVar 7) (eC (.int 0))) aNil)) ‹"aG"›=.ok (QbT 0 m):=Qcb m (r_eA (Qe (r_e2 (r_var rfl) r_C hix) r_nil) hl0) (by omega)
 have hfor:=Qcw (g:=gN 9) (T:=QhM) hR hL
 have s0:=Int.emod_nonneg (g 3) (show(t.length:Int)≠0 by omega)
 have s1:=Int.emod_lt_of_pos (g 3) (show(0:Int)<(t.length:Int) by omega)
 have ms:dMod (.int (g 3)) (.int (t.length:Int))=.ok (.int (g 3 % (t.length:Int))):=QK (by omega)
 refine⟨w,t,m,ld,g 3 % (t.length:Int),x,K',hld,⟨s0,s1⟩,hx,?_⟩
 generalize g 3 % (t.length:Int)=s at *
 have fin:(fun ς=>(sRet ‹"g"›) (frz 8 ς)) [some (.k,.int cell),some ‹"ab"›,some ‹"aw"›,some ‹"ah"›,some (.k,.bl ring),some (.k,G),some (.k,.int w),some (.k,Td),some (.o,rl m (fun j=>.int (ld j))),b9,b10]=.ok (.rt false (.tup [.int w,Td,rl m (fun j=>.int (ld j)),.int s,.str x])):=by
  refine QD0 (T:=sRet ‹"g"›) (QDM (i:=8) rfl rfl) ?_
  exact r_ret (r_tup (Qe (r_var rfl) (Qe (r_var rfl) (Qe (r_var rfl) (Qe (r_e2 ‹"aZ"› (r_eA ‹"l"› tl) ms) (Qe (Qaj (xs:=[.int (k:Int),.int (g 22),.int (g 23)]) (Qe (r_var rfl) (Qe (r_e2 (r_var rfl) r_C x22) (Qe (r_e2 (r_var rfl) r_C x23) r_nil))) rfl hnm) r_nil))))) (show 5<=1000 by decide))
 rw[hTd,QIH]
 unfold Qk7
 refine Qbe (fl:=.rt false (.tup [.int w,Td,rl m (fun j=>.int (ld j)),.int s,.str x])) ?_ r_rt
 refine r_seq (r_set (Qaj (xs:=[.int cell,.int 26]) ‹"aA"› rfl hdg) (by walk_at "s")) (Ql ?_)
 refine r_seq (r_unp (ys:=[.int w,Td]) (Qaj (xs:=[G,.int (cell % 2)]) (Qe (r_var rfl) (Qe (r_e2 (r_var rfl) r_C mc) r_nil)) rfl hrow) (by walk_at "all")) (Ql ?_)
 refine r_seq (Qeg (d:=.lst []) (by (repeat walk_at "e")) (by walk_at "s")) (Ql (r_seq hfor (Ql fin)))
def planD(kd:Nat->Int)(t:‹"bE"›)(m:Nat->Nat)(ld:Nat->Nat->Int)(st:Nat->Int)(nm:Nat->Str)(k:Nat):D:=.tup [.int (kd k),tbD (t k),rl (m k) ‹"T"›,.int (st k),.str (nm k)]
structure Plan(n nd:Nat)(kd:Nat->Int)(t:Nat->List (List Int))(m:Nat->Nat)(ld:Nat->Nat->Int)(st:Nat->Int)(nm:Nat->Str)(N:Nat):Prop where
 kd:∀ k,k<N->Kd (kd k) (t k) (m k)
 ldr:∀ k j,k<N->j<m k -> -(nd:Int)<=ld k j/\ld k j<(n:Int)
 str:∀ k,k<N->0<=st k/\st k<((t k).length:Int)
 nm:∀ k,k<N->Nh (nm k) k
theorem QO7(ns:List Int):∃(n nd:Nat)(kd:Nat->Int)(t:‹"bE"›)(m:Nat->Nat)(ld:Nat->Nat->Int)(st:Nat->Int)(nm:Nat->Str),1<=n/\n<=12/\1<=nd/\nd<=6/\Plan n nd kd t m ld st nm n/\
 QeV [.lst (ns.map .int),.int 12]=.ok (.tup [rl n ‹"q"›,.int (nd:Int)]):=by
 obtain⟨v,hv⟩:=Qo2 ns 0
 have hv:Q7 [.lst (ns.map .int),.int 0]=.ok (.int v):=hv
 obtain⟨g,hg,hdg⟩:=QjK v (M:=6) (by decide)
 have hdg:QY [.int v,.int 6]=.ok (rl 6 ‹"J"›):=hdg
 have x0:dIx (rl 6 ‹"J"›) (.int 0)=.ok (.int (g 0)):=dg_ix (M:=6) (i:=0) (by decide)
 have x1:dIx (rl 6 ‹"J"›) (.int 1)=.ok (.int (g 1)):=dg_ix (M:=6) (i:=1) (by decide)
 have x2:dIx (rl 6 ‹"J"›) (.int 2)=.ok (.int (g 2)):=dg_ix (M:=6) (i:=2) (by decide)
 have mv:dMod (.int v) (.int 2)=.ok (.int (v % 2)):=QK (by decide)
 obtain⟨A,hA,pA⟩:=pick2 12 5 (v % 2) (by omega)
 obtain⟨B,hB,pB⟩:=pick2 6 3 (v % 2) (by omega)
 have A1:0<A:=by rcases hA with rfl | rfl<;>decide
 have B1:0<B:=by rcases hB with rfl | rfl<;>decide
 have mA:dMod (.int (g 0)) (.int A)=.ok (.int (g 0 % A)):=QK A1
 have mB:dMod (.int (g 1)) (.int B)=.ok (.int (g 1 % B)):=QK B1
 have m2:dMod (.int (g 2)) (.int 2)=.ok (.int (g 2 % 2)):=QK (by decide)
 obtain⟨n,hn,n1,n12⟩:∃ n:Nat,1+g 0 % A=(n:Int)/\1<=n/\n<=12:=by
  have a:=Int.emod_nonneg (g 0) (b:=A) (by omega)
  have b:=Int.emod_lt_of_pos (g 0) A1
  exact⟨(1+g 0 % A).toNat,by omega,by omega,by rcases hA with rfl | rfl<;>omega⟩
 obtain⟨nd,hnd,d1,d6⟩:∃ n:Nat,1+g 1 % B=(n:Int)/\1<=n/\n<=6:=by
  have a:=Int.emod_nonneg (g 1) (b:=B) (by omega)
  have b:=Int.emod_lt_of_pos (g 1) B1
  exact⟨(1+g 1 % B).toNat,by omega,by omega,by rcases hB with rfl | rfl<;>omega⟩
 have cell:∀ k:Nat,∃ w:Int,Q7 [.lst (ns.map .int),.int (k:Int)]=.ok (.int w):=fun k=>Qo2 ns k
 generalize hS:D.lst (ns.map .int)=S at *
 generalize rl 6 ‹"cD"›=G at *
 generalize hr:decide (g 2 % 2=1)=ring
 obtain⟨ς',hL,kd,t,m,ld,st,nm,a8,rfl,pl⟩:=Qcm (body:=fun x ς=>gN 8 x ς>>=fun ς'=>QhT ς') (n:=n)
  (P:=fun N ς=>∃(kd:Nat->Int)(t:‹"bE"›)(m:Nat->Nat)(ld:Nat->Nat->Int)(st:Nat->Int)(nm:Nat->Str)(a8:Option (SM×D)),ς=[some (.k,S),some (.k,.int 12),some (.k,.int v),some (.k,G),some ‹"aw"›,some ‹"ah"›,some (.k,.bl ring),some (.o,rl N ‹"q"›),a8]/\Plan n nd kd t m ld st nm N)
  (by
   rintro k hk ς ⟨kd,t,m,ld,st,nm,a8,rfl,pl⟩
   obtain⟨w,hw⟩:=cell (1+k)
   have hw:Q7 [S,.int (1+(k:Int))]=.ok (.int w):=by
    have e:(((1+k:Nat)):Int)=1+(k:Int):=by omega
    rw[e]at hw;exact hw
   obtain⟨w',t',m',ld',s',x',K',hld',hs',hx',hseat⟩:=QNO n1 n12 d1 d6 hk w ring
   have hle:((List.range k).map ‹"q"›).length<=1000:=by rw[List.length_map,List.length_range];omega
   have ea:(List.range k).map ‹"q"›++[.tup [.int w',tbD t',rl m' (fun j=>.int (ld' j)),.int s',.str x']]=(List.range (k+1)).map ‹"U"›:=by
    rw[QwH]
    refine List.map_congr_left fun i hi=>?_
    unfold planD
    by_cases h:i<k
    ·simp only[if_pos h]
    ·simp only[if_neg h]
   refine⟨[some (.k,S),some (.k,.int 12),some (.k,.int v),some (.k,G),some ‹"aw"›,some ‹"ah"›,some (.k,.bl ring),some (.o,rl (k+1) ‹"U"›),some ‹"ab"›],?_,_,_,_,_,_,_,_,rfl,?_⟩
   ·refine r_gN (by walk_at "s") ?_
    unfold QhT
    exact r_app (xs:=(List.range k).map ‹"q"›) rfl (Qaj (xs:=[.int w,.int (k:Int),.int (n:Int),.int (nd:Int),.bl ring]) (Qe ‹"cc"› (Qe (r_var rfl) ‹"V"›)) rfl hseat) hle (by rw[ea];walk_at "s")
   ·refine⟨fun i hi=>?_,fun i j hi hj=>?_,fun i hi=>?_,fun i hi=>?_⟩
    ·by_cases h:i<k
     ·simp only[if_pos h];exact pl.kd i h
     ·simp only[if_neg h];exact K'
    ·by_cases h:i<k
     ·simp only[if_pos h]at hj ⊢;exact pl.ldr i j h hj
     ·simp only[if_neg h]at hj ⊢;exact hld' j hj
    ·by_cases h:i<k
     ·simp only[if_pos h];exact pl.str i h
     ·simp only[if_neg h];exact hs'
    ·by_cases h:i<k
     ·simp only[if_pos h];exact pl.nm i h
     ·have e:i=k:=by omega
      subst e
      simp only[if_neg h];exact hx')
  ‹"aU"› ⟨fun _=>0,fun _=>[],fun _=>0,fun _ _=>0,fun _=>0,fun _=>"",_,rfl,⟨fun i hi=>absurd hi (by omega),fun i j hi=>absurd hi (by omega),fun i hi=>absurd hi (by omega),fun i hi=>absurd hi (by omega)⟩⟩
 have hR:itR1 (eVar 4) ‹"aU"›=.ok (QbT 0 n):=Qcb n (r_var rfl) (by omega)
 have hfor:=Qcw (g:=gN 8) (T:=QhT) hR hL
 refine⟨n,nd,kd,t,m,ld,st,nm,n1,n12,d1,d6,pl,?_⟩
 have fin:(fun ς=>(sRet ‹"dk"›) (frz 7 ς)) [some (.k,S),some (.k,.int 12),some (.k,.int v),some (.k,G),some ‹"aw"›,some ‹"ah"›,some (.k,.bl ring),some (.o,rl n ‹"q"›),a8]=.ok (.rt false (.tup [rl n ‹"q"›,.int (nd:Int)])):=QD0 (T:=sRet ‹"dk"›) (QDM (i:=7) rfl rfl) (r_ret (r_tup ‹"dU"› (show 2<=1000 by decide)))
 rw[QJB]
 unfold QkJ
 refine Qbe (fl:=.rt false (.tup [rl n ‹"q"›,.int (nd:Int)])) ?_ r_rt
 refine r_seq (r_set (Qaj (xs:=[S,.int 0]) ‹"aA"› rfl hv) (by walk_at "s")) (Ql ?_)
 refine r_seq (r_set (Qaj (xs:=[.int v,.int 6]) ‹"aA"› rfl hdg) (by walk_at "s")) (Ql ?_)
 refine r_seq (r_set (d:=.int (n:Int)) (by
  rw[← hn]
  exact r_e2 r_C (r_e2 (r_e2 (r_var rfl) r_C x0) (r_e2 (r_lst ‹"aA"› (show 2<=1000 by decide)) (r_e2 (r_var rfl) r_C mv) pA) mA) (Qae _ _)) (by walk_at "s")) (Ql ?_)
 refine r_seq (r_set (d:=.int (nd:Int)) (by
  rw[← hnd]
  exact r_e2 r_C (r_e2 (r_e2 (r_var rfl) r_C x1) (r_e2 (r_lst ‹"dN"› (show 2<=1000 by decide)) (r_e2 (r_var rfl) r_C mv) pB) mB) (Qae _ _)) (by walk_at "s")) (Ql ?_)
 refine r_seq (r_set (d:=.bl ring) (by
  rw[← hr]
  exact r_e2 (r_e2 (r_e2 (r_var rfl) r_C x2) r_C m2) r_C (Q0 _ _)) (by walk_at "s")) (Ql ?_)
 refine r_seq (Qeg (d:=.lst []) (by (repeat walk_at "e")) (by walk_at "s")) (Ql (r_seq hfor (Ql fin)))
theorem QLV(ns:List Int){n nd:Nat}{kd:Nat->Int}{t:‹"bE"›}{m:Nat->Nat}{ld:Nat->Nat->Int}{st:Nat->Int}{nm:Nat->Str}(n1:1<=n)(n12:n<=12)(d1:1<=nd)(d6:nd<=6)(pl:Plan n nd kd t m ld st nm n):
 ∃(c dn:Nat->Str),Seats n nd nm dn c t m ld st/\Qc7 [.lst (ns.map .int),rl n ‹"q"›,.int (nd:Int)]=.ok ‹"cM"›:=by
 obtain⟨v,hv⟩:=Qo2 ns 0
 have hv:Q7 [.lst (ns.map .int),.int 0]=.ok (.int v):=hv
 obtain⟨g,hg,hdg⟩:=QjK v (M:=6) (by decide)
 have hdg:QY [.int v,.int 6]=.ok (rl 6 ‹"J"›):=hdg
 have x3:dIx (rl 6 ‹"J"›) (.int 3)=.ok (.int (g 3)):=dg_ix (M:=6) (i:=3) (by decide)
 have x4:dIx (rl 6 ‹"J"›) (.int 4)=.ok (.int (g 4)):=dg_ix (M:=6) (i:=4) (by decide)
 have H:∀ k,∃ c:Str,k<n->CK.contains c=true/\Qcj [.int (kd k),tbD (t k)]=.ok (ck c (t k) (m k)):=fun k=>by
  by_cases h:k<n
  ·obtain⟨c,h1,h2⟩:=QNr (pl.kd k h)
   exact⟨c,fun _=>⟨h1,h2⟩⟩
  ·exact⟨"Copy",fun z=>absurd z h⟩
 obtain⟨c,hc⟩:∃ c:Nat->Str,∀ k,k<n->CK.contains (c k)=true/\Qcj [.int (kd k),tbD (t k)]=.ok ‹"eo"›:=⟨fun k=>(H k).choose,fun k h=>(H k).choose_spec h⟩
 have H2:∀ d,∃ x:Str,d<nd->Nh x (12+d)/\QaO [.int (12+(d:Int)),.int (g 3),.int (g 4)]=.ok (.str x):=fun d=>by
  by_cases h:d<nd
  ·obtain⟨x,h1,h2⟩:=QD8 (f:=12+d) (by omega) (g 3) (g 4)
   rw[show((12+d:Nat):Int)=12+(d:Int) by omega]at h2
   exact⟨x,fun _=>⟨h1,h2⟩⟩
  ·exact⟨"",fun z=>absurd z h⟩
 obtain⟨dn,hdn⟩:∃ dn:Nat->Str,∀ d,d<nd->Nh (dn d) (12+d)/\QaO [.int (12+(d:Int)),.int (g 3),.int (g 4)]=.ok (.str (dn d)):=⟨fun d=>(H2 d).choose,fun d h=>(H2 d).choose_spec h⟩
 have sts:Seats n nd nm dn c t m ld st:=⟨n1,by omega,d1,by omega,fun k h=>(hc k h).1,fun k h=>(pl.kd k h).tb,pl.ldr,pl.str,fun k h=>(pl.nm k h).isn,fun d h=>(hdn d h).1.isn,fun i j hi hj e=>(pl.nm i hi).ne (pl.nm j hj) e,fun i j hi hj e=>by have:=(hdn i hi).1.ne (hdn j hj).1 e;omega,fun i d hi hd e=>by have:=(pl.nm i hi).ne (hdn d hd).1 e;omega⟩
 refine⟨c,dn,sts,?_⟩
 have mk:=QKw sts
 have hix:∀ k:Nat,k<n->dIx (rl n ‹"q"›) ‹"cw"›=.ok ‹"ej"›:=fun k h=>ixR h
 have hit:∀ ς:SD,ς[1]?=some (some (.k,rl n ‹"q"›))->itL (eVar 1) ς=.ok ((List.range n).map ‹"q"›):=fun ς h=>r_itL (r_var h)
 have hx4:∀ k,dIx ‹"ej"› (.int 4)=.ok (.str (nm k)):=fun k=>ixT 4 rfl
 generalize hS:D.lst (ns.map .int)=S at *
 generalize rl 6 ‹"cD"›=G at *
 generalize hP:rl n ‹"q"›=P at *
 have hends:∀ a5 a6 a7 a8 a9 a10 a11:Option (SM×D),eComp [none,some 3] (itR1 (eVar 2)) (gN 0) cTrue Qi5 [some (.k,S),some (.k,P),some ‹"ah"›,some (.k,G),none,a5,a6,a7,a8,a9,a10,a11]=.ok (rl nd ‹"u"›):=fun a5 a6 a7 a8 a9 a10 a11=>by
  refine Ql1 ‹"u"› (Qcb nd (r_var rfl) (by omega)) (fun d hd=>?_) (by omega)
  refine Qav (by walk_at "cap") (by walk_at "s") ?_
  unfold Qi5
  exact Qaj (xs:=[.int (12+(d:Int)),.int (g 3),.int (g 4)]) (Qe (r_e2 r_C (r_var rfl) (Qae _ _)) (Qe ‹"aZ"› (Qe (r_e2 (r_var rfl) r_C x4) r_nil))) rfl (hdn d hd).2
 have hdx:∀ d:Nat,d<nd->dIx (rl nd ‹"u"›) (.int (d:Int))=.ok (.str (dn d)):=fun d h=>ixR (f:=fun d=>D.str (dn d)) h
 generalize hE:rl nd (fun d=>D.str (dn d))=E at *
 obtain⟨ς',hL,a6,a7,a8,a9,a10,a11,rfl⟩:=Qqh (body:=fun x ς=>gT [6,7,8,9,10] x ς>>=fun ς'=>QfP ς') (f:=planD kd t m ld st nm) (n:=n)
  (P:=fun k ς=>∃(a6 a7 a8 a9 a10 a11:Option (SM×D)),ς=[some (.k,S),some (.k,P),some ‹"ah"›,some (.k,G),some (.k,E),some (.o,rl k ‹"A"›),a6,a7,a8,a9,a10,a11])
  (by
   rintro k hk ς ⟨a6,a7,a8,a9,a10,a11,rfl⟩
   have m6:=(sts.tb k hk).m6
   have hcl:=(hc k hk).2
   have hcm:eComp [none,some 4,some 1] (itL (eVar 8)) (gN 0) cTrue QiQ [some (.k,S),some (.k,P),some ‹"ah"›,some (.k,G),some (.k,E),some (.o,rl k ‹"A"›),some (.k,.int (kd k)),some (.k,tbD (t k)),some (.k,rl (m k) ‹"T"›),some (.k,.int (st k)),some (.k,.str (nm k)),a11]=.ok (rl (m k) ‹"bb"›):=by
    refine Qas (fun j=>D.int (ld k j)) (fun j=>D.str (nml nm dn (ld k j))) rfl (fun j hj=>?_) (by rw[List.length_range];omega)
    obtain⟨r1,r2⟩:=sts.ldr k j hk (List.mem_range.mp hj)
    refine Qav (τ0:=[none,some (.k,E),some (.k,P)]) (Qe4 (c_k rfl (c_k rfl c_nil))) (by walk_at "s") ?_
    unfold QiQ nml
    by_cases h:ld k j<0
    ·rw[if_pos h]
     have y:=hdx (-1 - ld k j).toNat (by omega)
     rw[Int.toNat_of_nonneg (by omega)]at y
     refine r_eIf (b:=true) (by rw[QH (r_e2 (r_var rfl) r_C (QbC _ _)),decide_eq_true h]) (Qdw rfl ?_)
     exact r_e2 (r_var rfl) (r_e2 (r_e1 r_C (Qex _)) (r_var rfl) (QdV _ _)) y
    ·rw[if_neg h]
     have y:=hix (ld k j).toNat (by omega)
     rw[Int.toNat_of_nonneg (by omega)]at y
     refine r_eIf (b:=false) (by rw[QH (r_e2 (r_var rfl) r_C (QbC _ _)),decide_eq_false h]) (QbO rfl ?_)
     exact r_e2 (r_e2 (r_var rfl) (r_var rfl) y) r_C (hx4 _)
   have ea:(List.range k).map ‹"A"›++[.tup [.str (nm k),ck (c k) (t k) (m k),rl (m k) ‹"bb"›,.int (st k)]]=(List.range (k+1)).map ‹"A"›:=by
    rw[List.range_succ,List.map_append];rfl
   have hle:((List.range k).map ‹"A"›).length<=1000:=by rw[List.length_map,List.length_range];omega
   refine⟨[some (.k,S),some (.k,P),some ‹"ah"›,some (.k,G),some (.k,E),some (.o,rl (k+1) ‹"A"›),some (.k,.int (kd k)),some (.k,tbD (t k)),some (.k,rl (m k) ‹"T"›),some (.k,.int (st k)),some (.k,.str (nm k)),some (.k,rl (m k) ‹"bb"›)],?_,_,_,_,_,_,_,rfl⟩
   unfold planD
   refine r_gT (by walk_at "all") ?_
   unfold QfP
   refine r_seq (r_set hcm (by walk_at "s")) (Ql ?_)
   exact r_app (xs:=(List.range k).map ‹"A"›) rfl (r_tup (Qe (r_var rfl) (Qe (Qaj (xs:=[.int (kd k),tbD (t k)]) ‹"dU"› rfl hcl) ‹"dU"›)) (show 4<=1000 by decide)) hle (by rw[ea];walk_at "s"))
  [some (.k,S),some (.k,P),some ‹"ah"›,some (.k,G),some (.k,E),some (.o,.lst []),none,none,none,none,none,none] ⟨_,_,_,_,_,_,rfl⟩
 have hfor:=Qcw (g:=gT [6,7,8,9,10]) (T:=QfP) (hit _ rfl) hL
 have fin:(fun ς=>(sRetF ‹"n"›) (frz 5 ς)) [some (.k,S),some (.k,P),some ‹"ah"›,some (.k,G),some (.k,E),some (.o,rl n ‹"A"›),a6,a7,a8,a9,a10,a11]=.ok (.rt true ‹"cM"›):=by
  refine QD0 (T:=sRetF ‹"n"›) (QDM (i:=5) rfl rfl) ?_
  unfold offD
  exact Qs0 (QLJ (Qe (r_var rfl) (Qe (r_lst (Qe (r_tup (Qe r_C (Qe (r_e2 (r_e2 (r_var rfl) r_C (hix 0 (by omega))) r_C (hx4 0)) r_nil)) (show 2<=1000 by decide)) r_nil) (show 1<=1000 by decide)) ‹"l"›)) mk)
 rw[QEB]
 unfold QhC
 refine Qbe (fl:=.rt true ‹"cM"›) ?_ r_rtT
 refine r_seq (r_set ‹"cm"› (by walk_at "s")) (Ql ?_)
 refine r_seq (r_set (hends _ _ _ _ _ _ _) (by walk_at "s")) (Ql ?_)
 refine r_seq (Qeg (d:=.lst []) (by (repeat walk_at "e")) (by walk_at "s")) (Ql (r_seq hfor (Ql fin)))
theorem QNT(ns:List Int){n:Nat}(hn:n<=12):∃ K:Nat->Int,(∀ i,i<n->0<=K i)/\QdC [.lst (ns.map .int),.int (n:Int)]=.ok (rl n ‹"aa"›):=by
 have cell:∀ k:Nat,∃ w:Int,Q7 [.lst (ns.map .int),.int (k:Int)]=.ok (.int w):=fun k=>Qo2 ns k
 generalize hS:D.lst (ns.map .int)=S at *
 obtain⟨ς',hL,K,a3,a4,a5,a6,rfl,hK⟩:=Qcm (body:=fun x ς=>gN 3 x ς>>=fun ς'=>QgO ς') (n:=n)
  (P:=fun k ς=>∃(K:Nat->Int)(a3 a4 a5 a6:Option (SM×D)),ς=[some (.k,S),some ‹"aw"›,some (.o,rl k ‹"aa"›),a3,a4,a5,a6]/\∀ i,i<k->0<=K i)
  (by
   rintro k hk ς ⟨K,a3,a4,a5,a6,rfl,hK⟩
   obtain⟨w,hw⟩:=cell (1+k)
   have hw:Q7 [S,.int (1+(k:Int))]=.ok (.int w):=by
    have e:(((1+k:Nat)):Int)=1+(k:Int):=by omega
    rw[e]at hw;exact hw
   obtain⟨g,hg,hdg⟩:=QjK w (M:=26) (by decide)
   have hdg:QY [.int w,.int 26]=.ok (rl 26 ‹"J"›):=hdg
   have x24:dIx (rl 26 ‹"J"›) (.int 24)=.ok (.int (g 24)):=dg_ix (M:=26) (i:=24) (by decide)
   have x25:dIx (rl 26 ‹"J"›) (.int 25)=.ok (.int (g 25)):=dg_ix (M:=26) (i:=25) (by decide)
   have g0:=(hg 24 (by decide)).1
   have m2:dMod (.int w) (.int 2)=.ok (.int (w % 2)):=QK (by decide)
   have m6:dMod (.int (g 24)) (.int 6)=.ok (.int (g 24 % 6)):=QK (by decide)
   have m4:dMod (.int (g 25)) (.int 4)=.ok (.int (g 25 % 4)):=QK (by decide)
   generalize rl 26 ‹"cD"›=G at *
   have hif:∃ z:Int,0<=z/\sIf ‹"ay"› (sSet 6 (e2 dIx (eVar 5) (eC (.int 24)))) sNil ‹"v"›=.ok (.nx [some (.k,S),some ‹"aw"›,some (.o,rl k ‹"aa"›),some ‹"ab"›,some (.k,.int w),some (.k,G),some (.k,.int z)]):=by
    have t1:tVal (e2 dEq (e2 dMod (eVar 4) (eC (.int 2))) (eC (.int 0))) ‹"v"›=.ok (decide (w % 2=0)):=QH (r_e2 (r_e2 (r_var rfl) r_C m2) r_C (Q0 _ _))
    have t2:tVal (e2 dEq (e2 dMod (e2 dIx (eVar 5) (eC (.int 25))) (eC (.int 4))) (eC (.int 3))) ‹"v"›=.ok (decide (g 25 % 4=3)):=QH (r_e2 (r_e2 (r_e2 (r_var rfl) r_C x25) r_C m4) r_C (Q0 _ _))
    cases h1:decide (w % 2=0) with
    | false=>
     rw[h1]at t1
     exact⟨g 24 % 6,by omega,r_ifF (Qh3 t1 (QbO rfl rfl)) rfl QcJ⟩
    | true=>
     rw[h1]at t1
     cases h2:decide (g 25 % 4=3) with
     | false=>
      rw[h2]at t2
      exact⟨g 24 % 6,by omega,r_ifF (Qh3 t1 (Qdw rfl t2)) rfl QcJ⟩
     | true=>
      rw[h2]at t2
      exact⟨g 24,g0,r_ifT (Qh3 t1 (Qdw rfl t2)) rfl (r_set (r_e2 (r_var rfl) r_C x24) (by walk_at "s"))⟩
   obtain⟨z,z0,hz⟩:=hif
   have mz:dMod (.int z) (.int 6)=.ok (.int (z % 6)):=QK (by decide)
   obtain⟨b,b0,hb⟩:∃ b:Int,0<=b/\dIx (.lst [.int 0,.int 1,.int 2,.int 3,.int 0,.int 5]) (.int (z % 6))=.ok (.int b):=by
    rcases(by omega:z % 6=0∨z % 6=1∨z % 6=2∨z % 6=3∨z % 6=4∨z % 6=5) with e | e | e | e | e | e<;>rw[e]
    ·exact⟨0,by decide,rfl⟩
    ·exact⟨1,by decide,rfl⟩
    ·exact⟨2,by decide,rfl⟩
    ·exact⟨3,by decide,rfl⟩
    ·exact⟨0,by decide,rfl⟩
    ·exact⟨5,by decide,rfl⟩
   obtain⟨e,he,hx⟩:=pick2 z b (w % 2) (by omega)
   have e0:0<=e:=by rcases he with rfl | rfl<;>assumption
   have ea:(List.range k).map (fun j=>D.int (K j))++[.int e]=(List.range (k+1)).map (fun i=>D.int (if i<k then K i else e)):=by
    rw[QwH]
    exact List.map_congr_left fun i _=>by split<;>rfl
   have hle:((List.range k).map (fun j=>D.int (K j))).length<=1000:=by rw[List.length_map,List.length_range];omega
   refine⟨[some (.k,S),some ‹"aw"›,some (.o,rl (k+1) (fun i=>.int (if i<k then K i else e))),some ‹"ab"›,some (.k,.int w),some (.k,G),some (.k,.int z)],?_,fun i=>if i<k then K i else e,_,_,_,_,rfl,fun i hi=>?_⟩
   ·refine r_gN (by walk_at "s") ?_
    unfold QgO
    refine r_seq (r_set ‹"cc"› (by walk_at "s")) (Ql ?_)
    refine r_seq (r_set (Qaj (xs:=[.int w,.int 26]) ‹"aA"› rfl hdg) (by walk_at "s")) (Ql ?_)
    refine r_seq (r_set (r_e2 (r_e2 (r_var rfl) r_C x24) r_C m6) (by walk_at "s")) (Ql ?_)
    refine r_seq hz (Ql ?_)
    exact r_app (xs:=(List.range k).map (fun j=>D.int (K j))) rfl (r_e2 (r_lst (xs:=[.int z,.int b]) (Qe (r_var rfl) (Qe (r_e2 (r_lst (Qe r_C (Qe r_C (Qe r_C (Qe r_C ‹"dN"›)))) (show 6<=1000 by decide)) (r_e2 (r_var rfl) r_C mz) hb) r_nil)) (show 2<=1000 by decide)) (r_e2 (r_var rfl) r_C m2) hx) hle (by rw[ea];walk_at "s")
   ·show 0<=(if i<k then K i else e)
    split
    ·rename_i w;exact hK i w
    ·exact e0)
  ‹"ex"› ⟨fun _=>0,_,_,_,_,rfl,fun i hi=>absurd hi (by omega)⟩
 have hR:itR1 (eVar 1) ‹"ex"›=.ok (QbT 0 n):=Qcb n (r_var rfl) (by omega)
 have hfor:=Qcw (g:=gN 3) (T:=QgO) hR hL
 refine⟨K,hK,?_⟩
 rw[QGt]
 unfold Qjr
 exact Qbe (fl:=.rt true (rl n ‹"aa"›)) (r_seq (Qeg (d:=.lst []) (by (repeat walk_at "e")) (by walk_at "s")) (Ql (r_seq hfor (Ql (QCK rfl))))) r_rtT
theorem QxD(i:Int):QcR [.int i]=.ok (.bl true):=by
 rfl
theorem Qs2{n:Nat}(hn:n<=1000)(f:Nat->Int):QbV [rl n (fun i=>.int (f i)),rl n (fun i=>.int (f i))]=.ok (.bl true):=by
 have hl:=lenR n ‹"el"›
 have hx:∀ k,k<n->dIx (rl n ‹"el"›) ‹"cw"›=.ok (.int (f k)):=fun k hk=>ixR (f:=fun i=>D.int (f i)) hk
 have hi:isaT "list" (rl n ‹"el"›)=.ok true:=rfl
 have hne:∀ z:Int,dNe (.int z) (.int z)=.ok (.bl false):=fun z=>by rw[QcW,decide_eq_true rfl];rfl
 generalize rl n ‹"el"›=A at *
 obtain⟨ς',hL,a2,rfl⟩:=Qcm (body:=fun x ς=>gN 2 x ς>>=fun ς'=>Qf1 ς') (n:=n) (P:=fun _ ς=>∃ a2,ς=[some (.k,A),some (.k,A),a2])
  (by
   rintro k hk ς ⟨a2,rfl⟩
   have h1:=hx k hk
   have h2:=QxD (f k)
   refine⟨[some (.k,A),some (.k,A),some ‹"ab"›],?_,_,rfl⟩
   refine r_gN (by walk_at "s") ?_
   unfold Qf1
   exact r_ifF (r_or' (b:=false) (Qmp (b:=true) (QH (Qaj (xs:=[.int (f k)]) (Qe (r_e2 (r_var rfl) (r_var rfl) h1) r_nil) rfl h2))) (QbO rfl (QH (r_e2 (r_e2 (r_var rfl) (r_var rfl) h1) (r_e2 (r_var rfl) (r_var rfl) h1) (hne _))))) rfl QcJ)
  [some (.k,A),some (.k,A),none] ⟨_,rfl⟩
 have hR:itR1 ‹"ea"› [some (.k,A),some (.k,A),none]=.ok (QbT 0 n):=Qcb n (r_eA ‹"l"› hl) (by omega)
 have hfor:=Qcw (g:=gN 2) (T:=Qf1) hR hL
 rw[QDb]
 unfold Qht
 refine Qbe (fl:=.rt false (.bl true)) ?_ r_rt
 refine r_seq (r_ifF (r_or' (b:=false) (Qmp (b:=true) (QH (r_isa (r_var rfl) hi))) (QbO rfl (QH (r_e2 (r_eA ‹"l"› hl) (r_eA ‹"l"› hl) (hne _))))) rfl QcJ) (Ql (r_seq hfor (Ql (r_ret r_C))))
section
variable{n nd:Nat}{nm dn c:Nat->Str}{t:Nat->List (List Int)}{m:Nat->Nat}{ld:Nat->Nat->Int}{st:Nat->Int}(hs:Seats n nd nm dn c t m ld st){kd:Nat->Int}
include hs
theorem QOx{S K:Nat->Int}{k:Nat}(hk:k<n)(s0:0<=S k)(s1:S k<((t k).length:Int)):
 QdA [rl n ‹"q"›,.int (nd:Int),rl n ‹"dZ"›,rl n ‹"aa"›,.int (k:Int)]=
  .ok (.tup [rl n ‹"co"›,rl n ‹"al"›,rl nd (fun i=>.int (0+dkt (m k) (ld k) (rw' (t k) (S k)) ‹"aW"›))]):=by
 have n2:=hs.n2
 have d2:=hs.d2
 have tb:=hs.tb k hk
 have n1:=tb.n1
 have m6:=tb.m6
 obtain⟨r,hr⟩:∃ r:Nat,S k=(r:Int):=⟨(S k).toNat,by omega⟩
 have hrl:r<(t k).length:=by omega
 have hrow:dIx (tbD (t k)) (.int (S k))=.ok (rl (m k) (fun j=>.int (rw' (t k) (S k) j))):=by
  have hg:(t k).getD r []=(t k)[r]:=by simp[List.getD_eq_getElem?_getD,List.getElem?_eq_getElem hrl]
  have hm:((t k)[r]).length=m k:=tb.row _ (List.getElem_mem hrl)
  have hx:dIx (tbD (t k)) (.int (r:Int))=.ok (dl (t k)[r]):=ixL r (by rw[List.getElem?_map,List.getElem?_eq_getElem hrl];rfl)
  have e:rl (m k) (fun j=>D.int (rw' (t k) (r:Int) j))=dl (t k)[r]:=by
   unfold dl rw'
   rw[QLg hm,Int.toNat_natCast,hg]
  rw[hr,hx,e]
 have hP:dIx (rl n ‹"q"›) ‹"cw"›=.ok ‹"ej"›:=ixR hk
 have hP1:dIx ‹"ej"› (.int 1)=.ok (tbD (t k)):=ixT 1 rfl
 have hP2:dIx ‹"ej"› (.int 2)=.ok ‹"cC"›:=ixT 2 rfl
 have htl:fLen [tbD (t k)]=.ok ‹"et"›:=by simp[fLen,tbD]
 have hll:=lenR (m k) (fun j=>D.int (ld k j))
 have hx1:dIx (rl n ‹"em"›) ‹"cw"›=.ok (.int (S k)):=ixR (f:=fun i=>D.int (S i)) hk
 have hx2:dIx (rl n ‹"bc"›) ‹"cw"›=.ok (.int (K k)):=ixR (f:=fun i=>D.int (K i)) hk
 have hn1:=ixNR hk ‹"em"›
 have hn2:=ixNR hk ‹"bc"›
 have p1:((List.range n).map fun i=>D.int (S i)).set k ‹"cB"›=(List.range n).map fun i=>D.int (up1 t S k i):=Qw6 hk S _
 have p2:((List.range n).map fun i=>D.int (K i)).set k (.int (K k - 1))=(List.range n).map fun i=>D.int (dn1 K k i):=Qw6 hk K _
 have hmod:dMod (.int (S k+1)) ‹"et"›=.ok ‹"cB"›:=QK (by omega)
 have l1:dList (rl n ‹"em"›)=.ok (rl n ‹"em"›):=rfl
 have l2:dList (rl n ‹"bc"›)=.ok (rl n ‹"bc"›):=rfl
 have hrep:=QKM (x:=.int 0) (N:=nd) (by omega)
 have hlx:∀ j,j<m k->dIx (rl (m k) (fun j=>D.int (ld k j))) (.int (j:Int))=.ok (.int (ld k j)):=fun j hj=>ixR (f:=fun j=>D.int (ld k j)) hj
 have hwx:∀ j,j<m k->dIx (rl (m k) (fun j=>D.int (rw' (t k) (S k) j))) (.int (j:Int))=.ok (.int (rw' (t k) (S k) j)):=fun j hj=>ixR (f:=fun j=>D.int (rw' (t k) (S k) j)) hj
 have hldr:=fun j hj=>hs.ldr k j hk hj
 generalize rl n ‹"q"›=P at *
 generalize planD kd t m ld st nm k=Pk at *
 generalize tbD (t k)=Tk at *
 generalize rl (m k) (fun j=>D.int (ld k j))=Ls at *
 generalize rl (m k) (fun j=>D.int (rw' (t k) (S k) j))=Rs at *
 generalize hl:ld k=l at *
 generalize hw:rw' (t k) (S k)=w at *
 generalize dn1 K k=F at *
 obtain⟨ς',hL,a11,rfl⟩:=Qcm (body:=fun x ς=>gN 11 x ς>>=fun ς'=>QhR ς') (n:=m k)
  (P:=fun j ς=>∃ a11,ς=[some (.k,P),some ‹"ah"›,some (.k,rl n ‹"dZ"›),some (.k,rl n ‹"aa"›),some ‹"ab"›,some (.k,Tk),some (.k,Ls),some (.k,Rs),some (.o,rl n ‹"co"›),some (.o,rl n (fun i=>.int ‹"bi"›)),some (.o,rl nd (fun i=>.int (0+dkt j l w ‹"aW"›))),a11])
  (by
   rintro j hj ς ⟨a11,rfl⟩
   obtain⟨q0,q1⟩:=hldr j hj
   have ex:=hlx j hj
   have ew:=hwx j hj
   generalize hSd:rl n ‹"em"›=Sd at *
   generalize hKd:rl n ‹"bc"›=Kd at *
   generalize rl n (fun i=>D.int (up1 t S k i))=Ud at *
   refine⟨[some (.k,P),some ‹"ah"›,some (.k,Sd),some (.k,Kd),some ‹"ab"›,some (.k,Tk),some (.k,Ls),some (.k,Rs),some (.o,Ud),some (.o,rl n (fun i=>.int ‹"cq"›)),some (.o,rl nd (fun i=>.int (0+dkt (j+1) l w ‹"aW"›))),some (.k,.int (j:Int))],?_,_,rfl⟩
   refine r_gN (by walk_at "s") ?_
   unfold QhR
   by_cases h:l j<0
   ·obtain⟨p,hp⟩:∃ p:Nat, -1 - l j=(p:Int):=⟨(-1 - l j).toNat,by omega⟩
    have hpn:p<nd:=by omega
    have hx:dIx (rl nd (fun i=>.int (0+dkt j l w ‹"aW"›))) (.int (p:Int))=.ok (.int (0+dkt j l w (-1 - (p:Int)))):=ixR hpn
    have hn:=ixNR hpn (fun i=>D.int (0+dkt j l w ‹"aW"›))
    have hset:((List.range nd).map fun i:Nat=>D.int (0+dkt j l w ‹"aW"›)).set p (.int (0+dkt j l w (-1 - (p:Int))+w j))=(List.range nd).map fun i:Nat=>D.int (0+dkt (j+1) l w ‹"aW"›):=by
     rw[QtO hpn (fun i=>0+dkt j l w ‹"aW"›) (w j)]
     apply List.map_congr_left
     intro i _
     show D.int (0+dkt j l w ‹"aW"›+‹"cH"›)=D.int (0+‹"aq"›)
     by_cases e:p=i
     ·subst e
      rw[if_pos rfl,if_pos (by omega),Int.add_assoc]
     ·rw[if_neg (by omega),if_neg (by omega),Int.add_zero,Int.add_zero]
    have hF:rl n (fun i=>D.int ‹"cq"›)=rl n (fun i=>D.int ‹"bi"›):=QeN fun i _=>by
     show D.int ‹"aF"›=_
     rw[if_neg (by omega),Int.add_zero]
    rw[hF]
    refine r_ifT (QH (r_e2 (r_e2 (r_var rfl) (r_var rfl) ex) r_C (QbC _ _))) (decide_eq_true h) ?_
    have hi:e2 dSub ‹"aK"› ‹"cp"› ‹"C"›=.ok (.int (p:Int)):=by
     rw[← hp]
     exact r_e2 (r_e1 r_C (Qex _)) (r_e2 (r_var rfl) (r_var rfl) ex) (QdV _ _)
    exact r_put (k:=(p:Int)) (j:=p) ‹"dY"› rfl hi hn (by rw[hset];walk_at "s")
   ·obtain⟨p,hp⟩:∃ p:Nat,l j=(p:Int):=⟨(l j).toNat,by omega⟩
    have hpn:p<n:=by omega
    have hx:dIx (rl n (fun i=>.int ‹"bi"›)) (.int (p:Int))=.ok (.int (F p+dkt j l w (p:Int))):=ixR hpn
    have hn:=ixNR hpn (fun i=>D.int ‹"bi"›)
    have hset:((List.range n).map fun i:Nat=>D.int ‹"bi"›).set p (.int (F p+dkt j l w (p:Int)+w j))=(List.range n).map fun i:Nat=>D.int ‹"cq"›:=by
     rw[QtO hpn (fun i=>F i+dkt j l w (i:Int)) (w j)]
     apply List.map_congr_left
     intro i _
     show D.int (F i+dkt j l w (i:Int)+‹"cH"›)=D.int ‹"aF"›
     rw[hp,Int.add_assoc]
    have hG:rl nd (fun i=>D.int (0+dkt (j+1) l w ‹"aW"›))=rl nd (fun i=>D.int (0+dkt j l w ‹"aW"›)):=QeN fun i _=>by
     show D.int (0+‹"aq"›)=_
     rw[if_neg (by omega),Int.add_zero]
    rw[hG]
    refine r_ifF (QH (r_e2 (r_e2 (r_var rfl) (r_var rfl) ex) r_C (QbC _ _))) (decide_eq_false h) ?_
    have hi:e2 dIx (eVar 6) (eVar 11) ‹"C"›=.ok (.int (p:Int)):=by
     rw[← hp]
     exact r_e2 (r_var rfl) (r_var rfl) ex
    exact r_put (k:=(p:Int)) (j:=p) ‹"dY"› rfl hi hn (by rw[hset];walk_at "s"))
  ‹"x"› ⟨none,by
   have h1:rl n (fun i=>D.int (F i))=rl n (fun i=>D.int (F i+dkt 0 l w (i:Int))):=QeN fun i _=>by show D.int (F i)=D.int (F i+0);rw[Int.add_zero]
   have h2:rl nd (fun _=>D.int 0)=rl nd (fun i=>D.int (0+dkt 0 l w ‹"aW"›)):=QeN fun i _=>rfl
   rw[h1,h2]⟩
 have hR:itR1 (eA fLen (aCons (eVar 6) aNil)) ‹"x"›=.ok (QbT 0 (m k)):=Qcb (m k) (r_eA ‹"l"› hll) (by omega)
 have hfor:=Qcw (g:=gN 11) (T:=QhR) hR hL
 rw[QJ3]
 unfold QkZ
 refine Qbe (fl:=.rt false (.tup [rl n ‹"co"›,rl n (fun i=>.int (F i+dkt (m k) l w (i:Int))),rl nd (fun i=>.int (0+dkt (m k) l w ‹"aW"›))])) ?_ r_rt
 refine r_seq (r_set (r_e2 (r_e2 (r_var rfl) (r_var rfl) hP) r_C hP1) (by walk_at "s")) (Ql ?_)
 refine r_seq (r_set (r_e2 (r_e2 (r_var rfl) (r_var rfl) hP) r_C hP2) (by walk_at "s")) (Ql ?_)
 refine r_seq (r_set (r_e2 (r_var rfl) (r_e2 (r_var rfl) (r_var rfl) hx1) hrow) (by walk_at "s")) (Ql ?_)
 refine r_seq (Qeg (r_e1 (r_var rfl) l1) (by walk_at "s")) (Ql ?_)
 refine r_seq (r_put (k:=(k:Int)) (j:=k) (r_e2 (r_e2 (r_e2 (r_var rfl) (r_var rfl) hx1) r_C (Qae _ _)) (r_eA ‹"l"› htl) hmod) rfl (r_var rfl) hn1 (by rw[p1];walk_at "s")) (Ql ?_)
 refine r_seq (Qeg (r_e1 (r_var rfl) l2) (by walk_at "s")) (Ql ?_)
 refine r_seq (r_put (k:=(k:Int)) (j:=k) (r_e2 (r_e2 (Qdg rfl) (r_var rfl) hx2) r_C (QdV _ _)) rfl (r_var rfl) hn2 (by rw[p2];walk_at "s")) (Ql ?_)
 refine r_seq (Qeg (r_e2 (r_lst (Qe r_C r_nil) (show 1<=1000 by decide)) (r_var rfl) hrep) (by walk_at "s")) (Ql ?_)
 refine r_seq hfor (Ql ?_)
 exact r_ret (ς:=[some (.k,P),some ‹"ah"›,some (.k,rl n ‹"dZ"›),some (.k,rl n ‹"aa"›),some ‹"ab"›,some (.k,Tk),some (.k,Ls),some (.k,Rs),some (.k,rl n ‹"co"›),some (.k,rl n (fun i=>.int (F i+dkt (m k) l w (i:Int)))),some (.k,rl nd (fun i=>.int (0+dkt (m k) l w ‹"aW"›))),a11]) (r_tup ‹"V"› (show 3<=1000 by decide))
end
theorem Qy9{c:SD->Out Bool}{b:SD->Out Fl}{ς:SD}(h:c ς=.ok false):Qb1 c b ς=.ok (.nx ς):=by
 rw[QpO,h];rfl
theorem wh_go{c:SD->Out Bool}{b:SD->Out Fl}{ς ς':SD}{r:Out Fl}(h:c ς=.ok true)(hb:b ς=.ok (.nx ς'))(k:Qb1 c b ς'=r):Qb1 c b ς=r:=by
 rw[QpO,h,Out.bind_ok,if_pos rfl,hb]
 exact k
theorem Qo0{T:SD->Out Fl}{U:SD->Out D}{ς ς':SD}{r:Out D}(a:T ς=.ok (.nx ς'))(k:U ς'=r):DL.tSeq T U ς=r:=by
 unfold DL.tSeq
 rw[a]
 exact k
theorem QPH{i:Nat}{E:SD->Out D}{ς ς':SD}{xs:List D}{d:D}(e:ς[i]?=some (some (.o,.lst xs)))(a:E ς=.ok d)(k:xs.length<=5000)(l:ς.set i (some (.o,.lst (xs++[d])))=ς'):Qb3 i E ς=.ok (.nx ς'):=by
 have hz:xs.length<sizeLine:=Nat.lt_of_le_of_lt k (by decide)
 unfold Qb3;rw[e];show(E ς>>=fun d=>if decide (xs.length<sizeLine)=true then _ else _)=_;rw[a,Out.bind_ok,if_pos (decide_eq_true hz),l]
def nz(l:List Nat):D:=.lst (l.map fun k:Nat=>D.int (k:Int))
theorem QlY(l:List Nat):fLen [nz l]=.ok (.int (l.length:Int)):=by simp[fLen,nz]
theorem nz_ix{l:List Nat}{i:Nat}(h:i<l.length):dIx (nz l) (.int (i:Int))=.ok (.int ((l[i]:Nat):Int)):=ixL i (by rw[List.getElem?_map,List.getElem?_eq_getElem h];rfl)
theorem QIu(l:List Nat):(l.map fun k:Nat=>D.int (k:Int)).all D.scal=true:=List.all_eq_true.mpr fun d hd=>by
 obtain⟨k,_,rfl⟩:=List.mem_map.mp hd;rfl
def rdK(n:Nat)(K:Nat->Int):List Nat:=(List.range n).filter fun i=>decide (0<K i)
def pkN(pk:List Int)(rd:List Nat)(z:Nat):Nat:=if pk.length=0 then rd.getD 0 0 else rd.getD ((pk.getD ((z:Int) % (pk.length:Int)).toNat 0) % (rd.length:Int)).toNat 0
theorem QiS{α:Type}{l:List α}{i:Nat}{d:α}(h:i<l.length):l.getD i d=l[i]:=by simp[List.getD_eq_getElem?_getD,List.getElem?_eq_getElem h]
theorem QIv{n:Nat}{K:Nat->Int}{k:Nat}:k∈rdK n K->k<n/\0<K k:=fun h=>by
 unfold rdK at h
 rw[List.mem_filter,List.mem_range,decide_eq_true_eq]at h
 exact h
theorem QEj{rd:List Nat}(h:rd≠[]){v:Int}:∃ q:Nat,v % (rd.length:Int)=(q:Int)/\∃ q1:q<rd.length,rd.getD (v % (rd.length:Int)).toNat 0=rd[q]:=by
 have hl:0<rd.length:=List.length_pos_iff.mpr h
 have a:=Int.emod_nonneg v (b:=(rd.length:Int)) (by omega)
 have b:=Int.emod_lt_of_pos v (b:=(rd.length:Int)) (by omega)
 exact⟨(v % (rd.length:Int)).toNat,by omega,by omega,QiS (by omega)⟩
theorem QIq{rd:List Nat}(h:rd≠[])(pk:List Int)(z:Nat):pkN pk rd z∈rd:=by
 have hl:0<rd.length:=List.length_pos_iff.mpr h
 unfold pkN
 split
 ·rw[QiS hl];exact List.getElem_mem hl
 ·obtain⟨q,_,q1,e⟩:=QEj h (v:=pk.getD ((z:Int) % (pk.length:Int)).toNat 0)
  rw[e];exact List.getElem_mem q1
theorem QL1{rd:List Nat}(h:rd≠[])(pk:List Int)(z:Nat):QeI [nz rd,.lst (pk.map .int),.int (z:Int)]=.ok (.int ((pkN pk rd z:Nat):Int)):=by
 have hl:0<rd.length:=List.length_pos_iff.mpr h
 have h1:=QlY rd
 have h2:fLen [.lst (pk.map D.int)]=.ok ‹"es"›:=by simp[fLen]
 have his:dIs (.lst (pk.map D.int)) .non=.ok (.bl false):=rfl
 by_cases hp:pk.length=0
 ·have h0:=nz_ix hl
  have ek:pkN pk rd z=rd[0]:=by unfold pkN;rw[if_pos hp,QiS hl]
  rw[ek]
  have e:dEq ‹"es"› (.int 0)=.ok (.bl true):=by rw[Q0,decide_eq_true (by omega)]
  rw[QvO]
  unfold Qip
  refine Qbe (fl:=.rt false (.int ((rd[0]:Nat):Int))) (r_seq (fl:=.rt false (.int ((rd[0]:Nat):Int))) ?_ Qpj) r_rt
  exact r_ifT ‹"cJ"› rfl (r_ret (r_e2 (r_var rfl) r_C h0))
 ·have e:dEq ‹"es"› (.int 0)=.ok (.bl false):=by rw[Q0,decide_eq_false (by omega)]
  obtain⟨i,hi,i1⟩:∃ i:Nat,(z:Int) % (pk.length:Int)=(i:Int)/\i<pk.length:=by
   have a:=Int.emod_nonneg (z:Int) (b:=(pk.length:Int)) (by omega)
   have b:=Int.emod_lt_of_pos (z:Int) (b:=(pk.length:Int)) (by omega)
   exact⟨((z:Int) % (pk.length:Int)).toNat,by omega,by omega⟩
  have m1:dMod (.int (z:Int)) ‹"es"›=.ok (.int (i:Int)):=by rw[QK (by omega),hi]
  have x1:dIx (.lst (pk.map D.int)) (.int (i:Int))=.ok (.int pk[i]):=ixL i (by rw[List.getElem?_map,List.getElem?_eq_getElem i1];rfl)
  have ek:pkN pk rd z=rd.getD (pk[i] % (rd.length:Int)).toNat 0:=by unfold pkN;rw[if_neg hp,hi,Int.toNat_natCast,QiS i1]
  rw[ek]
  generalize pk[i]=v at *
  obtain⟨q,hq,q1,eq⟩:=QEj h (v:=v)
  rw[eq]
  have m2:dMod (.int v) (.int (rd.length:Int))=.ok (.int (q:Int)):=by rw[QK (by omega),hq]
  have x2:=nz_ix q1
  rw[QvO]
  unfold Qip
  refine Qbe (fl:=.rt false (.int ((rd[q]:Nat):Int))) (r_seq (fl:=.nx [some (.k,nz rd),some (.k,.lst (pk.map .int)),some (.k,.int (z:Int)),none]) ?_ (Ql ?_)) r_rt
  ·exact r_ifF ‹"cJ"› rfl QcJ
  ·refine r_seq (r_set (r_e2 (r_var rfl) (r_e2 (r_var rfl) (r_eA ‹"l"› h2) m1) x1) (by walk_at "s")) (Ql ?_)
   exact r_ret (r_e2 (r_var rfl) (r_e2 (r_var rfl) (r_eA ‹"l"› h1) m2) x2)
theorem QKj{rd:List Nat}(h:rd≠[])(z:Nat):QeI [nz rd,.non,.int (z:Int)]=.ok (.int ((pkN [] rd z:Nat):Int)):=by
 have hl:0<rd.length:=List.length_pos_iff.mpr h
 have h0:=nz_ix hl
 have ek:pkN [] rd z=rd[0]:=by unfold pkN;rw[if_pos (show([]:List Int).length=0 from rfl),QiS hl]
 have his:dIs .non .non=.ok (.bl true):=rfl
 rw[ek,QvO]
 unfold Qip
 refine Qbe (fl:=.rt false (.int ((rd[0]:Nat):Int))) (r_seq (fl:=.rt false (.int ((rd[0]:Nat):Int))) ?_ Qpj) r_rt
 exact r_ifT (r_or' (QH (r_e2 (r_var rfl) r_C his)) (Qdw rfl rfl)) rfl (r_ret (r_e2 (r_var rfl) r_C h0))
def PkD(pk:List Int)(d:D):Prop:=d=.lst (pk.map .int)∨(pk=[]/\d=.non)
theorem QNq{rd:List Nat}(h:rd≠[]){pk:List Int}{d:D}(hp:PkD pk d)(z:Nat):QeI [nz rd,d,.int (z:Int)]=.ok (.int ((pkN pk rd z:Nat):Int)):=by
 rcases hp with rfl | ⟨rfl,rfl⟩
 ·exact QL1 h pk z
 ·exact QKj h z
structure Sk where
 S:Nat->Int
 K:Nat->Int
 G:Nat->Int
def nxt(n:Nat)(t:‹"bE"›)(m:Nat->Nat)(ld:Nat->Nat->Int)(k:Nat)(s:Sk):Sk:=
 ⟨up1 t s.S k,fun i=>dn1 s.K k i+dkt (m k) (ld k) (rw' (t k) (s.S k)) (i:Int),fun i=>s.G i+dkt (m k) (ld k) (rw' (t k) (s.S k)) ‹"aW"›⟩
def run(n:Nat)(t:‹"bE"›)(m:Nat->Nat)(ld:Nat->Nat->Int)(pk:List Int)(s:Sk):Nat->Sk
 | 0=>s
 | z+1=>nxt n t m ld (pkN pk (rdK n (run n t m ld pk s z).K) z) (run n t m ld pk s z)
def rlog(n:Nat)(t:‹"bE"›)(m:Nat->Nat)(ld:Nat->Nat->Int)(pk:List Int)(s:Sk)(L:Nat):List Nat:=(List.range L).map fun z=>pkN pk (rdK n (run n t m ld pk s z).K) z
theorem QKN(n:Nat)(t:‹"bE"›)(m:Nat->Nat)(ld:Nat->Nat->Int)(pk:List Int)(s:Sk)(L:Nat):rlog n t m ld pk s (L+1)=rlog n t m ld pk s L++[pkN pk (rdK n (run n t m ld pk s L).K) L]:=by
 unfold rlog
 rw[List.range_succ,List.map_append]
 rfl
theorem QiG(n:Nat)(t:‹"bE"›)(m:Nat->Nat)(ld:Nat->Nat->Int)(pk:List Int)(s:Sk)(L:Nat):(rlog n t m ld pk s L).length=L:=by
 unfold rlog;rw[List.length_map,List.length_range]
section
variable{n nd:Nat}{nm dn cl:Nat->Str}{t:Nat->List (List Int)}{m:Nat->Nat}{ld:Nat->Nat->Int}{st:Nat->Int}(hs:Seats n nd nm dn cl t m ld st){kd:Nat->Int}{s0:Sk}{pk:List Int}
include hs
theorem QQt{k:Nat}(hk:k<n){s:Sk}(h:∀ i,i<n->0<=s.S i/\s.S i<((t i).length:Int)):∀ i,i<n->0<=(nxt n t m ld k s).S i/\(nxt n t m ld k s).S i<((t i).length:Int):=fun i hi=>by
 show 0<=up1 t s.S k i/\up1 t s.S k i<((t i).length:Int)
 have:=(hs.tb k hk).n1
 unfold up1
 by_cases e:i=k
 ·subst e
  rw[if_pos rfl]
  exact⟨Int.emod_nonneg _ (by omega),Int.emod_lt_of_pos _ (by omega)⟩
 ·rw[if_neg e];exact h i hi
theorem QHN{O Sd Kd Pd:D}(hO:O=offD n nd nm dn cl t m ld st)(hp:PkD pk Pd){M:Nat}(hM:M<=5000):∀(fuel z:Nat)(a10:Option (SM×D)),(∀ i,i<n->0<=(run n t m ld pk s0 z).S i/\(run n t m ld pk s0 z).S i<((t i).length:Int))->z<=M->M - z<=fuel->
 ∃(L:Nat)(b10:Option (SM×D)),L<=M/\z<=L/\(∀ i,i<n->0<=(run n t m ld pk s0 L).S i/\(run n t m ld pk s0 L).S i<((t i).length:Int))/\(∀ y,z<=y->y<L->rdK n (run n t m ld pk s0 y).K≠[]/\∀ i,i<n->0<=(run n t m ld pk s0 y).S i/\(run n t m ld pk s0 y).S i<((t i).length:Int))/\(rdK n (run n t m ld pk s0 L).K=[]∨L=M)/\
  Qb1 Qf8 QkK ‹"a"›=
   .ok (.nx [some (.k,O),some (.k,Sd),some (.k,Kd),some (.k,Pd),some ‹"bX"›,some (.o,rl n ‹"aM"›),some (.o,rl n ‹"aN"›),some (.o,rl nd ‹"aO"›),some (.o,nz ‹"bx"›),some (.k,nz (rdK n (run n t m ld pk s0 L).K)),b10]):=by
 intro fuel
 induction fuel with
 | zero=>
  intro z a10 hin hl hf
  refine⟨z,a10,hl,Nat.le_refl _,hin,fun y a b=>absurd b (by omega),.inr (by omega),Qy9 ?_⟩
  have h1:=QlY ‹"bp"›
  have h2:=QlY (rlog n t m ld pk s0 z)
  rw[QiG]at h2
  have e2:tVal ‹"bf"› ‹"a"›=.ok false:=by
   rw[QH ‹"bK"›,decide_eq_false (by omega)]
  unfold Qf8
  refine Qh3 (QH ‹"eh"›) ?_
  split
  ·exact e2
  ·rfl
 | succ fuel ih=>
  intro z a10 hin hl hf
  have n2:=hs.n2
  have h1:=QlY ‹"bp"›
  have h2:=QlY (rlog n t m ld pk s0 z)
  rw[QiG]at h2
  by_cases hd:rdK n (run n t m ld pk s0 z).K=[]
  ·refine⟨z,a10,hl,Nat.le_refl _,hin,fun y a b=>absurd b (by omega),.inl hd,Qy9 ?_⟩
   have e1':tVal ‹"ch"› ‹"a"›=.ok false:=by
    rw[QH ‹"eh"›,decide_eq_false (by rw[hd];decide)]
   unfold Qf8
   exact Qh3 e1' (QbO rfl rfl)
  ·have hpo:0<(rdK n (run n t m ld pk s0 z).K).length:=List.length_pos_iff.mpr hd
   have e1':tVal ‹"ch"› ‹"a"›=.ok true:=by
    rw[QH ‹"eh"›,decide_eq_true (by omega)]
   by_cases hm:z=M
   ·refine⟨z,a10,hl,Nat.le_refl _,hin,fun y a b=>absurd b (by omega),.inr hm,Qy9 ?_⟩
    have e2:tVal ‹"bf"› ‹"a"›=.ok false:=by
     rw[QH ‹"bK"›,decide_eq_false (by omega)]
    unfold Qf8
    exact Qh3 e1' (Qdw rfl e2)
   ·have e2:tVal ‹"bf"› ‹"a"›=.ok true:=by
     rw[QH ‹"bK"›,decide_eq_true (by omega)]
    have hpk:=QNq hd hp z
    obtain⟨kn,kp⟩:=QIv (QIq hd pk z)
    obtain⟨q0,q1⟩:=hin _ kn
    have hh:=QMG hs (S:=(run n t m ld pk s0 z).S) (K:=(run n t m ld pk s0 z).K) (G:=(run n t m ld pk s0 z).G) kn q0 q1
    obtain⟨L,b10,r1,r2,r3,r4,r5,r6⟩:=ih (z+1) (some (.k,.int ((pkN pk ‹"bp"› z:Nat):Int))) (QQt hs kn hin) (by omega) (by omega)
    refine⟨L,b10,r1,by omega,r3,fun y a b=>?_,r5,wh_go (Qh3 e1' (Qdw rfl e2)) ?_ r6⟩
    ·by_cases e:y=z
     ·subst e;exact⟨hd,hin⟩
     ·exact r4 y (by omega) b
    have hh:QfJ [O,rl n (fun i=>.int ((run n t m ld pk s0 z).S i)),rl n (fun i=>.int ((run n t m ld pk s0 z).K i)),rl nd (fun i=>.int ((run n t m ld pk s0 z).G i)),.int ((pkN pk ‹"bp"› z:Nat):Int)]=.ok (.non,some [rl n (fun i=>.int ((run n t m ld pk s0 (z+1)).S i)),rl n (fun i=>.int ((run n t m ld pk s0 (z+1)).K i)),rl nd (fun i=>.int ((run n t m ld pk s0 (z+1)).G i))]):=by rw[hO];exact hh
    have hab:QgE [rl n (fun i=>.int ((run n t m ld pk s0 (z+1)).K i))]=.ok (nz (rdK n (run n t m ld pk s0 (z+1)).K)):=QHX (n:=n) (by omega) (run n t m ld pk s0 (z+1)).K
    have hlg:((rlog n t m ld pk s0 z).map fun k:Nat=>D.int (k:Int))++[.int ((pkN pk ‹"bp"› z:Nat):Int)]=(rlog n t m ld pk s0 (z+1)).map fun k:Nat=>D.int (k:Int):=by rw[QKN,List.map_append];rfl
    have hle:((rlog n t m ld pk s0 z).map fun k:Nat=>D.int (k:Int)).length<=5000:=by rw[List.length_map,QiG];omega
    generalize pkN pk ‹"bp"› z=k at *
    generalize rdK n (run n t m ld pk s0 z).K=rd at *
    have hsl:=QIu (rdK n (run n t m ld pk s0 (z+1)).K)
    unfold QkK
    refine r_seq (r_set (Qaj (xs:=[nz rd,Pd,.int (z:Int)]) (Qe (r_var rfl) (Qe (r_var rfl) (Qe (r_eA (Qe (Qdg rfl) r_nil) h2) r_nil))) rfl hpk) (by walk_at "s")) (Ql ?_)
    generalize rl n (fun i=>D.int ((run n t m ld pk s0 z).S i))=A1 at *
    generalize rl n (fun i=>D.int ((run n t m ld pk s0 z).K i))=A2 at *
    generalize rl nd (fun i=>D.int ((run n t m ld pk s0 z).G i))=A3 at *
    generalize rl n (fun i=>D.int ((run n t m ld pk s0 (z+1)).S i))=B1 at *
    generalize rl n (fun i=>D.int ((run n t m ld pk s0 (z+1)).K i))=B2 at *
    generalize rl nd (fun i=>D.int ((run n t m ld pk s0 (z+1)).G i))=B3 at *
    refine r_seq (fl:=.nx [some (.k,O),some (.k,Sd),some (.k,Kd),some (.k,Pd),some ‹"bX"›,some (.o,B1),some (.o,B2),some (.o,B3),some (.o,nz (rlog n t m ld pk s0 z)),some (.k,nz rd),some ‹"ab"›]) (QHW (Qe (r_var rfl) (Qe (Qs9 (s:=.o) rfl rfl) (Qe (Qs9 (s:=.o) rfl rfl) (Qe (Qs9 (s:=.o) rfl rfl) ‹"l"›)))) hh rfl) (Ql ?_)
    refine r_seq (QPH (xs:=(rlog n t m ld pk s0 z).map fun k:Nat=>D.int (k:Int)) rfl (r_var rfl) hle (by rw[hlg];walk_at "s")) (Ql ?_)
    exact r_set (QLU (Qaj (xs:=[B2]) (Qe (Qdg rfl) r_nil) rfl hab) hsl) (by walk_at "s")
theorem QKy(K:Nat->Int){Pd:D}(hp:PkD pk Pd){M:Nat}(hM:M<=5000):∃ L:Nat,L<=M/\(∀ y,y<L->rdK n (run n t m ld pk ⟨st,K,fun _=>0⟩ y).K≠[]/\∀ i,i<n->0<=(run n t m ld pk ⟨st,K,fun _=>0⟩ y).S i/\(run n t m ld pk ⟨st,K,fun _=>0⟩ y).S i<((t i).length:Int))/\(rdK n (run n t m ld pk ⟨st,K,fun _=>0⟩ L).K=[]∨L=M)/\
 QaY [offD n nd nm dn cl t m ld st,rl n ‹"bd"›,rl n ‹"aa"›,Pd,.int (M:Int)]=.ok ‹"E"›:=by
 have n2:=hs.n2
 have hno:=QMm hs
 have hab:QgE [rl n ‹"aa"›]=.ok (nz (rdK n K)):=QHX (n:=n) (by omega) K
 obtain⟨L,b10,r1,r2,r3,r4,r5,r6⟩:=QHN hs (s0:=⟨st,K,fun _=>0⟩) (pk:=pk) (Sd:=rl n ‹"bd"›) (Kd:=rl n ‹"aa"›) rfl hp hM M 0 none hs.str (Nat.zero_le _) (by omega)
 refine⟨L,r1,fun y hy=>r4 y (Nat.zero_le _) hy,r5,?_⟩
 have r6:Qb1 Qf8 QkK [some ‹"dr"›,some (.k,rl n ‹"bd"›),some (.k,rl n ‹"aa"›),some (.k,Pd),some ‹"bX"›,some (.o,rl n ‹"bd"›),some (.o,rl n ‹"aa"›),some (.o,rl nd (fun _=>.int 0)),some (.o,nz []),some (.k,nz (rdK n K)),none]=_:=r6
 have l1:dList (rl n ‹"dF"›)=.ok (rl n ‹"dF"›):=rfl
 have l2:dList (rl n ‹"bc"›)=.ok (rl n ‹"bc"›):=rfl
 have hsc:(rl nd (fun _=>D.int 0)).scal=false:=rfl
 have hsl:=QIu (rdK n K)
 have hfin:DL.tRet [5,6,7,8] [some ‹"dr"›,some (.k,rl n ‹"bd"›),some (.k,rl n ‹"aa"›),some (.k,Pd),some ‹"bX"›,some (.o,rl n (fun i=>.int ((run n t m ld pk ⟨st,K,fun _=>0⟩ L).S i))),some (.o,rl n (fun i=>.int ((run n t m ld pk ⟨st,K,fun _=>0⟩ L).K i))),some (.o,rl nd (fun i=>.int ((run n t m ld pk ⟨st,K,fun _=>0⟩ L).G i))),some (.o,nz (rlog n t m ld pk ⟨st,K,fun _=>0⟩ L)),some (.k,nz (rdK n (run n t m ld pk ⟨st,K,fun _=>0⟩ L).K)),b10]=.ok ‹"E"›:=rfl
 generalize D.tup [rl n (fun i=>.int ((run n t m ld pk ⟨st,K,fun _=>0⟩ L).S i)),rl n (fun i=>.int ((run n t m ld pk ⟨st,K,fun _=>0⟩ L).K i)),rl nd (fun i=>.int ((run n t m ld pk ⟨st,K,fun _=>0⟩ L).G i)),nz (rlog n t m ld pk ⟨st,K,fun _=>0⟩ L)]=R at *
 generalize offD n nd nm dn cl t m ld st=O at *
 generalize rl n ‹"dF"›=A1 at *
 generalize rl n ‹"bc"›=A2 at *
 generalize rl nd (fun _=>D.int 0)=A3 at *
 rw[QMY]
 unfold Qrb
 refine Qo0 (Qeg (r_e1 (r_var rfl) l1) (by walk_at "s")) (Qo0 (Qeg (r_e1 (r_var rfl) l2) (by walk_at "s")) (Qo0 (Qeg (QzQ (Qaj (xs:=[O]) ‹"l"› rfl hno) hsc) (by walk_at "s")) ?_))
 refine Qo0 (Qeg (d:=nz []) (by show eLst aNil _=Out.ok (D.lst []);(repeat walk_at "e")) (by walk_at "s")) ?_
 refine Qo0 (r_set (QLU (Qaj (xs:=[A2]) (Qe (Qdg rfl) r_nil) rfl hab) hsl) (by walk_at "s")) ?_
 exact Qo0 r6 hfin
end
theorem QsV:∀ l:List Int,layDs (l.map D.int)=true
 | []=>rfl
 | x::l=>by show(layD (D.int x)&&layDs (l.map D.int))=true;rw[QsV l];rfl
theorem Qsf:∀ l:List Int,deps (l.map D.int)<=1
 | []=>Nat.zero_le _
 | x::l=>by
  have:=Qsf l
  show max (dep (D.int x)) (deps (l.map D.int))<=1
  have h:dep (D.int x)=0:=rfl
  omega
theorem Qmn:∀ l:List Int,PyData.eqvAll (D.pys (l.map D.int)) (D.pys (l.map D.int))=true
 | []=>rfl
 | x::l=>by
  show(PyData.eqv (D.int x).py (D.int x).py&&PyData.eqvAll (D.pys (l.map D.int)) (D.pys (l.map D.int)))=true
  rw[Qmn l,Bool.and_true]
  simp[D.py,PyData.eqv]
theorem Qo7(l:List Int):shp (.lst (l.map D.int))=true:=QEP (d:=.lst (l.map D.int)) (QsV l) (by show deps (l.map D.int)+1<=64;have:=Qsf l;omega)
theorem QMe(l:List Nat):nz l=.lst ((l.map fun k:Nat=>(k:Int)).map D.int):=by unfold nz;rw[List.map_map];rfl
theorem QPz(l:List Nat):dEq (nz l) (.lst [])=.ok (.bl l.isEmpty):=by
 rw[QMe,QEZ (Qo7 _) (show shp (.lst [])=true from Qo7 [])]
 cases l<;>rfl
theorem QPN(l:List Nat):dNe (nz l) (.lst [])=.ok (.bl (!l.isEmpty)):=by
 rw[QMe,Qxg (Qo7 _) (show shp (.lst [])=true from Qo7 [])]
 cases l<;>rfl
theorem QIc(l:List Int):dNe (.lst (l.map .int)) (.lst [])=.ok (.bl (!l.isEmpty)):=by
 rw[Qxg (Qo7 _) (show shp (.lst [])=true from Qo7 [])]
 cases l<;>rfl
theorem shp_3(a b c:List Int):shp (.tup [.lst (a.map D.int),.lst (b.map D.int),.lst (c.map D.int)])=true:=QEP (d:=.tup [.lst (a.map D.int),.lst (b.map D.int),.lst (c.map D.int)]) (by
 show(layDs (a.map D.int)&&(layDs (b.map D.int)&&(layDs (c.map D.int)&&true)))=true
 rw[QsV,QsV,QsV];rfl) (by
 have h1:=Qsf a
 have h2:=Qsf b
 have h3:=Qsf c
 show max (deps (a.map D.int)+1) (max (deps (b.map D.int)+1) (max (deps (c.map D.int)+1) 0))+1<=64
 omega)
theorem QKX(n:Nat)(f:Nat->Int):rl n ‹"el"›=.lst (((List.range n).map f).map D.int):=by show D.lst _=_;rw[List.map_map];rfl
theorem ne_3(a b c:List Int):dNe ‹"at"› ‹"at"›=.ok (.bl false):=by
 rw[Qxg (shp_3 a b c) (shp_3 a b c)]
 show Out.ok (D.bl (!‹"ag"›))=_
 rw[Qmn,Qmn,Qmn];rfl
theorem eq_3(a b c:List Int):dEq ‹"at"› ‹"at"›=.ok (.bl true):=by
 rw[QEZ (shp_3 a b c) (shp_3 a b c)]
 show Out.ok (D.bl ‹"ag"›)=_
 rw[Qmn,Qmn,Qmn];rfl
section
variable{n nd:Nat}{nm dn cl:Nat->Str}{t:Nat->List (List Int)}{m:Nat->Nat}{ld:Nat->Nat->Int}{st:Nat->Int}(hs:Seats n nd nm dn cl t m ld st){kd:Nat->Int}{s0:Sk}{pk:List Int}
include hs
theorem QKP(f:Nat->Int){ς:SD}(h:ς[3]?=some (some (.k,rl n (fun i=>.int (f i))))):eComp [none,some 3] (itR1 (eA fLen (aCons (eVar 3) aNil))) (gN 0) QiD Qi1 ς=.ok (nz (rdK n f)):=by
 have n2:=hs.n2
 have hl:=lenR n ‹"el"›
 refine QH3 (fun i:Nat=>D.int ((0:Int)+i)) (fun i=>decide (0<f i)) (fun i:Nat=>D.int (i:Int)) (Qcb n (r_eA (Qe (r_var h) r_nil) hl) (by omega)) (fun i hi=>?_) (by omega)
 have hx:dIx (rl n ‹"el"›) (.int (i:Int))=.ok (.int (f i)):=ixR (f:=fun i=>D.int (f i)) hi
 rw[Int.zero_add]
 refine QOr (τ0:=[none,some (.k,rl n (fun i=>.int (f i)))]) (Qe4 (c_k h c_nil)) (by walk_at "s") ?_ ?_
 ·unfold QiD
  exact QH (r_e2 (r_e2 (r_var rfl) (r_var rfl) hx) r_C (Qee _ _))
 ·unfold Qi1
  exact r_var rfl
theorem QNo(f g:Nat->Int){ς:SD}(h7:ς[7]?=some (some (.k,rl nd (fun i=>.int (f i)))))(h11:ς[11]?=some (some (.k,rl nd ‹"J"›))):eComp [none,none] (itZ (eVar 7) (eVar 11)) (gT [0,1]) cTrue Qiw ς=.ok (rl nd (fun i=>.int (f i+g i))):=by
 have d2:=hs.d2
 have hz:itZ (eVar 7) (eVar 11) ς=.ok ((List.range nd).map fun i=>D.tup [.int (f i),.int (g i)]):=by
  unfold itZ
  rw[r_var h7,Out.bind_ok,r_var h11,Out.bind_ok]
  show Out.ok (List.zipWith _ ((List.range nd).map _) ((List.range nd).map _))=_
  rw[List.zipWith_map,List.zipWith_self]
 refine Qas (fun i=>D.tup [.int (f i),.int (g i)]) (fun i=>D.int (f i+g i)) hz (fun i _=>?_) (by rw[List.length_range];omega)
 refine QH5 (τ0:=[none,none]) (Qe4 (Qe4 c_nil)) (by walk_at "all") ?_
 unfold Qiw
 exact r_e2 (r_var rfl) (r_var rfl) (Qae _ _)
theorem QKE{L M:Nat}(hM:L<=M)(hM5:M<=5000)(hall:∀ y,y<L->rdK n (run n t m ld pk s0 y).K≠[]/\∀ i,i<n->0<=(run n t m ld pk s0 y).S i/\(run n t m ld pk s0 y).S i<((t i).length:Int))(hend:rdK n (run n t m ld pk s0 L).K=[]∨L=M)(hG:s0.G=fun _=>0):
 QbW [rl n ‹"q"›,.int (nd:Int),rl n (fun i=>.int (s0.S i)),rl n (fun i=>.int (s0.K i)),.lst (pk.map .int),.int (M:Int),.tup [rl n ‹"aM"›,rl n ‹"aN"›,rl nd ‹"aO"›,nz ‹"bx"›]]=.ok (.bl true):=by
 have n2:=hs.n2
 have d2:=hs.d2
 have w1:=Qs2 (n:=n) (by omega) (run n t m ld pk s0 L).S
 have w2:=Qs2 (n:=n) (by omega) (run n t m ld pk s0 L).K
 have w3:=Qs2 (n:=nd) (by omega) (run n t m ld pk s0 L).G
 have hll:=QlY ‹"bx"›
 rw[QiG]at hll
 have hlx:∀ j,j<L->dIx (nz ‹"bx"›) (.int (j:Int))=.ok (.int ((pkN pk ‹"e"› j:Nat):Int)):=fun j hj=>by
  have h:=nz_ix (l:=rlog n t m ld pk s0 L) (i:=j) (by rw[QiG];exact hj)
  rw[h]
  unfold rlog
  rw[List.getElem_map,List.getElem_range]
 have hpl:fLen [.lst (pk.map D.int)]=.ok ‹"es"›:=by simp[fLen]
 have hpn:=QIc pk
 have n0:∀ z:SD,eLst aNil z=.ok (.lst []):=fun z=>by (repeat walk_at "e")
 have hsc:=fun(f:Nat->Int) (ς:SD) h=>QKP hs f (ς:=ς) h
 have hac:=fun(f g:Nat->Int) (ς:SD) h h'=>QNo hs f g (ς:=ς) h h'
 have hrep:=QKM (x:=.int 0) (N:=nd) (by omega)
 have hit:isaT "tuple" ‹"d"›=.ok true:=rfl
 have hil:isaT "list" (nz ‹"bx"›)=.ok true:=rfl
 have hl4:fLen [.tup [rl n ‹"aM"›,rl n ‹"aN"›,rl nd ‹"aO"›,nz ‹"bx"›]]=.ok (.int 4):=by simp[fLen]
 have e4:dNe (.int 4) (.int 4)=.ok (.bl false):=by rw[QcW];rfl
 have x0:=(ixT 0 rfl:dIx ‹"d"› (.int 0)=.ok (rl n ‹"aM"›))
 have x1:=(ixT 1 rfl:dIx ‹"d"› (.int 1)=.ok (rl n ‹"aN"›))
 have x2:=(ixT 2 rfl:dIx ‹"d"› (.int 2)=.ok (rl nd ‹"aO"›))
 have x3:=(ixT 3 rfl:dIx ‹"d"› (.int 3)=.ok (nz ‹"bx"›))
 have g0:rl nd (fun _=>D.int 0)=rl nd (fun i=>.int ((run n t m ld pk s0 0).G i)):=by
  show _=rl nd (fun i=>.int (s0.G i))
  rw[hG]
 rw[g0]at hrep
 have hstep:∀ j,j<L->QdA [rl n ‹"q"›,.int (nd:Int),rl n (fun i=>.int ((run n t m ld pk s0 j).S i)),rl n (fun i=>.int ((run n t m ld pk s0 j).K i)),.int ((pkN pk ‹"e"› j:Nat):Int)]=.ok (.tup [rl n (fun i=>.int ((run n t m ld pk s0 (j+1)).S i)),rl n (fun i=>.int ((run n t m ld pk s0 (j+1)).K i)),rl nd (fun i=>.int ‹"w"›)]):=fun j hj=>by
  obtain⟨hd,hin⟩:=hall j hj
  obtain⟨kn,_⟩:=QIv (QIq hd pk j)
  obtain⟨q0,q1⟩:=hin _ kn
  exact QOx hs (kd:=kd) (S:=(run n t m ld pk s0 j).S) (K:=(run n t m ld pk s0 j).K) kn q0 q1
 have hgs:∀ j,rl nd (fun i=>D.int ((run n t m ld pk s0 j).G i+‹"w"›))=rl nd (fun i=>.int ((run n t m ld pk s0 (j+1)).G i)):=fun j=>QeN fun i _=>by rw[Int.zero_add];rfl
 generalize rl n ‹"q"›=P at *
 generalize D.tup [rl n ‹"aM"›,rl n ‹"aN"›,rl nd ‹"aO"›,nz ‹"bx"›]=F at *
 generalize nz ‹"bx"›=Lg at *
 generalize hPk:D.lst (pk.map D.int)=Pk at *
 obtain⟨ς',hL,a8,a9,a10,a11,rfl⟩:=Qcm (body:=fun x ς=>gN 8 x ς>>=fun ς'=>Qd0 ς') (n:=L+1)
  (P:=fun j ς=>∃ a8 a9 a10 a11,ς=[some (.k,P),some ‹"ah"›,some (.k,rl n (fun i=>.int ((run n t m ld pk s0 (min j L)).S i))),some (.k,rl n (fun i=>.int ((run n t m ld pk s0 (min j L)).K i))),some (.k,Pk),some ‹"bX"›,some (.k,F),some (.k,rl nd (fun i=>.int ((run n t m ld pk s0 (min j L)).G i))),a8,a9,a10,a11])
  (by
   rintro j hj ς ⟨a8,a9,a10,a11,rfl⟩
   by_cases e:j=L
   ·subst e
    rw[Nat.min_self,Nat.min_eq_right (Nat.le_succ j)]
    refine⟨[some (.k,P),some ‹"ah"›,some (.k,rl n (fun i=>.int ((run n t m ld pk s0 j).S i))),some (.k,rl n (fun i=>.int ((run n t m ld pk s0 j).K i))),some (.k,Pk),some ‹"bX"›,some (.k,F),some (.k,rl nd (fun i=>.int ((run n t m ld pk s0 j).G i))),some (.k,.int (j:Int)),some (.k,nz ‹"e"›),a10,a11],?_,_,_,_,_,rfl⟩
    have hc:=fun ς h=>hsc (run n t m ld pk s0 j).K ς h
    have en:=QPN ‹"e"›
    have eL:dEq (.int (j:Int)) (.int (j:Int))=.ok (.bl true):=by rw[Q0,decide_eq_true rfl]
    have nL:dNe (.int (j:Int)) (.int (j:Int))=.ok (.bl false):=by rw[QcW,decide_eq_true rfl];rfl
    have hlast:∀ ς:SD,ς[9]?=some (some (.k,nz ‹"e"›))->ς[8]?=some (some (.k,.int (j:Int)))->ς[5]?=some (some ‹"bX"›)->tAnd' (tVal (e2 dNe (eVar 9) (eLst aNil))) (tVal (e2 dNe (eVar 8) (eVar 5))) ς=.ok false:=fun ς h9 h8 h5=>by
     refine Qh3 (QH (r_e2 (r_var h9) (n0 _) en)) ?_
     rcases hend with z | z
     ·rw[z];rfl
     ·split
      ·rw[QH (r_e2 (r_var h8) (r_var h5) (QcW _ _)),z,decide_eq_true rfl];rfl
      ·rfl
    generalize nz ‹"e"›=Rd at *
    generalize rl n (fun i=>D.int ((run n t m ld pk s0 j).S i))=A1 at *
    generalize rl n (fun i=>D.int ((run n t m ld pk s0 j).K i))=A2 at *
    generalize rl nd (fun i=>D.int ((run n t m ld pk s0 j).G i))=A3 at *
    refine r_gN (by walk_at "s") ?_
    unfold Qd0
    refine r_seq (r_set (hc _ rfl) (by walk_at "s")) (Ql ?_)
    refine r_ifT (r_or' (QH (r_e2 (r_var rfl) ‹"dC"› eL)) (Qdw rfl rfl)) rfl ?_
    exact r_ifF (r_or' (QH (r_e2 (r_var rfl) ‹"dC"› nL)) (QbO rfl (hlast _ rfl rfl rfl))) rfl QcJ
   ·have hjL:j<L:=by omega
    rw[Nat.min_eq_left (by omega:j<=L),Nat.min_eq_left (by omega:j+1<=L)]
    obtain⟨hd,_⟩:=hall j hjL
    have hpo:0<(rdK n (run n t m ld pk s0 j).K).length:=List.length_pos_iff.mpr hd
    have hc:=fun ς h=>hsc (run n t m ld pk s0 j).K ς h
    have en:=QPz ‹"e"›
    have hie:(rdK n (run n t m ld pk s0 j).K).isEmpty=false:=by cases h:rdK n (run n t m ld pk s0 j).K with | nil=>exact absurd h hd | cons=>rfl
    rw[hie]at en
    have eL:dEq (.int (j:Int)) (.int (L:Int))=.ok (.bl false):=by rw[Q0,decide_eq_false (by omega)]
    have eM:dEq (.int (j:Int)) (.int (M:Int))=.ok (.bl false):=by rw[Q0,decide_eq_false (by omega)]
    have hst:=hstep j hjL
    have hg:=hgs j
    have hx:=hlx j hjL
    have hln:=QlY ‹"e"›
    have hpick:∀ ς:SD,ς[4]?=some (some (.k,Pk))->ς[9]?=some (some (.k,nz ‹"e"›))->ς[8]?=some (some (.k,.int (j:Int)))->eIf (tVal (e2 dNe (eVar 4) (eLst aNil))) ‹"bh"› (e2 dIx (eVar 9) (eC (.int 0))) ς=.ok (.int ((pkN pk ‹"e"› j:Nat):Int)):=fun ς h4 h9 h8=>by
     generalize rdK n (run n t m ld pk s0 j).K=rd at *
     refine r_eIf (QH (r_e2 (r_var h4) (n0 _) hpn)) ?_
     by_cases hp:pk.length=0
     ·have hp':pk=[]:=List.length_eq_zero_iff.mp hp
      have ek:pkN pk rd j=rd[0]:=by unfold pkN;rw[if_pos hp,QiS hpo]
      rw[ek,hp']
      exact r_e2 (r_var h9) r_C (nz_ix hpo)
     ·obtain⟨i,hi,i1⟩:∃ i:Nat,(j:Int) % (pk.length:Int)=(i:Int)/\i<pk.length:=by
       have a:=Int.emod_nonneg (j:Int) (b:=(pk.length:Int)) (by omega)
       have b:=Int.emod_lt_of_pos (j:Int) (b:=(pk.length:Int)) (by omega)
       exact⟨((j:Int) % (pk.length:Int)).toNat,by omega,by omega⟩
      have m1:dMod (.int (j:Int)) ‹"es"›=.ok (.int (i:Int)):=by rw[QK (by omega),hi]
      have y1:dIx Pk (.int (i:Int))=.ok (.int pk[i]):=by rw[← hPk];exact ixL i (by rw[List.getElem?_map,List.getElem?_eq_getElem i1];rfl)
      have ek:pkN pk rd j=rd.getD (pk[i] % (rd.length:Int)).toNat 0:=by unfold pkN;rw[if_neg hp,hi,Int.toNat_natCast,QiS i1]
      rw[ek]
      generalize pk[i]=v at *
      obtain⟨q,hq,q1,eq⟩:=QEj hd (v:=v)
      rw[eq]
      have m2:dMod (.int v) (.int (rd.length:Int))=.ok (.int (q:Int)):=by rw[QK (by omega),hq]
      have hpe:(!pk.isEmpty)=true:=by cases pk with | nil=>exact absurd rfl hp | cons=>rfl
      exact Qdw hpe (r_e2 (r_var h9) (r_e2 (r_e2 (r_var h4) (r_e2 (r_var h8) (r_eA (Qe (r_var h4) r_nil) hpl) m1) y1) (r_eA (Qe (r_var h9) r_nil) hln) m2) (nz_ix q1))
    have hac:=hac (run n t m ld pk s0 j).G (fun i=>0+dkt (m (pkN pk ‹"e"› j)) (ld (pkN pk ‹"e"› j)) (rw' (t (pkN pk ‹"e"› j)) ((run n t m ld pk s0 j).S (pkN pk ‹"e"› j))) ‹"aW"›)
    rw[hg]at hac
    generalize rl nd (fun i:Nat=>D.int ‹"w"›)=Gs at *
    generalize pkN pk ‹"e"› j=k at *
    generalize nz ‹"e"›=Rd at *
    refine⟨[some (.k,P),some ‹"ah"›,some (.k,rl n (fun i=>.int ((run n t m ld pk s0 (j+1)).S i))),some (.k,rl n (fun i=>.int ((run n t m ld pk s0 (j+1)).K i))),some (.k,Pk),some ‹"bX"›,some (.k,F),some (.k,rl nd (fun i=>.int ((run n t m ld pk s0 (j+1)).G i))),some (.k,.int (j:Int)),some (.k,Rd),some ‹"ab"›,some (.k,Gs)],?_,_,_,_,_,rfl⟩
    generalize rl n (fun i=>D.int ((run n t m ld pk s0 j).S i))=A1 at *
    generalize rl n (fun i=>D.int ((run n t m ld pk s0 j).K i))=A2 at *
    generalize rl nd (fun i=>D.int ((run n t m ld pk s0 j).G i))=A3 at *
    generalize rl n (fun i=>D.int ((run n t m ld pk s0 (j+1)).S i))=B1 at *
    generalize rl n (fun i=>D.int ((run n t m ld pk s0 (j+1)).K i))=B2 at *
    generalize rl nd (fun i=>D.int ((run n t m ld pk s0 (j+1)).G i))=B3 at *
    have nk:dNe ‹"cw"› ‹"cw"›=.ok (.bl false):=by rw[QcW,decide_eq_true rfl];rfl
    have lw:=QxD (k:Int)
    refine r_gN (by walk_at "s") ?_
    unfold Qd0
    refine r_seq (r_set (hc _ rfl) (by walk_at "s")) (Ql ?_)
    refine r_ifF (r_or' (QH (r_e2 (r_var rfl) ‹"dC"› eL)) (QbO rfl (r_or' (QH (r_e2 (r_var rfl) (r_var rfl) eM)) (QbO rfl (QH (r_e2 (r_var rfl) (n0 _) en)))))) rfl ?_
    refine r_seq (r_set (hpick _ rfl rfl rfl) (by walk_at "s")) (Ql ?_)
    refine r_seq (r_ifF (r_or' (b:=false) (Qmp (b:=true) (QH (Qaj (xs:=[.int (k:Int)]) (Qe (r_e2 ‹"aZ"› (r_var rfl) hx) r_nil) rfl lw))) (QbO rfl (QH (r_e2 (r_e2 ‹"aZ"› (r_var rfl) hx) (r_var rfl) nk)))) rfl QcJ) (Ql ?_)
    refine r_seq (r_unp (Qaj (xs:=[P,.int (nd:Int),A1,A2,.int (k:Int)]) (Qe (r_var rfl) (Qe (r_var rfl) ‹"V"›)) rfl hst) (by walk_at "all")) (Ql ?_)
    exact r_set (hac _ rfl rfl) (by walk_at "s"))
  ‹"I"› ⟨none,none,none,none,by rw[Nat.zero_min];rfl⟩
 rw[Nat.min_eq_right (Nat.le_succ L)]at hL
 have hR:itR1 (e2 dAdd ‹"aJ"› (eC (.int 1))) ‹"I"›=.ok (QbT 0 (L+1)):=Qcb (L+1) (r_e2 ‹"dC"› r_C (Qae _ _)) (by omega)
 have hfor:=Qcw (g:=gN 8) (T:=Qd0) hR hL
 generalize rl n (fun i=>D.int ((run n t m ld pk s0 L).S i))=A1 at *
 generalize rl n (fun i=>D.int ((run n t m ld pk s0 L).K i))=A2 at *
 generalize rl nd (fun i=>D.int ((run n t m ld pk s0 L).G i))=A3 at *
 generalize rl n (fun i=>D.int (s0.S i))=B1 at *
 generalize rl n (fun i=>D.int (s0.K i))=B2 at *
 generalize rl nd (fun i=>D.int ((run n t m ld pk s0 0).G i))=B3 at *
 rw[QCk]
 unfold Qhu
 refine Qbe (fl:=.rt false (.bl true)) ?_ r_rt
 refine r_seq (r_ifF (r_or' (Qmp (b:=true) (QH (r_isa (r_var rfl) hit))) (QbO rfl (r_or' (QH (r_e2 (r_eA ‹"l"› hl4) r_C e4)) (QbO rfl (Qmp (b:=true) (QH (r_isa ‹"aZ"› hil))))))) rfl QcJ) (Ql ?_)
 refine r_seq (r_set (r_e2 (r_lst (Qe r_C r_nil) (show 1<=1000 by decide)) (r_var rfl) hrep) (by walk_at "s")) (Ql ?_)
 refine r_seq hfor (Ql (r_ret ?_))
 exact QDv (Qaj (xs:=[A1,A1]) (Qe (r_e2 (r_var rfl) r_C x0) ‹"l"›) rfl w1) (Qdw rfl (QDv (Qaj (xs:=[A2,A2]) (Qe (r_e2 (r_var rfl) r_C x1) ‹"l"›) rfl w2) (Qdw rfl (Qaj (xs:=[A3,A3]) (Qe (r_e2 (r_var rfl) r_C x2) ‹"l"›) rfl w3))))
end
theorem r_mkU{i:Nat}{ς ς1:SD}{xss:List (List D)}{es:List D}(he:es=xss.map .lst)(hi:i<ς.length)(e:ς.set i none=ς1):mkU i ς (.tup es)=.ok (ς1,xss):=by
 subst he
 show(match lstsD (xss.map D.lst) with
  | some xss=>if i<ς.length then Out.ok (ς.set i none,xss) else .stuck
  | none=>.stuck)=_
 rw[QsC]
 show(if i<ς.length then Out.ok (ς.set i none,xss) else .stuck)=_
 rw[if_pos hi,e]
theorem QIg{i:Nat}{f:List D->Out D}{A:‹"ak"›}{ς ς1:SD}{ds es:List D}{xss:List (List D)}(a:A ς=.ok ds)(h:f ds=.ok (.tup es))(he:es=xss.map .lst)(hi:i<ς.length)(e:ς.set i none=ς1):uCall i f A ς=.ok (ς1,xss):=by
 unfold uCall
 rw[a,Out.bind_ok,h,Out.bind_ok]
 exact r_mkU he hi e
theorem QMW{i n:Nat}{dm:List D}{f:List D->Out D}{A:‹"ak"›}{E:SD->Out D}{ς ς1:SD}{ds xs es:List D}{d:D}{xss:List (List D)}(a:A ς=.ok ds)(b:E ς=.ok d)(hx:gK n dm ds [d]=xs)(h:f xs=.ok (.tup es))(he:es=xss.map .lst)(hi:i<ς.length)(e:ς.set i none=ς1):Qo3 i n dm f A E ς=.ok (ς1,xss):=by
 unfold Qo3
 rw[a,Out.bind_ok,b,Out.bind_ok,hx,h,Out.bind_ok]
 exact r_mkU he hi e
theorem r_uIf{TC:SD->Out Bool}{M N:‹"bg"›}{ς:SD}{b:Bool}{r:Out (SD×List (List D))}(a:TC ς=.ok b)(k:(if b=true then M ς else N ς)=r):uIf TC M N ς=r:=by
 unfold uIf;rw[a];exact k
theorem QQO{T:SD->Out Fl}{M:‹"bg"›}{ς ς':SD}{r:Out (SD×List (List D))}(a:T ς=.ok (.nx ς'))(k:M ς'=r):uSeq T M ς=r:=by
 unfold uSeq;rw[a];exact k
theorem QNl{i j:Nat}{M:‹"bg"›}{TC TD:SD->Out Bool}{R R' U:SD->Out Fl}{ς ς0 ς1 ς2:SD}{xss:List (List D)}{r:Out Fl}(h:M ς=.ok (ς0,xss))(hs:QhQ xss=true)(hi:i<ς0.length)(hj:j<ς0.length)(e1':ς0.set i ‹"az"›=ς1)(t:TC ς1=.ok false)(t':TD ς1=.ok false)(e2':(ς0.set i none).set j none=ς2)(u:U ς2=r):QpD i j M TC R TD R' U ς=r:=by
 unfold QpD
 rw[h,Out.bind_ok]
 show(if (QhQ xss&&decide (i<ς0.length)&&decide (j<ς0.length))=true then TC (ς0.set i ‹"az"›)>>=fun b=>if b=true then R (ς0.set i ‹"az"›)>>=onlyR else
  TD (ς0.set i ‹"az"›)>>=fun b=>if b=true then R' (ς0.set i ‹"az"›)>>=onlyR else U ((ς0.set i none).set j none) else .stuck)=r
 rw[if_pos (by rw[hs,decide_eq_true hi,decide_eq_true hj];rfl),e1',t,Out.bind_ok,if_neg (by decide),t',Out.bind_ok,if_neg (by decide),e2']
 exact u
theorem the_law(ns:List Int)(hl:ns.length<=63)(hb:∀ z∈ns,bitsI z<=1048576):QmY [.lst (ns.map .int)]=.ok (.bl true):=by
 obtain⟨n,nd,kd,t,m,ld,st,nm,n1,n12,d1,d6,pl,hpl⟩:=QO7 ns
 obtain⟨cl,dn,hs,hof⟩:=QLV ns n1 n12 d1 d6 pl
 obtain⟨K,hK,hdk⟩:=QNT ns n12
 obtain⟨v,hv⟩:=Qo2 ns 0
 have hv:Q7 [.lst (ns.map .int),.int 0]=.ok (.int v):=hv
 obtain⟨g,hg,hdg⟩:=QjK v (M:=6) (by decide)
 have hdg:QY [.int v,.int 6]=.ok (rl 6 ‹"J"›):=hdg
 obtain⟨y0,y1⟩:=hg 5 (by decide)
 have hy:dIx (rl 6 ‹"J"›) (.int 5)=.ok (.int (g 5)):=ixR (n:=6) (i:=5) (f:=fun i=>D.int (g i)) (by decide)
 generalize g 5=y at *
 generalize rl 6 ‹"cD"›=Dd at *
 have h18:dPow (.int 10) (.int 18)=.ok (.int 1000000000000000000):=by rw[QIb (by decide)];rfl
 have hlp:=lenR n ‹"q"›
 have hst:∀ ς:SD,ς[1]?=some (some (.k,rl n ‹"q"›))->eComp [none] ‹"dt"› (gN 0) cTrue Qzw ς=.ok (rl n ‹"bd"›):=fun ς h=>by
  refine Qas ‹"q"› ‹"dF"› (r_itL (r_var h)) (fun i hi=>?_) (by rw[List.length_range];omega)
  refine Qav (by walk_at "cap") (by walk_at "s") ?_
  unfold Qzw
  exact r_e2 (r_var rfl) r_C (ixT 3 rfl)
 have hpk:∀ ς:SD,ς[0]?=some (some (.k,.lst (ns.map .int)))->eComp [none] (itL (eSl (eVar 0) (oSome (eC (.int 13))) (oSome (eC (.int 53))))) (gN 0) cTrue Qzs ς=.ok (.lst ((((ns.drop 13).take 40).map fun z=>z % (1000000000000000000+1)).map .int)):=fun ς h=>by
  have hcut:cutD (ns.map D.int) (some 13) (some 53)=((ns.drop 13).take 40).map D.int:=by
   have:=QPX (ns.map D.int) 13 53
   rw[← List.map_drop, ← List.map_take]at this
   exact this
  rw[List.map_map]
  refine Qas D.int (fun z=>D.int (z % (1000000000000000000+1))) (r_itL (r_sl (p:=some 13) (q:=some 53) (r_var h) (QyZ r_C) (QyZ r_C) hcut)) (fun z hz=>?_) (by rw[List.length_take];omega)
  refine Qav (by walk_at "cap") (by walk_at "s") ?_
  unfold Qzs
  exact r_e2 (r_var rfl) (r_e2 (r_e2 r_C r_C h18) r_C (Qae _ _)) (QK (by decide))
 generalize ((ns.drop 13).take 40).map (fun z=>z % (1000000000000000000+1))=pk0 at *
 obtain⟨pk,hpkv⟩:∃ pk:List Int,∀ a0 a1 a2 a3 a4 a5 a8 a9 a10 a11 a12:Option (SM×D),sIf (tVal (e2 dEq (e2 dMod (eVar 7) (eC (.int 4))) (eC (.int 1)))) (sSet 6 (eLst aNil)) sNil [a0,a1,a2,a3,a4,a5,some (.k,.lst (pk0.map .int)),some (.k,.int y),a8,a9,a10,a11,a12]=.ok (.nx [a0,a1,a2,a3,a4,a5,some (.k,.lst (pk.map .int)),some (.k,.int y),a8,a9,a10,a11,a12]):=by
  have m4:dMod (.int y) (.int 4)=.ok (.int (y % 4)):=QK (by decide)
  by_cases h:y % 4=1
  ·exact⟨[],fun a0 a1 a2 a3 a4 a5 a8 a9 a10 a11 a12=>r_ifT (QH (r_e2 (r_e2 (r_var rfl) r_C m4) r_C (Q0 _ _))) (decide_eq_true h) (r_set (d:=.lst []) (by (repeat walk_at "e")) (by walk_at "s"))⟩
  ·exact⟨pk0,fun a0 a1 a2 a3 a4 a5 a8 a9 a10 a11 a12=>r_ifF (QH (r_e2 (r_e2 (r_var rfl) r_C m4) r_C (Q0 _ _))) (decide_eq_false h) QcJ⟩
 have q4:dFdiv (.int y) (.int 4)=.ok (.int (y / 4)):=QfC (by decide) (by decide)
 have m151:dMod (.int (y / 4)) (.int 151)=.ok (.int (y / 4 % 151)):=QK (by decide)
 have q604:dFdiv (.int y) (.int 604)=.ok (.int (y / 604)):=QfC (by decide) (by decide)
 have m8:dMod (.int (y / 604)) (.int 8)=.ok (.int (y / 604 % 8)):=QK (by decide)
 have q4832:dFdiv (.int y) (.int 4832)=.ok (.int (y / 4832)):=QfC (by decide) (by decide)
 have m3:dMod (.int (y / 4832)) (.int 3)=.ok (.int (y / 4832 % 3)):=QK (by decide)
 obtain⟨lm,hlm,hlmD⟩:∃ lm:Nat,lm<=150/\∀ ς:SD,ς[7]?=some (some (.k,.int y))->e2 dMul (e2 dMod (e2 dFdiv (eVar 7) (eC (.int 4))) (eC (.int 151))) ‹"bF"› ς=.ok (.int (lm:Int)):=by
  have a0:0<=y / 4 % 151:=Int.emod_nonneg _ (by decide)
  have a1:y / 4 % 151<151:=Int.emod_lt_of_pos _ (by decide)
  have ba:bitsI (y / 4 % 151)<=8:=bd_in a0 (by omega)
  have hgt:=Qee (y / 604 % 8) 0
  cases hc:decide (0<y / 604 % 8) with
  | false=>
   rw[hc]at hgt
   refine⟨0,by omega,fun ς h=>r_e2 (r_e2 (r_e2 (r_var h) r_C q4) r_C m151) (r_eA (Qe (r_e2 (r_e2 (r_e2 (r_var h) r_C q604) r_C m8) r_C hgt) r_nil) (dbl false)) ?_⟩
   rw[if_neg (by decide),r_mul ba (QCP (i:=0) rfl) rfl,Int.mul_zero];rfl
  | true=>
   rw[hc]at hgt
   refine⟨(y / 4 % 151).toNat,by omega,fun ς h=>r_e2 (r_e2 (r_e2 (r_var h) r_C q4) r_C m151) (r_eA (Qe (r_e2 (r_e2 (r_e2 (r_var h) r_C q604) r_C m8) r_C hgt) r_nil) (dbl true)) ?_⟩
   rw[if_pos rfl,r_mul ba (QCP (i:=1) rfl) rfl,Int.mul_one,Int.toNat_of_nonneg a0]
 have n0:∀ z:SD,eLst aNil z=.ok (.lst []):=fun z=>by (repeat walk_at "e")
 have hpn:=QIc pk
 have l1:dList (rl n ‹"dF"›)=.ok (rl n ‹"dF"›):=rfl
 have l2:dList (rl n ‹"bc"›)=.ok (rl n ‹"bc"›):=rfl
 have l3:dList (D.lst (pk.map .int))=.ok (D.lst (pk.map .int)):=rfl
 have hne:=ne_3 ((List.range n).map st) ((List.range n).map K) pk
 have heq:=eq_3 ((List.range n).map st) ((List.range n).map K) pk
 rw[← QKX, ← QKX]at hne heq
 have x0:∀ A B C:D,dIx (.tup [A,B,C]) (.int 0)=.ok A:=fun A B C=>ixT 0 rfl
 have x1:∀ A B C:D,dIx (.tup [A,B,C]) (.int 1)=.ok B:=fun A B C=>ixT 1 rfl
 have x2:∀ A B C:D,dIx (.tup [A,B,C]) (.int 2)=.ok C:=fun A B C=>ixT 2 rfl
 have n2:=hs.n2
 have d2:=hs.d2
 have hend:∃(M:Nat)(xss:List (List D)),QhQ xss=true/\QbW [rl n ‹"q"›,.int (nd:Int),rl n ‹"bd"›,rl n ‹"aa"›,.lst (pk.map .int),.int (M:Int),.tup (xss.map .lst)]=.ok (.bl true)/\
  ∀ a0 a1 a2:Option (SM×D),uIf ‹"cS"› ‹"ac"› ‹"o"›
   [a0,a1,a2,some ‹"dr"›,some (.k,rl n ‹"bd"›),some (.k,rl n ‹"aa"›),some (.k,.lst (pk.map .int)),some (.k,.int y),some (.k,.int (lm:Int)),some (.k,.tup [rl n ‹"bd"›,rl n ‹"aa"›,.lst (pk.map .int)]),some (.k,.int (y / 4832 % 3)),none,none]=
   .ok ([a0,a1,a2,some ‹"dr"›,some (.k,rl n ‹"bd"›),some (.k,rl n ‹"aa"›),some (.k,.lst (pk.map .int)),some (.k,.int y),some ‹"bX"›,some (.k,.tup [rl n ‹"bd"›,rl n ‹"aa"›,.lst (pk.map .int)]),some (.k,.int (y / 4832 % 3)),none,none],xss):=by
  have fin:∀(Pd:D)(M:Nat),PkD pk Pd->M<=5000->∃ xss:List (List D),QhQ xss=true/\QbW [rl n ‹"q"›,.int (nd:Int),rl n ‹"bd"›,rl n ‹"aa"›,.lst (pk.map .int),.int (M:Int),.tup (xss.map .lst)]=.ok (.bl true)/\QaY [offD n nd nm dn cl t m ld st,rl n ‹"bd"›,rl n ‹"aa"›,Pd,.int (M:Int)]=.ok (.tup (xss.map .lst)):=fun Pd M hp hM=>by
   obtain⟨L,r1,r2,r3,r4⟩:=QKy hs (pk:=pk) K hp hM
   refine⟨[(List.range n).map fun i=>D.int ((run n t m ld pk ⟨st,K,fun _=>0⟩ L).S i),(List.range n).map fun i=>D.int ((run n t m ld pk ⟨st,K,fun _=>0⟩ L).K i),(List.range nd).map fun i=>D.int ((run n t m ld pk ⟨st,K,fun _=>0⟩ L).G i),(rlog n t m ld pk ⟨st,K,fun _=>0⟩ L).map fun k:Nat=>D.int (k:Int)],?_,QKE hs (kd:=kd) (s0:=⟨st,K,fun _=>0⟩) r1 hM r2 r3 rfl,r4⟩
   unfold QhQ
   simp only[List.all_cons,List.all_nil,List.length_map,List.length_range,QiG,Bool.and_true,Bool.and_eq_true,decide_eq_true_eq]
   omega
  cases hc:(!pk.isEmpty)||decide (y / 4832 % 3=0) with
  | true=>
   obtain⟨xss,f1',f2',f3⟩:=fin _ lm (.inl rfl) (by omega)
   refine⟨lm,xss,f1',f2',fun a0 a1 a2=>r_uIf (b:=true) ?_ (Qdw rfl ?_)⟩
   ·refine r_or' (QH (r_e2 (r_var rfl) (n0 _) hpn)) ?_
    cases hz:(!pk.isEmpty) with
    | true=>rfl
    | false=>
     rw[hz,Bool.false_or]at hc
     rw[if_neg (by decide),QH (r_e2 (r_var rfl) r_C (Q0 _ _)),hc]
   ·exact QIg (ds:=[_,_,_,_,_]) (Qe (r_var rfl) (Qe (r_e2 (r_var rfl) r_C (x0 _ _ _)) (Qe (r_e2 (r_var rfl) r_C (x1 _ _ _)) (Qe (r_e2 (r_var rfl) r_C (x2 _ _ _)) ‹"l"›)))) f3 rfl (by show 11<13;decide) rfl
  | false=>
   rw[Bool.or_eq_false_iff]at hc
   obtain⟨hc1,hc2⟩:=hc
   have hp0:pk=[]:=by cases pk with | nil=>rfl | cons a b=>cases hc1
   have hP:PkD pk .non:=.inr ⟨hp0,rfl⟩
   rw[hc1]at hpn
   have hor:∀ ς:SD,ς[6]?=some (some (.k,.lst (pk.map .int)))->ς[10]?=some (some (.k,.int (y / 4832 % 3)))->tOr' (tVal (e2 dNe (eVar 6) (eLst aNil))) (tVal (e2 dEq (eVar 10) (eC (.int 0)))) ς=.ok false:=fun ς h6 h10=>by
    refine r_or' (QH (r_e2 (r_var h6) (n0 _) hpn)) (QbO rfl ?_)
    rw[QH (r_e2 (r_var h10) r_C (Q0 _ _)),hc2]
   by_cases hw:y / 4832 % 3=1
   ·obtain⟨xss,f1',f2',f3⟩:=fin _ lm hP (by omega)
    refine⟨lm,xss,f1',f2',fun a0 a1 a2=>r_uIf (hor _ rfl rfl) (QbO rfl (r_uIf (QH (r_e2 (r_var rfl) r_C (Q0 _ _))) (Qdw (decide_eq_true hw) ?_)))⟩
    exact QMW (ds:=[_,_,_]) ‹"cb"› (r_var rfl) rfl f3 rfl (by show 11<13;decide) rfl
   ·obtain⟨xss,f1',f2',f3⟩:=fin _ 2000 hP (by decide)
    refine⟨2000,xss,f1',f2',fun a0 a1 a2=>r_uIf (hor _ rfl rfl) (QbO rfl (r_uIf (QH (r_e2 (r_var rfl) r_C (Q0 _ _))) (QbO (decide_eq_false hw) (QQO (r_set r_C (by walk_at "s")) ?_))))⟩
    exact QIg (ds:=[_,_,_]) ‹"cb"› f3 rfl (by show 11<13;decide) rfl
 obtain⟨M,xss,hsh,hwk,hU⟩:=hend
 generalize rl n ‹"q"›=P at *
 generalize offD n nd nm dn cl t m ld st=O at *
 generalize rl n ‹"dF"›=Sd at *
 generalize rl n ‹"bc"›=Kd at *
 generalize D.lst (ns.map D.int)=S at *
 generalize D.lst (pk.map D.int)=Pk at *
 rw[QQZ]
 unfold QBF
 refine Qbe (fl:=.rt false (.bl true)) ?_ r_rt
 refine r_seq (r_unp (ys:=[P,.int (nd:Int)]) (Qaj (xs:=[S,.int 12]) ‹"aA"› rfl hpl) (by walk_at "all")) (Ql ?_)
 refine r_seq (r_set (Qaj (xs:=[S,P,.int (nd:Int)]) ‹"V"› rfl hof) (by walk_at "s")) (Ql ?_)
 refine r_seq (r_set (hst _ rfl) (by walk_at "s")) (Ql ?_)
 refine r_seq (r_set (Qaj (xs:=[S,.int (n:Int)]) (Qe (r_var rfl) (Qe (r_eA ‹"l"› hlp) r_nil)) rfl hdk) (by walk_at "s")) (Ql ?_)
 refine r_seq (r_set (hpk _ rfl) (by walk_at "s")) (Ql ?_)
 refine r_seq (r_set (r_e2 ‹"cm"› r_C hy) (by walk_at "s")) (Ql ?_)
 refine r_seq (hpkv _ _ _ _ _ _ _ _ _ _ _) (Ql ?_)
 refine r_seq (r_set (hlmD _ rfl) (by walk_at "s")) (Ql ?_)
 refine r_seq (r_set (r_tup (Qe (r_e1 (r_var rfl) l1) (Qe (r_e1 (r_var rfl) l2) (Qe (r_e1 (r_var rfl) l3) r_nil))) (show 3<=1000 by decide)) (by walk_at "s")) (Ql ?_)
 refine r_seq (r_set (r_e2 (r_e2 (r_var rfl) r_C q4832) r_C m3) (by walk_at "s")) (Ql ?_)
 refine QNl (hU _ _ _) hsh (by show 11<13;decide) (by show 12<13;decide) rfl ?_ ?_ rfl ?_
 ·exact QH (r_e2 (r_var rfl) (r_tup ‹"V"› (show 3<=1000 by decide)) hne)
 ·exact Qmp (b:=true) (QH (Qaj (xs:=[_,_,_,_,_,_,_]) (Qe (r_var rfl) (Qe (r_var rfl) (Qe (r_var rfl) (Qe (r_var rfl) ‹"V"›)))) rfl hwk))
 ·exact r_ret (r_e2 (r_var rfl) (r_tup ‹"V"› (show 3<=1000 by decide)) heq)
end My
namespace My
open PySem PySem.Spec L2 DL
set_option hygiene false
local macro_rules
 | `("L"^$f $a $b $x $y $s $d $c $e $g $h $i $j $z) => `(K.lookup $f=some ⟨$a,$b,.func (W.fnOf $x $y (Qq $s) (Qp $s) (Qa $s) $d $c $e $g $h $i $j),$z⟩)
 | `("N"^$x $s) => `(W.nsIn K mainGlobals $s=some (some (.ref $x)))
 | `("Z"^$s) => `(W.nsIn K mainGlobals $s=some none)
 | `("K"^$x) => `(W.keepIn K (.ref $x)=true)
 | `("C"^$x $s) => `(W.codeIn K $x $s=true)
 | `("I"^$x) => `(W.isFn K (.ref $x)=true)
 | `("V"^$x $s) => `(W.findIn K (.ref $x) $s=some none)
 | `("G"^$x $s $y) => `(W.findIn K (.ref $x) $s=some (some (.ref $y)))
 | `("T"^$x $y $b) => `(W.kitOne K (.ref $x) (.ref $y)=some $b)
 | `("D"^$a $b $c $d) => `(⟨_,_,_,_,$a,W.mg_of X G $b,$c,$d,.nil⟩)
 | `("F"^$k $l $b $q) => `(FnOk l.prog w K mg base CX0 $k _ _ $l (SpD K (ctOf K) $b $q))
 | `("E"^$q $s $k $b) => `(DefOk l.prog w K mg base (ctOf K) $s $k $b [] $q)
 | `("A"^$x) => `(W.mg_of X G $x)
 | `("R"^$a $b $c) => `(by rw[$a:term]at hA;cases hA;exact⟨$b,$c⟩)
local macro_rules
 | `(tactic|walk_at "h0") => `(tactic|((have hm:c∈Qm := by simpa using hc);simp only[Qm,List.mem_cons,List.not_mem_nil,or_false]at hm))
 | `(tactic|walk_at "h1") => `(tactic|((have hm:c∈Qf := by simpa using hc);simp only[Qf,List.mem_cons,List.not_mem_nil,or_false]at hm))
 | `(tactic|walk_at "h2") => `(tactic|((have hm:c∈Q4 := by simpa using hc);simp only[Q4,List.mem_cons,List.not_mem_nil,or_false]at hm))
set_option hygiene true
theorem all_mk{l:W.OpenLaw}{w:World}{K:W.Frag}{h:Heap}{mg:‹"R"›}{fa:Addr}(X:K.In h)(G:h.Ns mainGlobals mg)(hfa:mg "law"=some (.ref fa))
 {QO Qy QN QP QR QaW QaG Qe9 Qag Qgv Qgw Qe3 Qgx Qeb Qeh Qd4 Qbn Qqy QnY Ql8 QlV QqV Qn0 Qqd Qp3 Qn5 QsJ QlN QsD QoA Qox QqL Qny QqW Qta Qnw Qqg Qko QqD Qr1 Qir QvV Qqb Qmw QnI Qlw QnF Qku QD5 QvB QKn QvU Qvq QpY Qod QlF Qqq Qls QJJ:Addr} {QFo QHh QCh QDY QAk Qz7 QAC QAT QHn QHD QB3 QCj QFv QHy QF6 QFW QCN QEV QIL QI8 QBy QBi QJz QJC QBL QDw QDp QDn QHT QGx QCL QB8 QGv QF1 QAQ QAM Qv6 Qxv QIR QJU QFg QDN QGM QGP Qzm Qzj QGi QHm QxQ QyQ QJl QJY QwZ Qwf QrY Qte QLL QL7 QGk QGX QB1 QEw QBo QA8 QEf QCv Qy0 Qzu QBH QDX QC8 QEy QAp QA6 QBG QER QwM Qw1 QxO Qx8 QOa QPj QKI QLs Qwh Qxo QQA QQu Qv5 QwB QDA QDt QLn QLK QKV Qr4 QJD QD9 QCM QAL QAa QHM QFN QBd QAi QP8 QLQ:Option Addr} {QG2 QBI QAz QBl QGO QEK QHv QHl QBQ QKb QAg QJx QFd QCs QGQ QDD QF0 QAR Qwi QIM QDC QGZ QxY QHo QyW QKe Qv0 Qr3 QLl QGA QDo QAY QCc Qzg QCn QEr Qz1 QBT Qww Qy6 QOO QMl Qxt QQn QwW QDy QK1 QLZ QJp QEF QAG QG0 QAy QQH:Array (Option Value)} {QGK QFq QFO QGz QuS QFl QCV QCz QFi QCw Qtx QDR QBk QBh QAt QAo Qrg QAc QBr QAN Qz5 QBx Qrx Qz3 QHs QHA QG1 QGI QuE QG3 QEp QDl QCg QE6 Qsq QD3 QGS QGT QF7 QHB QuJ QF2 QHz QGy QFM QFu QuQ QFQ QBR QC2 QFb QCX Qsc QEW QJR QKs QKc QIB QwK QJ2 QAI QBs Qz2 QAO Qrq QAS QJS QIY QIw QIA Qwe QJr QEM QE2 QCR QDG Qts QDg QC3 QDm QDe QB5 QsM QEe QF5 QGE QHf QFF QuH QHF QCO QBN QE4 QBP QtI QDU QGU QFY QG8 QHU Qut QFE QA4 QA1 QBn Qz4 Qrv QAu QxJ QwS QwC QwR Qnp QxK QKd QIS QIK QJv Qwp QI7 QE7 QDW QCu QBM Qtf QDr QHq QFT QFy QFV QuN QFp QyU QyO Qzb Qyi QoW QxL QHd QHa QFL QFx QuG QF4 Qzh QyV Qzc QyF Qo6 QyE QI5 QJn QJg QJa Qxk QIX Qwc Qwu Qxc Qwl Qnm Qwt QtE Qsn Qsh Qr2 Qjx Qsp QK2 QMd QLy QKC QzV QMr QGn QHP QGL QHr QuA QGc QEo QCJ QEO QEU QsB QCo QAE QAe QBm QAr Qry QAH QCp QEn QEb QDJ Qtm QCH Qzp Qy4 Qyt Qx7 Qpf QxR QCD QDO QDV QEx Qtr QBZ QBW QBY QCE QBV Qsv QCY QA2 QAx QBg QAW Qrk QBt QEm QEN QB0 QEY Qs4 QEA Qwm Qw3 QwX Qw4 Qnd QwN Qzo Qyx Qyz Qx3 Qo5 QyM QO0 QOG QOb QOe QIh QOX QL8 QLF QLB QKx QzO QKH QwU QwV Qws Qv1 Qm9 Qwx QQe QPq QPU QPM QMB QPW Qw7 QwY Qv3 QxE Qm0 Qxm QBO QDI QE3 QEa Qtk QDz QMp QLb QMt QMb QzJ QKQ QLO Qtu Qse Qtp Qni QtH QJh QEs QEd QEC QEJ Qtz QDu QA0 QAj QBu Qz9 Qrs QA7 QFU QGR QHe QHK QuT QHH QAv QBe QAf QAK Qru QAV QPt QKB QKJ QL9 QCF QK8:Value} {QzP ve vp vc v9 vf vi vj vk:Tok} {QMj:Nat}
 (Qwk:"N"^QO "Deal")
 (Qya:W.plainGet K QO Str.empty=true)
 (QxM:W.hasDictIn K QO=true)
 (Qye:W.plainOver K QO=true)
 (QyR:W.findIn K (.ref QO) "__setattr__"=some ‹"an"›)
 (Qkt:"V"^QO "table")
 (Qfm:"V"^QO "clerk_names")
 (QfO:"V"^QO "door_names")
 (Qe0:"V"^QO "entry_places")
 (Qkg:"V"^QO "staff")
 (Qew:"V"^QO "first_states")
 (Qlx:"V"^QO "ways")
 (Qj8:"V"^QO "heads")
 (QqP:"N"^Qy "Bundle")
 (Qsi:W.plainGet K Qy Str.empty=true)
 (Qto:W.hasDictIn K Qy=true)
 (Qtd:W.plainOver K Qy=true)
 (Qtv:W.findIn K (.ref Qy) "__setattr__"=some ‹"an"›)
 (QhD:"V"^Qy "table")
 (Qej:"V"^Qy "clerk_names")
 (QeR:"V"^Qy "door_names")
 (QdM:"V"^Qy "entry_places")
 (QhX:"V"^Qy "staff")
 (QdF:"V"^Qy "first_states")
 (QiW:"V"^Qy "ways")
 (Qhr:"V"^Qy "heads")
 (Qwq:"N"^QN "Copy")
 (Qyu:W.plainGet K QN Str.empty=true)
 (Qzq:W.hasDictIn K QN=true)
 (Qyy:W.plainOver K QN=true)
 (QyD:W.findIn K (.ref QN) "__setattr__"=some ‹"an"›)
 (QjN:"V"^QN "table")
 (Qfk:"V"^QN "clerk_names")
 (QfH:"V"^QN "door_names")
 (QeW:"V"^QN "entry_places")
 (Qj7:"V"^QN "staff")
 (Qeu:"V"^QN "first_states")
 (Ql4:"V"^QN "ways")
 (Qj2:"V"^QN "heads")
 (QxF:"N"^QP "Rows")
 (QxW:W.plainGet K QP Str.empty=true)
 (Qzf:W.hasDictIn K QP=true)
 (Qy8:W.plainOver K QP=true)
 (QxV:W.findIn K (.ref QP) "__setattr__"=some ‹"an"›)
 (QjZ:"V"^QP "table")
 (Qfh:"V"^QP "clerk_names")
 (QfD:"V"^QP "door_names")
 (QeO:"V"^QP "entry_places")
 (Qj4:"V"^QP "staff")
 (QeH:"V"^QP "first_states")
 (Qmh:"V"^QP "ways")
 (Qj3:"V"^QP "heads")
 (Qq2:"N"^QR "Office")
 (Qs8:W.plainGet K QR Str.empty=true)
 (Qsx:W.hasDictIn K QR=true)
 (QtB:W.plainOver K QR=true)
 (QsZ:W.findIn K (.ref QR) "__setattr__"=some ‹"an"›)
 (Qhz:"V"^QR "table")
 (Qef:"V"^QR "clerk_names")
 (Qey:"V"^QR "door_names")
 (QdB:"V"^QR "entry_places")
 (QhU:"V"^QR "staff")
 (QdS:"V"^QR "first_states")
 (QiZ:"V"^QR "ways")
 (Qh7:"V"^QR "heads")
 (QoN:"G"^QO "outs" QaW)
 (Qkv:"G"^Qy "outs" QaW)
 (QnN:"G"^QN "outs" QaW)
 (QnH:"G"^QP "outs" QaW)
 (Qkc:"G"^QO "period" QaG)
 (QhS:"G"^Qy "period" QaG)
 (Qks:"G"^QN "period" QaG)
 (QjP:"G"^QP "period" QaG)
 (QiN:"G"^QR "doors" Qeb)
 (QiI:"G"^QR "clerk" Qeh)
 (Qis:"G"^QR "leads" Qd4)
 (QqK:"G"^QO "row" Qbn)
 (Ql9:"G"^Qy "row" Qbn)
 (Qq5:"G"^QN "row" Qbn)
 (Qq9:"G"^QP "row" Qbn)
 (Qg5:"G"^QO "keep_rows" Qag)
 (QfK:"G"^Qy "keep_rows" Qag)
 (Qg9:"G"^QN "keep_rows" Qag)
 (Qg7:"G"^QP "keep_rows" Qag)
 (Qnz:"G"^QO "__init__" Qgw)
 (Qj9:"G"^Qy "__init__" Qe3)
 (Qoy:"G"^QN "__init__" Qgx)
 (Qoz:"G"^QP "__init__" Qgv)
 (Qkz:"G"^QR "__init__" Qe9)
 (Qvv:W.makesIn K QO=true)
 (Qvj:"K"^QO)
 (QqZ:W.makesIn K Qy=true)
 (Qqz:"K"^Qy)
 (QvX:W.makesIn K QN=true)
 (QvC:"K"^QN)
 (QvK:W.makesIn K QP=true)
 (QvL:"K"^QP)
 (Qp4:W.makesIn K QR=true)
 (Qq4:"K"^QR)
 (y1:W.specialIn K ‹"p"› "__get__"=some (some ‹"ap"›))
 (y2:W.takesIn K ‹"p"›=some true)
 (Qyv:W.findIn K (.ref QO) "__class__"=some (some ‹"p"›))
 (Qy1:W.mroIn K QO (.type "object")=some true)
 (QsL:W.findIn K (.ref Qy) "__class__"=some (some ‹"p"›))
 (Qs6:W.mroIn K Qy (.type "object")=some true)
 (Qx6:W.findIn K (.ref QN) "__class__"=some (some ‹"p"›))
 (QyS:W.mroIn K QN (.type "object")=some true)
 (Qyd:W.findIn K (.ref QP) "__class__"=some (some ‹"p"›))
 (Qx0:W.mroIn K QP (.type "object")=some true)
 (QtC:W.findIn K (.ref QR) "__class__"=some (some ‹"p"›))
 (Qso:W.mroIn K QR (.type "object")=some true)
 (QpU:"N"^Qqy "_law_cell")
 (QqH:"L"^Qqy QGK QFo "_law_cell" "_law_cell" Qch .none QFq QFO QGz QHh QuS QFl QG2)
 (Qqt:"C"^QuS "_law_cell")
 (Qla:"K"^Qqy)
 (Qn2:"N"^QnY "_law_mixed")
 (QoD:"L"^QnY QCV QCh "_law_mixed" "_law_mixed" QbN .none QCz QFi QCw QDY Qtx QDR QBI)
 (QoU:"C"^Qtx "_law_mixed")
 (Qi9:"K"^QnY)
 (Ql6:"N"^Ql8 "_law_digits")
 (QlI:"L"^Ql8 QBk QAk "_law_digits" "_law_digits" Qaz .none QBh QAt QAo Qz7 Qrg QAc QAz)
 (Qma:"C"^Qrg "_law_digits")
 (QhI:"K"^Ql8)
 (QlU:"N"^QlV "_law_counts")
 (QlX:"L"^QlV QBr QAC "_law_counts" "_law_counts" QaJ .none QAN Qz5 QBx QAT Qrx Qz3 QBl)
 (QlB:"C"^Qrx "_law_counts")
 (Qhs:"K"^QlV)
 (Qq0:"N"^QqV "_law_rows")
 (QqT:"L"^QqV QHs QHn "_law_rows" "_law_rows" QC .none QHA QG1 QGI QHD QuE QG3 QGO)
 (Qq8:"C"^QuE "_law_rows")
 (QkQ:"K"^QqV)
 (Qol:"N"^Qn0 "_law_named")
 (Qnr:"L"^Qn0 QEp QB3 "_law_named" "_law_named" QaK .none QDl QCg QE6 QCj Qsq QD3 QEK)
 (QoC:"C"^Qsq "_law_named")
 (Qjv:"K"^Qn0)
 (QqI:"N"^Qqd "_law_seat")
 (QqC:"L"^Qqd QGS QFv "_law_seat" "_law_seat" QX .none QGT QF7 QHB QHy QuJ QF2 QHv)
 (Qp8:"C"^QuJ "_law_seat")
 (Qle:"K"^Qqd)
 (QqU:"N"^Qp3 "_law_plan")
 (QpZ:"L"^Qp3 QHz QF6 "_law_plan" "_law_plan" Qaa .none QGy QFM QFu QFW QuQ QFQ QHl)
 (Qra:"C"^QuQ "_law_plan")
 (Qk9:"K"^Qp3)
 (QnB:"N"^Qn5 "places_of")
 (QnT:"L"^Qn5 QBR QCN "places_of" "places_of" QaB .none QC2 QFb QCX QEV Qsc QEW QBQ)
 (QnW:"C"^Qsc "places_of")
 (Qjq:"K"^Qn5)
 (Qtt:"N"^QsJ "is_list")
 (QtF:"L"^QsJ QJR QIL "is_list" "is_list" Qb5 .none QKs QKc QIB QI8 QwK QJ2 QKb)
 (QsN:"C"^QwK "is_list")
 (Qm7:"K"^QsJ)
 (Ql0:"N"^QlN "all_unlike")
 (Qmr:"L"^QlN QAI QBy "all_unlike" "all_unlike" Qbl .none QBs Qz2 QAO QBi Qrq QAS QAg)
 (Qlp:"C"^Qrq "all_unlike")
 (QhJ:"K"^QlN)
 (Qr6:"N"^QsD "is_name")
 (Qsk:"L"^QsD QJS QJz "is_name" "is_name" QaV .none QIY QIw QIA QJC Qwe QJr QJx)
 (Qth:"C"^Qwe "is_name")
 (Qnl:"K"^QsD)
 (Qon:"N"^QoA "are_names")
 (Qn3:"L"^QoA QEM QBL "are_names" "are_names" QaA .none QE2 QCR QDG QDw Qts QDg QFd)
 (Qou:"C"^Qts "are_names")
 (Qja:"K"^QoA)
 (Qoe:"N"^Qox "are_texts")
 (QnL:"L"^Qox QC3 QDp "are_texts" "are_texts" Qak .none QDm QDe QB5 QDn QsM QEe QCs)
 (QnA:"C"^QsM "are_texts")
 (Qji:"K"^Qox)
 (Qqf:"N"^QqL "is_whole")
 (Qrc:"L"^QqL QF5 QHT "is_whole" "is_whole" QbU .none QGE QHf QFF QGx QuH QHF QGQ)
 (Qqc:"C"^QuH "is_whole")
 (QkW:"K"^QqL)
 (Qor:"N"^Qny "is_within")
 (Qnt:"L"^Qny QCO QCL "is_within" "is_within" Qbo .none QBN QE4 QBP QB8 QtI QDU QDD)
 (Qn8:"C"^QtI "is_within")
 (Qjg:"K"^Qny)
 (QqN:"N"^QqW "is_clerk")
 (Qqp:"L"^QqW QGU QGv "is_clerk" "is_clerk" Qa4 .none QFY QG8 QHU QF1 Qut QFE QF0)
 (QpX:"C"^Qut "is_clerk")
 (QkR:"K"^QqW)
 (Qd7:"I"^QaW)
 (QlC:"L"^QaW QA4 QAQ "outs" "Clerk.outs" QbP .none QA1 QBn Qz4 QAM Qrv QAu QAR)
 (Qli:"C"^Qrv "Clerk.outs")
 (Qc5:"K"^QaW)
 (Qc0:"I"^QaG)
 (QiF:"L"^QaG QxJ Qv6 "period" "Clerk.period" Qa3 .none QwS QwC QwR Qxv Qnp QxK Qwi)
 (QiA:"C"^Qnp "Clerk.period")
 (Qce:"K"^QaG)
 (QsH:"N"^Qta "is_seat")
 (QsI:"L"^Qta QKd QIR "is_seat" "is_seat" Qa0 .none QIS QIK QJv QJU Qwp QI7 QIM)
 (QsW:"C"^Qwp "is_seat")
 (QmU:"K"^Qta)
 (QnR:"N"^Qnw "are_seats")
 (Qoh:"L"^Qnw QE7 QFg "are_seats" "are_seats" Qac .none QDW QCu QBM QDN Qtf QDr QDC)
 (QoS:"C"^Qtf "are_seats")
 (Qjo:"K"^Qnw)
 (QqB:"N"^Qqg "is_entry")
 (Qql:"L"^Qqg QHq QGM "is_entry" "is_entry" Qa6 .none QFT QFy QFV QGP QuN QFp QGZ)
 (QpT:"C"^QuN "is_entry")
 (Qk5:"K"^Qqg)
 (QjU:"N"^Qko "are_entries")
 (QjR:"L"^Qko QyU Qzm "are_entries" "are_entries" QU .none QyO Qzb Qyi Qzj QoW QxL QxY)
 (Qkd:"C"^QoW "are_entries")
 (QgP:"K"^Qko)
 (Qqw:"N"^QqD "leads_to")
 (Qp7:"L"^QqD QHd QGi "leads_to" "leads_to" Qb0 .none QHa QFL QFx QHm QuG QF4 QHo)
 (Qp5:"C"^QuG "leads_to")
 (QkV:"K"^QqD)
 (QjT:"I"^Qe9)
 (Qkn:"L"^Qe9 Qzh QxQ "__init__" "Office.__init__" Qo .none QyV Qzc QyF QyQ Qo6 QyE QyW)
 (Qj1:"C"^Qo6 "Office.__init__")
 (Qj6:"K"^Qe9)
 (QsA:"N"^Qr1 "sums_of")
 (Qr7:"L"^Qr1 QI5 QJl "sums_of" "sums_of" QbA .none QJn QJg QJa QJY Qxk QIX QKe)
 (Qsz:"C"^Qxk "sums_of")
 (Qne:"K"^Qr1)
 (Qiz:"N"^Qir "running_sums")
 (QiP:"L"^Qir Qwc QwZ "running_sums" "running_sums" Qam .none Qwu Qxc Qwl Qwf Qnm Qwt Qv0)
 (QiJ:"C"^Qnm "running_sums")
 (QfU:"K"^Qir)
 (Qb2:"I"^Qag)
 (Qgi:"L"^Qag QtE QrY "keep_rows" "Clerk.keep_rows" Q1 .none Qsn Qsh Qr2 Qte Qjx Qsp Qr3)
 (Qgj:"C"^Qjx "Clerk.keep_rows")
 (Qbh:"K"^Qag)
 (Qvz:"N"^QvV "is_row")
 (QvE:"L"^QvV QK2 QLL "is_row" "is_row" QaZ .none QMd QLy QKC QL7 QzV QMr QLl)
 (Qu1:"C"^QzV "is_row")
 (Qqi:"K"^QvV)
 (Qqe:"N"^Qqb "is_table")
 (Qp0:"L"^Qqb QGn QGk "is_table" "is_table" Q9 .none QHP QGL QHr QGX QuA QGc QGA)
 (Qqv:"C"^QuA "is_table")
 (QkL:"K"^Qqb)
 (QoO:"I"^Qgv)
 (QoP:"L"^Qgv QEo QB1 "__init__" "Rows.__init__" QbK .none QCJ QEO QEU QEw QsB QCo QDo)
 (QnQ:"C"^QsB "Rows.__init__")
 (QoT:"K"^Qgv)
 (Qlt:"N"^Qmw "single_row")
 (Qly:"L"^Qmw QAE QBo "single_row" "single_row" QaN .none QAe QBm QAr QA8 Qry QAH QAY)
 (QlW:"C"^Qry "single_row")
 (Qhm:"K"^Qmw)
 (Qnu:"I"^Qgw)
 (QoM:"L"^Qgw QCp QEf "__init__" "Deal.__init__" Qau .none QEn QEb QDJ QCv Qtm QCH QCc)
 (QnC:"C"^Qtm "Deal.__init__")
 (Qn1:"K"^Qgw)
 (QjX:"I"^Qe3)
 (Qki:"L"^Qe3 Qzp Qy0 "__init__" "Bundle.__init__" Qad .none Qy4 Qyt Qx7 Qzu Qpf QxR Qzg)
 (Qkq:"C"^Qpf "Bundle.__init__")
 (Qkm:"K"^Qe3)
 (Qog:"I"^Qgx)
 (Qn9:"L"^Qgx QCD QBH "__init__" "Copy.__init__" QbL .none QDO QDV QEx QDX Qtr QBZ QCn)
 (Qoj:"C"^Qtr "Copy.__init__")
 (QoH:"K"^Qgx)
 (QoB:"N"^QnI "_law_clerk")
 (QnE:"L"^QnI QBW QC8 "_law_clerk" "_law_clerk" Qab .none QBY QCE QBV QEy Qsv QCY QEr)
 (Qom:"C"^Qsv "_law_clerk")
 (Qjl:"K"^QnI)
 (Qlr:"N"^Qlw "_law_office")
 (Qlu:"L"^Qlw QA2 QAp "_law_office" "_law_office" Qv .none QAx QBg QAW QA6 Qrk QBt Qz1)
 (Qmm:"C"^Qrk "_law_office")
 (QhB:"K"^Qlw)
 (Qoc:"N"^QnF "_law_desks")
 (Qn4:"L"^QnF QEm QBG "_law_desks" "_law_desks" Qai .none QEN QB0 QEY QER Qs4 QEA QBT)
 (QnX:"C"^Qs4 "_law_desks")
 (Qjn:"K"^QnF)
 (Qiy:"I"^Qeb)
 (QiL:"L"^Qeb Qwm QwM "doors" "Office.doors" Qa9 .none Qw3 QwX Qw4 Qw1 Qnd QwN Qww)
 (QiE:"C"^Qnd "Office.doors")
 (QfY:"K"^Qeb)
 (Qkj:"N"^Qku "nothing_out")
 (QjY:"L"^Qku Qzo QxO "nothing_out" "nothing_out" Qa2 .none Qyx Qyz Qx3 Qx8 Qo5 QyM Qy6)
 (Qky:"C"^Qo5 "nothing_out")
 (QgX:"K"^Qku)
 (QCT:"N"^QD5 "able")
 (QFh:"L"^QD5 QO0 QOa "able" "able" Qe1 .none QOG QOb QOe QPj QIh QOX QOO)
 (QCQ:"C"^QIh "able")
 (Qxj:"K"^QD5)
 (Qvy:"N"^QvB "picked")
 (QvG:"L"^QvB QL8 QKI "picked" "picked" QcB .none QLF QLB QKx QLs QzO QKH QMl)
 (QuX:"C"^QzO "picked")
 (Qqo:"K"^QvB)
 (QiM:"I"^Qeh)
 (Qim:"L"^Qeh QwU Qwh "clerk" "Office.clerk" Qa7 .none QwV Qws Qv1 Qxo Qm9 Qwx Qxt)
 (Qi3:"C"^Qm9 "Office.clerk")
 (QfX:"K"^Qeh)
 (QJf:"N"^QKn "lay")
 (QJ7:"L"^QKn QQe QQA "lay" "lay" Qfs .none QPq QPU QPM QQu QMB QPW QQn)
 (QIE:"C"^QMB "lay")
 (QBE:"K"^QKn)
 (QiB:"I"^Qd4)
 (QiX:"L"^Qd4 Qw7 Qv5 "leads" "Office.leads" QaR .none QwY Qv3 QxE QwB Qm0 Qxm QwW)
 (QiO:"C"^Qm0 "Office.leads")
 (QfR:"K"^Qd4)
 (Qfb:"I"^Qbn)
 (Qn7:"L"^Qbn QBO QDA "row" "Clerk.row" QbM .none QDI QE3 QEa QDt Qtk QDz QDy)
 (QnD:"C"^Qtk "Clerk.row")
 (QdL:"K"^Qbn)
 (Qvm:"N"^QvU "handle")
 (Qvo:"L"^QvU QMp QLn "handle" "handle" QbZ .none QLb QMt QMb QLK QzJ QKQ QK1)
 (QuY:"C"^QzJ "handle")
 (Qq7:"K"^QvU)
 (QlS:"N"^Qvq "served")
 (QvJ:"L"^Qvq QLO QKV "served" "served" QT (.ref QpY) Qtu Qse Qtp Qr4 Qni QtH QLZ)
 (QvZ:"C"^Qni "served")
 (QiV:"K"^Qvq)
 (t_servedh:K.lookup QpY=some ⟨QJh,QJD,.seq #[.none,.int 2000 QzP] QMj,QJp⟩)
 (Qn6:"N"^Qod "_law_whole")
 (Qot:"L"^Qod QEs QD9 "_law_whole" "_law_whole" Qbm .none QEd QEC QEJ QCM Qtz QDu QEF)
 (QoJ:"C"^Qtz "_law_whole")
 (Qjk:"K"^Qod)
 (Qlm:"N"^QlF "_law_wholes")
 (Qlj:"L"^QlF QA0 QAL "_law_wholes" "_law_wholes" Qao .none QAj QBu Qz9 QAa Qrs QA7 QAG)
 (Qmq:"C"^Qrs "_law_wholes")
 (Qho:"K"^QlF)
 (QqY:"N"^Qqq "_law_step")
 (QqX:"L"^Qqq QFU QHM "_law_step" "_law_step" Q5 .none QGR QHe QHK QFN QuT QHH QG0)
 (Qqu:"C"^QuT "_law_step")
 (Qlc:"K"^Qqq)
 (QlT:"N"^Qls "_law_walked")
 (QlM:"L"^Qls QAv QBd "_law_walked" "_law_walked" Qt .none QBe QAf QAK QAi Qru QAV QAy)
 (Qmc:"C"^Qru "_law_walked")
 (Qid:"K"^Qls)
 (QKg:"N"^QJJ "law")
 (QJe:"L"^QJJ QPt QP8 "law" "law" Qap .none QKB QKJ QL9 QLQ QCF QK8 QQH)
 (QJW:"C"^QCF "law")
 (QID:"K"^QJJ)
 (z_len:"Z"^"len")
 (z_range:"Z"^"range")
 (z_int:"Z"^"int")
 (z_enumerate:"Z"^"enumerate")
 (z_isinstance:"Z"^"isinstance")
 (z_list:"Z"^"list")
 (z_set:"Z"^"set")
 (z_str:"Z"^"str")
 (z_all:"Z"^"all")
 (z_bool:"Z"^"bool")
 (z_tuple:"Z"^"tuple")
 (z_any:"Z"^"any")
 (z_zip:"Z"^"zip")
 (c_MOST_SIGNS:W.nsIn K mainGlobals "MOST_SIGNS"=some (some (.int 6 ve)))
 (c_LETTERS:W.nsIn K mainGlobals "LETTERS"=some (some (.str "abcdefghijklmnopqrstuvwxyz" vp)))
 (c_MOST_CLERKS:W.nsIn K mainGlobals "MOST_CLERKS"=some (some (.int 60 vc)))
 (c_MOST_ENTRIES:W.nsIn K mainGlobals "MOST_ENTRIES"=some (some (.int 6 v9)))
 (c_MOST_DOORS:W.nsIn K mainGlobals "MOST_DOORS"=some (some (.int 6 vf)))
 (c_MOST_OUTS:W.nsIn K mainGlobals "MOST_OUTS"=some (some (.int 6 vi)))
 (c_MOST_SENT:W.nsIn K mainGlobals "MOST_SENT"=some (some (.int 9 vj)))
 (c_MOST_ROWS:W.nsIn K mainGlobals "MOST_ROWS"=some (some (.int 12 vk)))
 (Qkw:"T"^QR QO false)
 (QoG:"T"^QP QO false)
 (Qoi:"T"^QN QO false)
 (Qkk:"T"^Qy QO false)
 (QoI:"T"^QO QO true)
 (QhG:"T"^QR Qy false)
 (QkA:"T"^QP Qy false)
 (QkB:"T"^QN Qy false)
 (QhV:"T"^Qy Qy true)
 (Qj0:"T"^QO Qy false)
 (QjW:"T"^QR QN false)
 (QnG:"T"^QP QN false)
 (QoE:"T"^QN QN true)
 (Qkx:"T"^Qy QN false)
 (QoL:"T"^QO QN false)
 (Qkh:"T"^QR QP false)
 (QnJ:"T"^QP QP true)
 (Qos:"T"^QN QP false)
 (QjS:"T"^Qy QP false)
 (QoR:"T"^QO QP false):
 ∃ fd:FuncData,(∀(s:Shared)(v:Value),BindsTo s fd ⟨[v],[]⟩ [("_law_script",v)])/\∀ base:Heap,K.In base->base.Ns mainGlobals mg->FnOk l.prog w K mg base CX0 9 fa fd ["_law_script"] (SpD K (ctOf K) false QmY):=by
 have ee:=hfa.symm.trans ("A"^QKg)
 cases ee
 have QIl:="A"^Qwk
 have QbE:=ct_of Qwk
 have QcV:Cls K QO:=⟨Qya,QxM,Qye,QyR⟩
 have QzC:="A"^QqP
 have QaL:=ct_of QqP
 have QbG:Cls K Qy:=⟨Qsi,Qto,Qtd,Qtv⟩
 have QIr:="A"^Qwq
 have Qbx:=ct_of Qwq
 have QcX:Cls K QN:=⟨Qyu,Qzq,Qyy,QyD⟩
 have QH9:="A"^QxF
 have QbH:=ct_of QxF
 have QcY:Cls K QP:=⟨QxW,Qzf,Qy8,QxV⟩
 have QLv:="A"^Qq2
 have QaS:=ct_of Qq2
 have Qb7:Cls K QR:=⟨Qs8,Qsx,QtB,QsZ⟩
 have fo_table:FldOk K (ctOf K) Qm "table":=by
  intro c hc A hA
  walk_at "h0"
  rcases hm with rfl | rfl | rfl | rfl | rfl
  ·exact "R"^QbE QcV Qkt
  ·exact "R"^QaL QbG QhD
  ·exact "R"^Qbx QcX QjN
  ·exact "R"^QbH QcY QjZ
  ·exact "R"^QaS Qb7 Qhz
 have fo_clerk_names:FldOk K (ctOf K) Qm "clerk_names":=by
  intro c hc A hA
  walk_at "h0"
  rcases hm with rfl | rfl | rfl | rfl | rfl
  ·exact "R"^QbE QcV Qfm
  ·exact "R"^QaL QbG Qej
  ·exact "R"^Qbx QcX Qfk
  ·exact "R"^QbH QcY Qfh
  ·exact "R"^QaS Qb7 Qef
 have fo_door_names:FldOk K (ctOf K) Qm "door_names":=by
  intro c hc A hA
  walk_at "h0"
  rcases hm with rfl | rfl | rfl | rfl | rfl
  ·exact "R"^QbE QcV QfO
  ·exact "R"^QaL QbG QeR
  ·exact "R"^Qbx QcX QfH
  ·exact "R"^QbH QcY QfD
  ·exact "R"^QaS Qb7 Qey
 have fo_entry_places:FldOk K (ctOf K) Qm "entry_places":=by
  intro c hc A hA
  walk_at "h0"
  rcases hm with rfl | rfl | rfl | rfl | rfl
  ·exact "R"^QbE QcV Qe0
  ·exact "R"^QaL QbG QdM
  ·exact "R"^Qbx QcX QeW
  ·exact "R"^QbH QcY QeO
  ·exact "R"^QaS Qb7 QdB
 have fo_staff:FldOk K (ctOf K) Qm "staff":=by
  intro c hc A hA
  walk_at "h0"
  rcases hm with rfl | rfl | rfl | rfl | rfl
  ·exact "R"^QbE QcV Qkg
  ·exact "R"^QaL QbG QhX
  ·exact "R"^Qbx QcX Qj7
  ·exact "R"^QbH QcY Qj4
  ·exact "R"^QaS Qb7 QhU
 have fo_first_states:FldOk K (ctOf K) Qm "first_states":=by
  intro c hc A hA
  walk_at "h0"
  rcases hm with rfl | rfl | rfl | rfl | rfl
  ·exact "R"^QbE QcV Qew
  ·exact "R"^QaL QbG QdF
  ·exact "R"^Qbx QcX Qeu
  ·exact "R"^QbH QcY QeH
  ·exact "R"^QaS Qb7 QdS
 have fo_ways:FldOk K (ctOf K) Qm "ways":=by
  intro c hc A hA
  walk_at "h0"
  rcases hm with rfl | rfl | rfl | rfl | rfl
  ·exact "R"^QbE QcV Qlx
  ·exact "R"^QaL QbG QiW
  ·exact "R"^Qbx QcX Ql4
  ·exact "R"^QbH QcY Qmh
  ·exact "R"^QaS Qb7 QiZ
 have fo_heads:FldOk K (ctOf K) Qm "heads":=by
  intro c hc A hA
  walk_at "h0"
  rcases hm with rfl | rfl | rfl | rfl | rfl
  ·exact "R"^QbE QcV Qj8
  ·exact "R"^QaL QbG Qhr
  ·exact "R"^Qbx QcX Qj2
  ·exact "R"^QbH QcY Qj3
  ·exact "R"^QaS Qb7 Qh7
 have QtW:ClsD K QO:=⟨QcV,Qyv,y1,y2,Qy1⟩
 have Qm8:ClsD K Qy:=⟨QbG,QsL,y1,y2,Qs6⟩
 have QtL:ClsD K QN:=⟨QcX,Qx6,y1,y2,QyS⟩
 have QtV:ClsD K QP:=⟨QcY,Qyd,y1,y2,Qx0⟩
 have Qm4:ClsD K QR:=⟨Qb7,QtC,y1,y2,Qso⟩
 have Qxr:=Qw (st:=Qch) QqH Qqt Qla
 have QKf:=Qxr.binds (ps:=["_law_script","_law_k"]) fun _ _ _ _ _ _ us hl=>match us,hl with | [_,_],_=>rfl
 have QuK:=Qw (st:=QbN) QoD QoU Qi9
 have QGo:=QuK.binds (ps:=["_law_cell_here","_law_k"]) fun _ _ _ _ _ _ us hl=>match us,hl with | [_,_],_=>rfl
 have Qss:=Qw (st:=Qaz) QlI Qma QhI
 have QCx:=Qss.binds (ps:=["_law_cell_here","_law_many"]) fun _ _ _ _ _ _ us hl=>match us,hl with | [_,_],_=>rfl
 have Qsb:=Qw (st:=QaJ) QlX QlB Qhs
 have QEX:=Qsb.binds (ps:=["_law_digit","_law_many","_law_tame"]) fun _ _ _ _ _ _ us hl=>match us,hl with | [_,_,_],_=>rfl
 have Qxh:=Qw (st:=QC) QqT Qq8 QkQ
 have QKl:=Qxh.binds (ps:=["_law_digits_here","_law_tame"]) fun _ _ _ _ _ _ us hl=>match us,hl with | [_,_],_=>rfl
 have Quv:=Qw (st:=QaK) Qnr QoC Qjv
 have QGY:=Quv.binds (ps:=["_law_first","_law_digit","_law_longer"]) fun _ _ _ _ _ _ us hl=>match us,hl with | [_,_,_],_=>rfl
 have Qwn:=Qw (st:=QX) QqC Qp8 Qle
 have QIT:=Qwn.binds (ps:=["_law_cell_here","_law_k","_law_many","_law_doors","_law_ring"]) fun _ _ _ _ _ _ us hl=>match us,hl with | [_,_,_,_,_],_=>rfl
 have QxG:=Qw (st:=Qaa) QpZ Qra Qk9
 have QJG:=QxG.binds (ps:=["_law_script","_law_clerks_at_most"]) fun _ _ _ _ _ _ us hl=>match us,hl with | [_,_],_=>rfl
 have QuC:=Qw (st:=QaB) QnT QnW Qjq
 have QFX:=QuC.binds (ps:=["names","doors"]) fun _ _ _ _ _ _ us hl=>match us,hl with | [_,_],_=>rfl
 have QzD:=Qw (st:=Qb5) QtF QsN Qm7
 have QLa:=QzD.binds (ps:=["thing","most"]) fun _ _ _ _ _ _ us hl=>match us,hl with | [_,_],_=>rfl
 have Qsu:=Qw (st:=Qbl) Qmr Qlp QhJ
 have QEt:=Qsu.binds (ps:=["names"]) fun _ _ _ _ _ _ us hl=>match us,hl with | [_],_=>rfl
 have Qzx:=Qw (st:=QaV) Qsk Qth Qnl
 have QKu:=Qzx.binds (ps:=["thing"]) fun _ _ _ _ _ _ us hl=>match us,hl with | [_],_=>rfl
 have QuU:=Qw (st:=QaA) Qn3 Qou Qja
 have QG7:=QuU.binds (ps:=["thing","most"]) fun _ _ _ _ _ _ us hl=>match us,hl with | [_,_],_=>rfl
 have Quy:=Qw (st:=Qak) QnL QnA Qji
 have QF3:=Quy.binds (ps:=["thing","many"]) fun _ _ _ _ _ _ us hl=>match us,hl with | [_,_],_=>rfl
 have Qxw:=Qw (st:=QbU) Qrc Qqc QkW
 have QII:=Qxw.binds (ps:=["thing"]) fun _ _ _ _ _ _ us hl=>match us,hl with | [_],_=>rfl
 have QuF:=Qw (st:=Qbo) Qnt Qn8 Qjg
 have QG5:=QuF.binds (ps:=["thing","least","most"]) fun _ _ _ _ _ _ us hl=>match us,hl with | [_,_,_],_=>rfl
 have Qv8:=Qw (st:=Qa4) Qqp QpX QkR
 have QJ5:=Qv8.binds (ps:=["thing"]) fun _ _ _ _ _ _ us hl=>match us,hl with | [_],_=>rfl
 have QtK:=Qw (st:=QbP) QlC Qli Qc5
 have QhY:=QtK.binds (ps:=["self"]) fun _ _ _ _ _ _ us hl=>match us,hl with | [_],_=>rfl
 have Qpi:=Qw (st:=Qa3) QiF QiA Qce
 have Qf3:=Qpi.binds (ps:=["self"]) fun _ _ _ _ _ _ us hl=>match us,hl with | [_],_=>rfl
 have QzF:=Qw (st:=Qa0) QsI QsW QmU
 have QLW:=QzF.binds (ps:=["thing"]) fun _ _ _ _ _ _ us hl=>match us,hl with | [_],_=>rfl
 have QuV:=Qw (st:=Qac) Qoh QoS Qjo
 have QGW:=QuV.binds (ps:=["thing","doors"]) fun _ _ _ _ _ _ us hl=>match us,hl with | [_,_],_=>rfl
 have QwD:=Qw (st:=Qa6) Qql QpT Qk5
 have QKm:=QwD.binds (ps:=["thing","names"]) fun _ _ _ _ _ _ us hl=>match us,hl with | [_,_],_=>rfl
 have Qrf:=Qw (st:=QU) QjR Qkd QgP
 have Qz6:=Qrf.binds (ps:=["thing","names"]) fun _ _ _ _ _ _ us hl=>match us,hl with | [_,_],_=>rfl
 have Qxz:=Qw (st:=Qb0) Qp7 Qp5 QkV
 have QJA:=Qxz.binds (ps:=["seat","places"]) fun _ _ _ _ _ _ us hl=>match us,hl with | [_,_],_=>rfl
 have QrC:=Qw (st:=Qo) Qkn Qj1 Qj6
 have QBB:=QrC.binds (ps:=["self","clerks","entries","doors"]) fun _ _ _ _ _ _ us hl=>match us,hl with | [_,_,_,_],_=>rfl
 have QzI:=Qw (st:=QbA) Qr7 Qsz Qne
 have QK3:=QzI.binds (ps:=["one","other"]) fun _ _ _ _ _ _ us hl=>match us,hl with | [_,_],_=>rfl
 have Qpm:=Qw (st:=Qam) QiP QiJ QfU
 have Qyp:=Qpm.binds (ps:=["rows"]) fun _ _ _ _ _ _ us hl=>match us,hl with | [_],_=>rfl
 have QkE:=Qw (st:=Q1) Qgi Qgj Qbh
 have QdZ:=QkE.binds (ps:=["self","rows"]) fun _ _ _ _ _ _ us hl=>match us,hl with | [_,_],_=>rfl
 have QBJ:=Qw (st:=QaZ) QvE Qu1 Qqi
 have QNp:=QBJ.binds (ps:=["thing"]) fun _ _ _ _ _ _ us hl=>match us,hl with | [_],_=>rfl
 have Qxl:=Qw (st:=Q9) Qp0 Qqv QkL
 have QJ4:=Qxl.binds (ps:=["thing"]) fun _ _ _ _ _ _ us hl=>match us,hl with | [_],_=>rfl
 have QuD:=Qw (st:=QbK) QoP QnQ QoT
 have QHx:=QuD.binds (ps:=["self","rows"]) fun _ _ _ _ _ _ us hl=>match us,hl with | [_,_],_=>rfl
 have QsX:=Qw (st:=QaN) Qly QlW Qhm
 have QCy:=QsX.binds (ps:=["many","place"]) fun _ _ _ _ _ _ us hl=>match us,hl with | [_,_],_=>rfl
 have QuI:=Qw (st:=Qau) QoM QnC Qn1
 have QFS:=QuI.binds (ps:=["self","many"]) fun _ _ _ _ _ _ us hl=>match us,hl with | [_,_],_=>rfl
 have Qrz:=Qw (st:=Qad) Qki Qkq Qkm
 have QBj:=Qrz.binds (ps:=["self","size"]) fun _ _ _ _ _ _ us hl=>match us,hl with | [_,_],_=>rfl
 have Quu:=Qw (st:=QbL) Qn9 Qoj QoH
 have QHO:=Quu.binds (ps:=["self","counts"]) fun _ _ _ _ _ _ us hl=>match us,hl with | [_,_],_=>rfl
 have QuB:=Qw (st:=Qab) QnE Qom Qjl
 have QGq:=QuB.binds (ps:=["_law_kind","_law_rows_here"]) fun _ _ _ _ _ _ us hl=>match us,hl with | [_,_],_=>rfl
 have Qsl:=Qw (st:=Qv) Qlu Qmm QhB
 have QEH:=Qsl.binds (ps:=["_law_script","_law_plan_here","_law_doors"]) fun _ _ _ _ _ _ us hl=>match us,hl with | [_,_,_],_=>rfl
 have Quz:=Qw (st:=Qai) Qn4 QnX Qjn
 have QGl:=Quz.binds (ps:=["_law_script","_law_many"]) fun _ _ _ _ _ _ us hl=>match us,hl with | [_,_],_=>rfl
 have Qpy:=Qw (st:=Qa9) QiL QiE QfY
 have QyH:=Qpy.binds (ps:=["self"]) fun _ _ _ _ _ _ us hl=>match us,hl with | [_],_=>rfl
 have Qro:=Qw (st:=Qa2) QjY Qky QgX
 have QAX:=Qro.binds (ps:=["office"]) fun _ _ _ _ _ _ us hl=>match us,hl with | [_],_=>rfl
 have QMC:=Qw (st:=Qe1) QFh QCQ Qxj
 have QPP:=QMC.binds (ps:=["desks"]) fun _ _ _ _ _ _ us hl=>match us,hl with | [_],_=>rfl
 have QEi:=Qw (st:=QcB) QvG QuX Qqo
 have QNA:=QEi.binds (ps:=["ready","picks","number"]) fun _ _ _ _ _ _ us hl=>match us,hl with | [_,_,_],_=>rfl
 have QpI:=Qw (st:=Qa7) Qim Qi3 QfX
 have Qzk:=QpI.binds (ps:=["self","k"]) fun _ _ _ _ _ _ us hl=>match us,hl with | [_,_],_=>rfl
 have QN4:=Qw (st:=Qfs) QJ7 QIE QBE
 have QQ0:=QN4.binds (ps:=["desks","out","leads","dockets"]) fun _ _ _ _ _ _ us hl=>match us,hl with | [_,_,_,_],_=>rfl
 have QpM:=Qw (st:=QaR) QiX QiO QfR
 have Qy7:=QpM.binds (ps:=["self","k"]) fun _ _ _ _ _ _ us hl=>match us,hl with | [_,_],_=>rfl
 have Qus:=Qw (st:=QbM) Qn7 QnD QdL
 have Qjb:=Qus.binds (ps:=["self","state"]) fun _ _ _ _ _ _ us hl=>match us,hl with | [_,_],_=>rfl
 have QDc:=Qw (st:=QbZ) Qvo QuY Qq7
 have QNb:=QDc.binds (ps:=["office","states","desks","out","k"]) fun _ _ _ _ _ _ us hl=>match us,hl with | [_,_,_,_,_],_=>rfl
 have QMR:=Qw (st:=QT) QvJ QvZ QiV
 have QuP:=Qw (st:=Qbm) Qot QoJ Qjk
 have QF8:=QuP.binds (ps:=["_law_found"]) fun _ _ _ _ _ _ us hl=>match us,hl with | [_],_=>rfl
 have QsT:=Qw (st:=Qao) Qlj Qmq Qho
 have QFe:=QsT.binds (ps:=["_law_found","_law_due"]) fun _ _ _ _ _ _ us hl=>match us,hl with | [_,_],_=>rfl
 have Qw0:=Qw (st:=Q5) QqX Qqu Qlc
 have QJM:=Qw0.binds (ps:=["_law_plan_here","_law_doors","_law_states","_law_desks_here","_law_k"]) fun _ _ _ _ _ _ us hl=>match us,hl with | [_,_,_,_,_],_=>rfl
 have Qtj:=Qw (st:=Qt) QlM Qmc Qid
 have QCd:=Qtj.binds (ps:=["_law_plan_here","_law_doors","_law_states","_law_desks_here","_law_picks","_law_limit","_law_found"]) fun _ _ _ _ _ _ us hl=>match us,hl with | [_,_,_,_,_,_,_],_=>rfl
 have QN3:=Qw (st:=Qap) QJe QJW QID
 have QQ4:=QN3.binds (ps:=["_law_script"]) fun _ _ _ _ _ _ us hl=>match us,hl with | [_],_=>rfl
 have v1:mg "len"=none:=W.mg_none_of X G z_len
 have v2:mg "range"=none:=W.mg_none_of X G z_range
 have va:mg "int"=none:=W.mg_none_of X G z_int
 have v5:mg "enumerate"=none:=W.mg_none_of X G z_enumerate
 have v0:mg "isinstance"=none:=W.mg_none_of X G z_isinstance
 have v3:mg "list"=none:=W.mg_none_of X G z_list
 have vt:mg "set"=none:=W.mg_none_of X G z_set
 have vs:mg "str"=none:=W.mg_none_of X G z_str
 have v4:mg "all"=none:=W.mg_none_of X G z_all
 have vo:mg "bool"=none:=W.mg_none_of X G z_bool
 have v8:mg "tuple"=none:=W.mg_none_of X G z_tuple
 have vu:mg "any"=none:=W.mg_none_of X G z_any
 have vl:mg "zip"=none:=W.mg_none_of X G z_zip
 have vg:="A"^c_MOST_SIGNS
 have vq:="A"^c_LETTERS
 have vd:="A"^c_MOST_CLERKS
 have vb:="A"^c_MOST_ENTRIES
 have vh:="A"^c_MOST_DOORS
 have v6:="A"^c_MOST_OUTS
 have vm:="A"^c_MOST_SENT
 have v7:="A"^c_MOST_ROWS
 have Qyw:KitI K (ctOf K) (.ref QO) [("Deal",true),("Bundle",false),("Copy",false),("Rows",false),("Office",false)]:=(Qar QbE QtW QoI (Qar QaL Qm8 Qkk (Qar Qbx QtL Qoi (Qar QbH QtV QoG (Qar QaS Qm4 Qkw Qqr)))))
 have QrX:KitI K (ctOf K) (.ref Qy) [("Deal",false),("Bundle",true),("Copy",false),("Rows",false),("Office",false)]:=(Qar QbE QtW Qj0 (Qar QaL Qm8 QhV (Qar Qbx QtL QkB (Qar QbH QtV QkA (Qar QaS Qm4 QhG Qqr)))))
 have QyC:KitI K (ctOf K) (.ref QN) [("Deal",false),("Bundle",false),("Copy",true),("Rows",false),("Office",false)]:=(Qar QbE QtW QoL (Qar QaL Qm8 Qkx (Qar Qbx QtL QoE (Qar QbH QtV QnG (Qar QaS Qm4 QjW Qqr)))))
 have QyI:KitI K (ctOf K) (.ref QP) [("Deal",false),("Bundle",false),("Copy",false),("Rows",true),("Office",false)]:=(Qar QbE QtW QoR (Qar QaL Qm8 QjS (Qar Qbx QtL Qos (Qar QbH QtV QnJ (Qar QaS Qm4 Qkh Qqr)))))
 refine⟨W.fnOf "law" "law" (Qq Qap) (Qp Qap) (Qa Qap) .none QKB QKJ QL9 QLQ QCF QK8,fun s v=>.of_eq rfl,fun base _ _=>?_⟩
 have QJP:"F"^1 ["_law_script","_law_k"] false Q7:=QJN Qxr v1
 have Qk6:"E"^Q7 "_law_cell" 1 false:="D"^QJP QpU Qla QKf
 have QFJ:"F"^1 ["_law_cell_here","_law_k"] false QdG:=QGs QuK
 have QGd:"E"^QdG "_law_mixed" 1 false:="D"^QFJ Qn2 Qi9 QGo
 have QDS:"F"^2 ["_law_cell_here","_law_many"] true QY:=QCa Qss QGd v2
 have QfI:"E"^QY "_law_digits" 2 true:="D"^QDS Ql6 QhI QCx
 have QED:"F"^1 ["_law_digit","_law_many","_law_tame"] true Qco:=QE0 Qsb v2
 have QB6:"E"^Qco "_law_counts" 1 true:="D"^QED QlU Qhs QEX
 have QKi:"F"^2 ["_law_digits_here","_law_tame"] false QeF:=QJo Qxh QB6 v2 va
 have QIC:"E"^QeF "_law_rows" 2 false:="D"^QKi Qq0 QkQ QKl
 have QGj:"F"^1 ["_law_first","_law_digit","_law_longer"] false QaO:=QGa Quv v2
 have QuR:"E"^QaO "_law_named" 1 false:="D"^QGj Qol Qjv QGY
 have QIO:"F"^3 ["_law_cell_here","_law_k","_law_many","_law_doors","_law_ring"] false QeY:=QJq Qwn QfI QIC QuR v2 v1
 have QJs:"E"^QeY "_law_seat" 3 false:="D"^QIO QqI Qle QIT
 have QI3:"F"^4 ["_law_script","_law_clerks_at_most"] false QeV:=QKq QxG Qk6 QfI QJs v2
 have QJO:"E"^QeV "_law_plan" 4 false:="D"^QI3 QqU Qk9 QJG
 have QGm:"F"^1 ["names","doors"] true QdD:=QFm QuC v5
 have QHL:"E"^QdD "places_of" 1 true:="D"^QGm QnB Qjq QFX
 have QK9:"F"^1 ["thing","most"] false Qb4:=QMg QzD v0 v3 v1
 have Qsr:"E"^Qb4 "is_list" 1 false:="D"^QK9 Qtt Qm7 QLa
 have QEq:"F"^1 ["names"] false Qan:=QCq Qsu v1 vt
 have Qme:"E"^Qan "all_unlike" 1 false:="D"^QEq Ql0 QhJ QEt
 have QMf:"F"^1 ["thing"] false QaT:=QKD Qzx v0 vs v1 v4 vg ⟨_,rfl⟩ vq ⟨_,rfl⟩
 have QsR:"E"^QaT "is_name" 1 false:="D"^QMf Qr6 Qnl QKu
 have QFD:"F"^2 ["thing","most"] false QdO:=QFt QuU Qsr QsR Qme v4
 have QFB:"E"^QdO "are_names" 2 false:="D"^QFD Qon Qja QG7
 have QHi:"F"^1 ["thing","many"] false QdJ:=QGN Quy v0 v3 v1 v4 vs
 have QGp:"E"^QdJ "are_texts" 1 false:="D"^QHi Qoe Qji QF3
 have QJd:"F"^1 ["thing"] false QeB:=QJQ Qxw v0 va vo
 have QKk:"E"^QeB "is_whole" 1 false:="D"^QJd Qqf QkW QII
 have QFr:"F"^2 ["thing","least","most"] false QaQ:=QFn QuF QKk
 have Qju:"E"^QaQ "is_within" 2 false:="D"^QFr Qor Qjg QG5
 have QJw:"F"^1 ["thing"] false QeS:=QJy Qv8 v0 QIl QzC QIr QH9 Qyw QrX QyC QyI
 have QJc:"E"^QeS "is_clerk" 1 false:="D"^QJw QqN QkR QJ5
 have Qia:"F"^1 ["self"] false Qcq:=QB9 QtK v1 fo_table
 have mt_outs:MtOk l.prog w K mg base (ctOf K) CX0 "outs" 1 Qf (fun c=>SpD K (ctOf K) false ((fun _=>Qcq) c)):=by
  intro c hc
  walk_at "h1"
  rcases hm with rfl | rfl | rfl | rfl
  ·exact⟨QO,QaW,_,_,QbE,QcV,⟨QoN,Qd7,Qc5⟩,Qia.mono (by decide),QhY⟩
  ·exact⟨Qy,QaW,_,_,QaL,QbG,⟨Qkv,Qd7,Qc5⟩,Qia.mono (by decide),QhY⟩
  ·exact⟨QN,QaW,_,_,Qbx,QcX,⟨QnN,Qd7,Qc5⟩,Qia.mono (by decide),QhY⟩
  ·exact⟨QP,QaW,_,_,QbH,QcY,⟨QnH,Qd7,Qc5⟩,Qia.mono (by decide),QhY⟩
 have QfS:"F"^1 ["self"] false QaE:=Qzn Qpi v1 fo_table
 have mt_period:MtOk l.prog w K mg base (ctOf K) CX0 "period" 1 Qf (fun c=>SpD K (ctOf K) false ((fun _=>QaE) c)):=by
  intro c hc
  walk_at "h1"
  rcases hm with rfl | rfl | rfl | rfl
  ·exact⟨QO,QaG,_,_,QbE,QcV,⟨Qkc,Qc0,Qce⟩,QfS.mono (by decide),Qf3⟩
  ·exact⟨Qy,QaG,_,_,QaL,QbG,⟨QhS,Qc0,Qce⟩,QfS.mono (by decide),Qf3⟩
  ·exact⟨QN,QaG,_,_,Qbx,QcX,⟨Qks,Qc0,Qce⟩,QfS.mono (by decide),Qf3⟩
  ·exact⟨QP,QaG,_,_,QbH,QcY,⟨QjP,Qc0,Qce⟩,QfS.mono (by decide),Qf3⟩
 have QK7:"F"^3 ["thing"] false QfB:=QMu QzF QsR QJc QGp Qju v0 v8 v1 mt_outs mt_period
 have QK6:"E"^QfB "is_seat" 3 false:="D"^QK7 QsH QmU QLW
 have QHR:"F"^4 ["thing","doors"] false QdU:=QHC QuV Qsr QK6 Qme v4 vd ⟨_,rfl⟩
 have QHp:"E"^QdU "are_seats" 4 false:="D"^QHR QnR Qjo QGW
 have QJV:"F"^2 ["thing","names"] false QeU:=QIz QwD QsR v0 v8 v1
 have QJu:"E"^QeU "is_entry" 2 false:="D"^QJV QqB Qk5 QKm
 have QBa:"F"^3 ["thing","names"] false QcC:=QAZ Qrf Qsr QJu Qme v4 vb ⟨_,rfl⟩
 have QA3:"E"^QcC "are_entries" 3 false:="D"^QBa QjU QgP Qz6
 have QKr:"F"^1 ["seat","places"] true QeD:=QIU Qxz
 have QI0:"E"^QeD "leads_to" 1 true:="D"^QKr Qqw QkV QJA
 have QAh:FnOk l.prog w K mg base (CXR l.prog w) 5 _ _ ["self","clerks","entries","doors"] (SpI K (ctOf K) Qbr):=QBA QrC QFB QHp QA3 QHL QI0 vu v3 vh ⟨_,rfl⟩ fo_clerk_names fo_door_names fo_entry_places fo_staff fo_first_states fo_ways
 have QsS:MkOk l.prog w K mg base (ctOf K) "Office" 5 Qbr:=⟨QR,Qe9,_,_,QaS,QLv,⟨Qp4,Qkz,QjT,Qq4⟩,QAh,QBB⟩
 have QMw:"F"^1 ["one","other"] true Qeo:=QLI QzI vl
 have QKU:"E"^Qeo "sums_of" 1 true:="D"^QMw QsA Qne QK3
 have Qzl:"F"^2 ["rows"] true Qba:=QyG Qpm QKU
 have QyB:"E"^Qba "running_sums" 2 true:="D"^Qzl Qiz QfU Qyp
 have QdY:FnOk l.prog w K mg base (CXR l.prog w) 3 _ _ ["self","rows"] (SpI K (ctOf K) QS):=Qt6 QkE QyB v3 fo_table fo_heads
 have ms_keep_rows:MtOk l.prog w K mg base (ctOf K) (CXR l.prog w) "keep_rows" 3 Qf (fun _=>SpI K (ctOf K) QS):=by
  intro c hc
  walk_at "h1"
  rcases hm with rfl | rfl | rfl | rfl
  ·exact⟨QO,Qag,_,_,QbE,QcV,⟨Qg5,Qb2,Qbh⟩,QdY.mono (by decide),QdZ⟩
  ·exact⟨Qy,Qag,_,_,QaL,QbG,⟨QfK,Qb2,Qbh⟩,QdY.mono (by decide),QdZ⟩
  ·exact⟨QN,Qag,_,_,Qbx,QcX,⟨Qg9,Qb2,Qbh⟩,QdY.mono (by decide),QdZ⟩
  ·exact⟨QP,Qag,_,_,QbH,QcY,⟨Qg7,Qb2,Qbh⟩,QdY.mono (by decide),QdZ⟩
 have QMS:"F"^3 ["thing"] false QeM:=QNQ QBJ Qju v0 v3 v1 v4 v6 ⟨_,rfl⟩ vm ⟨_,rfl⟩
 have QC4:"E"^QeM "is_row" 3 false:="D"^QMS Qvz Qqi QNp
 have QIZ:"F"^4 ["thing"] false QeC:=QKt Qxl QC4 v0 v3 v1 v4 v7 ⟨_,rfl⟩
 have QJ6:"E"^QeC "is_table" 4 false:="D"^QIZ Qqe QkL QJ4
 have QGJ:FnOk l.prog w K mg base (CXR l.prog w) 5 _ _ ["self","rows"] (SpI K (ctOf K) QdP):=QFw QuD QJ6 ms_keep_rows
 have Qzv:MkOk l.prog w K mg base (ctOf K) "Rows" 5 QdP:=⟨QP,Qgv,_,_,QbH,QH9,⟨QvK,Qoz,QoO,QvL⟩,QGJ,QHx⟩
 have QDf:"F"^1 ["many","place"] true Qc4:=QCf QsX v2
 have QBS:"E"^Qc4 "single_row" 1 true:="D"^QDf Qlt Qhm QCy
 have QFH:FnOk l.prog w K mg base (CXR l.prog w) 4 _ _ ["self","many"] (SpI K (ctOf K) QdH):=QG9 QuI Qju QBS v2 v6 ⟨_,rfl⟩ ms_keep_rows
 have Qys:MkOk l.prog w K mg base (ctOf K) "Deal" 4 QdH:=⟨QO,Qgw,_,_,QbE,QIl,⟨Qvv,Qnz,Qnu,Qvj⟩,QFH,QFS⟩
 have QAD:FnOk l.prog w K mg base (CXR l.prog w) 4 _ _ ["self","size"] (SpI K (ctOf K) QcF):=QAs Qrz Qju v2 v7 ⟨_,rfl⟩ ms_keep_rows
 have QsQ:MkOk l.prog w K mg base (ctOf K) "Bundle" 4 QcF:=⟨Qy,Qe3,_,_,QaL,QzC,⟨QqZ,Qj9,QjX,Qqz⟩,QAD,QBj⟩
 have QGV:FnOk l.prog w K mg base (CXR l.prog w) 4 _ _ ["self","counts"] (SpI K (ctOf K) QdK):=QHu Quu QC4 ms_keep_rows
 have Qx4:MkOk l.prog w K mg base (ctOf K) "Copy" 4 QdK:=⟨QN,Qgx,_,_,Qbx,QIr,⟨QvX,Qoy,Qog,QvC⟩,QGV,QHO⟩
 have QFR:"F"^7 ["_law_kind","_law_rows_here"] true Qcj:=QGF QuB v1 v3 Qys QsQ Qx4 Qzv
 have QFA:"E"^Qcj "_law_clerk" 7 true:="D"^QFR QoB Qjl QGq
 have QE1:"F"^8 ["_law_script","_law_plan_here","_law_doors"] true Qc7:=QDk Qsl QfI Qk6 QuR QFA v2 QsS
 have QD7:"E"^Qc7 "_law_office" 8 true:="D"^QE1 Qlr QhB QEH
 have QGh:"F"^3 ["_law_script","_law_many"] true QdC:=QGr Quz Qk6 QfI v2
 have QFG:"E"^QdC "_law_desks" 3 true:="D"^QGh Qoc Qjn QGl
 have QyA:"F"^1 ["self"] true Qa8:=Qze Qpy v3 fo_door_names
 have mt_doors:MtOk l.prog w K mg base (ctOf K) CX0 "doors" 1 Q4 (fun c=>SpD K (ctOf K) true ((fun _=>Qa8) c)):=by
  intro c hc
  walk_at "h2"
  rcases hm with rfl
  ·exact⟨QR,Qeb,_,_,QaS,Qb7,⟨QiN,Qiy,QfY⟩,QyA.mono (by decide),QyH⟩
 have QAm:"F"^2 ["office"] true QcD:=QAw Qro mt_doors
 have QA5:"E"^QcD "nothing_out" 2 true:="D"^QAm Qkj QgX QAX
 have QQG:"F"^1 ["desks"] true QgE:=QQy QMC v5
 have QQa:"E"^QgE "able" 1 true:="D"^QQG QCT Qxj QPP
 have QNv:"F"^1 ["ready","picks","number"] false QeI:=QNE QEi v1
 have QMZ:"E"^QeI "picked" 1 false:="D"^QNv Qvy Qqo QNA
 have QyJ:"F"^1 ["self","k"] false Qby:=QxX QpI fo_staff
 have mt_clerk:MtOk l.prog w K mg base (ctOf K) CX0 "clerk" 1 Q4 (fun c=>SpD K (ctOf K) false ((fun _=>Qby) c)):=by
  intro c hc
  walk_at "h2"
  rcases hm with rfl
  ·exact⟨QR,Qeh,_,_,QaS,Qb7,⟨QiI,QiM,QfX⟩,QyJ.mono (by decide),Qzk⟩
 have QQ1:FnOk l.prog w K mg base CX0 1 _ _ ["desks","out","leads","dockets"] (SpW K (ctOf K) false [true,true,false,false] QpV):=QQV QN4 vl
 have QQU:DefW l.prog w K mg base (ctOf K) "lay" 1 false [true,true,false,false] QpV:=⟨_,_,_,QQ1,"A"^QJf,QBE,QQ0⟩
 have Qzr:"F"^1 ["self","k"] true QbF:=Qyg QpM v3 fo_ways
 have mt_leads:MtOk l.prog w K mg base (ctOf K) CX0 "leads" 1 Q4 (fun c=>SpD K (ctOf K) true ((fun _=>QbF) c)):=by
  intro c hc
  walk_at "h2"
  rcases hm with rfl
  ·exact⟨QR,Qd4,_,_,QaS,Qb7,⟨Qis,QiB,QfR⟩,Qzr.mono (by decide),Qy7⟩
 have Qi8:"F"^1 ["self","state"] true QcQ:=QFz Qus v3 fo_table
 have mt_row:MtOk l.prog w K mg base (ctOf K) CX0 "row" 1 Qf (fun c=>SpD K (ctOf K) true ((fun _=>QcQ) c)):=by
  intro c hc
  walk_at "h1"
  rcases hm with rfl | rfl | rfl | rfl
  ·exact⟨QO,Qbn,_,_,QbE,QcV,⟨QqK,Qfb,QdL⟩,Qi8.mono (by decide),Qjb⟩
  ·exact⟨Qy,Qbn,_,_,QaL,QbG,⟨Ql9,Qfb,QdL⟩,Qi8.mono (by decide),Qjb⟩
  ·exact⟨QN,Qbn,_,_,Qbx,QcX,⟨Qq5,Qfb,QdL⟩,Qi8.mono (by decide),Qjb⟩
  ·exact⟨QP,Qbn,_,_,QbH,QcY,⟨Qq9,Qfb,QdL⟩,Qi8.mono (by decide),Qjb⟩
 have QNe:FnOk l.prog w K mg base CX0 2 _ _ ["office","states","desks","out","k"] (SpW K (ctOf K) false [false,true,true,true,false] QfJ):=QM5 QDc QQU mt_clerk mt_leads mt_row mt_period
 have QNf:DefW l.prog w K mg base (ctOf K) "handle" 2 false [false,true,true,true,false] QfJ:=⟨_,_,_,QNe,"A"^Qvm,Qq7,QNb⟩
 have Qvx:FnOk l.prog w K mg base CX0 3 _ _ ["office","states","desks","picks","most"] (SpT K (ctOf K) QaY):=QNX QMR QA5 QQa QMZ QNf v3 v1
 have B_served_0:Binds K ‹"cP"› ["office","states","desks","picks","most"] []:=fun s us kin hl=>by
  match us,hl with
  | [],hh=>exact absurd hh (by simp)
  | [_],hh=>exact absurd hh (by simp)
  | [_,_],hh=>exact absurd hh (by simp)
  | [_,_,_],hh=>exact absurd hh (by simp)
  | [_,_,_,_],hh=>exact absurd hh (by simp)
  | [_,_,_,_,_],_=>exact W.binds_K kin rfl t_servedh rfl rfl rfl
  | _::_::_::_::_::_::_,hh=>exact absurd hh (by simp<;>omega)
 have QM0:DefTD l.prog w K mg base (ctOf K) "served" 3 [] QaY:="D"^Qvx QlS QiV B_served_0
 have B_served_2:Binds K ‹"cP"› ["office","states","desks","picks","most"] [.none,.int 2000 QzP]:=fun s us kin hl=>by
  match us,hl with
  | [],hh=>exact absurd hh (by simp)
  | [_],hh=>exact absurd hh (by simp)
  | [_,_],hh=>exact absurd hh (by simp)
  | [_,_,_],_=>exact W.binds_K kin rfl t_servedh rfl rfl rfl
  | _::_::_::_::_,hh=>exact absurd hh (by simp<;>omega)
 have vr:DefTD l.prog w K mg base (ctOf K) "served" 3 [.non,(.int 2000)] QaY:=⟨_,_,_,_,Qvx,"A"^QlS,QiV,B_served_2,(.cons (by first | exact rfl | constructor) (.cons ⟨_,rfl⟩ .nil))⟩
 have vn:DefTK l.prog w K mg base (ctOf K) "served" 3 3 "most" [.non] QaY:=⟨_,_,_,[.none],Qvx,"A"^QlS,QiV,(fun s us v kin hl=>by
  match us,hl with
  | [_,_,_],_=>exact W.binds_K kin rfl t_servedh rfl rfl rfl),(by decide),(.cons (by first | exact⟨_,rfl⟩ | exact rfl | constructor) .nil)⟩
 have QG4:"F"^1 ["_law_found"] false QcR:=QHb QuP v0 va vo
 have QuL:"E"^QcR "_law_whole" 1 false:="D"^QG4 Qn6 Qjk QF8
 have QDK:"F"^2 ["_law_found","_law_due"] false QbV:=QDF QsT QuL v0 v3 v1 v2
 have QEh:"E"^QbV "_law_wholes" 2 false:="D"^QDK Qlm Qho QFe
 have QJj:"F"^1 ["_law_plan_here","_law_doors","_law_states","_law_desks_here","_law_k"] false QdA:=QJk Qw0 v3 v1 v2
 have QIF:"E"^QdA "_law_step" 1 false:="D"^QJj QqY Qlc QJM
 have QCG:"F"^3 ["_law_plan_here","_law_doors","_law_states","_law_desks_here","_law_picks","_law_limit","_law_found"] false QbW:=QCA Qtj QuL QIF QEh v0 v8 v1 v3 v2 vl
 have QDj:"E"^QbW "_law_walked" 3 false:="D"^QCG QlT Qid QCd
 have QQT:"F"^9 ["_law_script"] false QmY:=QQY QN3 QJO QD7 QFG QfI Qk6 QM0 vn vr QDj v1 va v3
 exact QQT
theorem walk{l:W.OpenLaw}{q:Program}{loose:List Str}{XP:(Str->Option Value)->Heap->Prop}{YP:World->Heap->Prop}{d:DefRec}{K:Params->W.Frag}(hn:l.most=some 63)(hdf:d.params.defaults=[])
 (hY:∀(w:World)(h:Heap),YP w h->(K w.params).In h) (hlaw:∀ ns:List Int,ns.length<=63->(∀ z∈ns,bitsI z<=1048576)->QmY [.lst (ns.map .int)]=.ok (.bl true))
 (F:∀(w:World)(mg:‹"R"›)(fa:Addr)(h:Heap),(K w.params).In h->h.Ns mainGlobals mg->mg d.name=some (.ref fa)->
  ∃ fd:FuncData,(∀(s:Shared)(u:Value),BindsTo s fd ⟨[u],[]⟩ [("_law_script",u)])/\∀ base:Heap,(K w.params).In base->base.Ns mainGlobals mg->FnOk l.prog w (K w.params) mg base CX0 9 fa fd ["_law_script"] (SpD (K w.params) (ctOf (K w.params)) false QmY)):
 W.WalkO q loose XP YP l.row.toRowW d [] (fun f vs=>PySem.call f vs):=
 DL.walk_of (n:=63) (k:=9) (x:="_law_script") (CX:=fun _=>CX0) (sp:=fun w=>SpD (K w.params) (ctOf (K w.params)) false QmY) hn (by decide) hdf ⟨rfl,by decide,by decide⟩ hY F
  (fun w H a ns hl hbits _ hS=>⟨[.lst (ns.map .int)],H,Same.refl H,⟨.ref a,[],rfl,⟨a,_,rfl,hS,RepL.map_int ns⟩,rfl⟩,by rw[hlaw ns hl hbits];exact fun v H' G' _ _ _ _ r=>r⟩) fun _ _ _ _ _ z=>z
end My
open PySem PySem.W PyProof.Rows
set_option maxRecDepth 100000 in
set_option maxHeartbeats 0 in
theorem PySem.Challenge.cw_dockethall_k34_served_by_picks_holds : PySem.Challenge.rw_dockethall_k34_served_by_picks.Holds := by
 w_on;o_law;k_head;(case hw=>w_witness2)
 k_fill
 refine My.walk (l:=PySem.Challenge.rw_dockethall_k34_served_by_picks) rfl rfl (fun w h Y=>PySem.W.kIn_of Y) My.the_law ?F
 case F=>
  intro w mg fa h KX G hmg
  refine' My.all_mk KX G hmg ?Qwk ?Qya ?QxM ?Qye ?QyR ?Qkt ?Qfm ?QfO ?Qe0 ?Qkg ?Qew ?Qlx ?Qj8 ?QqP ?Qsi ?Qto ?Qtd ?Qtv ?QhD ?Qej ?QeR ?QdM ?QhX ?QdF ?QiW ?Qhr ?Qwq ?Qyu ?Qzq ?Qyy ?QyD ?QjN ?Qfk ?QfH ?QeW ?Qj7 ?Qeu ?Ql4 ?Qj2 ?QxF ?QxW ?Qzf ?Qy8 ?QxV ?QjZ ?Qfh ?QfD ?QeO ?Qj4 ?QeH ?Qmh ?Qj3 ?Qq2 ?Qs8 ?Qsx ?QtB ?QsZ ?Qhz ?Qef ?Qey ?QdB ?QhU ?QdS ?QiZ ?Qh7 ?QoN ?Qkv ?QnN ?QnH ?Qkc ?QhS ?Qks ?QjP ?QiN ?QiI ?Qis ?QqK ?Ql9 ?Qq5 ?Qq9 ?Qg5 ?QfK ?Qg9 ?Qg7 ?Qnz ?Qj9 ?Qoy ?Qoz ?Qkz ?Qvv ?Qvj ?QqZ ?Qqz ?QvX ?QvC ?QvK ?QvL ?Qp4 ?Qq4 ?y1 ?y2 ?Qyv ?Qy1 ?QsL ?Qs6 ?Qx6 ?QyS ?Qyd ?Qx0 ?QtC ?Qso ?QpU ?QqH ?Qqt ?Qla ?Qn2 ?QoD ?QoU ?Qi9 ?Ql6 ?QlI ?Qma ?QhI ?QlU ?QlX ?QlB ?Qhs ?Qq0 ?QqT ?Qq8 ?QkQ ?Qol ?Qnr ?QoC ?Qjv ?QqI ?QqC ?Qp8 ?Qle ?QqU ?QpZ ?Qra ?Qk9 ?QnB ?QnT ?QnW ?Qjq ?Qtt ?QtF ?QsN ?Qm7 ?Ql0 ?Qmr ?Qlp ?QhJ ?Qr6 ?Qsk ?Qth ?Qnl ?Qon ?Qn3 ?Qou ?Qja ?Qoe ?QnL ?QnA ?Qji ?Qqf ?Qrc ?Qqc ?QkW ?Qor ?Qnt ?Qn8 ?Qjg ?QqN ?Qqp ?QpX ?QkR ?Qd7 ?QlC ?Qli ?Qc5 ?Qc0 ?QiF ?QiA ?Qce ?QsH ?QsI ?QsW ?QmU ?QnR ?Qoh ?QoS ?Qjo ?QqB ?Qql ?QpT ?Qk5 ?QjU ?QjR ?Qkd ?QgP ?Qqw ?Qp7 ?Qp5 ?QkV ?QjT ?Qkn ?Qj1 ?Qj6 ?QsA ?Qr7 ?Qsz ?Qne ?Qiz ?QiP ?QiJ ?QfU ?Qb2 ?Qgi ?Qgj ?Qbh ?Qvz ?QvE ?Qu1 ?Qqi ?Qqe ?Qp0 ?Qqv ?QkL ?QoO ?QoP ?QnQ ?QoT ?Qlt ?Qly ?QlW ?Qhm ?Qnu ?QoM ?QnC ?Qn1 ?QjX ?Qki ?Qkq ?Qkm ?Qog ?Qn9 ?Qoj ?QoH ?QoB ?QnE ?Qom ?Qjl ?Qlr ?Qlu ?Qmm ?QhB ?Qoc ?Qn4 ?QnX ?Qjn ?Qiy ?QiL ?QiE ?QfY ?Qkj ?QjY ?Qky ?QgX ?QCT ?QFh ?QCQ ?Qxj ?Qvy ?QvG ?QuX ?Qqo ?QiM ?Qim ?Qi3 ?QfX ?QJf ?QJ7 ?QIE ?QBE ?QiB ?QiX ?QiO ?QfR ?Qfb ?Qn7 ?QnD ?QdL ?Qvm ?Qvo ?QuY ?Qq7 ?QlS ?QvJ ?QvZ ?QiV ?t_servedh ?Qn6 ?Qot ?QoJ ?Qjk ?Qlm ?Qlj ?Qmq ?Qho ?QqY ?QqX ?Qqu ?Qlc ?QlT ?QlM ?Qmc ?Qid ?QKg ?QJe ?QJW ?QID ?z_len ?z_range ?z_int ?z_enumerate ?z_isinstance ?z_list ?z_set ?z_str ?z_all ?z_bool ?z_tuple ?z_any ?z_zip ?c_MOST_SIGNS ?c_LETTERS ?c_MOST_CLERKS ?c_MOST_ENTRIES ?c_MOST_DOORS ?c_MOST_OUTS ?c_MOST_SENT ?c_MOST_ROWS ?Qkw ?QoG ?Qoi ?Qkk ?QoI ?QhG ?QkA ?QkB ?QhV ?Qj0 ?QjW ?QnG ?QoE ?Qkx ?QoL ?Qkh ?QnJ ?Qos ?QjS ?QoR
  (case Qwk|Qya|QxM|Qye|QyR|Qkt|Qfm|QfO|Qe0|Qkg|Qew|Qlx|Qj8|QqP|Qsi|Qto|Qtd|Qtv|QhD|Qej|QeR|QdM|QhX|QdF|QiW|Qhr|Qwq|Qyu|Qzq|Qyy|QyD|QjN|Qfk|QfH|QeW|Qj7|Qeu|Ql4|Qj2|QxF|QxW|Qzf|Qy8|QxV|QjZ|Qfh|QfD|QeO|Qj4|QeH|Qmh|Qj3|Qq2|Qs8|Qsx|QtB|QsZ|Qhz|Qef|Qey|QdB|QhU|QdS|QiZ|Qh7|QoN|Qkv|QnN|QnH|Qkc|QhS|Qks|QjP|QiN|QiI|Qis|QqK|Ql9|Qq5|Qq9|Qg5|QfK|Qg9|Qg7|Qnz|Qj9|Qoy|Qoz|Qkz|Qvv|Qvj|QqZ|Qqz|QvX|QvC|QvK|QvL|Qp4|Qq4|y1|y2|Qyv|Qy1|QsL|Qs6|Qx6|QyS|Qyd|Qx0|QtC|Qso|QpU|QqH|Qqt|Qla|Qn2|QoD|QoU|Qi9|Ql6|QlI|Qma|QhI|QlU|QlX|QlB|Qhs|Qq0|QqT|Qq8|QkQ|Qol|Qnr|QoC|Qjv|QqI|QqC|Qp8|Qle|QqU|QpZ|Qra|Qk9|QnB|QnT|QnW|Qjq|Qtt|QtF|QsN|Qm7|Ql0|Qmr|Qlp|QhJ|Qr6|Qsk|Qth|Qnl|Qon|Qn3|Qou|Qja|Qoe|QnL|QnA|Qji|Qqf|Qrc|Qqc|QkW|Qor|Qnt|Qn8|Qjg|QqN|Qqp|QpX|QkR|Qd7|QlC|Qli|Qc5|Qc0|QiF|QiA|Qce|QsH|QsI|QsW|QmU|QnR|Qoh|QoS|Qjo|QqB|Qql|QpT|Qk5|QjU|QjR|Qkd|QgP|Qqw|Qp7|Qp5|QkV|QjT|Qkn|Qj1|Qj6|QsA|Qr7|Qsz|Qne|Qiz|QiP|QiJ|QfU|Qb2|Qgi|Qgj|Qbh|Qvz|QvE|Qu1|Qqi|Qqe|Qp0|Qqv|QkL|QoO|QoP|QnQ|QoT|Qlt|Qly|QlW|Qhm|Qnu|QoM|QnC|Qn1|QjX|Qki|Qkq|Qkm|Qog|Qn9|Qoj|QoH|QoB|QnE|Qom|Qjl|Qlr|Qlu|Qmm|QhB|Qoc|Qn4|QnX|Qjn|Qiy|QiL|QiE|QfY|Qkj|QjY|Qky|QgX|QCT|QFh|QCQ|Qxj|Qvy|QvG|QuX|Qqo|QiM|Qim|Qi3|QfX|QJf|QJ7|QIE|QBE|QiB|QiX|QiO|QfR|Qfb|Qn7|QnD|QdL|Qvm|Qvo|QuY|Qq7|QlS|QvJ|QvZ|QiV|t_servedh|Qn6|Qot|QoJ|Qjk|Qlm|Qlj|Qmq|Qho|QqY|QqX|Qqu|Qlc|QlT|QlM|Qmc|Qid|QKg|QJe|QJW|QID|z_len|z_range|z_int|z_enumerate|z_isinstance|z_list|z_set|z_str|z_all|z_bool|z_tuple|z_any|z_zip|c_MOST_SIGNS|c_LETTERS|c_MOST_CLERKS|c_MOST_ENTRIES|c_MOST_DOORS|c_MOST_OUTS|c_MOST_SENT|c_MOST_ROWS=>k_is)
  (case Qkw|QoG|Qoi|Qkk|QoI|QhG|QkA|QkB|QhV|Qj0|QjW|QnG|QoE|Qkx|QoL|Qkh|QnJ|Qos|QjS|QoR=>kit_is)
