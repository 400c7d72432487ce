import PyProof.Rows.All
import Wide.All
import OpenK.AllK
import Wide.FinOn
import Lean
import PyProof.EqAt
import PyProof.EqKinds
import PyProof.TupleCall
import PyProof.ListRange
import PyProof.PureStr
import PyProof.MeetsStr3
import PyProof.Draws
import PySem.Challenge.RW_dockethall_k35_whole_any_order
namespace PySem.W.Fast
def tw8766727661348082664:=0
def tw1752662724852770860:=0
def tw12118995954743257555:=0
def tw3318945010607116349:=0
def tw17983672705364679793:=0
def tw2842773768564780018:=0
def tw1011088761080533201:=0
def tw4496738544252063015:=0
def tw10520884659920880257:=0
def tw12643180954898798090:=0
def tw12601558230993989941:=0
def tw11196133209955142889:=0
def tw15170245572564589095:=0
def tw15171173027576323118:=0
def tw288723727024045990:=0
def tw11076833497510658245:=0
def tw5234039702666672907:=0
def tw7074602240861783148:=0
def tw17793029401825608868:=0
def tw10004319985385170571:=0
def tw4623088810979458054:=0
def tw139250610821473670:=0
def tw16483697287888212876:=0
def tw14098214633087728868:=0
def tw10267772863660860087:=0
def tw3852089654021690541:=0
def tw8021430083780070749:=0
def tw376056637693258425:=0
def tw3866963170985995582:=0
def tw3586190864387810892:=0
def tw13650577352026363682:=0
def tw6084893257702660781:=0
def tw4010130843151378507:=0
def tw7140799260554781644:=0
def tw10873513624611125450:=0
def tw17618034015559476195:=0
def tw16325626851932608129:=0
def tw220838499923990108:=0
def tw10324656634828912680:=0
def tw13724021413196219364:=0
def tw3173214502451846812:=0
def tw6391006455154892535:=0
def tw11495657300125929302:=0
def tw5120813669343143295:=0
def tw5959311190005635241:=0
def tw6199230201976224100:=0
def tw6048104351262808618:=0
def tw7590076413663014047:=0
def tw2125372919748503093:=0
def tw11598729290339345884:=0
def tw10907585548357138687:=0
def tw14397275337253713714:=0
def tw8971916949251175012:=0
def tw10644140036809247997:=0
def tw2546347130049762300:=0
def tw9847407065499957016:=0
def tw15342344715434475875:=0
def tw64612507780836494:=0
def tw2014056052581417298:=0
def tw16392877727891107777:=0
def tw5581629140572423419:=0
def tw5487810725364588124:=0
def tw16556130237551636:=0
def tw2481356913193442540:=0
def tw9431103667876693811:=0
def tw5276773955137476686:=0
def tw16976275718518724313:=0
def tw12839333351435847981:=0
def tw3004918934591093937:=0
def tw17509153986307674605:=0
def tw5097349998918512199:=0
def tw13507434458801366296:=0
def tw17838219064882510799:=0
def tw1211095868743115452:=0
def tw15006923192357210925:=0
def tw1096669838542349598:=0
def tw2470363920992116289:=0
def tw10776166404385391686:=0
def tw6071419384138272685:=0
def tw17670310552369042919:=0
def tw16634248213566641386:=0
def tw4220184920261540954:=0
def tw11564194702885902954:=0
def tw7010305277238584336:=0
def tw17482888944455358855:=0
def tw14026093050980450789:=0
def tw3685782782799591612:=0
def tw18185633396874696716:=0
def tw16382398334279322041:=0
def tw6734133149768158699:=0
def tw17288179292946326093:=0
def tw2314678880096080218:=0
def tw5977938288316383919:=0
def tw15235979884681844243:=0
def tw3059847244474547201:=0
def tw7173612101197150341:=0
def tw4829483094115908514:=0
def tw6869860007719235684:=0
def tw7625377083147117630:=0
def tw243725954779358675:=0
def tw13061233094858900433:=0
def tw5360558530087641086:=0
def tw12441727699557023934:=0
def tw3462385142727600322:=0
def tw13163289192088097473:=0
def tw975479365718783816:=0
def tw6800100725489264329:=0
def tw1888958601997730926:=0
def tw15990568382621010863:=0
def tw8759597442063508998:=0
def tw12549273044685154959:=0
def tw11652316301057602228:=0
def tw12120413462723810635:=0
def tw16032357128986698760:=0
end PySem.W.Fast
set_option hygiene false
local macro_rules
 | `(‹"a"›) => `([some (.k,O),some (.k,Sd),some (.k,Kd),some (.k,.lst (pk.map .int)),some (.k,.int (M:Int)),some (.o,rl n (fun i=>.int (stc t st c i))),some (.o,rl n (fun i=>.int (Abl.desk n K (wf n t m ld st) c i))),some (.o,rl nd (fun i=>.int (Abl.all n (wf n t m ld st) c (-1 - (i:Int))))),some (.o,nz lg),some (.k,nz (rdy n K (wf n t m ld st) c)),a10])
 | `(‹"b"›) => `(fun ys=>(if fits (acc++ys).length=true then Out.ok (D.lst (acc++ys)) else .stuck).post (fun d=>∀ H' G',StR C G' H' σ ς->Same H H'->Same G G'->G' p=none->Own C.X.K C.CT G' H' p d->Q (.ref p) H') C.XD)
 | `(‹"c"›) => `(starEach (e::es) C.X.env=(false,eval e C.X.env)::starEach es C.X.env)
 | `(‹"d"›) => `(Array (Option Value))
 | `(‹"e"›) => `(eTup (aCons (eVar 6) (aCons (eVar 7) (aCons (eVar 8) (aCons (e2 dMod (e2 dIx (eVar 5) (eC (.int 3))) (eA fLen (aCons (eVar 7) aNil))) (aCons (eA (fun xs=>QaO (xs++[])) (aCons (eVar 1) (aCons (e2 dIx (eVar 5) (eC (.int 22))) (aCons (e2 dIx (eVar 5) (eC (.int 23))) aNil)))) aNil))))))
 | `(‹"f"›) => `((x == ("__debug__":Str))=false)
 | `(‹"g"›) => `(fun ς=>QE (Qt rfl ς))
 | `(‹"h"›) => `(.tup [rl n (fun i=>.int (stc t st c i)),rl n (fun i=>.int (Abl.desk n K (wf n t m ld st) c i)),rl nd (fun i=>.int (Abl.all n (wf n t m ld st) c (-1 - (i:Int)))),nz lg])
 | `(‹"i"›) => `(Inv X pins σ H s)
 | `(‹"j"›) => `(model X.prog X.w)
 | `(‹"k"›) => `(Value->Shared->Prop)
 | `(‹"l"›) => `(starEach (e::es) X.env=(false,eval e X.env)::starEach es X.env)
 | `(‹"m"›) => `(Qe (r_var rfl) r_nil)
 | `(‹"n"›) => `(eMake "Office" Qbt (aCons (eVar 5) (aCons (eLst (aCons (eTup (aCons (eC (.str "in")) (aCons (e2 dIx (e2 dIx (eVar 1) (eC (.int 0))) (eC (.int 4))) aNil))) aNil)) (aCons (eVar 4) aNil))))
 | `(‹"o"›) => `(.builtin "object.__class__")
 | `(‹"p"›) => `((.k,.int (k:Int)))
 | `(‹"q"›) => `(.ListComp elt [⟨tg,iter,ifs,0⟩] scope pos)
 | `(‹"r"›) => `(List (Addr×Obj))
 | `(‹"s"›) => `((.k,.int (nd:Int)))
 | `(‹"t"›) => `(planD kd t m ld st nm)
 | `(‹"u"›) => `(fun d=>.str (dn d))
 | `(‹"v"›) => `(wf n t m ld st)
 | `(‹"w"›) => `(-1 - (i:Int))
 | `(‹"x"›) => `(e2 dIx (eVar 0) (eC (.int 1)))
 | `(‹"y"›) => `(Q4 (DE.db (de_ix (Qb 0 rfl (Or.inr (oi Qbk))) (DE.db Qd))) (DE.db (de_ix (DF.de (Qap (Qc Qd (Qc Qd Qj)))) (DE.db (Qb 1 rfl (Or.inr (oi QeE)))))))
 | `(‹"z"›) => `(sIf (tOr' (tVal (e2 dNe (e2 dEq (eA (fun xs=>Qb6 (xs++[])) (aCons (e2 dIx (eVar 8) (eC (.int 1))) aNil)) (eLst aNil)) (eVar 11))) (tVal (e2 dNe (e2 dEq (eA (fun xs=>Qb6 (xs++[])) (aCons (e2 dIx (eVar 9) (eC (.int 1))) aNil)) (eLst aNil)) (eVar 11)))) (sRet (eC (.bl false))) sNil)
 | `(‹"A"›) => `(seatD nm dn c t m ld st)
 | `(‹"B"›) => `(ccOf C N' scope fp s H G p)
 | `(‹"C"›) => `((x == ("__classdict__":Str))=false)
 | `(‹"D"›) => `([some (.k,S),some (.k,.int (n:Int)),some (.o,rl k (fun i=>.int (K i))),some ‹"p"›,some (.k,.int w),some (.k,G),some (.k,.int (g 24 % 6))])
 | `(‹"E"›) => `([some (.k,P),some ‹"s"›,some (.k,rl n (fun i=>.int (S i))),some (.k,rl n (fun i=>.int (K i))),some ‹"p"›,some (.k,Tk),some (.k,Ls),some (.k,Rs),some (.o,rl n (fun i=>.int (up1 t S k i))),some (.o,rl n (fun i=>.int (F i))),some (.o,rl nd (fun _=>.int 0)),none])
 | `(‹"F"›) => `(.Call (.Name x p) (e::es) [] pos)
 | `(‹"G"›) => `([some (.k,d0),some (.k,d1)])
 | `(‹"H"›) => `(fun c hc=>⟨(fp c hc).2.2.2.1,(fp c hc).2.1,(fp c hc).2.2.2.2.1,(fp c hc).2.2.2.2.2⟩)
 | `(‹"I"›) => `(e2 dIx (eVar 0) (eC (.int 0)))
 | `(‹"J"›) => `((.k,rl n (fun k=>.str (nm k))))
 | `(‹"K"›) => `(List (Option Nat))
 | `(‹"L"›) => `(DE.db (de_ix (Qb 6 rfl (oi QaG)) (DE.db (Qb 11 rfl (oi QaS)))))
 | `(‹"M"›) => `(sSet 8 (eA (fun xs=>QdD (xs++[])) (aCons (eVar 3) (aCons (eVar 4) (aCons (eVar 5) (aCons (eComp [none] (itL (eSl (eVar 0) (oSome (eC (.int 13))) (oSome (eC (.int 53))))) (gN 0) cTrue Qtz) (aCons (eC (.int 300)) aNil)))))))
 | `(‹"N"›) => `(eA fLen (aCons (eVar 0) aNil))
 | `(‹"O"›) => `(fun i=>.int (g i))
 | `(‹"P"›) => `(e2 dAdd (e2 dAdd (e2 dMul (e2 dAdd (e2 dMod (eVar 0) (eC (.int 1000000007))) (eC (.int 1))) (eC (.int 6364136223846793005))) (e2 dMul (e2 dMul (eC (.int 7919)) (eVar 1)) (eVar 1))) (e2 dMul (eC (.int 31)) (eVar 1)))
 | `(‹"Q"›) => `(fun j=>.int (ld k j))
 | `(‹"R"›) => `([some (.k,.int cell),some ‹"p"›,some (.k,.int (n:Int)),some ‹"s"›,some (.k,.bl ring),some (.k,G),some (.k,.int w),some (.k,Td),some (.o,rl j (fun j=>.int (ld j))),some (.k,.int (j:Int)),some (.k,.int z)])
 | `(‹"S"›) => `([some (.k,.int cell),some ‹"p"›,some (.k,.int (n:Int)),some ‹"s"›,some (.k,.bl ring),some (.k,G),some (.k,.int w),some (.k,Td),some (.o,rl j (fun j=>.int (ld j))),some (.k,.int (j:Int)),some (.k,.int y)])
 | `(‹"T"›) => `(planD (fun i=>if i<k then kd i else w') (fun i=>if i<k then t i else t') (fun i=>if i<k then m i else m') (fun i=>if i<k then ld i else ld') (fun i=>if i<k then st i else s') (fun i=>if i<k then nm i else x'))
 | `(‹"U"›) => `(aCons (eVar 1) aNil)
 | `(‹"V"›) => `(Qe (r_var rfl) ‹"m"›)
 | `(‹"W"›) => `([some (.k,P),some ‹"s"›,some (.k,Sd),some (.k,Kd),some ‹"p"›,some (.k,Tk),some (.k,Ls),some (.k,Rs),some (.o,Ud),some (.o,rl n (fun i=>.int (F i+dkt j l w (i:Int)))),some (.o,rl nd (fun i=>.int (0+dkt j l w ‹"w"›))),some (.k,.int (j:Int))])
 | `(‹"X"›) => `(0+dkt (m k) (ld k) (rw' (t k) (stc t st c k)) ‹"w"›)
 | `(‹"Y"›) => `(Str->Option Value)
 | `(‹"Z"›) => `(Qe (r_var rfl) (Qe r_C r_nil))
 | `(‹"aa"›) => `(Str->List (Str×D)->List D->Out (List (Str×D)))
 | `(‹"ab"›) => `([some (.s,.ins "Office" F),some (.k,S),some (.k,E),some (.k,Do),some (.k,N),some (.k,P),some (.k,W)])
 | `(‹"ac"›) => `(eA (fun xs=>QZ (xs++[])) (aCons (eVar 0) (aCons (eC (.int 0)) aNil)))
 | `(‹"ad"›) => `(MtOk P w K mg base CT (CXR P w) "keep_rows" 3 Qg (fun _=>SpI K CT QP))
 | `(‹"ae"›) => `(fun i=>.int (Abl.desk n K ‹"v"› (Abl.inc c k) i))
 | `(‹"af"›) => `(fun x ς=>g x ς>>=fun ς'=>T ς')
 | `(‹"ag"›) => `(fun i=>.int (dn1 K k i+dkt (m k) (ld k) (rw' (t k) (S k)) (i:Int)))
 | `(‹"ah"›) => `([some (.s,rl n (fun i=>D.int (F i+dkt j l w (i:Int)))),some (.s,rl nd (fun i=>.int (G i+dkt j l w ‹"w"›))),some (.k,Nu),some (.k,Wu),some (.k,.int (l j)),some (.k,.int (w j))])
 | `(‹"ai"›) => `(MtOk C.X.prog C.X.w C.X.K C.X.mg C.X.base C.CT CX0 name k cs (fun c=>SpD C.X.K C.CT fr (mt c)))
 | `(‹"aj"›) => `(some (.builtin "object.__setattr__"))
 | `(‹"ak"›) => `(.builtin "getset_descriptor.__get__")
 | `(‹"al"›) => `((.k,.int (n:Int)))
 | `(‹"am"›) => `(List.mem_append_right _ (List.mem_append_right _ (Qle hb e)))
 | `(‹"an"›) => `(Nat.le_refl _)
 | `(‹"ao"›) => `(KD.later kd (a1.trans a2) (b1.trans b2))
 | `(‹"ap"›) => `(seatD nm dn c t m ld st k)
 | `(‹"aq"›) => `(SD->Out (List D))
 | `(‹"ar"›) => `(tAnd' (tVal (e2 dEq (e2 dMod (eVar 4) (eC (.int 2))) (eC (.int 0)))) (tVal (e2 dEq (e2 dMod (e2 dIx (eVar 5) (eC (.int 25))) (eC (.int 4))) (eC (.int 3)))))
 | `(‹"as"›) => `(dkt j l w ‹"w"›+if l j = -1 - (i:Int) then w j else 0)
 | `(‹"at"›) => `(e2 dMod (e2 dAdd (e2 dAdd (e2 dMul (eVar 2) (eVar 2)) (e2 dMul (e2 dMul (eC (.int 69621)) (eVar 1)) (eVar 1))) (eVar 1)) (eC (.int 2305843009213693951)))
 | `(‹"au"›) => `([some ‹"J"›,some (.k,rl nd ‹"u"›),some (.o,.dic []),none,none,none,none])
 | `(‹"av"›) => `(de_ix (Qb 0 rfl (oi Qbl)) (DE.db Qd))
 | `(‹"aw"›) => `(F i+(dkt j l w (i:Int)+if l j=(i:Int) then w j else 0))
 | `(‹"ax"›) => `(StR C G H σ ς)
 | `(‹"ay"›) => `(A.deeper (envOfC qual (Qa st) s.heap.objs.size f cdv))
 | `(‹"az"›) => `(starEach es C.X.env)
 | `(‹"aA"›) => `([some (.k,.int cell),some ‹"p"›,some ‹"al"›,some ‹"s"›,some (.k,.bl ring),some (.k,G),some (.k,.int w),some (.k,Td),some (.o,.lst []),none,none])
 | `(‹"aB"›) => `(rdy n K ‹"v"› c)
 | `(‹"aC"›) => `(sRet (eC (.bl false)))
 | `(‹"aD"›) => `(e1 dNeg (eC (.int 1)))
 | `(‹"aE"›) => `(Nat.ne_of_lt (Nat.lt_of_lt_of_le (Heap.lt_size e) (I.ok.cab x c hfn hc)))
 | `(‹"aF"›) => `([some (.k,.int (f:Int)),some (.k,.int d),some (.k,.int g),some (.k,.str "abcdefghijklmnopqrstuvwxyz"),some (.k,.str ⟨#[97+f]⟩),none])
 | `(‹"aG"›) => `(∀ fp s H G p,DG ‹"B"› tg g/\DIf ‹"B"› ifs c/\DE ‹"B"› elt e)
 | `(‹"aH"›) => `(List (List Int))
 | `(‹"aI"›) => `(sSet 10 (eA (fun xs=>QaZ (xs++[])) (aCons (eVar 1) (aCons (eVar 2) (aCons (eVar 4) (aCons (eVar 5) (aCons (eC (.int 300)) aNil)))))))
 | `(‹"aJ"›) => `(.nx [some (.s,.ins "Office" (offF n nd nm dn c t m ld st)),some (.k,S),some (.k,E),some (.k,Do),some (.k,N),some (.k,P),some (.k,W)])
 | `(‹"aK"›) => `([some (.k,S),some (.k,.int 12),some (.k,.int v),some (.k,G),some ‹"al"›,some ‹"s"›,some (.k,.bl ring),some (.o,.lst []),none])
 | `(‹"aL"›) => `(sSet 9 (eA (fun xs=>QdD (xs++[])) (aCons (eVar 3) (aCons (eVar 4) (aCons (eVar 5) (aCons (eVar 7) (aCons (eC (.int 300)) aNil)))))))
 | `(‹"aM"›) => `(DefOk P w K mg base CT "_law_digits" 2 true [] Qah)
 | `(‹"aN"›) => `(fun j=>.str (nml nm dn (ld k j)))
 | `(‹"aO"›) => `((fun d=>∀ v H' G',Same G0 G'->Same H H'->Same G' H'->(∀ b,G0 b=none->G' b≠none->H b=none)->RetG K CT fr H G' H' d v->Q v H'))
 | `(‹"aP"›) => `(e2 dLt (eA fLen (aCons (eVarB 8) aNil)) (eVar 4))
 | `(‹"aQ"›) => `(QfI (i:=i) hN hv hd hcd)
 | `(‹"aR"›) => `(Q3 Qhl z_len (Qu (DE.db (Qb 1 rfl (oi Qay))) Qz))
 | `(‹"aS"›) => `(DefOk P w K mg base CT "is_within" 2 false [] QaN)
 | `(‹"aT"›) => `(F i+dkt j l w (i:Int))
 | `(‹"aU"›) => `(Abl.all n ‹"v"› c ‹"w"›)
 | `(‹"aV"›) => `(DefOk P w K mg base CT "_law_cell" 1 false [] QZ)
set_option hygiene true
set_option Elab.async false
set_option linter.all false
set_option maxRecDepth 100000
theorem oi{a b:Prop}(h:a):a∨b:=Or.inl h
theorem dk{p:Prop}(h:p:=by decide +kernel):p:=h
namespace L2
open PySem PySem.Spec PyProof.Rows
abbrev Key:=Sum Int Str
def keyIs:Key->Value->Bool
 | .inl k,v=>Value.isInt k v
 | .inr x,v=>Value.isStrOf x v
def keyH(w:World):Key->Int
 | .inl k=>hashInt k
 | .inr x=>hashStr w x
theorem Qce:∀{k:Key}{v:Value},keyIs k v=true->(∃ i t,k=Sum.inl i/\v=Value.int i t)∨(∃ x t,k=Sum.inr x/\v=Value.str x t)
 | .inl i,v,h=>by
  obtain⟨t,e⟩:=Value.isInt_shape (k:=i) (v:=v) h
  exact .inl ⟨i,t,rfl,e⟩
 | .inr x,v,h=>by
  obtain⟨t,e⟩:=Value.isStrOf_shape (x:=x) (v:=v) h
  exact .inr ⟨x,t,rfl,e⟩
theorem QLq(i:Int)(t:Tok):keyIs (.inl i) (.int i t)=true:=by simp[keyIs,Value.isInt]
theorem QK8(x:Str)(t:Tok):keyIs (.inr x) (.str x t)=true:=by simp[keyIs,Value.isStrOf]
theorem QQb(a b:Int):decide ((Sum.inl a:Key)=Sum.inl b)=(a == b):=by
 by_cases e:a=b
 ·subst e;simp
 ·have h:¬ (Sum.inl a:Key)=Sum.inl b:=fun q=>e (Sum.inl.inj q)
  rw[decide_eq_false h]
  exact(beq_eq_false_iff_ne.mpr e).symm
theorem QPL(a b:Str):decide ((Sum.inr a:Key)=Sum.inr b)=decide (a=b):=by
 by_cases e:a=b
 ·subst e;simp
 ·have h:¬ (Sum.inr a:Key)=Sum.inr b:=fun q=>e (Sum.inr.inj q)
  rw[decide_eq_false h,decide_eq_false e]
theorem QOU(a:Int)(b:Str):decide ((Sum.inl a:Key)=Sum.inr b)=false:=decide_eq_false (fun q=>nomatch q)
theorem QPx(a:Str)(b:Int):decide ((Sum.inr a:Key)=Sum.inl b)=false:=decide_eq_false (fun q=>nomatch q)
def Qb9(prog:Program)(w:World):PySem.KeyKind prog w Key where
 is:=keyIs
 hash:=keyH w
 inj:=fun v a b ha hb=>by
  rcases Qce ha with⟨i,t,rfl,rfl⟩ | ⟨x,t,rfl,rfl⟩
  ·rcases Qce hb with⟨j,u,rfl,e⟩ | ⟨y,u,rfl,e⟩
   ·injection e with e1 _;rw[e1]
   ·exact nomatch e
  ·rcases Qce hb with⟨j,u,rfl,e⟩ | ⟨y,u,rfl,e⟩
   ·exact nomatch e
   ·injection e with e1 _;rw[e1]
 byValue:=fun k v h=>by
  rcases Qce h with⟨i,t,rfl,rfl⟩ | ⟨x,t,rfl,rfl⟩<;>rfl
 pyHash:=fun hv h=>by
  rcases Qce hv with⟨i,t,rfl,rfl⟩ | ⟨x,t,rfl,rfl⟩
  ·exact wpAny_pyHash_int h
  ·exact wpAny_pyHash_str h
 eqBool:=fun hu hv h=>by
  rcases Qce hu with⟨i,t,rfl,rfl⟩ | ⟨x,t,rfl,rfl⟩
  ·rcases Qce hv with⟨j,u,rfl,rfl⟩ | ⟨y,u,rfl,rfl⟩
   ·rw[QQb]at h;exact wpAny_eqBool_int h
   ·rw[QOU]at h;exact SeqAt.EqAt.int_str i t y u _ _ _ _ h
  ·rcases Qce hv with⟨j,u,rfl,rfl⟩ | ⟨y,u,rfl,rfl⟩
   ·rw[QPx]at h;exact SeqAt.EqAt.str_int x t j u _ _ _ _ h
   ·rw[QPL]at h;exact wpAny_eqBool_str h
 «strs»:=fun k x t v h=>by
  rcases Qce h with⟨i,u,rfl,e⟩ | ⟨y,u,rfl,e⟩
  ·exact nomatch e
  ·injection e with e1 _
   subst e1
   cases v<;>rfl
theorem QFr(prog:Program)(w:World)(i:Int)(t:Tok):(Qb9 prog w).is (.inl i) (.int i t)=true:=QLq i t
theorem QFu(prog:Program)(w:World)(x:Str)(t:Tok):(Qb9 prog w).is (.inr x) (.str x t)=true:=QK8 x t
end L2
namespace L2
open PySem PySem.Spec PyProof.Rows
inductive V where
 | non | bl (b:Bool) | int (i:Int) | str (x:Str) | byt (b:Array UInt8) | flt (b:UInt64) | ref (a:Addr) | ty (n:String)
 deriving DecidableEq
def RelV:V->Value->Prop
 | .non,u=>u=Value.none
 | .bl b,u=>u=Value.bool b
 | .int i,u=>∃ t,u=Value.int i t
 | .str x,u=>∃ t,u=Value.str x t
 | .byt b,u=>∃ t,u=Value.bytes b t
 | .flt b,u=>∃ t,u=Value.float b t
 | .ref a,u=>u=Value.ref a
 | .ty n,u=>u=Value.type n
abbrev Vals:List V->List Value->Prop:=Paired RelV
theorem Vals.length{xs:List V}{us:List Value}(r:Vals xs us):xs.length=us.length:=Paired.length r
theorem Vals.get:∀{xs:List V}{us:List Value}{i:Nat}{x:V},Vals xs us->xs[i]?=some x->∃ u,us[i]?=some u/\RelV x u
 | _,_,_,_,.nil,e=>by simp at e
 | _,_,0,_,.cons r _,e=>by simp at e;subst e;exact⟨_,rfl,r⟩
 | _,_,i+1,x,.cons _ t,e=>by
  obtain⟨u,h1,h2⟩:=Vals.get (i:=i) (x:=x) t (by simpa using e)
  exact⟨u,by simpa using h1,h2⟩
theorem Vals.set{x:V}{u:Value}(r:RelV x u):∀{xs:List V}{us:List Value}(i:Nat),Vals xs us->Vals (xs.set i x) (us.set i u)
 | _,_,_,.nil=>.nil
 | _,_,0,.cons _ t=>.cons r t
 | _,_,i+1,.cons q t=>.cons q (Vals.set r i t)
theorem Vals.append:∀{xs ys:List V}{us ws:List Value},Vals xs us->Vals ys ws->Vals (xs++ys) (us++ws)
 | _,_,_,_,.nil,s=>s
 | _,_,_,_,.cons r t,s=>.cons r (Vals.append t s)
theorem Vals.take:∀{xs:List V}{us:List Value}(n:Nat),Vals xs us->Vals (xs.take n) (us.take n)
 | _,_,0,_=>.nil
 | _,_,_+1,.nil=>.nil
 | _,_,n+1,.cons r t=>.cons r (Vals.take n t)
theorem Vals.drop:∀{xs:List V}{us:List Value}(n:Nat),Vals xs us->Vals (xs.drop n) (us.drop n)
 | _,_,0,r=>r
 | _,_,_+1,.nil=>.nil
 | _,_,n+1,.cons _ t=>Vals.drop n t
def RelO:Option V->Option Value->Prop
 | some v,some u=>RelV v u
 | none,none=>True
 | _,_=>False
def KV{κ:Type}:List (κ×V)->List (κ×Value)->Prop:=Paired fun(p:κ×V) (q:κ×Value)=>p.1=q.1/\RelV p.2 q.2
def kV:Key->V
 | .inl i=>.int i
 | .inr x=>.str x
inductive HO where
 /-- a list -/
 | lst (xs:List V)
 /-- a tuple (never changes) -/
 | tup (xs:List V)
 /-- a dict whose keys are ints and texts;one whose keys are tuples of ints and texts (the empty one is both) -/
 | dK (kvs:List (Key×V)) | dT (kvs:List (List Key×V))
 /-- a set of ints: its members,its size -/
 | set (S:Int->Bool) (n:Nat)
 /-- an instance of the class at C,its dict at dx,its attributes -/
 | ins (C dx:Addr) (fs:List (Str×V))
 /-- the dict of the instance at x -/
 | own (x:Addr)
 /-- the dict of an exception -/
 | xd (fs:List (Str×V))
 /-- a bound method,f of x -/
 | met (f x:Addr)
 /-- a range object lo,lo+1, .. below hi -/
 | rng (lo hi:Int)
 /-- a thing that is known to the object (the script;a dict while a loop walks it): read,never written while it is so -/
 | frz (o:Obj) (u:HO)
 /-- a code object's table -/
 | tbl (ps:Array Value)
 /-- any other thing,by what is true of its one object (a def of one's own: SetO a S n:=HO.ext fun h => ..) -/
 | ext (φ : Heap->Prop)
abbrev Hp:=Addr->Option HO
def upd(H:Hp)(a:Addr)(o:HO):Hp:=fun b=>if b=a then some o else H b
theorem QO{H:Hp}{a:Addr}{o:HO}:upd H a o a=some o:=by unfold upd;rw[if_pos rfl]
theorem Ql{H:Hp}{a b:Addr}{o:HO}(h:b≠a):upd H a o b=H b:=by unfold upd;rw[if_neg h]
theorem QNR{H:Hp}{a:Addr}{o u:HO}:upd (upd H a o) a u=upd H a u:=by
 funext b;unfold upd;split<;>rfl
theorem ne_of{H:Hp}{a b:Addr}{o u:HO}(h:H a=some o)(h':H b=some u)(d:o≠u):a≠b:=by
 intro e;subst e;rw[h]at h';exact d (Option.some.inj h')
theorem QY{H:Hp}{a b:Addr}{o:HO}(h:H a=some o)(h':H b=none):a≠b:=by
 intro e;subst e;rw[h]at h';cases h'
section
variable(P:Program)(w:World)
def ObjOk(H:Hp)(h:Heap)(a:Addr):HO->Prop
 | .lst xs=>xs.length<=sizeLine/\∃(its:List Value)(n:Nat),Vals xs its/\h.get? a=some { cls:=.type "list",data:=.seq its.toArray n }
 | .tup xs=>xs.length<=sizeLine/\∃ its:List Value,Vals xs its/\IsTup h a its.toArray
 | .dK kvs=>kvs.length<=sizeLine/\(a == sysModules)=false/\∃ vs,KV kvs vs/\h.DictOf (Qb9 P w) a vs
 | .dT kvs=>kvs.length<=sizeLine/\(a == sysModules)=false/\∃ xs:List (List Key×Addr×Value),
  Paired (fun(p:List Key×V) (q:List Key×Addr×Value)=>p.1=q.1/\H q.2.1=some (.tup (p.1.map kV))/\RelV p.2 q.2.2) kvs xs/\
  ∃ o es ep,h.get? a=some o/\o.ExactDict/\o.data=.dict es ep/\es.toList=xs.map (entryOfKey (tupleKind (Qb9 P w)))/\(xs.map (·.1)).Nodup
 | .set S n=>h.SetOf (intKind P w) a S n
 | .ins C dx fs=>H dx=some (.own a)/\fs.length<=1000/\dx≠a/\h.get? a=some (PySem.W.instObj C dx)/\
  ∃ mA,h.Ns1 dx mA/\(∀ f,RelO (fs.lookup f) (mA f))/\PySem.Within mA (fs.map (·.1))
 | .own _=>∃ o,h.get? a=some o
 | .xd fs=>∃ mA,h.Ns1 a mA/\∀ f,RelO (fs.lookup f) (mA f)
 | .rng lo hi=>∃ t u v,h.get? a=some { cls:=.type "range",data:=.fields #[.int lo t,.int hi u,.int 1 v] }
 | .frz o u=>h.get? a=some o/\ObjOk H h a u
 | .tbl ps=>h.get? a=some { cls:=.none,data:=.fields ps }
 | .met f x=>h.get? a=some (PySem.W.methodObj (.ref f) (.ref x))
 | .ext φ => φ h/\(∃ o,h.get? a=some o)/\∀ h1 h2:Heap, φ h1->(∀ o,h1.get? a=some o->h2.get? a=some o) -> φ h2
def HOk(H:Hp)(h:Heap):Prop:=∀ a o,H a=some o->ObjOk P w H h a o
end
section
variable{P:Program}{w:World}{H H':Hp}{h h':Heap}{a:Addr}{o:HO}
theorem ObjOk.lt(x:ObjOk P w H h a o):a<h.objs.size:=by
 cases o with
 | lst xs=>obtain⟨_,_,_,_,e⟩:=x;exact Heap.lt_size e
 | tup xs=>obtain⟨_,_,_,p⟩:=x;exact p.lt
 | dK kvs=>obtain⟨_,_,_,_,o,_,_,e,_⟩:=x;exact Heap.lt_size e
 | dT kvs=>obtain⟨_,_,_,_,o,_,_,e,_⟩:=x;exact Heap.lt_size e
 | set S n=>obtain⟨o,_,_,_,e,_⟩:=x;exact Heap.lt_size e
 | ins C dx fs=>obtain⟨_,_,_,e,_⟩:=x;exact Heap.lt_size e
 | own y=>obtain⟨_,e⟩:=x;exact Heap.lt_size e
 | xd fs=>obtain⟨_,⟨_,_,_,e,_⟩,_⟩:=x;exact Heap.lt_size e
 | rng lo hi=>obtain⟨_,_,_,e⟩:=x;exact Heap.lt_size e
 | frz ob u=>obtain⟨e,_⟩:=x;exact Heap.lt_size e
 | tbl ps=>exact Heap.lt_size (show h.get? a=some _ from x)
 | met f y=>exact Heap.lt_size (show h.get? a=some _ from x)
 | ext φ => obtain⟨_,⟨_,e⟩,_⟩:=x;exact Heap.lt_size e
theorem Paired.mapP{α β:Type}{F G:α->β->Prop}:∀{l₁:List α}{l₂ : List β},Paired F l₁ l₂ -> (∀ a b,F a b->G a b)->Paired G l₁ l₂
 | _,_,.nil,_=>.nil
 | _,_,.cons r t,f=>.cons (f _ _ r) (Paired.mapP t f)
theorem ObjOk.stay(x:ObjOk P w H h a o)(k:∀ b u,(b=a∨H b=some (.own a))->h.get? b=some u->h'.get? b=some u)
 (ho:∀ b,H b=some (.own a)->H' b=some (.own a)) (ht:∀ b xs,H b=some (.tup xs)->H' b=some (.tup xs)):ObjOk P w H' h' a o:=by
 induction o with
 | lst xs=>obtain⟨z,its,n,r,e⟩:=x;exact⟨z,its,n,r,k _ _ (.inl rfl) e⟩
 | tup xs=>obtain⟨z,its,r,ob,e,c⟩:=x;exact⟨z,its,r,ob,k _ _ (.inl rfl) e,c⟩
 | dK kvs=>obtain⟨z,y,vs,r,ob,es,ep,e,c⟩:=x;exact⟨z,y,vs,r,ob,es,ep,k _ _ (.inl rfl) e,c⟩
 | dT kvs=>
  obtain⟨z,y,xs,r,ob,es,ep,e,c⟩:=x
  exact⟨z,y,xs,Paired.mapP r fun p q z=>⟨z.1,ht _ _ z.2.1,z.2.2⟩,ob,es,ep,k _ _ (.inl rfl) e,c⟩
 | set S n=>obtain⟨ob,es,ep,t,e,c⟩:=x;exact⟨ob,es,ep,t,k _ _ (.inl rfl) e,c⟩
 | ins C dx fs=>
  obtain⟨d,z,ne,e,mA,⟨od,es,ep,e2,c⟩,r⟩:=x
  exact⟨ho _ d,z,ne,k _ _ (.inl rfl) e,mA,⟨od,es,ep,k _ _ (.inr d) e2,c⟩,r⟩
 | own y=>obtain⟨ob,e⟩:=x;exact⟨ob,k _ _ (.inl rfl) e⟩
 | xd fs=>obtain⟨mA,⟨od,es,ep,e,c⟩,r⟩:=x;exact⟨mA,⟨od,es,ep,k _ _ (.inl rfl) e,c⟩,r⟩
 | rng lo hi=>obtain⟨t,u,v,e⟩:=x;exact⟨t,u,v,k _ _ (.inl rfl) e⟩
 | frz ob u ih=>obtain⟨e,q⟩:=x;exact⟨k _ _ (.inl rfl) e,ih q⟩
 | tbl ps=>
  have e:h.get? a=some { cls:=.none,data:=.fields ps }:=x
  show h'.get? a=some { cls:=.none,data:=.fields ps }
  exact k a _ (.inl rfl) e
 | met f y=>
  have e:h.get? a=some (PySem.W.methodObj (.ref f) (.ref y)):=x
  show h'.get? a=some (PySem.W.methodObj (.ref f) (.ref y))
  exact k a _ (.inl rfl) e
 | ext φ => obtain⟨p,⟨o,e⟩,st⟩:=x;exact⟨st _ _ p fun o q=>k _ _ (.inl rfl) q,⟨o,k _ _ (.inl rfl) e⟩,st⟩
theorem HOk.lt(x:HOk P w H h)(e:H a=some o):a<h.objs.size:=(x a o e).lt
theorem HOk.fresh(x:HOk P w H h)(e:h.objs.size<=a):H a=none:=by
 cases q:H a with
 | none=>rfl
 | some u=>exact absurd (Nat.lt_of_lt_of_le (x.lt q) e) (Nat.lt_irrefl _)
theorem HOk.kept(x:HOk P w H h)(k:∀ b u,h.get? b=some u->h'.get? b=some u):HOk P w H h':=fun a o e=>
 (x a o e).stay (fun b u _ q=>k b u q) (fun _ q=>q) fun _ _ q=>q
theorem HOk.laid(x:HOk P w H h)(k:∀ b u,h.get? b=some u->h'.get? b=some u)(hp:h.objs.size<=a)(new:ObjOk P w (upd H a o) h' a o):HOk P w (upd H a o) h':=fun b u e=>by
 have hn:=x.fresh hp
 by_cases hb:b=a
 ·subst hb;rw[QO]at e;cases e;exact new
 ·rw[Ql hb]at e
  exact(x b u e).stay (fun c v _ q=>k c v q) (fun c q=>by rw[Ql (QY q hn)];exact q) fun c xs q=>by rw[Ql (QY q hn)];exact q
end
def Rd(H:Hp)(a:Addr)(u:HO):Prop:=H a=some u∨∃ o,H a=some (.frz o u)
theorem Rd.of{H:Hp}{a:Addr}{u:HO}(h:H a=some u):Rd H a u:=.inl h
theorem Rd.ok{P:Program}{w:World}{H:Hp}{h:Heap}{a:Addr}{u:HO}(r:Rd H a u)(x:HOk P w H h):ObjOk P w H h a u:=by
 rcases r with r | ⟨o,r⟩
 ·exact x a u r
 ·obtain⟨_,q⟩:=x a _ r
  exact q
def Mut:Option HO->Prop
 | some (.lst _)=>True
 | some (.dK _)=>True
 | some (.dT _)=>True
 | some (.set _ _)=>True
 | some (.ins _ _ _)=>True
 | some (.ext _)=>True
 | _=>False
section
variable{P:Program}{w:World}{H:Hp}{h h':Heap}{x e:Addr}{o':HO}
theorem HOk.write(ok:HOk P w H h)(mu:Mut (H x))(he:e=x∨H e=some (.own x))(k:∀ b u,b≠e->h.get? b=some u->h'.get? b=some u)(heo:∃ u,h'.get? e=some u)
 (new:ObjOk P w (upd H x o') h' x o'):HOk P w (upd H x o') h':=fun b u q=>by
 have nown:∀ c y,H c=some (.own y)->c≠x:=fun c y r z=>by subst z;rw[r]at mu;exact mu
 have ntup:∀ c xs,H c=some (.tup xs)->c≠x:=fun c xs r z=>by subst z;rw[r]at mu;exact mu
 by_cases hb:b=x
 ·subst hb;rw[QO]at q;cases q;exact new
 ·rw[Ql hb]at q
  by_cases hbe:b=e
  ·have q':H b=some (.own x):=by
    rcases he with z | z
    ·exact absurd (hbe.trans z) hb
    ·rw[hbe];exact z
   rw[q]at q';cases q'
   obtain⟨v,hv⟩:=heo
   exact⟨v,by rw[hbe];exact hv⟩
  ·refine(ok b u q).stay (fun c v hc r=>k c v ?_ r) (fun c r=>by rw[Ql (nown c b r)];exact r) fun c xs r=>by rw[Ql (ntup c xs r)];exact r
   rcases hc with rfl | hc
   ·exact hbe
   ·rintro rfl
    rcases he with z | z
    ·exact nown c b hc z
    ·rw[hc]at z;cases z;exact hb rfl
end
structure Un(fs ex:List Addr)(H H':Hp)(h h':Heap):Prop where
 keep:∀ b o,h.get? b=some o->H b=none->b∉fs->b∉ex->h'.get? b=some o
 slot:∀ b o,h.get? b=some o->H b=none->b∈fs->b∉ex->∃ sl,h'.get? b=some { o with slots:=sl }
 free:∀ b o,h.get? b=some o->H b=none->b∉ex->H' b=none
 there:∀ b o,h.get? b=some o->b∉ex->∃ o',h'.get? b=some o'
 tups:∀ b xs,H b=some (.tup xs)->H' b=some (.tup xs)
 frzs:∀ b o u,H b=some (.frz o u)->H' b=some (.frz o u)
 tbls:∀ b ps,H b=some (.tbl ps)->∃ more,H' b=some (.tbl (ps++more))
section
variable{fs fs' ex ex':List Addr}{H H1 H2:Hp}{h h1 h2 h':Heap}{a x e:Addr}{o:HO}
theorem Un.any(u:Un fs ex H H1 h h1){b:Addr}{ob:Obj}(q:h.get? b=some ob)(n:H b=none)(hx:b∉ex):∃ sl,h1.get? b=some { ob with slots:=sl }:=by
 by_cases hb:b∈fs
 ·exact u.slot b ob q n hb hx
 ·exact⟨ob.slots,u.keep b ob q n hb hx⟩
theorem Un.trans(a:Un fs ex H H1 h h1)(b:Un fs ex H1 H2 h1 h2):Un fs ex H H2 h h2 where
 keep:=fun c ob q n hc hx=>b.keep c ob (a.keep c ob q n hc hx) (a.free c ob q n hx) hc hx
 slot:=fun c ob q n hc hx=>by
  obtain⟨sl,e1⟩:=a.slot c ob q n hc hx
  obtain⟨sl',e2⟩:=b.slot c _ e1 (a.free c ob q n hx) hc hx
  exact⟨sl',e2⟩
 free:=fun c ob q n hx=>by
  obtain⟨o',e1⟩:=a.there c ob q hx
  exact b.free c o' e1 (a.free c ob q n hx) hx
 there:=fun c ob q hx=>by
  obtain⟨o',e1⟩:=a.there c ob q hx
  exact b.there c o' e1 hx
 tups:=fun c xs q=>b.tups c xs (a.tups c xs q)
 frzs:=fun c ob xs q=>b.frzs c ob xs (a.frzs c ob xs q)
 tbls:=fun c ps q=>by
  obtain⟨m1,e1⟩:=a.tbls c ps q
  obtain⟨m2,e2⟩:=b.tbls c _ e1
  exact⟨m1++m2,by rw[e2,Array.append_assoc]⟩
theorem Un.kept(k:∀ b u,h.get? b=some u->h'.get? b=some u):Un fs ex H H h h':=
 ⟨fun b ob q _ _ _=>k b ob q,fun b ob q _ _ _=>⟨ob.slots,k b ob q⟩,fun _ _ _ n _=>n,fun b ob q _=>⟨ob,k b ob q⟩,fun _ _ q=>q,fun _ _ _ q=>q,fun _ ps q=>⟨#[],by rw[q];simp⟩⟩
theorem Un.refl:Un fs ex H H h h:=Un.kept fun _ _ q=>q
theorem Un.laid(k:∀ b u,h.get? b=some u->h'.get? b=some u)(hp:h.objs.size<=a)(hn:H a=none):Un fs ex H (upd H a o) h h' where
 keep:=fun b u q _ _ _=>k b u q
 slot:=fun b u q _ _ _=>⟨u.slots,k b u q⟩
 free:=fun b u q n _=>by rw[Ql (Nat.ne_of_lt (Nat.lt_of_lt_of_le (Heap.lt_size q) hp))];exact n
 there:=fun b u q _=>⟨u,k b u q⟩
 tups:=fun b xs q=>by rw[Ql (QY q hn)];exact q
 frzs:=fun b u xs q=>by rw[Ql (QY q hn)];exact q
 tbls:=fun b ps q=>⟨#[],by rw[Ql (QY q hn),q];simp⟩
theorem Un.write(mu:Mut (H x))(he:e=x∨H e=some (.own x))(k:∀ b u,b≠e->h.get? b=some u->h'.get? b=some u)(heo:∃ u,h'.get? e=some u):Un fs ex H (upd H x o) h h':=by
 have hx:∀ b,H b=none->b≠x:=fun b n z=>by subst z;rw[n]at mu;exact mu
 have hb:∀ b,H b=none->b≠e:=fun b n z=>by
  subst z
  rcases he with r | r
  ·exact hx b n r
  ·rw[n]at r;cases r
 have hm:∀ b u,H b=some u->¬ Mut (some u)->b≠x:=fun b u q nm z=>by subst z;rw[q]at mu;exact nm mu
 refine⟨fun b u q n _ _=>k b u (hb b n) q,fun b u q n _ _=>⟨u.slots,k b u (hb b n) q⟩,fun b u q n _=>by rw[Ql (hx b n)];exact n,fun b u q _=>?_,
  fun b xs q=>by rw[Ql (hm b _ q fun z=>z)];exact q,fun b u xs q=>by rw[Ql (hm b _ q fun z=>z)];exact q,fun b ps q=>⟨#[],by rw[Ql (hm b _ q fun z=>z),q];simp⟩⟩
 by_cases hbe:b=e
 ·subst hbe;exact heo
 ·exact⟨u,k b u hbe q⟩
end
def trk(h:Heap)(H:Hp):List Addr:=(List.range h.objs.size).filter fun a=>(H a).isSome
def hidT(h:Heap)(H:Hp):Heap:=PySem.W.hideAll h (trk h H)
theorem QLg(h:Heap)(H:Hp):(hidT h H).objs.size=h.objs.size:=PySem.W.hideAll_size _ _
theorem QMC{h:Heap}{H:Hp}{b:Addr}{o:Obj}(e:h.get? b=some o)(n:H b=none):(hidT h H).get? b=some o:=
 PySem.W.hideAll_get _ e fun hm=>by
  have q:(H b).isSome=true:=(List.mem_filter.mp hm).2
  rw[n]at q;simp at q
theorem QOu{h:Heap}{H:Hp}{b:Addr}{o:Obj}(e:(hidT h H).get? b=some o):h.get? b=some o/\H b=none:=by
 have e':h.get? b=some o:=PySem.W.of_hideAll (trk h H) e
 refine⟨e',?_⟩
 cases q:H b with
 | none=>rfl
 | some x=>
  have hm:b∈trk h H:=List.mem_filter.mpr ⟨List.mem_range.mpr (Heap.lt_size e'),by simp[q]⟩
  have z:(hidT h H).get? b=none:=PySem.W.hideAll_none (trk h H) hm
  rw[z]at e;cases e
def QNJ(g h:Heap)(L:Addr):List (Addr×Obj):=(List.range h.objs.size).filterMap fun a=>if a=L∨(g.get? a).isSome=true then none else(h.get? a).map fun o=>(a,o)
def rest(g h:Heap)(L d:Addr):List (Addr×Obj):=(QNJ g h L).filter fun p=>decide (p.1≠d)
end L2
namespace L2
open PySem PySem.Spec PyProof.Rows
structure Mod(K:PySem.W.Frag)(mg:Str->Option Value)(base:Heap):Prop where
 kin:K.In base
 glob:base.Ns mainGlobals mg
 blt:∃ mb,base.Ns builtinsNs mb/\∀ x:Str,x≠"__name__"->mb x=bootBuiltins x
 nolimit:base.NoLimit
structure Cx where
 prog:Program
 w:World
 K:PySem.W.Frag
 mg:Str->Option Value
 base:Heap
 A:Around
 N:List Str
 s₀:Shared
 H₀:Hp
 env:Env
 outer:List Env
 stack:List Env
 ex:List Addr
 fn:Str->Bool
 calm:Bool
 pn:List (Addr×Obj)
 xe:Value->Shared->Prop
def frs(l:List Env):List Addr:=l.filterMap (·.frame)
abbrev Cx.fs(X:Cx):List Addr:=frs X.outer
def Vis(sc:Scope)(x:Str):Prop:=sc.names.lookup x=some .local∨sc.names.lookup x=some .cell∨sc.names.lookup x=some .free
def Loc(sc:Scope)(x:Str):Prop:=sc.names.lookup x=some .local∨sc.names.lookup x=some .cell
def Look(env:Env)(h:Heap)(m:‹"Y"›)(x:Str)(u:Value):Prop:=
 (env.kindOf x=some .local/\m x=some u)∨((env.kindOf x=some .cell∨env.kindOf x=some .free)/\∃ c,env.cells.lookup x=some c/\h.IsCell c (some u))
structure Cx.Ok(X:Cx):Prop where
 mod:Mod X.K X.mg X.base
 kind:X.env.scope.kind=.function
 glob:X.env.globals=mainGlobals
 blt:X.env.builtins=builtinsNs
 above:X.s₀.heap.objs.size<=X.env.locals
 inj:∀ x y c,X.env.cells.lookup x=some c->X.env.cells.lookup y=some c->x=y
 has:∀ x,(X.env.kindOf x=some .cell∨X.env.kindOf x=some .free)->∃ c,X.env.cells.lookup x=some c
 cab:∀ x c,X.fn x=true->X.env.cells.lookup x=some c->X.s₀.heap.objs.size<=c
 hd:X.calm=true->X.A.handled=none
 frames:X.A.frames=some X.stack
 stk:X.stack=X.outer∨(X.stack=X.env::X.outer/\X.env.frame=some X.env.locals)
 exf:∀ b∈X.ex,b≠X.env.locals/\∀ x c,X.env.cells.lookup x=some c->c≠b
 bs:∀ b o,X.base.get? b=some o->X.s₀.heap.get? b=some o/\X.H₀ b=none
 bsz:X.base.objs.size<=X.s₀.heap.objs.size
 noex:∀ b o,X.base.get? b=some o->b∉X.ex
 exfs:∀ b∈X.ex,b∉X.fs
 funs:X.s₀.heap.FunFrames X.base X.outer
 frf:∀ b∈X.fs,X.H₀ b=none
structure Inv(X:Cx)(pins:List (Addr×Obj))(σ:List (Option V))(H:Hp)(s:Shared):Prop where
 ok:X.Ok
 os:s.os=X.s₀.os
 bare:AllBare s.gens
 base:Un X.fs X.ex X.H₀ H X.s₀.heap s.heap
 loc:∃ m,s.heap.Ns X.env.locals m/\∀(i:Nat)(x:Str)(v:V),X.N[i]?=some x->σ[i]?=some (some v)->Vis X.env.scope x->∃ u,RelV v u/\Look X.env s.heap m x u
 cell:∀ x c,X.env.cells.lookup x=some c->∃ v,s.heap.IsCell c v
 free:H X.env.locals=none
 freeC:∀ x c,X.env.cells.lookup x=some c->H c=none
 pin:∀ p∈X.pn++pins,s.heap.get? p.1=some p.2/\H p.1=none/\p.1≠X.env.locals/\p.1∉X.fs/\∀ v,p.2.data≠.cell v
 hok:HOk X.prog X.w H s.heap
 len:σ.length=X.N.length
section
variable{X:Cx}{pins:List (Addr×Obj)}{σ:List (Option V)}{H H':Hp}{s:Shared}{h':Heap}
theorem Cx.Ok.nofr(ok:X.Ok){b:Addr}{o:Obj}(e:X.base.get? b=some o):b∉X.fs:=fun hb=>by
 have:=(ok.funs.mem hb).1
 rw[e]at this;cases this
theorem Inv.bs(I:‹"i"›):∀ b o,X.base.get? b=some o->s.heap.get? b=some o/\H b=none:=fun b o e=>
 ⟨I.base.keep b o (I.ok.bs b o e).1 (I.ok.bs b o e).2 (I.ok.nofr e) (I.ok.noex b o e),I.base.free b o (I.ok.bs b o e).1 (I.ok.bs b o e).2 (I.ok.noex b o e)⟩
theorem Inv.bk(I:‹"i"›):∀ b o,X.base.get? b=some o->s.heap.get? b=some o:=fun b o e=>(I.bs b o e).1
theorem Inv.mod(I:‹"i"›):Mod X.K X.mg X.base:=I.ok.mod
theorem Inv.kIn(I:‹"i"›):X.K.In s.heap:=I.ok.mod.kin.keeps I.bk
theorem Inv.lt(I:‹"i"›):X.env.locals<s.heap.objs.size:=let ⟨_,hn,_⟩:=I.loc;hn.lt
theorem Inv.sz(I:‹"i"›):X.s₀.heap.objs.size<=s.heap.objs.size:=Nat.le_trans I.ok.above (Nat.le_of_lt I.lt)
theorem Inv.nofs(I:‹"i"›){a:Addr}(h:s.heap.objs.size<=a):a∉X.fs:=fun hb=>by
 obtain⟨_,o,ho,_⟩:=I.ok.funs.mem hb
 exact absurd (Nat.lt_of_lt_of_le (Heap.lt_size ho) (Nat.le_trans I.sz h)) (Nat.lt_irrefl _)
theorem Inv.cne(I:‹"i"›):∀ x c,X.env.cells.lookup x=some c->c≠X.env.locals:=fun x c e z=>by
 obtain⟨v,o,ho,hd⟩:=I.cell x c e
 obtain⟨m,⟨o',es,ep,ho',hd',_⟩,_⟩:=I.loc
 rw[z,ho']at ho;cases ho;rw[hd']at hd;cases hd
theorem Inv.funs(I:‹"i"›):s.heap.FunFrames X.base X.outer:=by
 have all:∀(l:List Env),(∀ b∈frs l,b∈X.fs)->X.s₀.heap.FunFrames X.base l->s.heap.FunFrames X.base l:=by
  intro l
  induction l with
  | nil=>intro _ _;trivial
  | cons env r ih=>
   intro hs hl
   obtain⟨hk,⟨L,o,hf,hn,ho,hd⟩,hr⟩:=hl
   have hL:L∈X.fs:=hs L (by unfold frs;rw[List.filterMap_cons,hf];exact List.mem_cons_self)
   obtain⟨sl,e⟩:=I.base.slot L o ho (I.ok.frf L hL) hL fun z=>I.ok.exfs L z hL
   exact⟨hk,⟨L,_,hf,hn,e,hd⟩,ih (fun b hb=>hs b (by unfold frs;rw[List.filterMap_cons,hf];exact List.mem_cons_of_mem _ hb)) hr⟩
 exact all X.outer (fun _ hb=>hb) I.ok.funs
theorem Inv.stack(I:‹"i"›):s.heap.FunFrames X.base X.stack:=by
 rcases I.ok.stk with e | ⟨e,hf⟩
 ·rw[e];exact I.funs
 ·rw[e]
  obtain⟨m,hn,_⟩:=I.loc
  refine .cons (by rw[I.ok.kind];decide) hf hn ?_ I.funs
  exact Heap.get?_none_of_le (Nat.le_trans I.ok.bsz I.ok.above)
theorem Inv.stkSub(I:‹"i"›):∀ b∈frs X.stack,b∈X.env.locals::X.fs:=fun b hb=>by
 rcases I.ok.stk with e | ⟨e,hf⟩
 ·rw[e]at hb;exact List.mem_cons_of_mem _ hb
 ·rw[e]at hb
  unfold frs at hb
  rw[List.filterMap_cons,hf]at hb
  exact hb
theorem Inv.stkFree(I:‹"i"›):∀ b∈frs X.stack,H b=none:=fun b hb=>by
 rcases List.mem_cons.mp (I.stkSub b hb) with e | hb
 ·rw[e];exact I.free
 ·obtain⟨_,o,ho,_⟩:=I.ok.funs.mem hb
  exact I.base.free b o ho (I.ok.frf b hb) fun z=>I.ok.exfs b z hb
theorem Inv.step{g':Array GenState}{t':Nat}{d':Drawn}{ch:List Addr}(I:‹"i"›)
 (hch:∀ b∈ch,(b∈X.ex∨X.s₀.heap.objs.size<=b)/\b≠X.env.locals/\(∀ x c,X.env.cells.lookup x=some c->c≠b)/\∀ p∈X.pn++pins,p.1≠b)
 (keep:∀ b o,b≠X.env.locals->b∉X.fs->b∉ch->s.heap.get? b=some o->H b=none->h'.get? b=some o)
 (slot:∀ b o,b≠X.env.locals->b∈X.fs->b∉ch->s.heap.get? b=some o->H b=none->∃ sl,h'.get? b=some { o with slots:=sl }) (free:∀ b o,b∉ch->s.heap.get? b=some o->H b=none->H' b=none)
 (there:∀ b o,b∉ch->s.heap.get? b=some o->∃ o',h'.get? b=some o')
 (tups:∀ b xs,H b=some (.tup xs)->H' b=some (.tup xs)) (frzs:∀ b o u,H b=some (.frz o u)->H' b=some (.frz o u)) (tbls:∀ b ps,H b=some (.tbl ps)->∃ more,H' b=some (.tbl (ps++more)))
 (ns:∀ m,s.heap.Ns X.env.locals m->h'.Ns X.env.locals m) (hok:HOk X.prog X.w H' h') (hg:AllBare g'):
 Inv X pins σ H' { s with heap:=h',gens:=g',drawn:=d',toks:=t' }:=by
 have neL:∀ b o,X.s₀.heap.get? b=some o->b≠X.env.locals:=fun b o e=>Nat.ne_of_lt (Nat.lt_of_lt_of_le (Heap.lt_size e) I.ok.above)
 have neC:∀ b o,X.s₀.heap.get? b=some o->b∉X.ex->b∉ch:=fun b o e hx hb=>by
  rcases(hch b hb).1 with z | z
  ·exact hx z
  ·exact absurd (Nat.lt_of_lt_of_le (Heap.lt_size e) z) (Nat.lt_irrefl _)
 have cellK:∀ x c,X.env.cells.lookup x=some c->∀ v,s.heap.IsCell c v->h'.IsCell c v:=fun x c e v ⟨o,ho,hd⟩=>by
  have nch:c∉ch:=fun z=>(hch c z).2.2.1 x c e rfl
  by_cases hc:c∈X.fs
  ·obtain⟨sl,q⟩:=slot c o (I.cne x c e) hc nch ho (I.freeC x c e)
   exact⟨_,q,hd⟩
  ·exact⟨o,keep c o (I.cne x c e) hc nch ho (I.freeC x c e),hd⟩
 refine⟨I.ok,I.os,hg,⟨fun b o e n hb hx=>?_,fun b o e n hb hx=>?_,fun b o e n hx=>?_,fun b o e hx=>?_,fun b xs e=>tups b xs (I.base.tups b xs e),fun b o xs e=>frzs b o xs (I.base.frzs b o xs e),fun b ps e=>?_⟩,?_,fun x c e=>?_,?_,fun x c e=>?_,fun p hp=>?_,hok,I.len⟩
 ·exact keep b o (neL b o e) hb (neC b o e hx) (I.base.keep b o e n hb hx) (I.base.free b o e n hx)
 ·obtain⟨sl,e1⟩:=I.base.slot b o e n hb hx
  obtain⟨sl',e2⟩:=slot b _ (neL b o e) hb (neC b o e hx) e1 (I.base.free b o e n hx)
  exact⟨sl',e2⟩
 ·obtain⟨o',e1⟩:=I.base.there b o e hx
  exact free b o' (neC b o e hx) e1 (I.base.free b o e n hx)
 ·obtain⟨o',e1⟩:=I.base.there b o e hx
  exact there b o' (neC b o e hx) e1
 ·obtain⟨m1,e1⟩:=I.base.tbls b ps e
  obtain⟨m2,e2⟩:=tbls b _ e1
  exact⟨m1++m2,by rw[e2,Array.append_assoc]⟩
 ·obtain⟨m,hn,hl⟩:=I.loc
  refine⟨m,ns m hn,fun i x v e1 e2 e3=>?_⟩
  obtain⟨u,r,l⟩:=hl i x v e1 e2 e3
  refine⟨u,r,?_⟩
  rcases l with l | ⟨k,c,e,z⟩
  ·exact .inl l
  ·exact .inr ⟨k,c,e,cellK x c e _ z⟩
 ·obtain⟨v,z⟩:=I.cell x c e
  exact⟨v,cellK x c e v z⟩
 ·obtain⟨m,⟨o,_,_,ho,_⟩,_⟩:=I.loc
  exact free _ o (fun z=>(hch _ z).2.1 rfl) ho I.free
 ·obtain⟨v,o,ho,hd⟩:=I.cell x c e
  exact free c o (fun z=>(hch c z).2.2.1 x c e rfl) ho (I.freeC x c e)
 ·obtain⟨e,n,ne,nf,d⟩:=I.pin p hp
  have nch:p.1∉ch:=fun z=>(hch p.1 z).2.2.2 p hp rfl
  exact⟨keep p.1 p.2 ne nf nch e n,free p.1 p.2 nch e n,ne,nf,d⟩
theorem Inv.un{t':Nat}(I:‹"i"›)(u:Un X.fs [] H H' s.heap h')(hok:HOk X.prog X.w H' h'):Inv X pins σ H' { s with heap:=h',toks:=t' }:=by
 obtain⟨m,⟨o,es,ep,ho,r⟩,_⟩:=id I.loc
 obtain⟨sl,hL⟩:=u.any ho I.free (by simp)
 exact I.step (g':=s.gens) (d':=s.drawn) (ch:=[]) (fun _ z=>nomatch z) (fun b o _ hb _ e n=>u.keep b o e n hb (by simp)) (fun b o _ hb _ e n=>u.slot b o e n hb (by simp)) (fun b o _ e n=>u.free b o e n (by simp)) (fun b o _ e=>u.there b o e (by simp)) u.tups u.frzs u.tbls (fun m' hm=>by
  obtain⟨o',es',ep',ho',r'⟩:=hm
  rw[ho]at ho';cases ho'
  exact⟨_,es',ep',hL,r'⟩) hok I.bare
theorem Inv.call{g':Array GenState}{t':Nat}{d':Drawn}{ch:List Addr}(I:‹"i"›)(u:Un (frs X.stack) ch H H' s.heap h')(hok:HOk X.prog X.w H' h')(hg:AllBare g')
 (hch:∀ b∈ch,(b∈X.ex∨X.s₀.heap.objs.size<=b)/\b≠X.env.locals/\(∀ x c,X.env.cells.lookup x=some c->c≠b)/\∀ p∈X.pn++pins,p.1≠b):
 Inv X pins σ H' { s with heap:=h',gens:=g',drawn:=d',toks:=t' }:=by
 obtain⟨m,⟨o,es,ep,ho,r⟩,_⟩:=id I.loc
 obtain⟨sl,hL⟩:=u.any ho I.free fun z=>(hch _ z).2.1 rfl
 exact I.step (ch:=ch) hch (fun b o hL hb hc e n=>u.keep b o e n (fun z=>(List.mem_cons.mp (I.stkSub b z)).elim hL hb) hc) (fun b o _ _ hc e n=>u.any e n hc) (fun b o hc e n=>u.free b o e n hc) (fun b o hc e=>u.there b o e hc) u.tups u.frzs u.tbls (fun m' hm=>by
  obtain⟨o',es',ep',ho',r'⟩:=hm
  rw[ho]at ho';cases ho'
  exact⟨_,es',ep',hL,r'⟩) hok hg
theorem Inv.turned{t':Nat}{it:Addr}(I:‹"i"›)(k:∀ b o,b≠it->s.heap.get? b=some o->h'.get? b=some o)(hn:H it=none)(hL:it≠X.env.locals)
 (h1:it∈X.ex∨X.s₀.heap.objs.size<=it) (h2:∀ x c,X.env.cells.lookup x=some c->c≠it) (h3:∀ p∈X.pn++pins,p.1≠it):Inv X pins σ H { s with heap:=h',toks:=t' }:=by
 have nit:∀ b u,H b=some u->b≠it:=fun b u e z=>by rw[z,hn]at e;cases e
 refine I.step (g':=s.gens) (d':=s.drawn) (ch:=[it]) (fun b hb=>?_) (fun b o _ _ hc e _=>k b o (fun z=>hc (by simp[z])) e) (fun b o _ _ hc e _=>⟨o.slots,k b o (fun z=>hc (by simp[z])) e⟩) (fun _ _ _ _ n=>n)
  (fun b o hc e=>⟨o,k b o (fun z=>hc (by simp[z])) e⟩) (fun _ _ e=>e) (fun _ _ _ e=>e) (fun b ps e=>⟨#[],by rw[e];simp⟩) (fun m hm=>?_) (fun b u e=>?_) I.bare
 ·have e:b=it:=by simpa using hb
  subst e
  exact⟨h1,hL,h2,h3⟩
 ·obtain⟨o,es,ep,ho,r⟩:=hm
  exact⟨o,es,ep,k _ o (Ne.symm hL) ho,r⟩
 ·refine(I.hok b u e).stay (fun c v hc q=>k c v ?_ q) (fun _ q=>q) fun _ _ q=>q
  rcases hc with z | z
  ·rw[z];exact nit b u e
  ·exact nit c _ z
theorem Inv.tok(I:‹"i"›)(t:Nat):Inv X pins σ H { s with toks:=t }:=I.un (h':=s.heap) (t':=t) Un.refl I.hok
theorem Inv.kept{t':Nat}(I:‹"i"›)(k:∀ b u,s.heap.get? b=some u->h'.get? b=some u):Inv X pins σ H { s with heap:=h',toks:=t' }:=I.un (Un.kept k) (I.hok.kept k)
theorem Inv.laid{a:Addr}{o:HO}{t':Nat}(I:‹"i"›)(k:∀ b u,s.heap.get? b=some u->h'.get? b=some u)(hp:s.heap.objs.size<=a)(new:ObjOk X.prog X.w (upd H a o) h' a o):
 Inv X pins σ (upd H a o) { s with heap:=h',toks:=t' }:=I.un (Un.laid k hp (I.hok.fresh hp)) (I.hok.laid k hp new)
theorem Inv.write{x e:Addr}{o:HO}{t':Nat}(I:‹"i"›)(mu:Mut (H x))(he:e=x∨H e=some (.own x))(k:∀ b u,b≠e->s.heap.get? b=some u->h'.get? b=some u)(heo:∃ u,h'.get? e=some u)
 (new:ObjOk X.prog X.w (upd H x o) h' x o):Inv X pins σ (upd H x o) { s with heap:=h',toks:=t' }:=I.un (Un.write mu he k heo) (I.hok.write mu he k heo new)
theorem Inv.pins_of{pins':‹"r"›}(I:‹"i"›)(h:∀ p∈pins',s.heap.get? p.1=some p.2/\H p.1=none/\p.1≠X.env.locals/\p.1∉X.fs/\∀ v,p.2.data≠.cell v):Inv X pins' σ H s:=
 ⟨I.ok,I.os,I.bare,I.base,I.loc,I.cell,I.free,I.freeC,fun p hp=>(List.mem_append.mp hp).elim (fun z=>I.pin p (List.mem_append_left _ z)) (h p),I.hok,I.len⟩
theorem QBI{N:List Str}(hN:N.Nodup){i j:Nat}{x:Str}(a:N[i]?=some x)(b:N[j]?=some x):i=j:=by
 obtain⟨h1,e1⟩:=List.getElem?_eq_some_iff.mp a
 obtain⟨h2,e2⟩:=List.getElem?_eq_some_iff.mp b
 exact(List.getElem_inj hN).mp (e1.trans e2.symm)
theorem Qz2{M:Model}{A:Around}{E:‹"k"›}{i:Nat}{x:Str}{v:V}{u:Value}{Q:Unit->Shared->Prop}(I:‹"i"›)(hN:X.N.Nodup)(hi:X.N[i]?=some x)(hx:Loc X.env.scope x)(r:RelV v u)
 (h:∀ s',Inv X pins (σ.set i (some v)) H s'->(∃ a,Heap.SameBut a s.heap s'.heap/\(a=X.env.locals∨X.env.cells.lookup x=some a))->Q () s') (hf:X.fn x=true∨X.env.scope.names.lookup x=some .local:=by first | exact .inl rfl | exact .inr rfl | assumption):wpAny M A (storeName X.env x u) Q E s:=by
 obtain⟨m,hn,hl⟩:=id I.loc
 have hcls:(X.env.scope.kind == .class||(X.env.scope.kind == .module&&X.env.locals != X.env.globals))=false:=by rw[I.ok.kind];rfl
 have hiσ:i<σ.length:=by rw[I.len];exact(List.getElem?_eq_some_iff.mp hi).1
 have cne:=I.cne
 have tracked:∀{a:Addr}{h':Heap},(∃ o,s.heap.get? a=some o/\H a=none)->Heap.SameBut a s.heap h'->HOk X.prog X.w H h':=fun {a h'} ha hs b ob e=>by
  obtain⟨_,_,hfree⟩:=ha
  refine(I.hok b ob e).stay (fun c w' hc q=>(hs.2 c ?_).trans q) (fun _ q=>q) fun _ _ q=>q
  rintro rfl
  rcases hc with rfl | hc
  ·rw[hfree]at e;cases e
  ·rw[hfree]at hc;cases hc
 rcases hx with hk | hk
 ·refine wpAny_storeName_local hk hn (fun h' hn' hs=>?_) hcls
  obtain⟨oL,_,_,hoL,_⟩:=id hn
  refine h _ ⟨I.ok,I.os,I.bare,⟨fun b o e n hb hx=>?_,fun b o e n hb hx=>?_,I.base.free,fun b o e hx=>?_,I.base.tups,I.base.frzs,I.base.tbls⟩,⟨_,hn',fun j y v' e1 e2 e3=>?_⟩,fun y c e=>?_,I.free,I.freeC,fun p hp=>?_,tracked ⟨oL,hoL,I.free⟩ hs,by simpa using I.len⟩ ⟨_,hs,.inl rfl⟩
  ·exact(hs.2 b (Nat.ne_of_lt (Nat.lt_of_lt_of_le (Heap.lt_size e) I.ok.above))).trans (I.base.keep b o e n hb hx)
  ·obtain⟨sl,e1⟩:=I.base.slot b o e n hb hx
   exact⟨sl,(hs.2 b (Nat.ne_of_lt (Nat.lt_of_lt_of_le (Heap.lt_size e) I.ok.above))).trans e1⟩
  ·obtain⟨o',e1⟩:=I.base.there b o e hx
   exact⟨o',(hs.2 b (Nat.ne_of_lt (Nat.lt_of_lt_of_le (Heap.lt_size e) I.ok.above))).trans e1⟩
  ·by_cases hj:j=i
   ·subst hj
    rw[hi]at e1;cases e1
    rw[List.getElem?_set_self hiσ]at e2
    cases e2
    exact⟨u,r,.inl ⟨hk,by simp⟩⟩
   ·rw[List.getElem?_set_ne (Ne.symm hj)]at e2
    obtain⟨u',r',q⟩:=hl j y v' e1 e2 e3
    refine⟨u',r',?_⟩
    rcases q with⟨k,e⟩ | ⟨k,c,e,z⟩
    ·refine .inl ⟨k,?_⟩
     have:y≠x:=fun e=>hj (QBI hN e1 (e ▸ hi))
     simp[this,e]
    ·exact .inr ⟨k,c,e,z.sameBut hs (cne y c e)⟩
  ·obtain⟨w',z⟩:=I.cell y c e
   exact⟨w',z.sameBut hs (cne y c e)⟩
  ·obtain⟨e,n,ne,nf,d⟩:=I.pin p hp
   exact⟨(hs.2 p.1 ne).trans e,n,ne,nf,d⟩
 ·have hfn:X.fn x=true:=by
   rcases hf with z | z
   ·exact z
   ·rw[z]at hk;cases hk
  obtain⟨c,hc⟩:=I.ok.has x (.inl hk)
  obtain⟨w',z⟩:=I.cell x c hc
  refine wpAny_storeName_cell I.ok.kind hk hc z (fun h' hc' hs=>?_)
  obtain⟨oc,hoc,hocd⟩:=id z
  refine h { s with heap:=h' } ⟨I.ok,I.os,I.bare,⟨fun b o e n hb hx=>?_,fun b o e n hb hx=>?_,I.base.free,fun b o e hx=>?_,I.base.tups,I.base.frzs,I.base.tbls⟩,⟨m,hn.sameBut hs (Ne.symm (cne x c hc)),fun j y v' e1 e2 e3=>?_⟩,fun y c' e=>?_,I.free,I.freeC,fun p hp=>?_,tracked ⟨oc,hoc,I.freeC x c hc⟩ hs,by simpa using I.len⟩ ⟨c,hs,.inr hc⟩
  ·exact(hs.2 b ‹"aE"›).trans (I.base.keep b o e n hb hx)
  ·obtain⟨sl,e1⟩:=I.base.slot b o e n hb hx
   exact⟨sl,(hs.2 b ‹"aE"›).trans e1⟩
  ·obtain⟨o',e1⟩:=I.base.there b o e hx
   exact⟨o',(hs.2 b ‹"aE"›).trans e1⟩
  ·by_cases hj:j=i
   ·subst hj
    rw[hi]at e1;cases e1
    rw[List.getElem?_set_self hiσ]at e2
    cases e2
    exact⟨u,r,.inr ⟨.inl hk,c,hc,hc'⟩⟩
   ·rw[List.getElem?_set_ne (Ne.symm hj)]at e2
    obtain⟨u',r',q⟩:=hl j y v' e1 e2 e3
    refine⟨u',r',?_⟩
    rcases q with q | ⟨k,c',e,z'⟩
    ·exact .inl q
    ·refine .inr ⟨k,c',e,z'.sameBut hs ?_⟩
     rintro rfl
     exact hj (QBI hN e1 (I.ok.inj _ _ _ e hc ▸ hi))
  ·by_cases hcc:c'=c
   ·subst hcc;exact⟨_,hc'⟩
   ·obtain⟨w2,z2⟩:=I.cell y c' e
    exact⟨w2,z2.sameBut hs hcc⟩
  ·obtain⟨e,n,ne,nf,d⟩:=I.pin p hp
   refine⟨(hs.2 p.1 ?_).trans e,n,ne,nf,d⟩
   intro q
   rw[q,hoc]at e
   have q':oc=p.2:=Option.some.inj e
   exact d w' (by rw[← q'];exact hocd)
theorem QCE{M:Model}{A:Around}{E:‹"k"›}{i:Nat}{x:Str}{v:V}{u:Value}{Q:Unit->Shared->Prop}(I:‹"i"›)(hN:X.N.Nodup)(hi:X.N[i]?=some x)(hx:Loc X.env.scope x)(r:RelV v u)
 (h:∀ s',Inv X pins (σ.set i (some v)) H s'->Q () s') (hf:X.fn x=true∨X.env.scope.names.lookup x=some .local:=by first | exact .inl rfl | exact .inr rfl | assumption):wpAny M A (storeName X.env x u) Q E s:=
 Qz2 I hN hi hx r (fun s' I' _=>h s' I') hf
theorem Inv.call'{s':Shared}{ch:List Addr}(I:‹"i"›)(ho:s'.os=s.os)(u:Un (frs X.stack) ch H H' s.heap s'.heap)(hok:HOk X.prog X.w H' s'.heap)(hg:AllBare s'.gens)
 (hch:∀ b∈ch,(b∈X.ex∨X.s₀.heap.objs.size<=b)/\b≠X.env.locals/\(∀ x c,X.env.cells.lookup x=some c->c≠b)/\∀ p∈X.pn++pins,p.1≠b):Inv X pins σ H' s':=by
 obtain⟨h',g',d',t',o'⟩:=s'
 have e:o'=s.os:=ho
 subst e
 exact I.call (g':=g') (t':=t') (d':=d') u hok hg hch
end
abbrev XK:=Value->Option Addr->Hp->Prop
abbrev St:=List (Option V)
abbrev VK:=V->Hp->Prop
abbrev TE:=St->Hp->VK->Prop
abbrev TT:=St->Hp->(Bool->Hp->Prop)->Prop
abbrev TA:=St->Hp->(List V->Hp->Prop)->Prop
structure Ends where
 nx:St->Hp->Prop
 rt:VK
 bk:St->Hp->Prop:=fun _ _=>False
 ct:St->Hp->Prop:=fun _ _=>False
abbrev TS:=Ends->St->Hp->Prop
def EP(X:Cx)(pins:‹"r"›)(σ:St)(Q:VK)(u:Value)(s':Shared):Prop:=∃ v H',Inv X pins σ H' s'/\RelV v u/\Q v H'
def TP(X:Cx)(pins:‹"r"›)(σ:St)(Q:Bool->Hp->Prop)(b:Bool)(s':Shared):Prop:=∃ H',Inv X pins σ H' s'/\Q b H'
def AP(X:Cx)(pins:‹"r"›)(σ:St)(Q:List V->Hp->Prop)(us:List Value)(s':Shared):Prop:=∃ vs H',Inv X pins σ H' s'/\Vals vs us/\Q vs H'
def SP(X:Cx)(pins:‹"r"›)(D:Ends)(f:Flow)(s':Shared):Prop:=
 match f with
 | .next=>∃ σ' H',Inv X pins σ' H' s'/\D.nx σ' H'
 | .brk=>∃ σ' H',Inv X pins σ' H' s'/\D.bk σ' H'
 | .cont=>∃ σ' H',Inv X pins σ' H' s'/\D.ct σ' H'
 | .ret u=>∃ v σ' H',Inv X pins σ' H' s'/\RelV v u/\D.rt v H'
def PE(X:Cx)(e:Expr)(t:TE):Prop:=
 ∀(pins:‹"r"›)(s:Shared)(σ:St)(H:Hp)(Q:VK),Inv X pins σ H s->t σ H Q->wpAny ‹"j"› X.A (eval e X.env) (EP X pins σ Q) X.xe s
def PT(X:Cx)(e:Expr)(t:TT):Prop:=
 ∀(pins:‹"r"›)(s:Shared)(σ:St)(H:Hp)(Q:Bool->Hp->Prop),Inv X pins σ H s->t σ H Q->wpAny ‹"j"› X.A (isTrue e X.env (eval e X.env)) (TP X pins σ Q) X.xe s
def PW(X:Cx)(e:Expr)(t:TT):Prop:=
 ∀(whole:Sem Value)(pins:‹"r"›)(s:Shared)(σ:St)(H:Hp)(Q:Bool->Hp->Prop),Inv X pins σ H s->t σ H Q->wpAny ‹"j"› X.A (isTrue e X.env whole) (TP X pins σ Q) X.xe s
theorem PW.pt{X:Cx}{e:Expr}{t:TT}(h:PW X e t):PT X e t:=h _
def PA(X:Cx)(es:List Expr)(t:TA):Prop:=
 ∀(pos:Pos)(pins:‹"r"›)(s:Shared)(σ:St)(H:Hp)(Q:List V->Hp->Prop),Inv X pins σ H s->t σ H Q->wpAny ‹"j"› X.A (spliced (backTo pos (starEach es X.env))) (AP X pins σ Q) X.xe s
def PS(X:Cx)(st:Stmt)(t:TS):Prop:=
 ∀(pins:‹"r"›)(s:Shared)(σ:St)(H:Hp)(D:Ends),Inv X pins σ H s->t D σ H->wpAny ‹"j"› X.A (exec st X.env) (SP X pins D) X.xe s
def PSs(X:Cx)(st:List Stmt)(t:TS):Prop:=
 ∀(pins:‹"r"›)(s:Shared)(σ:St)(H:Hp)(D:Ends),Inv X pins σ H s->t D σ H->wpAny ‹"j"› X.A (execs st X.env) (SP X pins D) X.xe s
theorem thn{α:Type}{t:Sem α}{Q Q':α->Shared->Prop}{M:Model}{A:Around}{E:‹"k"›}{s:Shared}(h:wpAny M A t Q E s)(hQ:∀ a s,Q a s->Q' a s):wpAny M A t Q' E s:=wpAny_mono h hQ fun _ _ x=>x
end L2
namespace L2
open PySem PySem.Spec PyProof.Rows
section
variable{X:Cx}
def tVar(i:Nat):TE:=fun σ H Q=>∃ v,σ[i]?=some (some v)/\Q v H
def tC(v:V):TE:=fun _ H Q=>Q v H
theorem QfI{i:Nat}{x:Str}{pos:Pos}(hN:X.N[i]?=some x)(hv:Vis X.env.scope x)(hd:‹"f"›:=by decide)(hcd:‹"C"›:=by decide):PE X (.Name x pos) (tVar i):=by
 intro pins s σ H Q I h
 obtain⟨v,e,h⟩:=h
 obtain⟨m,hn,hl⟩:=I.loc
 obtain⟨u,r,l⟩:=hl i x v hN e hv
 have fin:EP X pins σ Q u s:=⟨v,H,I,r,h⟩
 rcases l with⟨hk,hm⟩ | ⟨hk,c,hc,hcell⟩
 ·exact wpAny_Name (wpAny_loadName_local I.ok.kind hk hn hm fin) hd
 ·rcases hk with hk | hk
  ·exact wpAny_Name (wpAny_loadName_cell I.ok.kind hk hc hcell fin) hd
  ·exact wpAny_Name (wpAny_loadName_free I.ok.kind hk hc hcell fin hcd) hd
theorem QO4{i j pos}:PE X (.Constant (.int i) j pos) (tC (.int i)):=fun _ _ _ H _ I h=>wpAny_Constant_int ⟨.int i,H,I.tok _,⟨_,rfl⟩,h⟩
theorem pe_bl{b j pos}:PE X (.Constant (.bool b) j pos) (tC (.bl b)):=fun _ _ _ H _ I h=>Constant_bool ⟨.bl b,H,I,rfl,h⟩
theorem QPb{j pos}:PE X (.Constant .none j pos) (tC .non):=fun _ _ _ H _ I h=>Constant_none ⟨.non,H,I,rfl,h⟩
theorem QO3{x j pos}:PE X (.Constant (.str x) j pos) (tC (.str x)):=fun _ _ _ H _ I h=>Calls.Constant_str ⟨.str x,H,I.tok _,⟨_,rfl⟩,h⟩
def Gl(X:Cx)(x:Str):Prop:=X.env.kindOf x=some .globalImplicit
theorem Qyo{E:‹"k"›}{pins:‹"r"›}{s:Shared}{σ:St}{H:Hp}{x:Str}{u:Value}{pos:Pos}{Q:‹"k"›}(I:‹"i"›)(hg:Gl X x)(hm:X.mg x=some u)(h:Q u s)
 (hd:‹"f"›:=by decide):wpAny ‹"j"› X.A (eval (.Name x pos) X.env) Q E s:=
 Calls.Name_function_global I.ok.kind hg (Calls.loadGlobal_global (by rw[I.ok.glob];exact I.mod.glob.keeps I.bk) hm h) hd
theorem QjE{E:‹"k"›}{pins:‹"r"›}{s:Shared}{σ:St}{H:Hp}{x:Str}{u:Value}{pos:Pos}{Q:‹"k"›}(I:‹"i"›)(hg:Gl X x)(hm:X.mg x=none)(hv:bootBuiltins x=some u)(h:Q u s)
 (hn:x≠"__name__":=by decide) (hd:‹"f"›:=by decide):wpAny ‹"j"› X.A (eval (.Name x pos) X.env) Q E s:=by
 obtain⟨mb,h1,h2⟩:=I.mod.blt
 exact Calls.Name_function_global I.ok.kind hg (Calls.loadGlobal_builtin (by rw[I.ok.glob];exact I.mod.glob.keeps I.bk) hm (by rw[I.ok.blt];exact h1.keeps I.bk) ((h2 x hn).trans hv) h) hd
theorem QoT{x:Str}{v:V}{u:Value}{pos:Pos}(hg:Gl X x)(hm:X.mg x=some u)(r:RelV v u)(hd:‹"f"›:=by decide):PE X (.Name x pos) (tC v):=
 fun _ _ _ H _ I h=>Qyo I hg hm ⟨v,H,I,r,h⟩ hd
theorem QOp{x:Str}{v:V}{u:Value}{pos:Pos}(hg:Gl X x)(hm:X.mg x=none)(hv:bootBuiltins x=some u)(r:RelV v u)(hn:x≠"__name__":=by decide)(hd:‹"f"›:=by decide):PE X (.Name x pos) (tC v):=
 fun _ _ _ H _ I h=>QjE I hg hm hv ⟨v,H,I,r,h⟩ hn hd
variable{a b:Expr}{ta tb:TE}{pos:Pos}
def tB(t:TE):TT:=fun σ H Q=>t σ H fun x H1=>∃ c,x=.bl c/\Q c H1
theorem QP4{e:Expr}{t:TE}(h:PE X e t)(he:∀ whole,isTrue e X.env whole=(do let v ← whole;standAt e.pos;holding [v] (truthy v)):=by intro _;rfl):PT X e (tB t):=by
 intro pins s σ H Q I hw
 refine isTrue_plain (thn (h pins s σ H _ I hw) fun v s1 ⟨x,H1,I1,r1,q1⟩=>?_) (he _)
 obtain⟨d,rfl,q⟩:=q1
 cases r1
 exact wpAny_truthy_bool ⟨H1,I1,q⟩
variable{tA tB':TT}{rest:List Expr}
def tAnd(t u:TT):TT:=fun σ H Q=>t σ H fun c H1=>if c=true then u σ H1 Q else Q false H1
def tOr(t u:TT):TT:=fun σ H Q=>t σ H fun c H1=>if c=true then Q true H1 else u σ H1 Q
def tNot(t:TT):TT:=fun σ H Q=>t σ H fun c H1=>Q (!c) H1
theorem QNB(ha:PT X a tA):PW X (.BoolOp .And [a] pos) tA:=by
 intro wh pins s σ H Q I h
 refine isTrue_and (thn (ha pins s σ H Q I h) fun c s1 e=>?_)
 cases c with
 | true=>exact isTrue_and_nil e
 | false=>exact e
theorem QO8(ha:PT X a tA):PW X (.BoolOp .Or [a] pos) tA:=by
 intro wh pins s σ H Q I h
 refine isTrue_or (thn (ha pins s σ H Q I h) fun c s1 e=>?_)
 cases c with
 | false=>exact isTrue_or_nil e
 | true=>exact e
theorem QPD(ha:PT X a tA)(hb:PW X (.BoolOp .And (b::rest) pos) tB'):PW X (.BoolOp .And (a::b::rest) pos) (tAnd tA tB'):=by
 intro wh pins s σ H Q I h
 refine isTrue_and (thn (ha pins s σ H _ I h) fun c s1 ⟨H1,I1,q1⟩=>?_)
 cases c with
 | true=>exact hb wh pins s1 σ H1 Q I1 q1
 | false=>exact⟨H1,I1,q1⟩
theorem pw_or(ha:PT X a tA)(hb:PW X (.BoolOp .Or (b::rest) pos) tB'):PW X (.BoolOp .Or (a::b::rest) pos) (tOr tA tB'):=by
 intro wh pins s σ H Q I h
 refine isTrue_or (thn (ha pins s σ H _ I h) fun c s1 ⟨H1,I1,q1⟩=>?_)
 cases c with
 | true=>exact⟨H1,I1,q1⟩
 | false=>exact hb wh pins s1 σ H1 Q I1 q1
theorem QP6(ha:PT X a tA):PT X (.UnaryOp .Not a pos) (tNot tA):=by
 intro pins s σ H Q I h
 exact isTrue_not (ha pins s σ H (fun c H1=>Q (!c) H1) I h)
def tAndV(ta tb:TE):TE:=fun σ H Q=>ta σ H fun x H1=>∃ c,x=.bl c/\if c=true then tb σ H1 Q else Q (.bl false) H1
def tNotV(ta:TE):TE:=fun σ H Q=>ta σ H fun x H1=>∃ c,x=.bl c/\Q (.bl (!c)) H1
theorem QPi{op}{t:TE}(h:PE X a t):PE X (.BoolOp op [a] pos) t:=fun pins s σ H Q I hw=>BoolOp_one (h pins s σ H Q I hw)
theorem QOQ(ha:PE X a ta)(hb:PE X (.BoolOp .And (b::rest) pos) tb):PE X (.BoolOp .And (a::b::rest) pos) (tAndV ta tb):=by
 intro pins s σ H Q I h
 refine BoolOp_and (thn (ha pins s σ H _ I h) fun v s1 ⟨x,H1,I1,r1,q1⟩=>?_)
 obtain⟨c,rfl,q1⟩:=q1
 cases r1
 refine wpAny_truthy_bool ?_
 cases c with
 | true=>exact hb pins s1 σ H1 Q I1 q1
 | false=>exact⟨.bl false,H1,I1,rfl,q1⟩
theorem QPe(ha:PE X a ta):PE X (.UnaryOp .Not a pos) (tNotV ta):=by
 intro pins s σ H Q I h
 refine UnaryOp_ (thn (ha pins s σ H _ I h) fun v s1 ⟨x,H1,I1,r1,q1⟩=>?_)
 obtain⟨c,rfl,q1⟩:=q1
 cases r1
 exact not_of (wpAny_truthy_bool ⟨.bl (!c),H1,I1,rfl,q1⟩)
def tIf(t:TT)(ta tb:TE):TE:=fun σ H Q=>t σ H fun c H1=>if c=true then ta σ H1 Q else tb σ H1 Q
theorem QMU{c:Expr}(hc:PT X c tA)(ha:PE X a ta)(hb:PE X b tb):PE X (.IfExp c a b pos) (tIf tA ta tb):=by
 intro pins s σ H Q I h
 refine wpAny_IfExp (thn (hc pins s σ H _ I h) fun d s1 ⟨H1,I1,q1⟩=>?_)
 cases d with
 | true=>exact ha pins s1 σ H1 Q I1 q1
 | false=>exact hb pins s1 σ H1 Q I1 q1
end
end L2
namespace L2
open PySem PySem.Spec PyProof.Rows
def SqL(K:PySem.W.Frag)(H:Hp)(a:Addr)(xs:List V):Prop:=
 Rd H a (.lst xs)∨
  ∃(o:Obj)(its:Array Value)(n:Nat),K.lookup a=some o/\o.cls=.type "list"/\o.dict=none/\o.data=.seq its n/\its.size<=sizeLine/\Vals xs its.toList
def SqT(K:PySem.W.Frag)(H:Hp)(a:Addr)(xs:List V):Prop:=
 Rd H a (.tup xs)∨
  ∃(o:Obj)(its:Array Value)(n:Nat),K.lookup a=some o/\o.cls=.type "tuple"/\o.data=.seq its n/\its.size<=sizeLine/\Vals xs its.toList
def absV:Value->Option V
 | .none=>some .non
 | .bool b=>some (.bl b)
 | .int i _=>some (.int i)
 | .str x _=>some (.str x)
 | .bytes b _=>some (.byt b)
 | .float b _=>some (.flt b)
 | .ref a=>some (.ref a)
 | .type n=>some (.ty n)
 | _=>none
theorem RelV.abs{x:V}{u:Value}(r:RelV x u):absV u=some x:=by
 cases x with
 | non=>cases r;rfl
 | bl _=>cases r;rfl
 | int _=>obtain⟨t,rfl⟩:=r;rfl
 | str _=>obtain⟨t,rfl⟩:=r;rfl
 | byt _=>obtain⟨t,rfl⟩:=r;rfl
 | flt _=>obtain⟨t,rfl⟩:=r;rfl
 | ref _=>cases r;rfl
 | ty _=>cases r;rfl
theorem RelV.inj{x y:V}{u:Value}(r:RelV x u)(q:RelV y u):x=y:=Option.some.inj (r.abs.symm.trans q.abs)
theorem Vals.inj:∀{xs ys:List V}{us:List Value},Vals xs us->Vals ys us->xs=ys
 | _,_,_,.nil,.nil=>rfl
 | _,_,_,.cons r t,.cons r' t'=>by rw[r.inj r',Vals.inj t t']
section
variable{X:Cx}{pins:List (Addr×Obj)}{σ:St}{H:Hp}{s:Shared}{a:Addr}{xs ys:List V}
theorem SqL.of{K:PySem.W.Frag}(h:H a=some (.lst xs)):SqL K H a xs:=.inl (.inl h)
theorem SqT.of{K:PySem.W.Frag}(h:H a=some (.tup xs)):SqT K H a xs:=.inl (.inl h)
theorem Inv.list(I:‹"i"›)(h:SqL X.K H a xs):∃ its:List Value,Vals xs its/\PlainL s.heap a its.toArray/\xs.length<=sizeLine:=by
 rcases h with h | ⟨o,its,n,hk,hc,hd,hs,hz,r⟩
 ·obtain⟨z,its,n,r,e⟩:=h.ok I.hok
  exact⟨its,r,⟨_,n,e,rfl,rfl,rfl⟩,z⟩
 ·refine⟨its.toList,r,⟨o,n,I.kIn a o hk,hc,hd,by simpa using hs⟩,?_⟩
  have e:=r.length
  simp only[Array.length_toList]at e
  omega
theorem Inv.tuple(I:‹"i"›)(h:SqT X.K H a xs):∃ its:List Value,Vals xs its/\IsTup s.heap a its.toArray/\xs.length<=sizeLine:=by
 rcases h with h | ⟨o,its,n,hk,hc,hs,hz,r⟩
 ·obtain⟨z,its,r,p⟩:=h.ok I.hok
  exact⟨its,r,p,z⟩
 ·refine⟨its.toList,r,⟨o,I.kIn a o hk,hc,n,by simpa using hs⟩,?_⟩
  have e:=r.length
  simp only[Array.length_toList]at e
  omega
theorem Inv.list_inj(I:‹"i"›)(h:SqL X.K H a xs)(h':SqL X.K H a ys):xs=ys:=by
 obtain⟨its,r,⟨o,n,e,_,_,d⟩,_⟩:=I.list h
 obtain⟨its',r',⟨o',n',e',_,_,d'⟩,_⟩:=I.list h'
 rw[e]at e';cases e'
 rw[d]at d'
 injection d' with d1 _
 have:its=its':=by simpa using congrArg Array.toList d1
 subst this
 exact r.inj r'
end
abbrev Cx.wish(X:Cx)(E:‹"k"›):Cx:={ X with xe:=E }
abbrev Cx.nox(X:Cx):Cx:=X.wish fun _ _=>False
theorem Cx.Ok.wish{X:Cx}(ok:X.Ok)(E:‹"k"›):(X.wish E).Ok:=
 ⟨ok.mod,ok.kind,ok.glob,ok.blt,ok.above,ok.inj,ok.has,ok.cab,ok.hd,ok.frames,ok.stk,ok.exf,ok.bs,ok.bsz,ok.noex,ok.exfs,ok.funs,ok.frf⟩
theorem Cx.Ok.unwish{X:Cx}{E:‹"k"›}(ok:(X.wish E).Ok):X.Ok:=
 ⟨ok.mod,ok.kind,ok.glob,ok.blt,ok.above,ok.inj,ok.has,ok.cab,ok.hd,ok.frames,ok.stk,ok.exf,ok.bs,ok.bsz,ok.noex,ok.exfs,ok.funs,ok.frf⟩
section
variable{X:Cx}{pins:List (Addr×Obj)}{σ:St}{H:Hp}{s:Shared}{E:Value->Shared->Prop}
theorem Inv.wish(I:‹"i"›)(E:‹"k"›):Inv (X.wish E) pins σ H s:=⟨I.ok.wish E,I.os,I.bare,I.base,I.loc,I.cell,I.free,I.freeC,I.pin,I.hok,I.len⟩
theorem Inv.unwish(I:Inv (X.wish E) pins σ H s):Inv X pins σ H s:=⟨I.ok.unwish,I.os,I.bare,I.base,I.loc,I.cell,I.free,I.freeC,I.pin,I.hok,I.len⟩
theorem SP.unwish{D:Ends}{f:Flow}{s':Shared}(h:SP (X.wish E) pins D f s'):SP X pins D f s':=by
 cases f with
 | next=>obtain⟨σ',H',I,q⟩:=h;exact⟨σ',H',I.unwish,q⟩
 | brk=>obtain⟨σ',H',I,q⟩:=h;exact⟨σ',H',I.unwish,q⟩
 | cont=>obtain⟨σ',H',I,q⟩:=h;exact⟨σ',H',I.unwish,q⟩
 | ret u=>obtain⟨v,σ',H',I,r,q⟩:=h;exact⟨v,σ',H',I.unwish,r,q⟩
theorem PE.nox{e:Expr}{t:TE}(h:PE X.nox e t):PE X e t:=fun pins s σ H Q I hw=>
 wpAny_mono (h pins s σ H Q (I.wish _) hw) (fun _ _ ⟨v,H',I',r,q⟩=>⟨v,H',I'.unwish,r,q⟩) fun _ _ z=>False.elim z
theorem PT.nox{e:Expr}{t:TT}(h:PT X.nox e t):PT X e t:=fun pins s σ H Q I hw=>
 wpAny_mono (h pins s σ H Q (I.wish _) hw) (fun _ _ ⟨H',I',q⟩=>⟨H',I'.unwish,q⟩) fun _ _ z=>False.elim z
theorem PSs.nox{st:List Stmt}{t:TS}(h:PSs X.nox st t):PSs X st t:=fun pins s σ H D I hw=>
 wpAny_mono (h pins s σ H D (I.wish _) hw) (fun _ _ q=>q.unwish) fun _ _ z=>False.elim z
end
section
variable{X:Cx}{st:Stmt}{rest:List Stmt}{t u:TS}{e:Expr}{te:TE}{pos:Pos}
def tNext:TS:=fun D σ H=>D.nx σ H
def tSeq(t u:TS):TS:=fun D σ H=>t { D with nx:=u D } σ H
theorem QOd:PSs X [] tNext:=fun _ _ σ H _ I h=>wpAny_execs_nil ⟨σ,H,I,h⟩
theorem QMn(h1:PS X st t)(h2:PSs X rest u):PSs X (st::rest) (tSeq t u):=by
 intro pins s σ H D I h
 refine wpAny_execs_cons (thn (h1 pins s σ H { D with nx:=u D } I h) fun f s1 q=>?_)
 cases f with
 | next=>
  obtain⟨σ',H',I',q⟩:=q
  exact h2 pins s1 σ' H' D I' q
 | ret v=>exact q
 | brk=>exact q
 | cont=>exact q
theorem QOq(h1:PS X st t):PSs X [st] t:=by
 intro pins s σ H D I h
 refine wpAny_execs_cons (thn (h1 pins s σ H D I h) fun f s1 q=>?_)
 cases f with
 | next=>exact wpAny_execs_nil q
 | ret v=>exact q
 | brk=>exact q
 | cont=>exact q
theorem Inv.quiet{pins:‹"r"›}{σ:St}{H:Hp}{s:Shared}(I:‹"i"›):interactive X.env=false:=by simp[interactive,I.ok.kind]
def tDrop(te:TE):TS:=fun D σ H=>te σ H fun _ H1=>D.nx σ H1
theorem Qy4(he:PE X e te)(hs:swapsWith e none pos.line X.env=pure false:=by rfl):PS X (.Expr e pos) (tDrop te):=by
 intro pins s σ H D I h
 exact wpAny_Expr_any (thn (he pins s σ H _ I h) fun v s1 ⟨x,H1,I1,r1,q1⟩=>⟨σ,H1,I1,q1⟩) I.quiet hs
def tRet(te:TE):TS:=fun D σ H=>te σ H D.rt
theorem QB4(he:PE X e te):PS X (.Return (some e) pos) (tRet te):=by
 intro pins s σ H D I h
 exact wpAny_Return_some (thn (he pins s σ H _ I h) fun v s1 ⟨x,H1,I1,r1,q1⟩=>⟨x,σ,H1,I1,r1,q1⟩)
def tIfS(c:TT)(t u:TS):TS:=fun D σ H=>c σ H fun b H1=>if b=true then t D σ H1 else u D σ H1
theorem ps_if{c:Expr}{a b:List Stmt}{tc:TT}(hc:PT X c tc)(ha:PSs X a t)(hb:PSs X b u):PS X (.If c a b pos) (tIfS tc t u):=by
 intro pins s σ H D I h
 refine wpAny_If (thn (hc pins s σ H _ I h) fun d s1 ⟨H1,I1,q1⟩=>?_)
 cases d with
 | true=>exact ha pins s1 σ H1 D I1 q1
 | false=>exact hb pins s1 σ H1 D I1 q1
def QPW:TS:=fun _ _ _=>False
theorem QM1:PS X st QPW:=fun _ _ _ _ _ _ h=>h.elim
end
abbrev TG:=V->St->Hp->(St->Hp->Prop)->Prop
abbrev TGs:=List V->St->Hp->(St->Hp->Prop)->Prop
def PG(X:Cx)(target:Expr)(t:TG):Prop:=
 ∀(pins:‹"r"›)(s:Shared)(σ:St)(H:Hp)(v:V)(u:Value)(Q:St->Hp->Prop),Inv X pins σ H s->RelV v u->t v σ H Q->
  wpAny ‹"j"› X.A (assign target X.env u) (fun _ s'=>∃ σ' H',Inv X pins σ' H' s'/\Q σ' H') X.xe s
def PGs(X:Cx)(ts:List Expr)(t:TGs):Prop:=
 ∀(pins:‹"r"›)(s:Shared)(σ:St)(H:Hp)(vs:List V)(us:List Value)(Q:St->Hp->Prop),Inv X pins σ H s->Vals vs us->t vs σ H Q->
  wpAny ‹"j"› X.A (assignInOrder ((assignEach ts X.env).map (·.2)) us) (fun _ s'=>∃ σ' H',Inv X pins σ' H' s'/\Q σ' H') X.xe s
abbrev TSet:=V->V->V->Hp->(Hp->Prop)->Prop
def PSet(X:Cx)(t:TSet):Prop:=
 ∀(pins:‹"r"›)(s:Shared)(σ:St)(H:Hp)(o i v:V)(ov iv u:Value)(Q:Hp->Prop),Inv X pins σ H s->RelV o ov->RelV i iv->RelV v u->t o i v H Q->
  wpAny ‹"j"› X.A (setItem ov iv u) (fun _ s'=>∃ H',Inv X pins σ H' s'/\Q H') X.xe s
section
variable{X:Cx}{pos:Pos}
def gName(i:Nat):TG:=fun v σ H Q=>Q (σ.set i (some v)) H
theorem QHw{i:Nat}{x:Str}(hN:X.N.Nodup)(hi:X.N[i]?=some x)(hx:Loc X.env.scope x)(hf:X.fn x=true∨X.env.scope.names.lookup x=some .local:=by first | exact .inl rfl | exact .inr rfl | assumption):PG X (.Name x pos) (gName i):=by
 intro pins s σ H v u Q I r h
 exact wpAny_assign_Name (QCE I hN hi hx r (fun s' I'=>⟨_,H,I',h⟩) hf)
def gNil:TGs:=fun vs σ H Q=>vs=[]/\Q σ H
def gCons(t:TG)(u:TGs):TGs:=fun vs σ H Q=>∃ v r,vs=v::r/\t v σ H fun σ' H'=>u r σ' H' Q
theorem QOI:PGs X [] gNil:=by
 intro pins s σ H vs us Q I r h
 obtain⟨e,h⟩:=h
 subst e
 cases r
 exact assignInOrder_nil ⟨σ,H,I,h⟩
theorem QMZ{e:Expr}{es:List Expr}{t:TG}{u:TGs}(h1:PG X e t)(h2:PGs X es u)
 (hs:(assignEach (e::es) X.env).map (·.2)=assign e X.env::(assignEach es X.env).map (·.2):=by rfl):PGs X (e::es) (gCons t u):=by
 intro pins s σ H vs us Q I r h
 obtain⟨v,vr,e1,h⟩:=h
 subst e1
 cases r with
 | cons r rr=>
  rw[hs]
  refine assignInOrder_cons (thn (h1 pins s σ H _ _ _ I r h) fun _ s1 ⟨σ1,H1,I1,q1⟩=>?_)
  exact h2 pins s1 σ1 H1 _ _ Q I1 rr q1
def gTup(K:PySem.W.Frag)(n:Nat)(t:TGs):TG:=fun v σ H Q=>∃ a xs,v=.ref a/\SqT K H a xs/\xs.length=n/\t xs σ H Q
theorem QKu{es:List Expr}{k:Nat}{t:TGs}{n:Nat}(hc:X.calm=true)(h:PGs X es t)
 (hn:(assignEach es X.env).length=n:=by rfl) (hst:(assignEach es X.env).findIdx? (·.1)=none:=by rfl):PG X (.Tuple es k pos) (gTup X.K n t):=by
 intro pins s σ H v u Q I r hw
 obtain⟨a,xs,e1,hq,hl,hw⟩:=hw
 subst e1
 cases r
 obtain⟨its,rv,ht,hz⟩:=I.tuple hq
 refine assign_Tuple_tuple (I.ok.hd hc) ht (by simp[hn, ← hl,rv.length]) hst fun h' hx=>?_
 have I1:Inv X pins σ H { s with heap:=h' }:=I.kept (t':=s.toks) fun b o e=>hx b o (Nat.ne_of_lt (Heap.lt_size e)) e
 exact h pins _ σ H xs _ Q I1 (by simpa using rv) hw
def gSub(to ti:TE)(t:TSet):TG:=fun v σ H Q=>to σ H fun o H1=>ti σ H1 fun i H2=>t o i v H2 fun H3=>Q σ H3
theorem QLH{o i:Expr}{to ti:TE}{t:TSet}(ho:PE X o to)(hi:PE X i ti)(hs:PSet X t)
 (ha:∀ v,assign (.Subscript o i pos) X.env v=(do
  let ov ← holding [v] (eval o X.env)
  let iv ← holding [v,ov] (eval i X.env)
  standAt pos
  holding [v,ov,iv] (setItem ov iv v)
  release [v,ov,iv] []):=by intro _;rfl):PG X (.Subscript o i pos) (gSub to ti t):=by
 intro pins s σ H v u Q I r h
 rw[ha]
 refine wpAny_bind (wpAny_holding (thn (ho pins s σ H _ I h) fun ov s1 ⟨x,H1,I1,r1,q1⟩=>?_))
 refine wpAny_bind (wpAny_holding (thn (hi pins s1 σ H1 _ I1 q1) fun iv s2 ⟨y,H2,I2,r2,q2⟩=>?_))
 refine wpAny_bind (wpAny_standAt (wpAny_bind (wpAny_holding (thn (hs pins s2 σ H2 x y v ov iv u _ I2 r1 r2 r q2) fun _ s3 ⟨H3,I3,q3⟩=>?_))))
 exact wpAny_release ⟨σ,H3,I3,q3⟩
def tAsg(te:TE)(g:TG):TS:=fun D σ H=>te σ H fun x H1=>g x σ H1 D.nx
theorem QDW{tg e:Expr}{te:TE}{g:TG}(he:PE X e te)(hg:PG X tg g)(hs:swapsWithSole [tg] e pos.line X.env=pure false:=by rfl)(hw:swappedStores [tg] e X.env=pure none:=by rfl)
 (h1:(assignEach [tg] X.env).map (·.2)=[assign tg X.env]:=by rfl):PS X (.Assign [tg] e pos) (tAsg te g):=by
 intro pins s σ H D I h
 refine wpAny_Assign_stores (thn (he pins s σ H _ I h) fun v s1 ⟨x,H1,I1,r1,q1⟩=>?_) hs hw
 rw[h1]
 exact thn (hg pins s1 σ H1 x v _ I1 r1 q1) fun _ s2 q=>q
theorem QMb{i:Nat}{x:Str}{e:Expr}{te:TE}{pos':Pos}(hN:X.N.Nodup)(hi:X.N[i]?=some x)(hx:Loc X.env.scope x)(he:PE X e te)(hs:swapsWith e (some (.Name x pos')) pos.line X.env=pure false:=by rfl)(hf:X.fn x=true∨X.env.scope.names.lookup x=some .local:=by first | exact .inl rfl | exact .inr rfl | assumption):
 PS X (.Assign [.Name x pos'] e pos) (tAsg te (gName i)):=by
 intro pins s σ H D I h
 refine wpAny_Assign_Name (thn (he pins s σ H _ I h) fun v s1 ⟨y,H1,I1,r1,q1⟩=>?_) hs
 exact QCE I1 hN hi hx r1 (fun s2 I2=>⟨_,H1,I2,q1⟩) hf
end
section
variable{X:Cx}{pos:Pos}
def QO6(c:TT)(tb:TS):TS:=fun D σ H=>∃ W:Nat->St->Hp->Prop,(∃ m,W m σ H)/\∀ m σ H,W m σ H->
 c σ H fun b H1=>if b=true then ∃ N:St->Hp->Prop,(∀ σ' H',N σ' H'->∃ m',m'<m/\W m' σ' H')/\tb { D with nx:=N,ct:=N,bk:=D.nx } σ H1 else D.nx σ H1
theorem QMW{c:Expr}{body:List Stmt}{tc:TT}{tb:TS}(hp:PassesOwn ‹"j"› X.A X.env X.xe)(hc:PT X c tc)(hb:PSs X body tb):PS X (.While c body [] pos) (QO6 tc tb):=by
 intro pins s σ H D I h
 obtain⟨W,⟨m0,w0⟩,turn⟩:=h
 refine wpAny_While (codeAny_whileLoop (fun n s'=>∃ σ' H',Inv X pins σ' H' s'/\W n σ' H') ?_ m0 ⟨σ,H,I,w0⟩)
 rintro n s1 ⟨σ1,H1,I1,w1⟩
 refine wpAny_passesOwn hp (thn (hc pins s1 σ1 H1 _ I1 (turn n σ1 H1 w1)) fun b s2 ⟨H2,I2,q2⟩=>?_)
 cases b with
 | true=>
  obtain⟨N,hN,q2⟩:=q2
  rw[if_pos rfl]
  refine wpAny_passesOwn hp (thn (hb pins s2 σ1 H2 _ I2 q2) fun f s3 q3=>?_)
  cases f with
  | next=>
   obtain⟨σ3,H3,I3,n3⟩:=q3
   obtain⟨m',hm,w3⟩:=hN σ3 H3 n3
   exact⟨m',hm,σ3,H3,I3,w3⟩
  | cont=>
   obtain⟨σ3,H3,I3,n3⟩:=q3
   obtain⟨m',hm,w3⟩:=hN σ3 H3 n3
   exact⟨m',hm,σ3,H3,I3,w3⟩
  | brk=>exact q3
  | ret v=>exact q3
 | false=>
  rw[if_neg Bool.false_ne_true]
  exact wpAny_execs_nil ⟨σ1,H2,I2,q2⟩
end
structure It where
 go:Nat->Hp->Prop
 yld:Nat->Hp->V->Hp->Prop
 stop:Nat->Hp->Prop
def FpOk(X:Cx)(pins:‹"r"›)(H:Hp)(b:Addr):Prop:=
 H b=none/\b≠X.env.locals/\b∉X.fs/\(b∈X.ex∨X.s₀.heap.objs.size<=b)/\(∀ x c,X.env.cells.lookup x=some c->c≠b)/\∀ p∈X.pn++pins,p.1≠b
theorem Inv.fpOk{X:Cx}{pins:‹"r"›}{σ:St}{H H':Hp}{s:Shared}{b:Addr}(I:‹"i"›)(hb:s.heap.objs.size<=b)(hn:H' b=none):FpOk X pins H' b:=by
 refine⟨hn,Nat.ne_of_gt (Nat.lt_of_lt_of_le I.lt hb),I.nofs hb,.inr (Nat.le_trans I.sz hb),fun x c e z=>?_,fun p hp z=>?_⟩
 ·obtain⟨v,q⟩:=I.cell x c e
  exact absurd (Nat.lt_of_lt_of_le q.lt (by rw[z];exact hb)) (Nat.lt_irrefl _)
 ·exact absurd (Nat.lt_of_lt_of_le (Heap.lt_size (I.pin p hp).1) (by rw[z];exact hb)) (Nat.lt_irrefl _)
structure Turn(P:Program)(w:World)(K:PySem.W.Frag)(tg:Expr)(J:It)(fp:List Addr)(it:Addr)(tn:Nat->Heap->Prop):Prop where
 mem:it∈fp
 obj:∀ i h,tn i h->∀ b∈fp,∃ o,h.get? b=some o/\∀ v,o.data≠.cell v
 keep:∀ i h h',tn i h->(∀ b∈fp,∀ o,h.get? b=some o->h'.get? b=some o)->tn i h'
 item:∀(X:Cx),X.prog=P->X.w=w->X.K=K->X.calm=true->∀(i:Nat)(pins:‹"r"›)(s:Shared)(σ:St)(H:Hp)(E:‹"k"›),Inv X pins σ H s->(∀ b∈fp,FpOk X pins H b)->tn i s.heap->J.go i H->
  wpAny (model P w) X.A (pyNext (.ref it)) (fun r s1=>∃ u,r=some u/\
   wpAny (model P w) X.A (letOwnedTupleGo tg (.ref it) u) (fun _ s2=>∃ x H',Inv X pins σ H' s2/\RelV x u/\J.yld i H x H'/\tn (i+1) s2.heap/\∀ b∈fp,H' b=none) E s1) E s
 done:∀(X:Cx),X.prog=P->X.w=w->X.K=K->X.calm=true->∀(i:Nat)(pins:‹"r"›)(s:Shared)(σ:St)(H:Hp)(E:‹"k"›),Inv X pins σ H s->(∀ b∈fp,FpOk X pins H b)->tn i s.heap->J.stop i H->
  wpAny (model P w) X.A (pyNext (.ref it)) (fun r s1=>r=none/\Inv X pins σ H s1) E s
 self:∀(A:Around)(i:Nat)(s:Shared)(Q:‹"k"›)(E:‹"k"›),tn i s.heap->Q (.ref it) s->wpAny (model P w) A (pyIter (.ref it)) Q E s
abbrev TI:=St->Hp->(It->Hp->Prop)->Prop
def PIE(X:Cx)(pins:‹"r"›)(σ:St)(tg:Expr)(R:It->Hp->Prop)(itv:Value)(s2:Shared):Prop:=
 ∃(it:Addr)(fp:List Addr)(tn:Nat->Heap->Prop)(J:It)(H':Hp),itv=.ref it/\Inv X pins σ H' s2/\Turn X.prog X.w X.K tg J fp it tn/\tn 0 s2.heap/\(∀ b∈fp,FpOk X pins H' b)/\R J H'
def PI(X:Cx)(tg iter:Expr)(wi:TI):Prop:=
 ∀(pins:‹"r"›)(s:Shared)(σ:St)(H:Hp)(R:It->Hp->Prop),Inv X pins σ H s->wi σ H R->
  wpAny ‹"j"› X.A (eval iter X.env) (fun v s1=>wpAny ‹"j"› X.A (pyIter v) (PIE X pins σ tg R) X.xe s1) X.xe s
theorem go_of{M:Model}{A:Around}{E:‹"k"›}{s:Shared}{tg:Expr}{it:Addr}{u:Value}{o:Obj}{n:String}{vs:Array Value}{Q:Unit->Shared->Prop}(ho:s.heap.get? it=some o)(hc:o.cls=.type n)(hd:o.data=.fields vs)
 (hn:["enumerate","zip","dict_itemiterator","dict_reverseitemiterator","odict_iterator","itertools.zip_longest","itertools.pairwise"].contains n=false) (hQ:Q () s):wpAny M A (letOwnedTupleGo tg (.ref it) u) Q E s:=by
 unfold letOwnedTupleGo
 cases tg<;>first
  | exact wpAny_pure hQ
  | (cases u<;>first
   | exact wpAny_pure hQ
   | (refine wpAny_bind (wpAny_load ho ?_)
      rw[hc,hd]
      show wpAny M A (if (["enumerate","zip","dict_itemiterator","dict_reverseitemiterator","odict_iterator","itertools.zip_longest","itertools.pairwise"].contains n&&vs[0]? == some (rawInt _))=true then _ else _) Q E s
      rw[if_neg (by intro h;rw[hn,Bool.false_and]at h;cases h)]
      exact wpAny_pure hQ))
def Itl(K:PySem.W.Frag)(a:Addr):It:=
 ⟨fun i H=>∃ xs x,SqL K H a xs/\xs[i]?=some x,fun i H x H'=>H'=H/\∀ xs,SqL K H a xs->xs[i]?=some x,fun i H=>∃ xs,SqL K H a xs/\xs.length<=i⟩
def Itr(lo:Int)(n:Nat):It:=⟨fun i _=>i<n,fun i H x H'=>H'=H/\x=.int (lo+i),fun i _=>n<=i⟩
theorem QJ1{P:Program}{w:World}{K:PySem.W.Frag}{tg:Expr}(a it:Addr):Turn P w K tg (Itl K a) [it] it (fun i h=>h.IsListIter it a i) where
 mem:=by simp
 obj:=fun i h st b hb=>by
  have e:b=it:=by simpa using hb
  subst e
  obtain⟨o,e,c,d⟩:=st
  exact⟨o,e,fun v z=>by rw[d]at z;cases z⟩
 keep:=fun i h h' st k=>st.at fun o e=>k it (by simp) o e
 item:=by
  intro X hP hw hK hc i pins s σ H E I hf st hg
  subst hP hw hK
  obtain⟨xs,x,hq,hx⟩:=hg
  obtain⟨its,rv,p,hz⟩:=I.list hq
  obtain⟨u,hu,ru⟩:=rv.get hx
  obtain⟨f0,f1,f2,f3,f4,f5⟩:=hf it (by simp)
  refine wpAny_pyNext_list_item st p.isList (x:=u) (by simpa using hu) fun h' st' sb=>?_
  have I1:Inv X pins σ H { s with heap:=h' }:=I.turned (t':=s.toks) (fun b o hb e=>(sb.2 b hb).trans e) f0 f1 f3 f4 f5
  obtain⟨o,e,c,d⟩:=id st'
  exact⟨u,rfl,go_of (s:={ s with heap:=h' }) e c d (by decide) ⟨x,H,I1,ru,⟨rfl,fun ys hy=>by rw[I.list_inj hy hq];exact hx⟩,st',fun b hb=>(hf b hb).1⟩⟩
 done:=by
  intro X hP hw hK hc i pins s σ H E I hf st hg
  subst hP hw hK
  obtain⟨xs,hq,hx⟩:=hg
  obtain⟨its,rv,p,hz⟩:=I.list hq
  obtain⟨f0,f1,f2,f3,f4,f5⟩:=hf it (by simp)
  have hl:=rv.length
  exact wpAny_pyNext_list_end (I.ok.hd hc) st p.isList (by simp;omega) fun h' eb=>⟨rfl,I.turned (t':=s.toks) (fun b o hb e=>eb b o hb e) f0 f1 f3 f4 f5⟩
 self:=fun _ _ _ _ _ st h=>wpAny_pyIter_listiter st h
theorem QI6{P:Program}{w:World}{K:PySem.W.Frag}{tg:Expr}(it:Addr)(lo:Int)(n:Nat):Turn P w K tg (Itr lo n) [it] it (fun i h=>IsRangeIter h it (lo+(i:Nat) * 1) ((n:Int) - (i:Nat)) 1) where
 mem:=by simp
 obj:=fun i h st b hb=>by
  have e:b=it:=by simpa using hb
  subst e
  exact⟨_,st,fun v z=>by
   have z':Data.fields _=Data.cell v:=z
   cases z'⟩
 keep:=fun i h h' st k=>k it (by simp) _ st
 item:=by
  intro X hP hw hK hc i pins s σ H E I hf st hg
  subst hP hw hK
  obtain⟨f0,f1,f2,f3,f4,f5⟩:=hf it (by simp)
  have W:=Walks.range (prog:=X.prog) (w:=X.w) (I.ok.hd hc) it lo 1 n
  refine W.item i s _ _ hg st fun v h' tk hv st' kk=>?_
  obtain⟨t,rfl⟩:=hv
  have I1:Inv X pins σ H { s with heap:=h',toks:=tk }:=I.turned (fun b o hb e=>kk b o (by simpa using hb) e) f0 f1 f3 f4 f5
  refine⟨_,rfl,go_of (s:={ s with heap:=h',toks:=tk }) (n:="range_iterator") st' rfl rfl (by decide) ⟨.int (lo+i),H,I1,⟨t,?_⟩,⟨rfl,rfl⟩,st',fun b hb=>(hf b hb).1⟩⟩
  rw[Int.mul_one]
 done:=by
  intro X hP hw hK hc i pins s σ H E I hf st hg
  subst hP hw hK
  obtain⟨f0,f1,f2,f3,f4,f5⟩:=hf it (by simp)
  exact wpAny_pyNext_range_end (I.ok.hd hc) st (by have:n<=i:=hg;omega) fun h' eb=>⟨rfl,I.turned (t':=s.toks) (fun b o hb e=>eb b o hb e) f0 f1 f3 f4 f5⟩
 self:=fun _ _ _ _ _ st h=>wpAny_pyIter_rangeiter st h
end L2
namespace L2
open PySem PySem.Spec PyProof.Rows
section
variable{X:Cx}{tg:Expr}
def iList(K:PySem.W.Frag)(tl:TE):TI:=fun σ H R=>tl σ H fun x H1=>∃ a,x=.ref a/\(∃ xs,SqL K H1 a xs)/\R (Itl K a) H1
theorem QNC{l:Expr}{tl:TE}(hl:PE X l tl):PI X tg l (iList X.K tl):=by
 intro pins s σ H R I h
 refine thn (hl pins s σ H _ I h) fun v s1 ⟨x,H1,I1,r1,q1⟩=>?_
 obtain⟨a,e,⟨xs,hq⟩,q⟩:=q1
 subst e
 cases r1
 obtain⟨its,rv,p,hz⟩:=I1.list hq
 refine wpAny_pyIter_list p.isList ?_
 refine⟨s1.heap.objs.size,[s1.heap.objs.size],_,_,H1,rfl,I1.kept (t':=s1.toks) fun b o e=>Heap.get?_push_of_some _ e,QJ1 a _,⟨_,Heap.get?_push_size _ rfl,rfl,rfl⟩,fun b hb=>?_,q⟩
 have e:b=s1.heap.objs.size:=by simpa using hb
 subst e
 exact I1.fpOk ‹"an"› (I1.hok.fresh ‹"an"›)
theorem QMH{pins:‹"r"›}{σ:St}{H:Hp}{s:Shared}{R:It->Hp->Prop}{E:‹"k"›}{lo hi:Int}{t u v:Tok}{tk:Nat}(I:‹"i"›)(h1 : -(2 ^ 62)<=lo)(h2:lo<2 ^ 62)(h3 : -(2 ^ 62)<=hi)(h4:hi<2 ^ 62)
 (q:R (Itr lo (hi - lo).toNat) H):wpAny ‹"j"› X.A (pyIter (.ref s.heap.objs.size)) (PIE X pins σ tg R) E { s with heap:=s.heap.push { cls:=.type "range",data:=.fields #[.int lo t,.int hi u,.int 1 v] },toks:=tk }:=by
 refine wpAny_pyIter_range (IsRange.new ..) (small_one h1 h2 h3 h4) ?_
 have I1:Inv X pins σ H { s with heap:=s.heap.push { cls:=.type "range",data:=.fields #[.int lo t,.int hi u,.int 1 v] },toks:=tk }:=I.kept fun b o e=>Heap.get?_push_of_some _ e
 refine⟨(s.heap.push { cls:=.type "range",data:=.fields #[.int lo t,.int hi u,.int 1 v] }).objs.size,[(s.heap.push { cls:=.type "range",data:=.fields #[.int lo t,.int hi u,.int 1 v] }).objs.size],_,_,H,rfl,
  I1.kept (t':=tk) fun b o e=>Heap.get?_push_of_some _ e,QI6 _ lo (hi - lo).toNat,?_,fun b hb=>?_,q⟩
 ·have e1:lo+((0:Nat):Int) * 1=lo:=by simp
  have e2:(((hi - lo).toNat:Nat):Int) - ((0:Nat):Int)=Builtin.Range.rangeSize lo hi 1:=by rw[rangeSize_one];split<;>omega
  show IsRangeIter _ _ (lo+((0:Nat):Int) * 1) ((((hi - lo).toNat:Nat):Int) - ((0:Nat):Int)) 1
  rw[e1,e2]
  exact Heap.get?_push_size _ rfl
 ·have e:b=(s.heap.push { cls:=.type "range",data:=.fields #[.int lo t,.int hi u,.int 1 v] }).objs.size:=by simpa using hb
  subst e
  exact I1.fpOk ‹"an"› (I1.hok.fresh ‹"an"›)
def iRng1(ta:TA):TI:=fun σ H R=>ta σ H fun vs H1=>∃ j:Int,vs=[.int j] /\ -(2 ^ 62)<=j/\j<2 ^ 62/\R (Itr 0 j.toNat) H1
theorem QLy{a:Expr}{ta:TA}{p pos:Pos}(hg:Gl X "range")(hm:X.mg "range"=none)(ha:PA X [a] ta)(hs:starEach [a] X.env=[(false,eval a X.env)]:=by rfl):PI X tg (.Call (.Name "range" p) [a] [] pos) (iRng1 ta):=by
 intro pins s σ H R I h
 refine Call_ (QjE I hg hm boot_range (PyProof.Rows.callWith_type1 (thn (ha pos pins s σ H _ I h) fun us s1 ⟨vs,H1,I1,r1,q1⟩=>?_) hs rfl))
 obtain⟨j,e,q1,q2,q⟩:=q1
 subst e
 cases r1 with
 | cons r rr=>
  cases rr
  obtain⟨t,rfl⟩:=r
  exact call_range_1 (QMH I1 (by omega) (by omega) q1 q2 (by simpa using q))
def tFor(wi:TI)(g:TG)(tb:TS):TS:=fun D σ H=>wi σ H fun J H1=>∃ W:Nat->Nat->St->Hp->Prop,(∃ m,W 0 m σ H1)/\∀ i m σ H,W i m σ H->
 (J.stop i H/\D.nx σ H)∨(J.go i H/\∃ N:St->Hp->Prop,(∀ σ' H',N σ' H'->∃ m',m'<m/\W (i+1) m' σ' H')/\∀ x H',J.yld i H x H'->g x σ H' fun σ2 H2=>tb { D with nx:=N,ct:=N,bk:=D.nx } σ2 H2)
def QrW(fp:List Addr)(h:Heap):List (Addr×Obj):=fp.filterMap fun b=>(h.get? b).map fun o=>(b,o)
theorem Qle{fp:List Addr}{h:Heap}{b:Addr}{o:Obj}(hb:b∈fp)(e:h.get? b=some o):(b,o)∈QrW fp h:=List.mem_filterMap.mpr ⟨b,hb,by rw[e];rfl⟩
theorem QLi{fp:List Addr}{h:Heap}{p:Addr×Obj}(hp:p∈QrW fp h):p.1∈fp/\h.get? p.1=some p.2:=by
 obtain⟨b,hb,e⟩:=List.mem_filterMap.mp hp
 cases q:h.get? b with
 | none=>rw[q]at e;cases e
 | some o=>
  rw[q]at e
  have e':(b,o)=p:=Option.some.inj e
  subst e'
  exact⟨hb,q⟩
theorem Inv.pinned{pins:‹"r"›}{σ:St}{H:Hp}{s:Shared}{fp:List Addr}(I:‹"i"›)(hf:∀ b∈fp,FpOk X pins H b)(ho:∀ b∈fp,∃ o,s.heap.get? b=some o/\∀ v,o.data≠.cell v):Inv X (pins++QrW fp s.heap) σ H s:=
 I.pins_of fun p hp=>(List.mem_append.mp hp).elim (fun z=>I.pin p (List.mem_append_right _ z)) fun z=>by
  obtain⟨hb,e⟩:=QLi z
  obtain⟨f0,f1,f2,_⟩:=hf p.1 hb
  obtain⟨o,e',d⟩:=ho p.1 hb
  rw[e]at e';cases e'
  exact⟨e,f0,f1,f2,d⟩
theorem Inv.unpinned{pins pl:‹"r"›}{σ:St}{H:Hp}{s:Shared}(I:Inv X (pins++pl) σ H s):Inv X pins σ H s:=I.pins_of fun p hp=>I.pin p (List.mem_append_right _ (List.mem_append_left _ hp))
theorem QP2{iter:Expr}{body:List Stmt}{wi:TI}{g:TG}{tb:TS}{pos:Pos}(hp:PassesOwn ‹"j"› X.A X.env X.xe)(hc:X.calm=true)(hi:PI X tg iter wi)(hg:PG X tg g)(hb:PSs X body tb)
 (hs:∀ x,foldedSetIterable iter X.env x=pure x:=by intro _;rfl):PS X (.For tg iter body [] pos) (tFor wi g tb):=by
 intro pins s σ H D I h
 refine wpAny_For (thn (hi pins s σ H _ I h) fun v s1 h1=>thn h1 fun itv s2 h2=>?_) hs
 obtain⟨it,fp,tn,J,H2,e,I2,T,st2,f2,W,⟨m0,w0⟩,turn⟩:=h2
 subst e
 -- what stays true of the iterator's objects through the loop
 have stat:∀{H':Hp},(∀ b∈fp,H' b=none)->∀ b∈fp,FpOk X pins H' b:=fun hn b hb=>⟨hn b hb,(f2 b hb).2⟩
 refine codeAny_forLoop_any (fun n s'=>∃ i σ' H',Inv X pins σ' H' s'/\tn i s'.heap/\(∀ b∈fp,H' b=none)/\W i n σ' H') ?_ m0 ⟨0,σ,H2,I2,st2,fun b hb=>(f2 b hb).1,w0⟩
 rintro n s3 ⟨i,σ3,H3,I3,st3,fr3,w3⟩
 rcases turn i n σ3 H3 w3 with⟨stop,qn⟩ | ⟨go,N,hN,step⟩
 ·refine wpAny_passesOwn hp (thn (T.done X rfl rfl rfl hc i pins s3 σ3 H3 X.xe I3 (stat fr3) st3 stop) fun r s4 ⟨hr,I4⟩=>?_)
  subst hr
  exact wpAny_execs_nil ⟨σ3,H3,I4,qn⟩
 ·refine wpAny_passesOwn hp (thn (T.item X rfl rfl rfl hc i pins s3 σ3 H3 X.xe I3 (stat fr3) st3 go) fun r s4 ⟨u,hr,h4⟩=>?_)
  subst hr
  refine wpAny_passesOwn hp (thn h4 fun _ s5 ⟨x,H5,I5,r5,y5,st5,fr5⟩=>?_)
  have I5':=I5.pinned (stat fr5) (T.obj _ _ st5)
  refine wpAny_passesOwn hp (thn (hg _ s5 σ3 H5 x u _ I5' r5 (step x H5 y5)) fun _ s6 ⟨σ6,H6,I6,q6⟩=>?_)
  refine wpAny_passesOwn hp (thn (hb _ s6 σ6 H6 _ I6 q6) fun f s7 q7=>?_)
  have again:∀{σ7:St}{H7:Hp},Inv X (pins++QrW fp s5.heap) σ7 H7 s7->N σ7 H7->∃ m,m<n/\∃ i σ' H',Inv X pins σ' H' s7/\tn i s7.heap/\(∀ b∈fp,H' b=none)/\W i m σ' H':=fun {σ7 H7} I7 n7=>by
   obtain⟨m',hm,w7⟩:=hN σ7 H7 n7
   refine⟨m',hm,i+1,σ7,H7,I7.unpinned,T.keep _ _ _ st5 fun b hb o e=>(I7.pin (b,o) ‹"am"›).1,fun b hb=>?_,w7⟩
   obtain⟨o,e,d⟩:=T.obj _ _ st5 b hb
   exact(I7.pin (b,o) ‹"am"›).2.1
  cases f with
  | next=>obtain⟨σ7,H7,I7,n7⟩:=q7;exact again I7 n7
  | cont=>obtain⟨σ7,H7,I7,n7⟩:=q7;exact again I7 n7
  | brk=>obtain⟨σ7,H7,I7,q7⟩:=q7;exact⟨σ7,H7,I7.unpinned,q7⟩
  | ret v=>obtain⟨x7,σ7,H7,I7,r7,q7⟩:=q7;exact⟨x7,σ7,H7,I7.unpinned,r7,q7⟩
end
end L2
namespace L2
open PySem PySem.Spec PyProof.Rows
abbrev R2:=V->V->Hp->VK->Prop
def OpR(X:Cx)(f:Value->Value->Sem Value)(r:R2):Prop:=
 ∀(pins:‹"r"›)(s:Shared)(σ:St)(H:Hp)(x y:V)(v u:Value)(Q:VK),Inv X pins σ H s->RelV x v->RelV y u->r x y H Q->
  wpAny ‹"j"› X.A (f v u) (EP X pins σ Q) X.xe s
def UnR(X:Cx)(f:Value->Sem Value)(r:V->Hp->VK->Prop):Prop:=
 ∀(pins:‹"r"›)(s:Shared)(σ:St)(H:Hp)(x:V)(v:Value)(Q:VK),Inv X pins σ H s->RelV x v->r x H Q->
  wpAny ‹"j"› X.A (f v) (EP X pins σ Q) X.xe s
def CallR(X:Cx)(f:Value)(r:List V->Hp->VK->Prop):Prop:=
 ∀(pins:‹"r"›)(s:Shared)(σ:St)(H:Hp)(xs:List V)(us:List Value)(Q:VK),Inv X pins σ H s->Vals xs us->r xs H Q->
  wpAny ‹"j"› X.A (call f us) (EP X pins σ Q) X.xe s
def tOp(r:R2)(ta tb:TE):TE:=fun σ H Q=>ta σ H fun x H1=>tb σ H1 fun y H2=>r x y H2 Q
def tUn(r:V->Hp->VK->Prop)(ta:TE):TE:=fun σ H Q=>ta σ H fun x H1=>r x H1 Q
def rI(C:Int->Int->Prop)(g:Int->Int->V):R2:=fun x y H Q=>∃ i j,x=.int i/\y=.int j/\C i j/\Q (g i j) H
def rI0(g:Int->Int->V):R2:=fun x y H Q=>∃ i j,x=.int i/\y=.int j/\Q (g i j) H
def rU(g:Int->V):V->Hp->VK->Prop:=fun x H Q=>∃ i,x=.int i/\Q (g i) H
section
variable{X:Cx}{a b c:Expr}{ta tb tc:TE}{pos:Pos}
theorem binT(ha:PE X a ta)(hb:PE X b tb){pins:‹"r"›}{s:Shared}{σ:St}{H:Hp}{R:V->V->Hp->Prop}(I:‹"i"›)
 (h:ta σ H fun x H1=>tb σ H1 fun y H2=>R x y H2) {Q:‹"k"›} {f:Value->Value->Sem Value}
 (hf:∀ v u s2 x y H2,Inv X pins σ H2 s2->RelV x v->RelV y u->R x y H2->wpAny ‹"j"› X.A (f v u) Q X.xe s2):
 wpAny ‹"j"› X.A (eval a X.env) (fun v s₁=>wpAny ‹"j"› X.A (eval b X.env) (fun u s₂ => wpAny ‹"j"› X.A (f v u) Q X.xe s₂) X.xe s₁) X.xe s:=by
 refine thn (ha pins s σ H _ I h) fun v s1 ⟨x,H1,I1,r1,q1⟩=>?_
 refine thn (hb pins s1 σ H1 _ I1 q1) fun u s2 ⟨y,H2,I2,r2,q2⟩=>?_
 exact hf v u s2 x y H2 I2 r1 r2 q2
theorem pe_op{op:Operator}{r:R2}(ho:OpR X (binaryOp op) r)(ha:PE X a ta)(hb:PE X b tb):PE X (.BinOp a op b pos) (tOp r ta tb):=by
 intro pins s σ H Q I h
 exact wpAny_BinOp (binT ha hb I h fun v u s2 x y H2 I2 rx ry q=>ho pins s2 σ H2 x y v u Q I2 rx ry q)
theorem pe_un{op:UnaryOp}{r:V->Hp->VK->Prop}(ho:UnR X (unaryOp op) r)(ha:PE X a ta):PE X (.UnaryOp op a pos) (tUn r ta):=by
 intro pins s σ H Q I h
 exact UnaryOp_ (thn (ha pins s σ H _ I h) fun v s1 ⟨x,H1,I1,r1,q1⟩=>ho pins s1 σ H1 x v Q I1 r1 q1)
theorem opI{f:Value->Value->Sem Value}{C:Int->Int->Prop}{g:Int->Int->Int}
 (rule:∀(i j:Int)(t u:Tok)(s:Shared)(Q:‹"k"›)(E:‹"k"›),C i j->Q (.int (g i j) s.toks) { s with toks:=s.toks+1 }->wpAny ‹"j"› X.A (f (.int i t) (.int j u)) Q E s):
 OpR X f (rI C fun i j=>.int (g i j)):=by
 intro pins s σ H x y v u Q I rx ry h
 obtain⟨i,j,rfl,rfl,hc,q⟩:=h
 obtain⟨t,rfl⟩:=rx
 obtain⟨t',rfl⟩:=ry
 exact rule i j t t' s _ _ hc ⟨.int (g i j),H,I.tok _,⟨_,rfl⟩,q⟩
theorem opI0{f:Value->Value->Sem Value}{g:Int->Int->Int}
 (rule:∀(i j:Int)(t u:Tok)(s:Shared)(Q:‹"k"›)(E:‹"k"›),Q (.int (g i j) s.toks) { s with toks:=s.toks+1 }->wpAny ‹"j"› X.A (f (.int i t) (.int j u)) Q E s):
 OpR X f (rI0 fun i j=>.int (g i j)):=by
 intro pins s σ H x y v u Q I rx ry h
 obtain⟨i,j,rfl,rfl,q⟩:=h
 obtain⟨t,rfl⟩:=rx
 obtain⟨t',rfl⟩:=ry
 exact rule i j t t' s _ _ ⟨.int (g i j),H,I.tok _,⟨_,rfl⟩,q⟩
theorem opB0{f:Value->Value->Sem Value}{g:Int->Int->Bool}
 (rule:∀(i j:Int)(t u:Tok)(s:Shared)(Q:‹"k"›)(E:‹"k"›),Q (.bool (g i j)) s->wpAny ‹"j"› X.A (f (.int i t) (.int j u)) Q E s):
 OpR X f (rI0 fun i j=>.bl (g i j)):=by
 intro pins s σ H x y v u Q I rx ry h
 obtain⟨i,j,rfl,rfl,q⟩:=h
 obtain⟨t,rfl⟩:=rx
 obtain⟨t',rfl⟩:=ry
 exact rule i j t t' s _ _ ⟨.bl (g i j),H,I,rfl,q⟩
def CPow(i j:Int):Prop:=0<=j/\j<=1000000/\i.natAbs<2 ^ 64
def CMul(i j:Int):Prop:=(-(2 ^ 64)<i/\i<2 ^ 64)∨(-(2 ^ 64)<j/\j<2 ^ 64)
theorem CMul.ok{i j:Int}(h:CMul i j):IntMulOk i j:=by
 rcases h with⟨h1,h2⟩ | ⟨h1,h2⟩
 ·exact .of_left (intBits_le_64 h1 h2)
 ·exact .of_right (intBits_le_64 h1 h2)
theorem QPz:OpR X (binaryOp .Add) (rI0 fun i j=>.int (i+j)):=opI0 fun _ _ _ _ _ _ _ q=>add_int q
theorem QP5:OpR X (binaryOp .Sub) (rI0 fun i j=>.int (i - j)):=opI0 fun _ _ _ _ _ _ _ q=>sub_int q
theorem QN8:OpR X (binaryOp .Mod) (rI (fun _ j=>j≠0) fun i j=>.int (i.fmod j)):=opI fun _ _ _ _ _ _ _ hc q=>mod_int' hc q
theorem QPo:OpR X (binaryOp .Pow) (rI CPow fun i j=>.int (i ^ j.toNat)):=opI fun _ _ _ _ _ _ _ hc q=>pow_int_small hc.1 hc.2.1 hc.2.2 q
theorem unI{f:Value->Sem Value}{g:Int->Int}
 (rule:∀(i:Int)(t:Tok)(s:Shared)(Q:‹"k"›)(E:‹"k"›),Q (.int (g i) s.toks) { s with toks:=s.toks+1 }->wpAny ‹"j"› X.A (f (.int i t)) Q E s):
 UnR X f (rU fun i=>.int (g i)):=by
 intro pins s σ H x v Q I rx h
 obtain⟨i,rfl,q⟩:=h
 obtain⟨t,rfl⟩:=rx
 exact rule i t s _ _ ⟨.int (g i),H,I.tok _,⟨_,rfl⟩,q⟩
theorem QOT:UnR X (unaryOp .USub) (rU fun i=>.int (-i)):=unI fun _ _ _ _ _ q=>neg_int q
end
def scal:V->V->Bool
 | .non,.non=>true | .non,.int _=>true | .int _,.non=>true | .non,.bl _=>true | .bl _,.non=>true | .non,.str _=>true | .str _,.non=>true
 | .int _,.int _=>true | .bl _,.bl _=>true | .str _,.str _=>true | .byt _,.byt _=>true
 | .int _,.str _=>true | .str _,.int _=>true | .bl _,.str _=>true | .str _,.bl _=>true
 | _,_=>false
section
variable{X:Cx}{a b c:Expr}{ta tb tc:TE}{pos:Pos}
theorem QPR{pins:‹"r"›}{σ:St}{H:Hp}{s:Shared}{Q:VK}{k k':Bool}(I:‹"i"›)(q:Q (.bl k) H)(e:k=k'):EP X pins σ Q (.bool k') s:=by
 subst e
 exact⟨.bl k,H,I,rfl,q⟩
theorem op_lt:OpR X (compareOp .Lt) (rI0 fun i j=>.bl (decide (i<j))):=opB0 fun _ _ _ _ _ _ _ q=>lt_int q
theorem op_le:OpR X (compareOp .LtE) (rI0 fun i j=>.bl (decide (i<=j))):=opB0 fun _ _ _ _ _ _ _ q=>le_int q
theorem op_gt:OpR X (compareOp .Gt) (rI0 fun i j=>.bl (decide (j<i))):=opB0 fun _ _ _ _ _ _ _ q=>gt_int q
theorem op_ge:OpR X (compareOp .GtE) (rI0 fun i j=>.bl (decide (j<=i))):=opB0 fun _ _ _ _ _ _ _ q=>ge_int q
theorem QL0:OpR X (compareOp .In) (fun x y H Q=>∃ i j,x=.str i/\y=.str j/\Q (.bl (!(Builtin.Str.occurrences j i 0 j.length 1).isEmpty)) H):=by
 intro pins s σ H x y v u Q I rx ry h
 obtain⟨i,j,rfl,rfl,q⟩:=h
 obtain⟨t,rfl⟩:=rx
 obtain⟨t',rfl⟩:=ry
 exact in_str (QPR I q rfl)
theorem OpR.or{f:Value->Value->Sem Value}{r r':R2}(h:OpR X f r)(h':OpR X f r'):OpR X f (fun x y H Q=>r x y H Q∨r' x y H Q):=by
 intro pins s σ H x y v u Q I rx ry q
 rcases q with q | q
 ·exact h pins s σ H x y v u Q I rx ry q
 ·exact h' pins s σ H x y v u Q I rx ry q
theorem QjG(b:Expr){op:CmpOp}(h:op≠.In:=by decide)(h2:op≠.NotIn:=by decide):behindInMarks op b=false:=by
 have e1:(op == CmpOp.In)=false:=by cases op<;>first | rfl | exact absurd rfl h
 have e2:(op == CmpOp.NotIn)=false:=by cases op<;>first | rfl | exact absurd rfl h2
 cases b<;>simp[behindInMarks,e1,e2]
theorem QOA{op:CmpOp}{r:R2}(ho:OpR X (compareOp op) r)(ha:PE X a ta)(hb:PE X b tb)(hm:behindInMarks op b=false):PE X (.Compare a [op] [b] pos) (tOp r ta tb):=by
 intro pins s σ H Q I h
 exact wpAny_Compare1 (binT ha hb I h fun v u s2 x y H2 I2 rx ry q=>ho pins s2 σ H2 x y v u Q I2 rx ry q) hm
def tTest(t:TE):TT:=fun σ H Q=>t σ H fun x H'=>∃ k,x=.bl k/\Q k H'
theorem QNz{op:CmpOp}{r:R2}(ho:OpR X (compareOp op) r)(ha:PE X a ta)(hb:PE X b tb)(hm:behindInMarks op b=false):PT X (.Compare a [op] [b] pos) (tTest (tOp r ta tb)):=by
 intro pins s σ H Q I h
 refine wpAny_isTrue_Compare1 (thn (ha pins s σ H _ I h) fun v s1 ⟨x,H1,I1,r1,q1⟩=>thn (hb pins s1 σ H1 _ I1 q1) fun u s2 ⟨y,H2,I2,r2,q2⟩=>
  thn (ho pins s2 σ H2 x y v u _ I2 r1 r2 q2) fun c s3 ⟨z,H3,I3,r3,k,e,q3⟩=>?_) hm
 subst e
 cases r3
 exact wpAny_truthy_bool ⟨H3,I3,q3⟩
def QDk(r r':R2)(ta tb tc:TE):TE:=fun σ H Q=>ta σ H fun x H1=>tb σ H1 fun y H2=>r x y H2 fun z H3=>∃ k,z=.bl k/\
 (if k=true then tc σ H3 fun w' H4=>r' y w' H4 Q else Q (.bl false) H3)
theorem QMo{op op':CmpOp}{r r':R2}(ho:OpR X (compareOp op) r)(ho':OpR X (compareOp op') r')(ha:PE X a ta)(hb:PE X b tb)(hc:PE X c tc)
 (hm:lastMarks [op,op'] [b,c]=false:=by with_unfolding_all rfl):PE X (.Compare a [op,op'] [b,c] pos) (QDk r r' ta tb tc):=by
 intro pins s σ H Q I h
 refine Compare_chain (thn (ha pins s σ H _ I h) fun v s1 ⟨x,H1,I1,r1,q1⟩=>chain_link (thn (hb pins s1 σ H1 _ I1 q1) fun u s2 ⟨y,H2,I2,r2,q2⟩=>
  thn (ho pins s2 σ H2 x y v u _ I2 r1 r2 q2) fun d s3 ⟨z,H3,I3,r3,k,e,q3⟩=>?_)) hm
 subst e
 cases r3
 refine wpAny_truthy_bool ?_
 cases k with
 | false=>exact ite_ff ⟨.bl false,H3,I3,rfl,q3⟩
 | true=>exact ite_tt (chain_last (thn (hc pins s3 σ H3 _ I3 q3) fun w' s4 ⟨z',H4,I4,r4,q4⟩=>ho' pins s4 σ H4 y z' u w' Q I4 r2 r4 q4))
theorem QNa{op op':CmpOp}{r r':R2}(ho:OpR X (compareOp op) r)(ho':OpR X (compareOp op') r')(ha:PE X a ta)(hb:PE X b tb)(hc:PE X c tc)
 (hm:lastMarks [op,op'] [b,c]=false:=by with_unfolding_all rfl):PT X (.Compare a [op,op'] [b,c] pos) (tTest (QDk r r' ta tb tc)):=by
 intro pins s σ H Q I h
 refine isTrue_chain (thn (ha pins s σ H _ I h) fun v s1 ⟨x,H1,I1,r1,q1⟩=>test_link (thn (hb pins s1 σ H1 _ I1 q1) fun u s2 ⟨y,H2,I2,r2,q2⟩=>
  thn (ho pins s2 σ H2 x y v u _ I2 r1 r2 q2) fun d s3 ⟨z,H3,I3,r3,k,e,q3⟩=>?_)) hm
 subst e
 cases r3
 refine wpAny_truthy_bool ?_
 cases k with
 | false=>
  obtain⟨k',e',q'⟩:=q3
  cases e'
  exact ite_ff ⟨H3,I3,q'⟩
 | true=>
  refine ite_tt (test_last (thn (hc pins s3 σ H3 _ I3 q3) fun w' s4 ⟨z',H4,I4,r4,q4⟩=>thn (ho' pins s4 σ H4 y z' u w' _ I4 r2 r4 q4) fun d' s5 ⟨z2,H5,I5,r5,k2,e2,q5⟩=>?_))
  subst e2
  cases r5
  exact wpAny_truthy_bool ⟨H5,I5,q5⟩
theorem Qo3:(sizeLine:Nat)<2 ^ 63:=by rw[sizeLine_eq];decide
theorem QIB:OpR X (binaryOp .Add) (fun x y H Q=>∃ i j,x=.str i/\y=.str j/\i.length+j.length<=sizeLine/\Q (.str (i++j)) H):=by
 intro pins s σ H x y v u Q I rx ry h
 obtain⟨i,j,rfl,rfl,hz,q⟩:=h
 obtain⟨t,rfl⟩:=rx
 obtain⟨t',rfl⟩:=ry
 exact add_str (fun t' tk=>⟨.str (i++j),H,I.tok _,⟨_,rfl⟩,q⟩) hz
theorem vals1{x:V}{us:List Value}(r:Vals [x] us):∃ u,us=[u]/\RelV x u:=by
 cases r with
 | cons r1 r2=>cases r2;exact⟨_,rfl,r1⟩
theorem vals2{x y:V}{us:List Value}(r:Vals [x,y] us):∃ u w',us=[u,w']/\RelV x u/\RelV y w':=by
 cases r with
 | cons r1 r2=>
  cases r2 with
  | cons r3 r4=>cases r4;exact⟨_,_,rfl,r1,r3⟩
theorem QMg:CallR X (.type "int") (fun xs H Q=>(∃ i,xs=[.int i]/\Q (.int i) H)∨∃ k,xs=[.bl k]/\Q (.int (if k then 1 else 0)) H):=by
 intro pins s σ H xs us Q I r h
 rcases h with⟨i,rfl,q⟩ | ⟨k,rfl,q⟩
 ·obtain⟨u,rfl,t,rfl⟩:=vals1 r
  exact call_int_int ⟨.int i,H,I,⟨_,rfl⟩,q⟩
 ·obtain⟨u,rfl,r1⟩:=vals1 r
  cases r1
  exact call_int_bool ⟨.int (if k then 1 else 0),H,I.tok _,⟨_,rfl⟩,q⟩
end
end L2
namespace L2
open PySem PySem.Spec PyProof.Rows
structure ObjM(h:Heap)(x dx C:Addr)(mA:Str->Option Value):Prop where
 obj:h.get? x=some (PySem.W.instObj C dx)
 ns:h.Ns1 dx mA
 ne:dx≠x
theorem QKT{h:Heap}{dx:Addr}{mA:‹"Y"›}(n:h.Ns1 dx mA):∃ od,h.get? dx=some od/\∀ name,PySem.W.lookIn name od=some (mA name):=by
 obtain⟨o,es,ep,ho,hd,hk,_,hm⟩:=n
 refine⟨o,ho,fun name=>?_⟩
 have e:=hm name
 unfold nsFind findBy at e
 rw[← Array.find?_toList]at e
 unfold PySem.W.lookIn
 rw[hd]
 dsimp only
 split
 ·rename_i y q
  rw[q]at e
  exact congrArg some e
 ·rename_i q
  rw[q]at e
  have a:es.toList.any (·.refKey)=false:=by
   rw[List.any_eq_false]
   intro y hy
   obtain⟨z,t,hkey⟩:=hk y (Array.mem_toList_iff.mp hy)
   simp[DictEntry.refKey,hkey]
  have a':¬ es.toList.any (·.refKey)=true:=by rw[a];exact Bool.false_ne_true
  rw[if_neg a']
  exact congrArg some e
theorem ObjM.look{h:Heap}{x dx C:Addr}{mA:‹"Y"›}(I:ObjM h x dx C mA):∃ od,PySem.W.InstAt h x (PySem.W.instObj C dx) C (some od)/\∀ name,PySem.W.lookIn name od=some (mA name):=
 let ⟨od,ho,hl⟩:=QKT I.ns
 ⟨od,⟨I.obj,rfl,rfl,ho⟩,hl⟩
section
variable{prog:Program}{w:World}{A:Around}{E:Value->Shared->Prop}{s:Shared}{K:PySem.W.Frag}{x dx C f:Addr}{mA:Str->Option Value}{name:Str}{v:Value}
theorem QNV{expr:Bool}{Q:‹"k"›}(X:K.In s.heap)(I:ObjM s.heap x dx C mA)(hg:PySem.W.plainGet K C name=true)(hh:PySem.W.hasDictIn K C=true)
 (ha:PySem.W.findIn K (.ref C) name=some none) (hv:mA name=some v) (hv':PySem.W.handedIn v=true) (h:Q v { s with toks:=s.toks+1 }):
 wpAny (model prog w) A (getAttr (.ref x) name expr) Q E s:=by
 obtain⟨od,J,hl⟩:=I.look
 exact PySem.W.get_value X J (PySem.W.plainGet_of hg).1 (PySem.W.findObj_own hh ha rfl (by rw[hl,hv])) hv' h
theorem QMM{pl:Sem Bool}{Q:Value×List Value->Shared->Prop}(X:K.In s.heap)(I:ObjM s.heap x dx C mA)(hg:PySem.W.plainGet K C name=true)
 (hf:PySem.W.findIn K (.ref C) name=some (some (.ref f))) (ht:PySem.W.isFn K (.ref f)=true) (hv:mA name=none) (h:Q (.ref f,[.ref x]) s):
 wpAny (model prog w) A (getMethod (.ref x) name pl) Q E s:=by
 obtain⟨od,J,hl⟩:=I.look
 exact PySem.W.method_fn X J (PySem.W.plainGet_of hg).1 (PySem.W.plainGet_of hg).2 hf (beq_iff_eq.mp ht) (by show(PySem.W.lookIn name od).map (·.isSome)=some false;rw[hl,hv];rfl) h
theorem QOb{ns:List Str}{Q:Unit->Shared->Prop}(X:K.In s.heap)(I:ObjM s.heap x dx C mA)
 (hs:PySem.W.findIn K (.ref C) "__setattr__"=some ‹"aj"›) (hp:PySem.W.plainOver K C=true) (ht:PySem.W.takerIn K C name=some none) (hh:PySem.W.hasDictIn K C=true)
 (hw:PySem.Within mA ns) (hsz:ns.length<=sizeLine)
 (h:∀ h',ObjM h' x dx C (fun y=>if y=name then some v else mA y)->Heap.SameBut dx s.heap h'->Q () { s with heap:=h',toks:=s.toks+2 }):
 wpAny (model prog w) A (setAttr (.ref x) name v) Q E s:=by
 obtain⟨od,J,hl⟩:=I.look
 refine PySem.W.set_plain X J hs (PySem.W.osa_open (s:={ s with toks:=s.toks+1 }) (r:=none) X J hp ht fun b=>?_)
 obtain⟨cd,hc,hd'⟩:=PySem.W.any_some hh
 have hx:s.heap.get? x=some ⟨.ref C,some dx,.plain, #[]⟩:=I.obj
 refine wpAny_bind (wpAny_pure (wpAny_bind (wpAny_bind (wpAny_loadPart hx (wpAny_bind (PySem.W.Looks.here (s:={ s with toks:=s.toks+1 }) (PySem.W.looks_clsIn X hc) ?_))))))
 rw[hd']
 refine wpAny_pure (a:=some dx) (wpAny_bind (wpAny_pure (wpAny_bind ?_)))
 refine wpAny_nsSet1 (s:={ s with toks:=s.toks+1 }) I.ns fun h' hn2 hs2=>?_
 obtain⟨oD,esD,epD,hoD,hdD,hcD⟩:=hn2.count (PySem.Within.cons name v hw)
 refine wpAny_bind (wpAny_lookBehind hoD (by rw[hdD];exact pastItsLine_dict (Nat.le_trans hcD (by rw[List.length_cons];omega))) ?_)
 exact wpAny_pure (h _ ⟨(hs2.2 _ (Ne.symm I.ne)).trans I.obj,hn2,I.ne⟩ hs2)
theorem QMP{R:Result->Shared->Prop}{vs:List Value}{kw:List (Str×Value)}(X:K.In s.heap)(hm:PySem.W.makesIn K C=true)
 (hi:PySem.W.findIn K (.ref C) "__init__"=some (some (.ref f))) (hf:PySem.W.typeIn K (.ref f)=some (.type "function"))
 (h:codeAny (model prog w) (A.under (.builtin "type.__call__" ⟨.ref C::vs,kw⟩)) (.call (.ref f) ⟨.ref (s.heap.objs.size+1)::vs,kw⟩) (PySem.W.InitBack (s.heap.objs.size+1) R)
  { s with heap:=(s.heap.push PySem.W.emptyDict).push (PySem.W.instObj C s.heap.objs.size) }):
 codeAny (model prog w) A (.call (.ref C) ⟨vs,kw⟩) R s:=by
 obtain⟨hh,g,d,t,os⟩:=s
 exact PySem.W.make_core (PySem.W.makes_of X hm) (PySem.W.looks_findIn X hi) (fun self=>PySem.W.bind_fn X self hf) (.inl rfl) h
end
def putF(f:Str)(v:V):List (Str×V)->List (Str×V)
 | []=>[(f,v)]
 | (g,x)::r=>if g=f then(g,v)::r else(g,x)::putF f v r
theorem QuJ(f g:Str)(v:V):∀ fs:List (Str×V),(putF f v fs).lookup g=if g=f then some v else fs.lookup g
 | []=>by
  show List.lookup g [(f,v)]=_
  by_cases h:g=f
  ·have hb:(g == f)=true:=beq_iff_eq.mpr h
   simp only[List.lookup,hb,if_pos h]
  ·have hb:(g == f)=false:=beq_eq_false_iff_ne.mpr h
   simp only[List.lookup,hb,if_neg h]
 | (k,x)::r=>by
  have ih:=QuJ f g v r
  rw[show putF f v ((k,x)::r)=(if k=f then(k,v)::r else(k,x)::putF f v r) from rfl]
  by_cases hk:k=f
  ·rw[if_pos hk]
   by_cases h:g=k
   ·have hb:(g == k)=true:=beq_iff_eq.mpr h
    simp only[List.lookup,hb,if_pos (h.trans hk)]
   ·have hb:(g == k)=false:=beq_eq_false_iff_ne.mpr h
    simp only[List.lookup,hb,if_neg (fun e:g=f=>h (e.trans hk.symm))]
  ·rw[if_neg hk]
   by_cases h:g=k
   ·have hb:(g == k)=true:=beq_iff_eq.mpr h
    simp only[List.lookup,hb,if_neg (fun e:g=f=>hk (h.symm.trans e))]
   ·have hb:(g == k)=false:=beq_eq_false_iff_ne.mpr h
    simp only[List.lookup,hb]
    exact ih
theorem QrZ(f:Str)(v:V):∀ fs:List (Str×V),f∈(putF f v fs).map (·.1)/\∀ g,g∈fs.map (·.1)->g∈(putF f v fs).map (·.1)
 | []=>⟨by simp[putF],fun g h=>by simp at h⟩
 | (k,x)::r=>by
  obtain⟨i1,i2⟩:=QrZ f v r
  rw[show putF f v ((k,x)::r)=(if k=f then(k,v)::r else(k,x)::putF f v r) from rfl]
  by_cases hk:k=f
  ·rw[if_pos hk]
   subst hk
   exact⟨by simp,fun g h=>by simpa using h⟩
  ·rw[if_neg hk]
   refine⟨?_,fun g h=>?_⟩
   ·rw[List.map_cons]
    exact List.mem_cons_of_mem _ i1
   ·rw[List.map_cons]at h ⊢
    rcases List.mem_cons.mp h with e | e
    ·exact List.mem_cons.mpr (.inl e)
    ·exact List.mem_cons_of_mem _ (i2 g e)
theorem QuG(f:Str)(v:V):∀ fs:List (Str×V),(putF f v fs).length<=fs.length+1
 | []=>by simp[putF]
 | (k,x)::r=>by
  have ih:=QuG f v r
  rw[show putF f v ((k,x)::r)=(if k=f then(k,v)::r else(k,x)::putF f v r) from rfl]
  by_cases hk:k=f
  ·rw[if_pos hk,List.length_cons,List.length_cons];omega
  ·rw[if_neg hk,List.length_cons,List.length_cons];omega
theorem RelO.some_of{v:V}{o:Option Value}(r:RelO (some v) o):∃ u,o=some u/\RelV v u:=by
 cases o with
 | none=>exact(show False from r).elim
 | some u=>exact⟨u,rfl,r⟩
theorem RelO.none_of{o:Option Value}(r:RelO none o):o=none:=by
 cases o with
 | none=>rfl
 | some u=>exact(show False from r).elim
theorem QLD{v:V}{u:Value}(r:RelV v u):PySem.W.handedIn u=true:=by
 cases v with
 | non=>cases (show u=Value.none from r);rfl
 | bl b=>cases (show u=Value.bool b from r);rfl
 | int i=>obtain⟨t,e⟩:=(show ∃ t,u=Value.int i t from r);cases e;rfl
 | str x=>obtain⟨t,e⟩:=(show ∃ t,u=Value.str x t from r);cases e;rfl
 | byt b=>obtain⟨t,e⟩:=(show ∃ t,u=Value.bytes b t from r);cases e;rfl
 | flt b=>obtain⟨t,e⟩:=(show ∃ t,u=Value.float b t from r);cases e;rfl
 | ref a=>cases (show u=Value.ref a from r);rfl
 | ty n=>cases (show u=Value.type n from r);rfl
section
variable{P:Program}{w:World}{H H':Hp}{h h':Heap}{a C dx:Addr}{fs fs':List (Str×V)}
theorem Qpt(hok:HOk P w H h)(e:H a=some (.ins C dx fs)):∃ mA,ObjM h a dx C mA/\(∀ f,RelO (fs.lookup f) (mA f))/\PySem.Within mA (fs.map (·.1))/\fs.length<=1000/\H dx=some (.own a):=by
 obtain⟨d,z,ne,ob,mA,n,r,q⟩:=(show ObjOk P w H h a (.ins C dx fs) from hok a _ e)
 exact⟨mA,⟨ob,n,ne⟩,r,q,z,d⟩
end
structure Cls(K:PySem.W.Frag)(C:Addr):Prop where
 pg:PySem.W.plainGet K C Str.empty=true
 hd:PySem.W.hasDictIn K C=true
 po:PySem.W.plainOver K C=true
 sa:PySem.W.findIn K (.ref C) "__setattr__"=some ‹"aj"›
theorem Cls.get{K:PySem.W.Frag}{C:Addr}(c:Cls K C)(f:Str):PySem.W.plainGet K C f=true:=c.pg
def QlL(K:PySem.W.Frag)(C:Addr)(f:Str):Prop:=PySem.W.findIn K (.ref C) f=some none
theorem QlL.taker{K:PySem.W.Frag}{C:Addr}{f:Str}(n:QlL K C f):PySem.W.takerIn K C f=some none:=by
 unfold PySem.W.takerIn
 rw[show PySem.W.findIn K (.ref C) f=some none from n]
 rfl
structure Meth(K:PySem.W.Frag)(C:Addr)(m:Str)(f:Addr):Prop where
 at_:PySem.W.findIn K (.ref C) m=some (some (.ref f))
 fn:PySem.W.isFn K (.ref f)=true
 kp:PySem.W.keepIn K (.ref f)=true
section
variable{X:Cx}{pins:List (Addr×Obj)}{σ:St}{H:Hp}{s:Shared}{a C dx:Addr}{fs:List (Str×V)}{f:Str}{v:V}{A:Around}{E:Value->Shared->Prop}
theorem QJh{b:Bool}{Q:‹"k"›}(I:‹"i"›)(e:H a=some (.ins C dx fs))(c:Cls X.K C)(n:QlL X.K C f)(l:fs.lookup f=some v)
 (h:∀ u s',Inv X pins σ H s'->RelV v u->Q u s'):wpAny ‹"j"› A (getAttr (.ref a) f b) Q E s:=by
 obtain⟨mA,O,r,_,_,_⟩:=Qpt I.hok e
 obtain⟨u,hu,ru⟩:=RelO.some_of (v:=v) (o:=mA f) (by rw[← l];exact r f)
 exact QNV I.kIn O (c.get f) c.hd n hu (QLD ru) (h u _ (I.tok _) ru)
theorem Qxq{m:Str}{g:Addr}{pl:Sem Bool}{Q:Value×List Value->Shared->Prop}(I:‹"i"›)(e:H a=some (.ins C dx fs))(c:Cls X.K C)(k:Meth X.K C m g)(l:fs.lookup m=none)
 (h:Q (.ref g,[.ref a]) s):wpAny ‹"j"› A (getMethod (.ref a) m pl) Q E s:=by
 obtain⟨mA,O,r,_,_,_⟩:=Qpt I.hok e
 have hn:mA m=none:=RelO.none_of (by rw[← l];exact r m)
 exact QMM I.kIn O (c.get m) k.at_ k.fn hn h
theorem QIw{y:V}{u:Value}{Q:Unit->Shared->Prop}(I:‹"i"›)(e:H a=some (.ins C dx fs))(c:Cls X.K C)(n:QlL X.K C f)(hl:fs.length<1000)(ry:RelV y u)
 (h:∀ s',Inv X pins σ (upd H a (.ins C dx (putF f y fs))) s'->Q () s'):wpAny ‹"j"› A (setAttr (.ref a) f u) Q E s:=by
 obtain⟨mA,O,r,wi,_,ho⟩:=Qpt I.hok e
 have hz:(fs.map (·.1)).length<=sizeLine:=by rw[List.length_map,sizeLine_eq];omega
 refine QOb I.kIn O c.sa c.po n.taker c.hd wi hz fun h' O' sb=>h _ ?_
 have hd:∃ o,h'.get? dx=some o:=let ⟨o,_,_,e',_⟩:=O'.ns;⟨o,e'⟩
 refine I.write (x:=a) (e:=dx) (by rw[e];exact True.intro) (.inr ho) (fun b q hb z=>(sb.2 b hb).trans z) hd ?_
 refine⟨by rw[Ql O.ne];exact ho,?_,O.ne,O'.obj,_,O'.ns,fun g=>?_,fun g hg=>?_⟩
 ·have:=QuG f y fs;omega
 ·show RelO ((putF f y fs).lookup g) (if g=f then some u else mA g)
  rw[QuJ]
  by_cases q:g=f
  ·rw[if_pos q,if_pos q];exact ry
  ·rw[if_neg q,if_neg q];exact r g
 ·by_cases q:g=f
  ·rw[q];exact(QrZ f y fs).1
  ·refine(QrZ f y fs).2 g (wi g fun z=>hg ?_)
   show(if g=f then some u else mA g)=none
   rw[if_neg q];exact z
theorem Inv.made(I:‹"i"›):Inv X pins σ (upd (upd H s.heap.objs.size (.own (s.heap.objs.size+1))) (s.heap.objs.size+1) (.ins C s.heap.objs.size []))
 { s with heap:=(s.heap.push PySem.W.emptyDict).push (PySem.W.instObj C s.heap.objs.size) }:=by
 have e1:(s.heap.push PySem.W.emptyDict).get? s.heap.objs.size=some PySem.W.emptyDict:=Heap.get?_push_size s.heap rfl
 have e2:((s.heap.push PySem.W.emptyDict).push (PySem.W.instObj C s.heap.objs.size)).get? (s.heap.objs.size+1)=some (PySem.W.instObj C s.heap.objs.size):=by
  have:=Heap.get?_push_size (s.heap.push PySem.W.emptyDict) (o:=PySem.W.instObj C s.heap.objs.size) rfl
  rwa [Heap.size_push]at this
 have e3:(s.heap.push PySem.W.emptyDict).Ns s.heap.objs.size (fun _=>none):=⟨PySem.W.emptyDict, #[],_,e1,rfl,(fun e he=>absurd he (by simp)),fun _=>rfl⟩
 have I1:=I.laid (a:=s.heap.objs.size) (o:=.own (s.heap.objs.size+1)) (h':=s.heap.push PySem.W.emptyDict) (t':=s.toks) (fun b u q=>Heap.get?_push_of_some _ q) ‹"an"› ⟨_,e1⟩
 refine I1.laid (a:=s.heap.objs.size+1) (o:=.ins C s.heap.objs.size []) (t':=s.toks) (fun b u q=>Heap.get?_push_of_some _ q) (Nat.le_of_eq (Heap.size_push _ _)) ?_
 have ne:s.heap.objs.size≠s.heap.objs.size+1:=Nat.ne_of_lt (Nat.lt_succ_self _)
 refine⟨by rw[Ql ne,QO],Nat.zero_le _,ne,e2,fun _=>none,(Heap.Ns1.of_empty e3).at fun o q=>Heap.get?_push_of_some _ q,fun _=>True.intro,fun y hy=>absurd rfl hy⟩
theorem QNx{prog:Program}{w:World}{env:Env}{e:Expr}{f:Str}{pos:Pos}{s:Shared}{Q:‹"k"›}(hb:attributeBase e f env (eval e env)=eval e env)
 (h:wpAny (model prog w) A (eval e env) (fun o s₁=>wpAny (model prog w) A (getAttr o f true) Q E s₁) E s):wpAny (model prog w) A (eval (.Attribute e f pos) env) Q E s:=
 Attribute_any_ h (by rw[arm_eval_Attribute,hb])
end
def tFld(K:PySem.W.Frag)(ta:TE)(f:Str):TE:=fun σ H Q=>ta σ H fun x H1=>∃ a C dx fs v,x=.ref a/\H1 a=some (.ins C dx fs)/\Cls K C/\QlL K C f/\fs.lookup f=some v/\Q v H1
def sFld(K:PySem.W.Frag)(ta tv:TE)(f:Str):TS:=fun D σ H=>tv σ H fun y H1=>ta σ H1 fun x H2=>∃ a C dx fs,x=.ref a/\H2 a=some (.ins C dx fs)/\Cls K C/\QlL K C f/\fs.length<1000/\
 D.nx σ (upd H2 a (.ins C dx (putF f y fs)))
section
variable{X:Cx}{o e value:Expr}{f:Str}{pos pos' tpos:Pos}{ta tv:TE}
theorem QPn(he:PE X e ta)(hb:attributeBase e f X.env (eval e X.env)=eval e X.env):PE X (.Attribute e f pos) (tFld X.K ta f):=by
 intro pins s σ H Q I h
 refine QNx hb (thn (he pins s σ H _ I h) fun u s1 ⟨x,H1,I1,rx,a,C,dx,fs,v,ex,ea,c,n,l,q⟩=>?_)
 subst ex
 obtain rfl:u=Value.ref a:=rx
 exact QJh I1 ea c n l fun u' s2 I2 ru=>⟨v,H1,I2,ru,q⟩
theorem QPU(ha:PE X o ta)(hv:PE X value tv)(hs:swapsWith value (some (.Attribute o f pos')) pos.line X.env=pure false):PS X (.Assign [.Attribute o f pos'] value pos) (sFld X.K ta tv f):=by
 intro pins s σ H D I h
 refine plainObj_wpAny_Assign_Attribute (thn (hv pins s σ H _ I h) fun u s1 ⟨y,H1,I1,ry,q⟩=>thn (ha pins s1 σ H1 _ I1 q) fun ov s2 ⟨x,H2,I2,rx,a,C,dx,fs,ex,ea,c,n,l,q2⟩=>?_) hs
 subst ex
 obtain rfl:ov=Value.ref a:=rx
 exact QIw I2 ea c n l ry fun s3 I3=>⟨σ,_,I3,q2⟩
end
section
variable{X:Cx}{pins:List (Addr×Obj)}{σ:St}{H:Hp}{s:Shared}{A:Around}{E:Value->Shared->Prop}{Q:Value->Shared->Prop}{c:Value}{b:Bool}
end
end L2
namespace L2
open PySem PySem.Spec PyProof.Rows
structure Room(k:Nat)(A:Around):Prop where
 hd:A.handled=none
 dp:A.depth+3 * k+5<recursionLimit
 un:A.units+16 * k+200<cLine
theorem Room.mono{j k:Nat}{A:Around}(r:Room k A)(h:j<=k):Room j A:=⟨r.hd,by have:=r.dp;omega,by have:=r.un;omega⟩
theorem Room.deeper{k:Nat}{A:Around}(r:Room (k+1) A)(env:Env):Room k (A.deeper env):=
 ⟨r.hd,by have:=r.dp;show A.depth+1+3 * k+5<_;omega,by have:=r.un;show A.units+3+16 * k+200<_;omega⟩
theorem QJV{A:Around}{C:Addr}{us:List Value}{kw:List (Str×Value)}:(A.under (.builtin "type.__call__" ⟨.ref C::us,kw⟩)).depth=A.depth+1:=by
 first | rfl | simp[Around.under,Code.weight,Code.isCreation,Code.isGuard,Code.isCaller,Code.frames,Code.isFrame,guardIds]
theorem QI9{A:Around}{C:Addr}{us:List Value}{kw:List (Str×Value)}:(A.under (.builtin "type.__call__" ⟨.ref C::us,kw⟩)).units=A.units+1:=by
 first | rfl | simp[Around.under,Code.cUnits,Code.frames,Code.isFrame]
theorem Room.make{k:Nat}{A:Around}(r:Room (k+1) A)(C:Addr)(us:List Value)(kw:List (Str×Value)):Room k (A.under (.builtin "type.__call__" ⟨.ref C::us,kw⟩)):=
 ⟨r.hd,by have:=r.dp;rw[QJV];omega,by have:=r.un;rw[QI9];omega⟩
theorem Room.depth{k:Nat}{A:Around}(r:Room k A):A.depth<recursionLimit:=by have:=r.dp;omega
theorem Room.units{k:Nat}{A:Around}(r:Room k A):A.units+64<cLine:=by have:=r.un;omega
def tNil:TA:=fun _ H Q=>Q [] H
def tCons(ta:TE)(tr:TA):TA:=fun σ H Q=>ta σ H fun x H1=>tr σ H1 fun xs H2=>Q (x::xs) H2
section
variable{X:Cx}{e:Expr}{es:List Expr}{te:TE}{t:TA}{pos:Pos}
theorem QeS:PA X [] tNil:=fun _ _ _ _ H Q I h=>Calls.spliced_nil ⟨[],H,I,.nil,h⟩
theorem QbX(ha:PE X e te)(hr:PA X es t)(hs:‹"l"›:=by rfl):PA X (e::es) (tCons te t):=by
 intro pos pins s σ H Q I h
 rw[hs]
 show wpAny _ _ (spliced ((false,eval e X.env)::backTo pos (starEach es X.env))) _ _ s
 refine Calls.spliced_cons (thn (ha pins s σ H _ I h) fun u s1 ⟨x,H1,I1,r1,q1⟩=>?_)
 exact thn (hr pos pins s1 σ H1 _ I1 q1) fun us s2 ⟨xs,H2,I2,r2,q2⟩=>⟨x::xs,H2,I2,.cons r1 r2,q2⟩
def tTup(t:TA):TE:=fun σ H Q=>t σ H fun xs H1=>xs.length<=sizeLine/\∀ p,H1 p=none->Q (.ref p) (upd H1 p (.tup xs))
def tLst(t:TA):TE:=fun σ H Q=>t σ H fun xs H1=>xs.length<=sizeLine/\∀ p,H1 p=none->Q (.ref p) (upd H1 p (.lst xs))
theorem QLQ{x1}(h:PA X es t):PE X (.Tuple es x1 pos) (tTup t):=by
 intro pins s σ H Q I hq
 refine wpAny_Tuple_spliced (thn (h pos pins s σ H _ I hq) fun us s1 ⟨xs,H1,I1,r,z,q⟩=>⟨by rw[← r.length];exact z,?_⟩)
 have hf:H1 s1.heap.objs.size=none:=I1.hok.fresh ‹"an"›
 refine⟨.ref s1.heap.objs.size,upd H1 s1.heap.objs.size (.tup xs),I1.laid (t':=s1.toks) (fun b u e=>Heap.get?_push_of_some _ e) ‹"an"› ?_,rfl,q _ hf⟩
 exact⟨z,us,r,⟨_,Heap.get?_push_size _ rfl,rfl,_,rfl⟩⟩
theorem QQc(h:PA X es t):PE X (.List es pos) (tLst t):=by
 intro pins s σ H Q I hq
 refine wpAny_List_spliced (thn (h pos pins s σ H _ I hq) fun us s1 ⟨xs,H1,I1,r,z,q⟩=>⟨by rw[← r.length];exact z,?_⟩)
 have hf:H1 s1.heap.objs.size=none:=I1.hok.fresh ‹"an"›
 refine⟨.ref s1.heap.objs.size,upd H1 s1.heap.objs.size (.lst xs),I1.laid (t':=s1.toks) (fun b u e=>Heap.get?_push_of_some _ e) ‹"an"› ?_,rfl,q _ hf⟩
 exact⟨z,us,0,r,Heap.get?_push_size _ rfl⟩
end
abbrev Sp:=List V->Hp->VK->XK->Prop
abbrev CXT:=List Env->Hp->Shared->XK->Value->Shared->Prop
structure Env0(P:Program)(w:World)(K:PySem.W.Frag)(mg:Str->Option Value)(base:Heap)(A:Around)(outer:List Env)(s:Shared)(H:Hp):Prop where
 frames:A.frames=some outer
 mod:Mod K mg base
 bs:∀ b o,base.get? b=some o->s.heap.get? b=some o/\H b=none
 bsz:base.objs.size<=s.heap.objs.size
 funs:s.heap.FunFrames base outer
 frf:∀ b∈frs outer,H b=none
 hok:HOk P w H s.heap
 bare:AllBare s.gens
def CE(outer:List Env)(P:Program)(w:World)(H:Hp)(s:Shared)(Q:VK)(u:Value)(s':Shared):Prop:=
 ∃ v H',s'.os=s.os/\AllBare s'.gens/\Un (frs outer) [] H H' s.heap s'.heap/\HOk P w H' s'.heap/\RelV v u/\Q v H'
def CR(CX:CXT)(outer:List Env)(P:Program)(w:World)(H:Hp)(s:Shared)(Q:VK)(E:XK)(r:Result)(s':Shared):Prop:=
 match r with
 | .ok (.ret u)=>CE outer P w H s Q u s'
 | .ok _=>False
 | .error e=>CX outer H s E e s'
structure FnOk(P:Program)(w:World)(K:PySem.W.Frag)(mg:Str->Option Value)(base:Heap)(CX:CXT)(k:Nat)(f:Addr)(fd:FuncData)(ps:List Str)(sp:Sp):Prop where
 len:∀ vs H Q E,sp vs H Q E->vs.length=ps.length
 run:∀(A:Around)(outer:List Env)(s:Shared)(H:Hp)(args:Args)(us:List Value)(vs:List V)(Q:VK)(E:XK),Room k A->Env0 P w K mg base A outer s H->BindsTo s fd args (ps.zip us)->Vals vs us->sp vs H Q E->
  codeAny (model P w) A (.call (.ref f) args) (CR CX outer P w H s Q E) s
theorem FnOk.mono{P:Program}{w:World}{K:PySem.W.Frag}{mg:‹"Y"›}{base:Heap}{CX:CXT}{j k:Nat}{f:Addr}{fd:FuncData}{ps:List Str}{sp:Sp}(F:FnOk P w K mg base CX j f fd ps sp)(h:j<=k):
 FnOk P w K mg base CX k f fd ps sp:=⟨F.len,fun A outer s H args us vs Q E hr=>F.run A outer s H args us vs Q E (hr.mono h)⟩
theorem Env0.make{P:Program}{w:World}{K:PySem.W.Frag}{mg:‹"Y"›}{base:Heap}{A:Around}{outer:List Env}{s:Shared}{H:Hp}(e:Env0 P w K mg base A outer s H)(C:Addr)(us:List Value)(kw:List (Str×Value)):
 Env0 P w K mg base (A.under (.builtin "type.__call__" ⟨.ref C::us,kw⟩)) outer s H:=⟨by first | exact e.frames | (simpa [Around.under,Code.envs,Code.isFrame,pushEnvs] using e.frames),e.mod,e.bs,e.bsz,e.funs,e.frf,e.hok,e.bare⟩
section
variable{X:Cx}{pins:List (Addr×Obj)}{σ:St}{H:Hp}{s s':Shared}
theorem Inv.env0(I:‹"i"›):Env0 X.prog X.w X.K X.mg X.base X.A X.stack s H:=
 ⟨I.ok.frames,I.ok.mod,I.bs,Nat.le_trans I.ok.bsz I.sz,I.stack,I.stkFree,I.hok,I.bare⟩
theorem Inv.after{Q:VK}{u:Value}(I:‹"i"›)(h:CE X.stack X.prog X.w H s Q u s'):EP X pins σ Q u s':=by
 obtain⟨v,H',os,bare,un,hok,r,q⟩:=h
 obtain⟨hh,g,d,t,os'⟩:=s'
 obtain rfl:os'=s.os:=os
 exact⟨v,H',I.call (h':=hh) (g':=g) (d':=d) (t':=t) (ch:=[]) un hok bare (fun b z=>absurd z (by simp)),r,q⟩
end
def tCall(sp:Sp)(dvs:List V)(E:XK)(t:TA):TE:=fun σ H Q=>t σ H fun vs H1=>sp (vs++dvs) H1 Q E
def tMake(C:Addr)(sp:Sp)(dvs:List V)(E:XK)(t:TA):TE:=fun σ H Q=>t σ H fun vs H1=>∀ x dx,H1 x=none->H1 dx=none->dx≠x->
 sp (.ref x::(vs++dvs)) (upd (upd H1 dx (.own x)) x (.ins C dx [])) (fun v H2=>v=.non/\Q (.ref x) H2) E
def Binds(K:PySem.W.Frag)(fd:FuncData)(ps:List Str)(ds:List Value):Prop:=
 ∀(s:Shared)(us:List Value),K.In s.heap->(us++ds).length=ps.length->BindsTo s fd ⟨us,[]⟩ (ps.zip (us++ds))
theorem Binds.all{K:PySem.W.Frag}{fd:FuncData}{ps:List Str}(h:∀ us:List Value,us.length=ps.length->bindArgs fd ⟨us,[]⟩=pure (ps.zip us)):Binds K fd ps []:=fun s us _ hl=>by
 rw[List.append_nil]at hl ⊢
 exact .of_eq (h us hl)
def QhG(CX:CXT)(X:Cx)(E:XK):Prop:=∀(pins:‹"r"›)(σ:St)(H:Hp)(s:Shared)(e:Value)(s':Shared),Inv X pins σ H s->CX X.stack H s E e s'->X.xe e s'
section
variable{X:Cx}{CX:CXT}{k:Nat}{f C:Addr}{fd:FuncData}{ps:List Str}{sp:Sp}{dvs:List V}{ds:List Value}{E:XK}{x m:Str}{p pos apos:Pos}{e o:Expr}{es:List Expr}{ta:TE}{t:TA}
theorem QBT{pins:‹"r"›}{σ:St}{H:Hp}{s:Shared}{Q:VK}{us:List Value}{vs:List V}(F:FnOk X.prog X.w X.K X.mg X.base CX k f fd ps sp)(hr:Room k X.A)(hb:Binds X.K fd ps ds)(hd:Vals dvs ds)(hx:QhG CX X E)
 (I:‹"i"›) (r:Vals vs us) (h:sp (vs++dvs) H Q E):wpAny ‹"j"› X.A (call (.ref f) us) (EP X pins σ Q) X.xe s:=by
 have r2:Vals (vs++dvs) (us++ds):=r.append hd
 have hl:(us++ds).length=ps.length:=by rw[← r2.length];exact F.len _ _ _ _ h
 refine wpAny_call (codeAny_mono (F.run X.A X.stack s H ⟨us,[]⟩ (us++ds) (vs++dvs) Q E hr I.env0 (hb s us I.kIn hl) r2 h) fun r s' hq=>?_)
 cases r with
 | error e=>exact hx pins σ H s e s' I hq
 | ok fl=>
  cases fl with
  | ret u=>exact I.after hq
  | next=>exact False.elim hq
  | brk=>exact False.elim hq
  | cont=>exact False.elim hq
theorem QtR(F:FnOk X.prog X.w X.K X.mg X.base CX k f fd ps sp)(hr:Room k X.A)(hg:Gl X x)(hm:X.mg x=some (.ref f))(hk:PySem.W.keepIn X.K (.ref f)=true)(hb:Binds X.K fd ps ds)(hd:Vals dvs ds)(hx:QhG CX X E)
 (ha:PA X (e::es) t) (hdb:‹"f"›:=by decide) (he:‹"l"›:=by rfl) (hpl:(backTo pos (starEach es X.env)).any (·.1)=false:=by rfl):
 PE X ‹"F"› (tCall sp dvs E t):=by
 intro pins s σ H Q I h
 refine wpAny_Call_Name_kw (Qyo I hg hm ?_ hdb)
 refine PySem.W.callWith_K (h₀:=X.base) I.ok.mod.kin hk (thn (ha pos pins s σ H _ I h) fun us s1 ⟨vs,H1,I1,r,q⟩=>⟨I1.kIn,?_⟩) he hpl
 exact QBT F hr hb hd hx I1 r q
structure Mk(K:PySem.W.Frag)(C f:Addr):Prop where
 makes:PySem.W.makesIn K C=true
 init:PySem.W.findIn K (.ref C) "__init__"=some (some (.ref f))
 fn:PySem.W.isFn K (.ref f)=true
 kp:PySem.W.keepIn K (.ref C)=true
theorem QMj{pins:‹"r"›}{σ:St}{H:Hp}{s:Shared}{Q:VK}{us:List Value}{vs:List V}(M:Mk X.K C f)(F:FnOk X.prog X.w X.K X.mg X.base CX k f fd ps sp)(hr:Room (k+1) X.A)(hb:Binds X.K fd ps ds)(hd:Vals dvs ds)
 (hx:QhG CX X E) (I:‹"i"›) (r:Vals vs us)
 (h:∀ x dx,H x=none->H dx=none->dx≠x->sp (.ref x::(vs++dvs)) (upd (upd H dx (.own x)) x (.ins C dx [])) (fun v H2=>v=.non/\Q (.ref x) H2) E):
 wpAny ‹"j"› X.A (call (.ref C) us) (EP X pins σ Q) X.xe s:=by
 have hq:=h (s.heap.objs.size+1) s.heap.objs.size (I.hok.fresh (Nat.le_succ _)) (I.hok.fresh ‹"an"›) (Nat.ne_of_lt (Nat.lt_succ_self _))
 have I2:=Inv.made (C:=C) I
 have r2:Vals (V.ref (s.heap.objs.size+1)::(vs++dvs)) (Value.ref (s.heap.objs.size+1)::(us++ds)):=.cons rfl (r.append hd)
 have hl:(Value.ref (s.heap.objs.size+1)::us++ds).length=ps.length:=by
  have e:=r2.length
  rw[F.len _ _ _ _ hq]at e
  exact e.symm
 refine wpAny_call (QMP (f:=f) I.kIn M.makes M.init (beq_iff_eq.mp M.fn) (codeAny_mono (F.run _ X.stack _ _ ⟨Value.ref (s.heap.objs.size+1)::us,[]⟩ (Value.ref (s.heap.objs.size+1)::(us++ds)) _ _ E (hr.make C us [])
  (I2.env0.make C us []) (hb _ (Value.ref (s.heap.objs.size+1)::us) I2.kIn hl) r2 hq) fun r s' hq'=>?_))
 cases r with
 | error e=>exact hx pins σ _ _ e s' I2 hq'
 | ok fl=>
  cases fl with
  | ret u=>
   obtain⟨v,H',I3,rv,ev,q3⟩:=I2.after hq'
   subst ev
   exact⟨rv,⟨V.ref (s.heap.objs.size+1),H',I3,rfl,q3⟩⟩
  | next=>exact False.elim hq'
  | brk=>exact False.elim hq'
  | cont=>exact False.elim hq'
theorem QOD(M:Mk X.K C f)(F:FnOk X.prog X.w X.K X.mg X.base CX k f fd ps sp)(hr:Room (k+1) X.A)(hg:Gl X x)(hm:X.mg x=some (.ref C))(hb:Binds X.K fd ps ds)(hd:Vals dvs ds)(hx:QhG CX X E)
 (ha:PA X (e::es) t) (hdb:‹"f"›:=by decide) (he:‹"l"›:=by rfl) (hpl:(backTo pos (starEach es X.env)).any (·.1)=false:=by rfl):
 PE X ‹"F"› (tMake C sp dvs E t):=by
 intro pins s σ H Q I h
 refine wpAny_Call_Name_kw (Qyo I hg hm ?_ hdb)
 refine PySem.W.callWith_K (h₀:=X.base) I.ok.mod.kin M.kp (thn (ha pos pins s σ H _ I h) fun us s1 ⟨vs,H1,I1,r,q⟩=>⟨I1.kIn,?_⟩) he hpl
 exact QMj M F hr hb hd hx I1 r q
end
section
variable{X:Cx}{CX:CXT}{k:Nat}{f C:Addr}{fd:FuncData}{ps ks:List Str}{sp:Sp}{E:XK}{x m:Str}{p pos apos kpos:Pos}{e o:Expr}{es:List Expr}{kws:List Keyword}{te ta:TE}{t tk:TA}{nm:Option Str}
variable{g:List Value->List Value->List Value}{gV:List V->List V->List V}
end
structure Qr(N P:List Str)(sc:Scope):Prop where
 kind:sc.kind=.function
 co:sc.isCoroutine=false
 gen:sc.isGenerator=false
 nd:N.Nodup
 pre:N.take P.length=P
 par:∀ x∈P,sc.names.lookup x=some .local∨sc.names.lookup x=some .cell
 nofree:∀ y∈sc.names,y.2≠.free
theorem QzI{kindOf:Str->Option NameKind}{x:Str}:∀{binds:List (Str×Value)}{m:‹"Y"›},(∀ v,(x,v)∉binds)->bindL kindOf binds m x=m x
 | [],_,_=>rfl
 | (n,v)::r,m,h=>by
  unfold bindL
  rw[QzI fun w hw=>h w (List.mem_cons_of_mem _ hw)]
  split
  ·have:x≠n:=by rintro rfl;exact h v List.mem_cons_self
   simp[this]
  ·rfl
theorem QzE{kindOf:Str->Option NameKind}{x:Str}:∀{binds:List (Str×Value)}{m:‹"Y"›},(∀ v,(x,v)∉binds)->bindC kindOf binds m x=m x
 | [],_,_=>rfl
 | (n,v)::r,m,h=>by
  unfold bindC
  rw[QzE fun w hw=>h w (List.mem_cons_of_mem _ hw)]
  split
  ·rfl
  ·have:x≠n:=by rintro rfl;exact h v List.mem_cons_self
   simp[this]
theorem Qz8{kindOf:Str->Option NameKind}{x:Str}{v:Value}:∀{P:List Str}{vs:List Value}{i:Nat}{m:‹"Y"›},P.Nodup->P[i]?=some x->vs[i]?=some v->kindOf x=some .local->
 bindL kindOf (P.zip vs) m x=some v
 | [],_,_,_,_,h,_,_=>by simp at h
 | _::_,[],_,_,_,_,h,_=>by simp at h
 | p::P,w::vs,0,m,nd,h1,h2,hk=>by
  simp at h1 h2;subst h1;subst h2
  show bindL kindOf ((p,w)::P.zip vs) m p=_
  unfold bindL
  rw[QzI fun v hv=>(List.nodup_cons.mp nd).1 (List.of_mem_zip hv).1,if_pos hk]
  simp
 | p::P,w::vs,i+1,m,nd,h1,h2,hk=>by
  show bindL kindOf ((p,w)::P.zip vs) m x=_
  unfold bindL
  exact Qz8 (i:=i) (List.nodup_cons.mp nd).2 (by simpa using h1) (by simpa using h2) hk
theorem QzP{kindOf:Str->Option NameKind}{x:Str}{v:Value}:∀{P:List Str}{vs:List Value}{i:Nat}{m:‹"Y"›},P.Nodup->P[i]?=some x->vs[i]?=some v->kindOf x≠some .local->
 bindC kindOf (P.zip vs) m x=some v
 | [],_,_,_,_,h,_,_=>by simp at h
 | _::_,[],_,_,_,_,h,_=>by simp at h
 | p::P,w::vs,0,m,nd,h1,h2,hk=>by
  simp at h1 h2;subst h1;subst h2
  show bindC kindOf ((p,w)::P.zip vs) m p=_
  unfold bindC
  rw[QzE fun v hv=>(List.nodup_cons.mp nd).1 (List.of_mem_zip hv).1,if_neg hk]
  simp
 | p::P,w::vs,i+1,m,nd,h1,h2,hk=>by
  show bindC kindOf ((p,w)::P.zip vs) m x=_
  unfold bindC
  exact QzP (i:=i) (List.nodup_cons.mp nd).2 (by simpa using h1) (by simpa using h2) hk
def start(N:List Str)(vs:List V):St:=vs.map some++List.replicate (N.length - vs.length) none
def cxOf(CX:CXT)(P:Program)(w:World)(K:PySem.W.Frag)(mg:‹"Y"›)(base:Heap)(N:List Str)(qual:Str)(scope:Scope)(f:Addr)(cd:Value)(A:Around)(outer:List Env)(s:Shared)(H:Hp)(E:XK):Cx where
 prog:=P
 w:=w
 K:=K
 mg:=mg
 base:=base
 A:=A.deeper (envOfC qual scope s.heap.objs.size f cd)
 N:=N
 s₀:=s
 H₀:=H
 env:=envOfC qual scope s.heap.objs.size f cd
 outer:=outer
 stack:=envOfC qual scope s.heap.objs.size f cd::outer
 ex:=[]
 calm:=true
 fn:=fun _=>true
 pn:=[]
 xe:=fun e s'=>wpAny (model P w) (A.deeper (envOfC qual scope s.heap.objs.size f cd)) (leaving (envOfC qual scope s.heap.objs.size f cd) e) (fun _ s''=>CX outer H s E e s'') (fun e' s''=>CX outer H s E e' s'') s'
theorem QD1{sc:Scope}{n:Nat}{x:Str}(h:sc.names.lookup x=some .cell):∃ c,(cellsFrom n sc.names []).lookup x=some c:=by
 have q:=PySem.W.cellsFrom_some sc.names n [] (.inl h)
 exact Option.isSome_iff_exists.mp q
theorem QKv{CX:CXT}{P:Program}{w:World}{K:PySem.W.Frag}{mg:‹"Y"›}{base:Heap}{N ps:List Str}{qual:Str}{scope:Scope}{f:Addr}{cd:Value}{A:Around}{outer:List Env}{s s1:Shared}{H:Hp}{E:XK}{us:List Value}{vs:List V}
 (S:Qr N ps scope) (hd:A.handled=none) (e0:Env0 P w K mg base A outer s H) (hl:vs.length=ps.length) (r:Vals vs us)
 (x:InCallC s s.heap.objs.size (bindL (envOfC qual scope s.heap.objs.size f cd).kindOf (ps.zip us) fun _=>none) (cellsFrom (s.heap.objs.size+1) scope.names []) (bindC (envOfC qual scope s.heap.objs.size f cd).kindOf (ps.zip us) fun _=>none) s1):
 Inv (cxOf CX P w K mg base N qual scope f cd A outer s H E) [] (start N vs) H s1:=by
 have hpl:ps.length<=N.length:=by have:=congrArg List.length S.pre;rw[List.length_take]at this;omega
 obtain⟨h1,tk,rfl,hk⟩:=x.done
 have noA:∀ b:Addr,b∉(cxOf CX P w K mg base N qual scope f cd A outer s H E).ex:=fun b z=>absurd (show b∈([]:List Addr) from z) (by simp)
 refine⟨⟨e0.mod,S.kind,rfl,rfl,Nat.le_refl _,fun y z c h1 h2=>?_,fun y hy=>?_,fun y c _ h=>?_,fun _=>hd,Around.frames_deeper e0.frames,.inr ⟨rfl,rfl⟩,fun b z=>absurd z (noA b),e0.bs,e0.bsz,fun b _ _=>noA b,fun b z=>absurd z (noA b),e0.funs,e0.frf⟩,
  rfl,e0.bare,Un.kept hk,⟨_,x.toInCall.ns,fun i y v h1 h2 h3=>?_⟩,fun y c h=>⟨_,x.cell y c h⟩,e0.hok.fresh ‹"an"›,fun y c h=>?_,fun p hp=>absurd (show p∈([]:List (Addr×Obj)) from hp) (by simp),e0.hok.kept hk,?_⟩
 ·exact name_of_addr x.apart (PySem.mem_of_lookup h1) (PySem.mem_of_lookup h2)
 ·have hy:scope.names.lookup y=some .cell∨scope.names.lookup y=some .free:=hy
  rcases hy with hy | hy
  ·exact QD1 hy
  ·exact absurd rfl (S.nofree _ (PySem.mem_of_lookup hy))
 ·exact Nat.le_of_lt (x.above y c (PySem.mem_of_lookup h))
 ·have hi:i<vs.length:=by
   unfold start at h2
   by_cases hi:i<vs.length
   ·exact hi
   ·rw[List.getElem?_append_right (by simpa using hi)]at h2
    rw[List.getElem?_replicate]at h2
    split at h2<;>cases h2
  have ha:vs[i]?=some v:=by
   unfold start at h2
   rw[List.getElem?_append_left (by simpa using hi),List.getElem?_map]at h2
   cases e:vs[i]? with
   | none=>rw[e]at h2;cases h2
   | some a=>rw[e]at h2;cases h2;rfl
  obtain⟨u,hu,rv⟩:=r.get ha
  have hp:ps[i]?=some y:=by
   rw[← S.pre,List.getElem?_take_of_lt (by omega)];exact h1
  have ndP:ps.Nodup:=by rw[← S.pre];exact S.nd.sublist (List.take_sublist _ _)
  refine⟨u,rv,?_⟩
  rcases S.par y (List.mem_of_getElem? hp) with k | k
  ·exact .inl ⟨k,Qz8 ndP hp hu k⟩
  ·obtain⟨c,e⟩:=QD1 (n:=s.heap.objs.size+1) k
   refine .inr ⟨.inl k,c,e,?_⟩
   have q:=x.cell y c e
   rw[QzP ndP hp hu (by show scope.names.lookup y≠_;rw[k];decide)]at q
   exact q
 ·exact e0.hok.fresh (Nat.le_of_lt (x.above y c (PySem.mem_of_lookup h)))
 ·unfold start
  show _=N.length
  rw[List.length_append,List.length_map,List.length_replicate]
  omega
theorem fn_of{CX:CXT}{P:Program}{w:World}{K:PySem.W.Frag}{mg:‹"Y"›}{base:Heap}{k:Nat}{f:Addr}{name qual:Str}{params:Arguments}{body:List Stmt}{scope:Scope}{dV kV doc pm cdv ct oc:Value}{an od:Option Addr}
 {osl:‹"d"›} {N ps:List Str} {sp:Sp} (lk:K.lookup f=some ⟨oc,od,.func (PySem.W.fnOf name qual params body scope dV kV doc pm an cdv ct),osl⟩) (hcd:PySem.W.codeIn K cdv qual=true) (S:Qr N ps scope)
 (len:∀ vs H Q E,sp vs H Q E->vs.length=ps.length)
 (hbody:∀(A:Around)(outer:List Env)(s:Shared)(H:Hp)(vs:List V)(Q:VK)(E:XK),Room k (A.deeper (envOfC qual scope s.heap.objs.size f cdv))->sp vs H Q E->
  ∃ t,PSs (cxOf CX P w K mg base N qual scope f cdv A outer s H E) body t/\t { nx:=fun _ H'=>Q .non H',rt:=Q } (start N vs) H):
 FnOk P w K mg base CX (k+1) f (PySem.W.fnOf name qual params body scope dV kV doc pm an cdv ct) ps sp:=by
 refine⟨len,fun A outer s H args us vs Q E hr e0 hb r hsp=>?_⟩
 have hl:=len _ _ _ _ hsp
 have KX:K.In s.heap:=e0.mod.kin.keeps fun b o e=>(e0.bs b o e).1
 have lim:s.heap.NoLimit:=e0.mod.nolimit.keeps fun b o e=>(e0.bs b o e).1
 have hkind:∀ y∈ps.zip us,scope.names.lookup y.1=some .local∨(scope.names.lookup y.1=some .cell/\((cellsFrom (s.heap.objs.size+1) scope.names []).lookup y.1).isSome=true):=fun⟨n,v⟩ hy=>by
  rcases S.par n (List.of_mem_zip hy).1 with q | q
  ·exact .inl q
  ·exact .inr ⟨q,PySem.W.cellsFrom_some _ _ _ (.inl q)⟩
 refine codeAny_call_function hr.depth (KX _ _ lk) rfl S.co S.gen rfl (PySem.W.codeRec_of KX hcd) (hb _ _ _ _ ?_)
 refine wpAny_newFunctionEnv_cells S.kind hkind fun env he s1 x=>?_
 subst he
 refine⟨lim.keeps x.toInCall.keep,codeAny_func ?_⟩
 obtain⟨t,ht,hq⟩:=hbody A outer s H vs Q E (hr.deeper _) hsp
 have I:Inv (cxOf CX P w K mg base N qual scope f cdv A outer s H E) [] (start N vs) H s1:=QKv S hr.hd e0 hl r x
 refine wpAny_mono (ht [] s1 (start N vs) H _ I hq) (fun fl s' hs=>?_) fun e s' hs=>hs
 have fin:∀{σ':St}{H':Hp}{v:V}{u:Value},Inv (cxOf CX P w K mg base N qual scope f cdv A outer s H E) [] σ' H' s'->RelV v u->Q v H'->CE outer P w H s Q u s':=
  fun {σ' H' v u} J rv q=>⟨v,H',J.os,J.bare,J.base,J.hok,rv,q⟩
 cases fl with
 | ret u=>
  obtain⟨v,σ',H',J,rv,q⟩:=hs
  exact fin J rv q
 | next=>
  obtain⟨σ',H',J,q⟩:=hs
  exact fin (v:=V.non) (u:=Value.none) J rfl q
 | brk=>
  obtain⟨_,_,_,q⟩:=hs
  exact False.elim q
 | cont=>
  obtain⟨_,_,_,q⟩:=hs
  exact False.elim q
end L2
namespace L2
open PySem PySem.Spec PyProof.Rows
section
variable{X:Cx}{x:Str}{p pos:Pos}{e:Expr}{es:List Expr}{t:TA}{id T:String}{r:List V->Hp->VK->Prop}
def tCB(r:List V->Hp->VK->Prop)(t:TA):TE:=fun σ H Q=>t σ H fun vs H1=>r vs H1 Q
theorem Qu0(hc:CallR X (.builtin id) r)(hg:Gl X x)(hm:X.mg x=none)(hv:bootBuiltins x=some (.builtin id))(ha:PA X (e::es) t)(hn:x≠"__name__":=by decide)(hdb:‹"f"›:=by decide)
 (he:‹"l"›:=by rfl) (hpl:(backTo pos (starEach es X.env)).any (·.1)=false:=by rfl):PE X ‹"F"› (tCB r t):=by
 intro pins s σ H Q I h
 refine wpAny_Call_Name_kw (QjE I hg hm hv ?_ hn hdb)
 exact PyProof.Rows.callWith_builtin1 (thn (ha pos pins s σ H _ I h) fun us s1 ⟨vs,H1,I1,r1,q1⟩=>hc pins s1 σ H1 vs us Q I1 r1 q1) he hpl
theorem QzO(hc:CallR X (.type T) r)(hg:Gl X x)(hm:X.mg x=none)(hv:bootBuiltins x=some (.type T))(ha:PA X (e::es) t)(hn:x≠"__name__":=by decide)(hdb:‹"f"›:=by decide)
 (he:‹"l"›:=by rfl) (hpl:(backTo pos (starEach es X.env)).any (·.1)=false:=by rfl):PE X ‹"F"› (tCB r t):=by
 intro pins s σ H Q I h
 refine wpAny_Call_Name_kw (QjE I hg hm hv ?_ hn hdb)
 exact PyProof.Rows.callWith_type1 (thn (ha pos pins s σ H _ I h) fun us s1 ⟨vs,H1,I1,r1,q1⟩=>hc pins s1 σ H1 vs us Q I1 r1 q1) he hpl
end
end L2
namespace HT
open PySem PyProof.Rows
section
open PySem.SeqAt
open PySem.AutoSeq1 (wpAny_loadPart')
open PySem.MeetsSeq PySem.MeetsSeq2 PySem.MeetsSeq3
end
section
variable{prog:Program}{w:World}{A:Around}{E:Value->Shared->Prop}{s:Shared}
def sIx(n d:Nat):Option Int->Nat
 | none=>d
 | some v=>if v<0 then(v+(n:Int)).toNat else min v.toNat n
theorem sIx_nat(n d k:Nat):sIx n d (some (k:Int))=min k n:=by
 show(if (k:Int)<0 then((k:Int)+(n:Int)).toNat else min (k:Int).toNat n)=min k n
 rw[if_neg (by omega),Int.toNat_natCast]
end
end HT
namespace L2
open PySem PySem.Spec PyProof.Rows
abbrev TO:=St->Hp->(Option Int->Hp->Prop)->Prop
def PO(X:Cx)(e:Option Expr)(t:TO):Prop:=
 ∀(pins:‹"r"›)(s:Shared)(σ:St)(H:Hp)(Q:Option Int->Hp->Prop),Inv X pins σ H s->t σ H Q->
  wpAny ‹"j"› X.A (evalPart e X.env) (fun u s'=>∃ o H',Inv X pins σ H' s'/\IsPart u o/\Q o H') X.xe s
def tPart(t:TE):TO:=fun σ H Q=>t σ H fun x H1=>∃ i,x=.int i/\Q (some i) H1
section
variable{X:Cx}{e:Expr}{te:TE}{lo hi:Option Expr}{tl th:TO}{pos p2:Pos}
theorem QNN(h:PE X e te):PO X (some e) (tPart te):=by
 intro pins s σ H Q I hw
 rw[evalPart_some]
 refine thn (h pins s σ H _ I hw) fun u s1 ⟨x,H1,I1,r1,q1⟩=>?_
 obtain⟨i,rfl,q⟩:=q1
 obtain⟨t,rfl⟩:=r1
 exact⟨some i,H1,I1,.int i t,q⟩
def SlR(X:Cx)(r:V->Option Int->Option Int->Hp->VK->Prop):Prop:=
 ∀(pins:‹"r"›)(s:Shared)(σ:St)(H:Hp)(x:V)(v vl vu:Value)(lo hi:Option Int)(sl:Addr)(Q:VK),Inv X pins σ H s->RelV x v->s.heap.IsSliceOf sl vl vu .none->IsPart vl lo->IsPart vu hi->r x lo hi H Q->
  ∃ T id,typeLookup (.type T) "__getitem__"=pure (some (.builtin id))/\s.TypeIs v T/\wpAny ‹"j"› X.A (getItem v (.ref sl)) (EP X pins σ Q) X.xe s
def tSl(r:V->Option Int->Option Int->Hp->VK->Prop)(te:TE)(tl th:TO):TE:=fun σ H Q=>te σ H fun x H1=>tl σ H1 fun l H2=>th σ H2 fun u H3=>r x l u H3 Q
theorem QMt{r:V->Option Int->Option Int->Hp->VK->Prop}(hr:SlR X r)(he:PE X e te)(hl:PO X lo tl)(hu:PO X hi th):PE X (.Subscript e (.Slice lo hi none p2) pos) (tSl r te tl th):=by
 intro pins s σ H Q I h
 refine Subscript_ (thn (he pins s σ H _ I h) fun v s1 ⟨x,H1,I1,r1,q1⟩=>?_)
 refine wpAny_Slice (thn (hl pins s1 σ H1 _ I1 q1) fun vl s2 ⟨l,H2,I2,pl,q2⟩=>thn (hu pins s2 σ H2 _ I2 q2) fun vu s3 ⟨u,H3,I3,pu,q3⟩=>?_)
 rw[evalPart_none]
 refine wpAny_pure ?_
 have I4:Inv X pins σ H3 { s3 with heap:=s3.heap.push { cls:=.type "slice",data:=.fields #[vl,vu,.none] } }:=I3.kept (t':=s3.toks) fun b ob q=>Heap.get?_push_of_some _ q
 obtain⟨T,id,hT,ht,hg⟩:=hr pins { s3 with heap:=s3.heap.push { cls:=.type "slice",data:=.fields #[vl,vu,.none] } } σ H3 x v vl vu l u s3.heap.objs.size Q I4 r1 (Heap.IsSliceOf.new ..) pl pu q3
 show wpAny ‹"j"› X.A (subscriptTail e (.Slice lo hi none p2) v (.ref s3.heap.objs.size)) (EP X pins σ Q) X.xe { s3 with heap:=s3.heap.push { cls:=.type "slice",data:=.fields #[vl,vu,.none] } }
 exact tail_any (ops:=[.ref s3.heap.objs.size,v]) ht hT hg (by with_unfolding_all rfl)
def cutV(xs:List V)(lo hi:Option Int):List V:=(xs.drop (HT.sIx xs.length 0 lo)).take (HT.sIx xs.length xs.length hi - HT.sIx xs.length 0 lo)
theorem QFB(xs:List V)(lo hi:Option Int):(cutV xs lo hi).length<=xs.length:=by
 unfold cutV
 rw[List.length_take,List.length_drop]
 omega
end
end L2
namespace L2
open PySem PySem.Spec PyProof.Rows
def ixN(n:Nat)(i:Int):Option Nat:=if 0<=i then(if i<n then some i.toNat else none) else if -(n:Int)<=i then some (i+n).toNat else none
def atI{α:Type}(xs:List α)(i:Int):Option α:=(ixN xs.length i).bind fun j=>xs[j]?
theorem QH4{n:Nat}{i:Int}{j:Nat}(h:ixN n i=some j):seqIndex? i n=some j/\j<n /\ -(n:Int)<=i/\i<n:=by
 unfold ixN at h
 by_cases h0:0<=i
 ·rw[if_pos h0]at h
  by_cases h1:i<n
  ·rw[if_pos h1]at h
   have e:i.toNat=j:=Option.some.inj h
   exact⟨by rw[seqIndex_of h0 h1,e],by omega,by omega,h1⟩
  ·rw[if_neg h1]at h;cases h
 ·rw[if_neg h0]at h
  by_cases h1 : -(n:Int)<=i
  ·rw[if_pos h1]at h
   have e:(i+n).toNat=j:=Option.some.inj h
   exact⟨by rw[seqIndex_neg (by omega) h1,e],by omega,h1,by omega⟩
  ·rw[if_neg h1]at h;cases h
theorem QyZ{α:Type}{xs:List α}{i:Int}{v:α}(h:atI xs i=some v):∃ j,seqIndex? i xs.length=some j/\xs[j]?=some v/\j<xs.length /\ -(xs.length:Int)<=i/\i<xs.length:=by
 unfold atI at h
 cases e:ixN xs.length i with
 | none=>rw[e]at h;cases h
 | some j=>
  rw[e]at h
  obtain⟨h1,h2,h3,h4⟩:=QH4 e
  exact⟨j,h1,h,h2,h3,h4⟩
theorem Qyx{α:Type}{xs:List α}{j:Nat}{v:α}(h:xs[j]?=some v):atI xs (j:Int)=some v:=by
 have hj:j<xs.length:=(List.getElem?_eq_some_iff.mp h).1
 have e:ixN xs.length (j:Int)=some j:=by
  unfold ixN
  rw[if_pos (by omega),if_pos (by omega)];simp
 unfold atI;rw[e];exact h
def QtC(b:Expr):Prop:=∀ o i,subscripted b false o i=operate [o,i] (getItem o i)
def IxR(X:Cx)(r:R2):Prop:=
 ∀(value slice:Expr)(pins:‹"r"›)(s:Shared)(σ:St)(H:Hp)(x y:V)(v u:Value)(Q:VK),Inv X pins σ H s->RelV x v->RelV y u->r x y H Q->
  subscripted slice false v u=operate [v,u] (getItem v u)->wpAny ‹"j"› X.A (subscriptTail value slice v u) (EP X pins σ Q) X.xe s
def MtR(X:Cx)(id:String)(r:V->List V->Hp->VK->Prop):Prop:=
 ∀(pins:‹"r"›)(s:Shared)(σ:St)(H:Hp)(x:V)(xs:List V)(v:Value)(us:List Value)(Q:VK),Inv X pins σ H s->RelV x v->Vals xs us->r x xs H Q->
  wpAny ‹"j"› X.A (call (.builtin id) (v::us)) (EP X pins σ Q) X.xe s
section
variable{X:Cx}{a b:Expr}{ta tb:TE}{pos:Pos}
theorem IxR.or{r r':R2}(h:IxR X r)(h':IxR X r'):IxR X (fun x y H Q=>r x y H Q∨r' x y H Q):=by
 intro value slice pins s σ H x y v u Q I rx ry q hs
 rcases q with q | q
 ·exact h value slice pins s σ H x y v u Q I rx ry q hs
 ·exact h' value slice pins s σ H x y v u Q I rx ry q hs
theorem pe_ix{r:R2}(hr:IxR X r)(ha:PE X a ta)(hb:PE X b tb)(hs:QtC b):PE X (.Subscript a b pos) (tOp r ta tb):=by
 intro pins s σ H Q I h
 exact Subscript_ (binT ha hb I h fun v u s2 x y H2 I2 rx ry q=>hr a b pins s2 σ H2 x y v u Q I2 rx ry q (hs _ _))
def rIxL(K:PySem.W.Frag):R2:=fun x y H Q=>∃ p xs i v,x=.ref p/\y=.int i/\SqL K H p xs/\atI xs i=some v/\Q v H
def rIxT(K:PySem.W.Frag):R2:=fun x y H Q=>∃ p xs i v,x=.ref p/\y=.int i/\SqT K H p xs/\atI xs i=some v/\Q v H
def rIxS:R2:=fun x y H Q=>∃ z i c,x=.str z/\y=.int i/\z.length<=sizeLine/\atI z.cps.toList i=some c/\Q (.str ⟨#[c]⟩) H
theorem QN4:IxR X (rIxL X.K):=by
 intro value slice pins s σ H x y v u Q I rx ry h hs
 obtain⟨p,xs,i,z,rfl,rfl,hq,he,q⟩:=h
 cases rx
 obtain⟨t,rfl⟩:=ry
 obtain⟨its,r,pl,hz⟩:=I.list hq
 obtain⟨j,h1,h2,h3,h4,h5⟩:=QyZ he
 obtain⟨w,ew,rw'⟩:=r.get h2
 have hl:=r.length
 have hn:=Qo3
 have fin:EP X pins σ Q w s:=⟨z,H,I,rw',q⟩
 by_cases h0:0<=i
 ·have hj:i.toNat=j:=by
   rw[seqIndex_of h0 h5]at h1
   exact Option.some.inj h1
  exact item_listR pl.isList h0 (by omega) (by rw[hj];simpa using ew) fin hs
 ·have hj:(i+(its.toArray.size:Int)).toNat=j:=by
   rw[seqIndex_neg (by omega) h4]at h1
   rw[List.size_toArray, ← hl]
   exact Option.some.inj h1
  exact subscriptTail_builtinR (x:=w) pl.isList.typeIs slot_list_getitem.lookup
   (wpAny_getItem_list_neg (Q:=fun r s'=>r=w/\EP X pins σ Q r s') pl.isList (by omega) (by rw[List.size_toArray]<;>omega) (by omega) (by rw[hj];simpa using ew) ⟨rfl,fin⟩) hs
theorem QOZ:IxR X (rIxT X.K):=by
 intro value slice pins s σ H x y v u Q I rx ry h hs
 obtain⟨p,xs,i,z,rfl,rfl,hq,he,q⟩:=h
 cases rx
 obtain⟨t,rfl⟩:=ry
 obtain⟨its,r,pl,hz⟩:=I.tuple hq
 obtain⟨j,h1,h2,h3,h4,h5⟩:=QyZ he
 obtain⟨w,ew,rw'⟩:=r.get h2
 have hl:=r.length
 have hn:=Qo3
 have fin:EP X pins σ Q w s:=⟨z,H,I,rw',q⟩
 exact subscriptTail_builtinR (x:=w) pl.typeIs slot_tuple_getitem.lookup
  (getItem_tuple (j:=j) (Q:=fun r s'=>r=w/\EP X pins σ Q r s') pl (by omega) (by omega) (by rw[List.size_toArray, ← hl];exact h1) (by simpa using ew) ⟨rfl,fin⟩) hs
theorem QO5:IxR X rIxS:=by
 intro value slice pins s σ H x y v u Q I rx ry h hs
 obtain⟨z,i,c,rfl,rfl,hz,he,q⟩:=h
 obtain⟨t,rfl⟩:=rx
 obtain⟨t',rfl⟩:=ry
 obtain⟨j,h1,h2,h3,h4,h5⟩:=QyZ he
 have hl:z.cps.toList.length=z.length:=by simp[Str.length]
 rw[hl]at h1 h4 h5
 have hn:=Qo3
 exact tail_any (typeIs_str s z t) slot_str_getitem.lookup (getItem_str (c:=c) (by
  have e1:decide (i < -(2 ^ 63:Int))=false:=decide_eq_false (by omega)
  have e2:decide (i ≥ 2 ^ 63)=false:=decide_eq_false (by omega)
  rw[e1,e2,Bool.or_false]) (by rw[h1];simpa using h2) ⟨.str ⟨#[c]⟩,H,I.tok _,⟨_,rfl⟩,q⟩) hs
def rIx(K:PySem.W.Frag):R2:=fun x y H Q=>rIxL K x y H Q∨rIxT K x y H Q∨rIxS x y H Q
theorem QBP:IxR X (rIx X.K):=QN4.or (QOZ.or QO5)
theorem QI8(its:List Value)(n j:Nat)(u:Value):Obj.mapSeq (·.setIfInBounds j u) { cls:=.type "list",data:=.seq its.toArray n }={ cls:=.type "list",data:=.seq (its.set j u).toArray n }:=by
 simp[Obj.mapSeq]
theorem Inv.lst{pins:‹"r"›}{σ:St}{H:Hp}{s:Shared}{p:Addr}{xs:List V}(I:‹"i"›)(h:H p=some (.lst xs)):
 ∃(its:List Value)(n:Nat),Vals xs its/\s.heap.get? p=some { cls:=.type "list",data:=.seq its.toArray n }/\xs.length<=sizeLine:=by
 obtain⟨z,its,n,r,e⟩:=I.hok p _ h
 exact⟨its,n,r,e,z⟩
theorem Inv.lstUpd{pins:‹"r"›}{σ:St}{H:Hp}{s:Shared}{p:Addr}{xs ys:List V}{its its':List Value}{n n':Nat}{f:Obj->Obj}(I:‹"i"›)(h:H p=some (.lst xs))
 (ho:s.heap.get? p=some { cls:=.type "list",data:=.seq its.toArray n }) (hf:f { cls:=.type "list",data:=.seq its.toArray n }={ cls:=.type "list",data:=.seq its'.toArray n' }) (r:Vals ys its') (hz:ys.length<=sizeLine) (t:Nat):
 Inv X pins σ (upd H p (.lst ys)) { s with heap:=s.heap.update p f,toks:=t }:=by
 have e:(s.heap.update p f).get? p=some { cls:=.type "list",data:=.seq its'.toArray n' }:=by
  rw[Heap.get?_update_self f ho (by rw[hf]<;>rfl),hf]
 refine I.write (x:=p) (e:=p) (by rw[h];trivial) (.inl rfl) (fun b u hb q=>(Heap.get?_update_other _ _ (Ne.symm hb)).trans q) ⟨_,e⟩ ?_
 exact⟨hz,its',n',r,e⟩
def rSetL:V->V->V->Hp->(Hp->Prop)->Prop:=fun o i v H Q=>∃ p xs k j,o=.ref p/\i=.int k/\H p=some (.lst xs)/\ixN xs.length k=some j/\Q (upd H p (.lst (xs.set j v)))
theorem QEQ:PSet X rSetL:=by
 intro pins s σ H o i v ov iv u Q I ro ri rv h
 obtain⟨p,xs,k,j,rfl,rfl,hp,hj,q⟩:=h
 cases ro
 obtain⟨t,rfl⟩:=ri
 obtain⟨its,n,r,ho,hz⟩:=I.lst hp
 obtain⟨h1,h2,h3,h4⟩:=QH4 hj
 have hl:=r.length
 have hn:=Qo3
 have I':Inv X pins σ (upd H p (.lst (xs.set j v))) { s with heap:=s.heap.update p (Obj.mapSeq (·.setIfInBounds j u)) }:=
  I.lstUpd hp ho (QI8 its n j u) (r.set rv j) (by rw[List.length_set];exact hz) s.toks
 by_cases h0:0<=k
 ·have hk:k.toNat=j:=by
   rw[seqIndex_of h0 h4]at h1
   exact Option.some.inj h1
  exact PySem.W.ki_setAt ho h0 (by omega) (by rw[List.size_toArray, ← hl];exact h4) (by rw[hk];exact⟨_,I',q⟩)
 ·have hk:(k+(its.toArray.size:Int)).toNat=j:=by
   rw[seqIndex_neg (by omega) h3]at h1
   rw[List.size_toArray, ← hl]
   exact Option.some.inj h1
  exact PySem.W.ki_setBack ho (by omega) (by rw[List.size_toArray, ← hl];exact h3) (by omega) (by rw[hk];exact⟨_,I',q⟩)
theorem QBO(lo hi:Option Int)(n:Nat):(sliceBounds lo hi none n).1=((HT.sIx n 0 lo:Nat):Int)/\(sliceBounds lo hi none n).2.1=((HT.sIx n n hi:Nat):Int)/\(sliceBounds lo hi none n).2.2=1:=by
 refine⟨?_,?_,rfl⟩
 ·cases lo with
  | none=>simp[sliceBounds,HT.sIx]
  | some i=>
   simp only[sliceBounds,HT.sIx,Option.getD_none,show(1:Int) > 0 by decide,if_true]
   by_cases h:i<0
   ·simp only[h,if_true]<;>omega
   ·simp only[h,if_false]<;>omega
 ·cases hi with
  | none=>simp[sliceBounds,HT.sIx]
  | some i=>
   simp only[sliceBounds,HT.sIx,Option.getD_none,show(1:Int) > 0 by decide,if_true]
   by_cases h:i<0
   ·simp only[h,if_true]<;>omega
   ·simp only[h,if_false]<;>omega
theorem QAH(its:List Value)(lo hi:Option Int):slicePick its.toArray lo hi none=((its.drop (HT.sIx its.length 0 lo)).take (HT.sIx its.length its.length hi - HT.sIx its.length 0 lo)).toArray:=by
 obtain⟨h1,h2,h3⟩:=QBO lo hi its.toArray.size
 unfold slicePick
 rw[h1,h2,h3]
 simp only[sliceRange_one,pick_run,List.size_toArray]<;>rfl
def rSlL(K:PySem.W.Frag):V->Option Int->Option Int->Hp->VK->Prop:=fun x lo hi H Q=>∃ a xs,x=.ref a/\SqL K H a xs/\∀ p,H p=none->Q (.ref p) (upd H p (.lst (cutV xs lo hi)))
theorem QNL:SlR X (rSlL X.K):=by
 intro pins s σ H x v vl vu lo hi sl Q I rx hs pl pu h
 obtain⟨a,xs,rfl,hx,q⟩:=h
 cases rx
 obtain⟨its,r,ht,hz⟩:=I.list hx
 have hlen:=r.length
 refine⟨"list",_,slot_list_getitem.lookup,ht.isList.typeIs,?_⟩
 refine wpAny_getItem_list_slice ht.isList hs pl pu .none (by simp) ?_ (by rw[List.size_toArray]<;>omega)
 rw[QAH, ← hlen]
 refine⟨.ref s.heap.objs.size,_,I.laid (t':=s.toks) (o:=.lst (cutV xs lo hi)) (fun b ob q=>Heap.get?_push_of_some _ q) ‹"an"› ?_,rfl,q _ (I.hok.fresh ‹"an"›)⟩
 exact⟨Nat.le_trans (QFB xs lo hi) hz,_,0,(r.drop (HT.sIx xs.length 0 lo)).take (HT.sIx xs.length xs.length hi - HT.sIx xs.length 0 lo),Heap.get?_push_size _ rfl⟩
def flatV:V->Bool
 | .non=>true
 | .bl _=>true
 | .int _=>true
 | .str _=>true
 | _=>false
def eqV:V->V->Bool
 | .non,.non=>true
 | .bl a,.bl b=>a == b
 | .bl a,.int b=>(if a then 1 else 0) == b
 | .int a,.bl b=>a == (if b then 1 else 0)
 | .int a,.int b=>a == b
 | .str a,.str b=>a == b
 | _,_=>false
theorem QPZ{A:Around}{s:Shared}{y x:V}{u v:Value}(ry:RelV y u)(rx:RelV x v)(fy:flatV y=true)(fx:flatV x=true):SeqAt.EqAt A s u v (eqV y x):=by
 cases y with
 | non=>
  cases ry
  cases x with
  | non=>cases rx;exact SeqAt.EqAt.same _
  | bl b=>cases rx;exact SeqAt.EqAt.none_bool b
  | int b=>obtain⟨t,rfl⟩:=rx;exact SeqAt.EqAt.none_int b t
  | str b=>obtain⟨t,rfl⟩:=rx;exact SeqAt.EqAt.none_str b t
  | _=>exact absurd (show false=true from fx) Bool.false_ne_true
 | bl a=>
  cases ry
  cases x with
  | non=>cases rx;exact SeqAt.EqAt.bool_none a
  | bl b=>cases rx;exact SeqAt.EqAt.bool_bool a b
  | int b=>obtain⟨t,rfl⟩:=rx;exact SeqAt.EqAt.bool_int a b t
  | str b=>obtain⟨t,rfl⟩:=rx;exact SeqAt.EqAt.bool_str a b t
  | _=>exact absurd (show false=true from fx) Bool.false_ne_true
 | int a=>
  obtain⟨t',rfl⟩:=ry
  cases x with
  | non=>cases rx;exact SeqAt.EqAt.int_none a t'
  | bl b=>cases rx;exact SeqAt.EqAt.int_bool a t' b
  | int b=>obtain⟨t,rfl⟩:=rx;exact SeqAt.EqAt.int_int a t' b t
  | str b=>obtain⟨t,rfl⟩:=rx;exact SeqAt.EqAt.int_str a t' b t
  | _=>exact absurd (show false=true from fx) Bool.false_ne_true
 | str a=>
  obtain⟨t',rfl⟩:=ry
  cases x with
  | non=>cases rx;exact SeqAt.EqAt.str_none a t'
  | bl b=>cases rx;exact SeqAt.EqAt.str_bool a t' b
  | int b=>obtain⟨t,rfl⟩:=rx;exact SeqAt.EqAt.str_int a t' b t
  | str b=>obtain⟨t,rfl⟩:=rx;exact SeqAt.EqAt.str_str a t' b t
  | _=>exact absurd (show false=true from fx) Bool.false_ne_true
 | _=>exact absurd (show false=true from fy) Bool.false_ne_true
def eqU(x:V)(u:Value):Bool:=match u with
 | .none=>eqV .non x
 | .bool b=>eqV (.bl b) x
 | .int i _=>eqV (.int i) x
 | .str z _=>eqV (.str z) x
 | _=>false
theorem QKk{x y:V}{u:Value}(r:RelV y u)(f:flatV y=true):eqU x u=eqV y x:=by
 cases y with
 | non=>cases r;rfl
 | bl b=>cases r;rfl
 | int i=>obtain⟨t,rfl⟩:=r;rfl
 | str z=>obtain⟨t,rfl⟩:=r;rfl
 | _=>exact absurd (show false=true from f) Bool.false_ne_true
theorem Qys{x:V}:∀{xs:List V}{us:List Value},Vals xs us->xs.all flatV=true->us.any (eqU x)=xs.any fun y=>eqV y x
 | _,_,.nil,_=>rfl
 | y::xs,u::us,.cons r t,f=>by
  rw[List.all_cons,Bool.and_eq_true]at f
  rw[List.any_cons,List.any_cons,QKk r f.1,Qys t f.2]
theorem Qu5{A:Around}{s:Shared}{x:V}{v:Value}(rx:RelV x v)(fx:flatV x=true):∀{xs:List V}{us:List Value},Vals xs us->xs.all flatV=true->∀ u∈us,SeqAt.EqAt A s u v (eqU x u)
 | _,_,.nil,_=>fun u hu=>by cases hu
 | y::xs,u::us,.cons r t,f=>fun u' hu=>by
  rw[List.all_cons,Bool.and_eq_true]at f
  rcases List.mem_cons.mp hu with rfl | hu
  ·rw[QKk r f.1];exact QPZ r rx f.1 fx
  ·exact Qu5 rx fx t f.2 u' hu
def inV(x:V)(xs:List V):Bool:=xs.any fun y=>eqV y x
def rIn(K:PySem.W.Frag)(neg:Bool):R2:=fun x y H Q=>∃ p xs,y=.ref p/\(SqL K H p xs∨SqT K H p xs)/\flatV x=true/\xs.all flatV=true/\Q (.bl (if neg then !inV x xs else inV x xs)) H
theorem QLs:OpR X (compareOp .In) (rIn X.K false):=by
 intro pins s σ H x y v u Q I rx ry h
 obtain⟨p,xs,rfl,hq,fx,fs,q⟩:=h
 cases ry
 rcases hq with hq | hq
 ·obtain⟨its,r,pl,hz⟩:=I.list hq
  refine SeqAt.in_listAt (eqU x) pl.isList (fun w hw=>Qu5 rx fx r fs w (by simpa using hw)) ⟨.bl _,H,I,rfl,?_⟩
  rw[show its.toArray.any (eqU x)=its.any (eqU x) by simp,Qys r fs]
  exact q
 ·obtain⟨its,r,pl,hz⟩:=I.tuple hq
  refine SeqAt.in_tupleAt (eqU x) pl (fun w hw=>Qu5 rx fx r fs w (by simpa using hw)) ⟨.bl _,H,I,rfl,?_⟩
  rw[show its.toArray.any (eqU x)=its.any (eqU x) by simp,Qys r fs]
  exact q
theorem QDN:CallR X (.builtin "len") (fun xs H Q=>∃ p ys,xs=[.ref p]/\(SqL X.K H p ys∨SqT X.K H p ys)/\Q (.int ys.length) H):=by
 intro pins s σ H xs us Q I r h
 obtain⟨p,ys,rfl,hq,q⟩:=h
 obtain⟨u,rfl,rx⟩:=vals1 r
 cases rx
 have hn:=Qo3
 rcases hq with hq | hq
 ·obtain⟨its,r',pl,hz⟩:=I.list hq
  have hlen:=r'.length
  exact Calls.call_len_list pl.isList (by simp only[List.size_toArray]<;>omega) ⟨.int ys.length,H,I.tok _,⟨s.toks+1,by rw[List.size_toArray,hlen]⟩,q⟩
 ·obtain⟨its,r',pl,hz⟩:=I.tuple hq
  have hlen:=r'.length
  exact len_tuple pl (by simp only[List.size_toArray]<;>omega) ⟨.int ys.length,H,I.tok _,⟨s.toks+1,by rw[List.size_toArray,hlen]⟩,q⟩
theorem QDi:CallR X (.builtin "len") (fun xs H Q=>∃ z,xs=[.str z]/\z.length<=sizeLine/\Q (.int z.length) H):=by
 intro pins s σ H xs us Q I r h
 obtain⟨z,rfl,hz,q⟩:=h
 obtain⟨u,rfl,t,rfl⟩:=vals1 r
 have hn:=Qo3
 exact len_str (by omega) ⟨.int z.length,H,I.tok _,⟨_,rfl⟩,q⟩
theorem CallR.or{f:Value}{r r':List V->Hp->VK->Prop}(h:CallR X f r)(h':CallR X f r'):CallR X f (fun xs H Q=>r xs H Q∨r' xs H Q):=by
 intro pins s σ H xs us Q I rs q
 rcases q with q | q
 ·exact h pins s σ H xs us Q I rs q
 ·exact h' pins s σ H xs us Q I rs q
theorem QEW:CallR X (.type "list") (fun xs H Q=>∃ p ys,xs=[.ref p]/\(SqL X.K H p ys∨SqT X.K H p ys)/\∀ l,H l=none->Q (.ref l) (upd H l (.lst ys))):=by
 intro pins s σ H xs us Q I r h
 obtain⟨p,ys,rfl,hq,q⟩:=h
 obtain⟨u,rfl,rx⟩:=vals1 r
 cases rx
 have fin:∀(its:List Value),Vals ys its->ys.length<=sizeLine->∀(h':Heap)(c':Nat),(∀ b o',s.heap.get? b=some o'->h'.get? b=some o')->
  h'.get? s.heap.objs.size=some { cls:=.type "list",dict:=none,data:=.seq its.toArray c',slots := #[] }->EP X pins σ Q (.ref s.heap.objs.size) { s with heap:=h' }:=fun its r' hz h' c' kp e=>
  ⟨.ref s.heap.objs.size,_,I.laid (t':=s.toks) kp ‹"an"› (show ObjOk X.prog X.w _ h' _ (.lst ys) from⟨hz,its,c',r',e⟩),rfl,q _ (I.hok.fresh ‹"an"›)⟩
 rcases hq with hq | hq
 ·obtain⟨its,r',pl,hz⟩:=I.list hq
  have hlen:=r'.length
  obtain⟨o,ho,hc,n,hd⟩:=pl.isList
  exact call_list_seq p (.inl rfl) ho hc hd (fun h' c' kp e=>fin its r' hz h' c' kp e) (by simp only[List.size_toArray]<;>omega)
 ·obtain⟨its,r',pl,hz⟩:=I.tuple hq
  have hlen:=r'.length
  obtain⟨o,ho,hc,n,hd⟩:=pl
  exact call_list_seq p (.inr rfl) ho hc hd (fun h' c' kp e=>fin its r' hz h' c' kp e) (by simp only[List.size_toArray]<;>omega)
def tyV(K:PySem.W.Frag)(T:String)(x:V)(H:Hp):Prop:=match x with
 | .str _=>T="str"
 | .int _=>T="int"
 | .ref p=>(T="list"/\∃ xs,SqL K H p xs)∨(T="tuple"/\∃ o,K.lookup p=some o/\o.cls=.type "tuple"/\o.dict=none)∨
  (T="dict"/\((∃ kvs,H p=some (.dK kvs))∨∃ kvs,H p=some (.dT kvs)))∨(T="set"/\∃ S n,H p=some (.set S n))
 | _=>False
theorem QPE{pins:‹"r"›}{σ:St}{H:Hp}{s:Shared}{T:String}{x:V}{v:Value}(I:‹"i"›)(r:RelV x v)(ty:tyV X.K T x H):
 s.TypeIs v T/\∀ a,v=.ref a->∃ ob,s.heap.get? a=some ob/\ob.dict=none:=by
 cases x with
 | str z=>
  obtain⟨t,rfl⟩:=r
  cases (show T="str" from ty)
  exact⟨typeIs_str s z t,fun _ e=>nomatch e⟩
 | int i=>
  obtain⟨t,rfl⟩:=r
  cases (show T="int" from ty)
  exact⟨typeIs_int s i t,fun _ e=>nomatch e⟩
 | ref p=>
  cases r
  rcases ty with⟨rfl,xs,hq⟩ | ⟨rfl,o,hk,hc,hd⟩ | ⟨rfl,hk⟩ | ⟨rfl,S,n,hk⟩
  ·obtain⟨its,_,pl,_⟩:=I.list hq
   refine⟨pl.isList.typeIs,fun a e=>?_⟩
   cases e
   obtain⟨o,n,e,c,hd,_⟩:=pl
   exact⟨o,e,hd⟩
  ·refine⟨⟨o,I.kIn p o hk,hc⟩,fun a e=>?_⟩
   cases e
   exact⟨o,I.kIn _ o hk,hd⟩
  ·have z:∃ o,s.heap.get? p=some o/\o.ExactDict:=by
    rcases hk with⟨kvs,hk⟩ | ⟨kvs,hk⟩
    ·obtain⟨_,_,_,_,o,_,_,e,ex,_⟩:=I.hok p _ hk
     exact⟨o,e,ex⟩
    ·obtain⟨_,_,_,_,o,_,_,e,ex,_⟩:=I.hok p _ hk
     exact⟨o,e,ex⟩
   obtain⟨o,e,ex⟩:=z
   refine⟨⟨o,e,ex.1⟩,fun a e2=>?_⟩
   cases e2
   exact⟨o,e,ex.2.1⟩
  ·obtain⟨o,_,_,_,e,ex,_⟩:=I.hok p _ hk
   refine⟨⟨o,e,ex.1⟩,fun a e2=>?_⟩
   cases e2
   exact⟨o,e,ex.2.1⟩
 | _=>exact False.elim ty
def tBM(K:PySem.W.Frag)(T:String)(r:V->List V->Hp->VK->Prop)(to:TE)(t:TA):TE:=fun σ H Q=>to σ H fun x H1=>tyV K T x H1/\t σ H1 fun xs H2=>r x xs H2 Q
variable{o e:Expr}{es:List Expr}{to:TE}{t:TA}{name:Str}{apos cpos:Pos}{T id:String}{r:V->List V->Hp->VK->Prop}
theorem pe_bm(pa:PlainAttrs T)(slot:Slot T name id)(hty:typeOf (.builtin id)=pure (.type "method_descriptor"))(hm:MtR X id r)(ho:PE X o to)(ha:PA X (e::es) t)
 (hbase:attributeBase o name X.env (eval o X.env)=eval o X.env:=by rfl)
 (hfew:((backTo cpos (starEach (e::es) X.env)).all (fun x => !x.1)&&(backToKw cpos (keywordEach [] X.env)).all (fun x=>x.1.isSome)
  && decide ((e::es).length+([]:List Keyword).length+(if ([]:List Keyword).isEmpty then 0 else 1)<30))=true:=by rfl)
 (hline:(apos.endLine == cpos.line)=true:=by rfl) (hs:‹"l"›:=by rfl) (hplain:(backTo cpos (starEach es X.env)).any (·.1)=false:=by rfl):
 PE X (.Call (.Attribute o name apos) (e::es) [] cpos) (tBM X.K T r to t):=by
 intro pins s σ H Q I h
 refine wpAny_Call_method_late hbase hfew hline rfl (thn (ho pins s σ H _ I h) fun v s1 ⟨x,H1,I1,r1,ty,q1⟩=>?_)
 obtain⟨h1,h2⟩:=QPE I1 r1 ty
 refine⟨T,id,pa,slot,hty,h1,h2,?_⟩
 have hA:=ha cpos pins s1 σ H1 _ I1 q1
 rw[hs]at hA ⊢
 refine Calls.callWith_builtin (by show(false||(backTo cpos (starEach es X.env)).any (·.1))=false;rw[hplain]<;>rfl) (Calls.evalArgs_plain ?_)
 exact thn hA fun us s2 ⟨vs,H2,I2,r2,q2⟩=>hm pins s2 σ H2 x vs v us Q I2 r1 r2 q2
end
end L2
namespace L2
open PySem PySem.Spec PyProof.Rows
def MtM(X:Cx)(id:String)(r:V->List V->Hp->VK->Prop):Prop:=
 ∀(pins:‹"r"›)(s:Shared)(σ:St)(H:Hp)(x:V)(xs:List V)(v:Value)(us:List Value)(Q:VK),Inv X pins σ H s->RelV x v->Vals xs us->r x xs H Q->
  wpAny ‹"j"› X.A (call (.builtin id) (v::us)) (EP X pins σ Q) X.xe s
theorem Vals.one:∀{x:V}{us:List Value},Vals [x] us->∃ u,us=[u]/\RelV x u
 | _,_,.cons r .nil=>⟨_,rfl,r⟩
theorem Vals.rep{xs:List V}{us:List Value}(h:Vals xs us):∀ k:Nat,Vals (List.replicate k xs).flatten (List.replicate k us).flatten
 | 0=>.nil
 | k+1=>by
  rw[List.replicate_succ,List.replicate_succ,List.flatten_cons,List.flatten_cons]
  exact Vals.append h (Vals.rep h k)
theorem Qzz(its:List Value):∀(k:Nat)(acc:List Value),
 List.foldl (fun x1 x2=>x1++x2) acc.toArray (List.replicate k its.toArray)=(acc++(List.replicate k its).flatten).toArray
 | 0,acc=>by simp
 | k+1,acc=>by
  have e:acc.toArray++its.toArray=(acc++its).toArray:=by simp
  have e2:(acc++its)++(List.replicate k its).flatten=acc++(List.replicate (k+1) its).flatten:=by
   rw[List.replicate_succ,List.flatten_cons,List.append_assoc]
  rw[← e2, ← Qzz its k (acc++its), ← e,List.replicate_succ,List.foldl_cons]
section
variable{X:Cx}{pins:List (Addr×Obj)}{σ:St}{H:Hp}{s:Shared}{l b:Addr}{xs ys zs:List V}
theorem Inv.lset{its its':List Value}{n:Nat}{f:Array Value->Array Value}{t':Nat}(I:‹"i"›)(hH:H l=some (.lst xs))
 (e:s.heap.get? l=some { cls:=.type "list",data:=.seq its.toArray n }) (hf:f its.toArray=its'.toArray) (hv:Vals ys its') (hz:ys.length<=sizeLine):
 Inv X pins σ (upd H l (.lst ys)) { s with heap:=s.heap.update l (Obj.mapSeq f),toks:=t' }:=by
 have q:=PySem.IsL.update e f
 rw[hf]at q
 refine I.write (x:=l) (e:=l) (by rw[hH];exact trivial) (.inl rfl) (fun b' u hb hu=>(Heap.get?_update_other s.heap (Obj.mapSeq f) (Ne.symm hb)).trans hu) ⟨_,q⟩ ?_
 exact⟨hz,its',_,hv,q⟩
theorem Inv.lnew{its:List Value}{t':Nat}(I:‹"i"›)(hv:Vals ys its)(hz:ys.length<=sizeLine):
 Inv X pins σ (upd H s.heap.objs.size (.lst ys)) { s with heap:=s.heap.push { cls:=.type "list",data:=.seq its.toArray },toks:=t' }:=
 I.laid (fun _ _ q=>Heap.get?_push_of_some _ q) ‹"an"› ⟨hz,its,0,hv,Heap.get?_push_size _ rfl⟩
theorem Inv.fresh(I:‹"i"›):H s.heap.objs.size=none:=I.hok.fresh ‹"an"›
theorem Inv.lstM(I:‹"i"›)(hH:H l=some (.lst xs)):xs.length<=sizeLine/\∃(its:List Value)(n:Nat),Vals xs its/\xs.length=its.length/\s.heap.get? l=some { cls:=.type "list",data:=.seq its.toArray n }:=by
 obtain⟨z,its,n,r,e⟩:=I.hok l _ hH
 exact⟨z,its,n,r,r.length,e⟩
theorem QNe{n:Nat}(h:n<=sizeLine):Builtin.List.listTooLong n=false:=by
 unfold Builtin.List.listTooLong
 exact decide_eq_false (by omega)
end
section
variable{X:Cx}
def QN9:V->List V->Hp->VK->Prop:=fun x vs H Q=>∃ l xs y,x=.ref l/\vs=[y]/\H l=some (.lst xs)/\xs.length<sizeLine/\Q .non (upd H l (.lst (xs++[y])))
theorem QzT:MtM X "list.append" QN9:=by
 intro pins s σ H x vs v us Q I rx rv h
 obtain⟨l,xs,y,rfl,rfl,hH,hz,q⟩:=h
 cases rx
 obtain⟨u,rfl,ru⟩:=rv.one
 obtain⟨z,its,n,r,hl,e⟩:=I.lstM hH
 refine call_meets F.slot_list_append ⟨_,e,rfl⟩ F.entry_list_append (F.args_list_append_2 _ _) (PySem.list_append l its.toArray n u (by rw[List.size_toArray];omega)) ⟨e,?_⟩
 refine⟨.non,_,I.lset (its':=its++[u]) hH e (by simp) (r.append (.cons ru .nil)) ?_,rfl,q⟩
 rw[List.length_append,List.length_singleton]
 omega
def rRep:R2:=fun x y H Q=>∃ l k xs,x=.ref l/\y=.int k/\H l=some (.lst xs) /\ -(2 ^ 63)<=k/\k<2 ^ 63/\xs.length * k.toNat<=sizeLine/\
 ∀ p,H p=none->Q (.ref p) (upd H p (.lst (List.replicate k.toNat xs).flatten))
theorem QOc{α:Type}(xs:List α)(k:Nat):(List.replicate k xs).flatten.length=k * xs.length:=by
 induction k with
 | zero=>simp
 | succ k ih=>rw[List.replicate_succ,List.flatten_cons,List.length_append,ih,Nat.succ_mul,Nat.add_comm]
theorem QPd:OpR X (binaryOp .Mult) rRep:=by
 intro pins s σ H x y v u Q I rx ry h
 obtain⟨l,k,xs,rfl,rfl,hH,h1,h2,hz,q⟩:=h
 cases rx
 obtain⟨t,rfl⟩:=ry
 obtain⟨z,its,n,r,hl,e⟩:=I.lstM hH
 have hlen:its.toArray.size * k.toNat<=sizeLine:=by rw[List.size_toArray, ← hl];exact hz
 have hcap:¬ its.toArray.size * k.toNat > (2 ^ 63 - 1) / 8:=by
  have:(sizeLine:Nat)<=(2 ^ 63 - 1) / 8:=by decide
  omega
 have hfit:¬ (!Builtin.List.listFitsIndex k)=true:=by
  rw[fitsIndex_both h1 h2]
  exact Bool.false_ne_true
 have hlong:¬ Builtin.List.listTooLong (its.toArray.size * k.toNat)=true:=by
  rw[QNe hlen]
  exact Bool.false_ne_true
 have hnew:List.foldl (fun x1 x2=>x1++x2) #[] (List.replicate (if its.toArray.isEmpty=true then 0 else k.toNat) its.toArray)=(List.replicate k.toNat its).flatten.toArray:=by
  have f0:∀ m:Nat,List.foldl (fun x1 x2=>x1++x2) #[] (List.replicate m its.toArray)=(List.replicate m its).flatten.toArray:=fun m=>by
   have:=Qzz its m []
   rw[List.nil_append]at this
   exact this
  rw[f0]
  cases its with
  | nil=>simp
  | cons a r'=>rw[if_neg (by simp)]
 refine wpAny_binaryOp_repeat_ref (T:="list") (U:="int") (by decide) ⟨_,e,rfl⟩ (fun s'=>typeIs_int s' k t) noFill_list_mul F.fills_int_mul F.slot_int_rmul repeat_list F.slot_int_index.lookup
  (call_meets F.slot_int_rmul (typeIs_int s k t) F.entry_int_rmul (F.args_int_rmul_2 _ _) (int___rmul___int_list k t l its.toArray n)
   ⟨e,rfl,⟨_,e,rfl⟩,call_meets F.slot_list_mul ⟨_,e,rfl⟩ F.entry_list_mul (F.args_list_mul_2 _ _) (AutoListH.list___mul___list_int_3 l its.toArray n k t hfit hcap hlong) ⟨e,?_⟩⟩)
 rw[hnew]
 exact⟨.ref _,_,I.lnew (t':=s.toks) (r.rep k.toNat) (by rw[QOc,Nat.mul_comm];exact hz),rfl,q _ I.fresh⟩
end
section
variable{prog:Program}{w:World}{A:Around}{E:Value->Shared->Prop}{s:Shared}
end
section
variable{X:Cx}
end
end L2
namespace Att
open PySem PySem.W PySem.Calls PyProof.Rows
theorem Qwy{P:Params}{h:Heap}:∀(ns:List Int)(vs:List Value),WellAll P h vs (ns.map WData.int)->IntsAre vs ns:=by
 intro ns
 induction ns with
 | nil=>
  intro vs w
  rw[List.map_nil]at w
  cases w
  exact .nil
 | cons n ns ih=>
  intro vs w
  rw[List.map_cons]at w
  cases w with
  | cons a b=>
   cases a
   exact .cons _ _ (ih _ b)
theorem script_of{l:OpenLaw}{n:Nat}(hn:l.most=some n){P:Params}{h:Heap}{args:List WData}{vals:List Value}
 (hpre:l.row.toRowW.claim.pre args=true) (hwl:WellAll P h vals args):
 ∃ a vs ns,vals=[Value.ref a]/\args=[WData.list (ns.map WData.int)]/\h.get? a=some { cls:=.type "list",data:=.seq vs.toArray }/\IntsAre vs ns/\ns.length<=n:=by
 have hsh:WShape.hasAll [] args [.list .int]=true:=(pre_splitW hpre).1
 have hc:l.pre.holds [] { args:=args }=true:=(pre_splitW hpre).2
 obtain⟨d,r,rfl,h1,h2⟩:=hasAllW_cons hsh
 obtain rfl:=hasAllW_nil h2
 obtain⟨xs,rfl,h3⟩:=hasW_list h1
 obtain⟨ns,rfl⟩:=items_int h3
 have hlen:ns.length<=n:=by
  unfold OpenLaw.pre at hc
  have h4:(WTm.not (.lt (.lit (.int (n:Int))) (.len (.arg 0)))).holds [] { args:=[.list (ns.map .int)] }=true:=by
   have h4:=(holds_andW hc).1
   rw[hn]at h4
   exact h4
  have h5:=condW_of h4 (w_not (w_lt w_lit (w_len_list (w_arg rfl))))
  rw[List.length_map]at h5
  refine Nat.le_of_not_lt fun q=>?_
  have q':(n:Int)<((ns.length:Nat):Int):=by omega
  first
   | (rw[decide_eq_true q']at h5;exact absurd h5 (by decide))
   | (simp at h5;omega)
 cases hwl with
 | cons w1 w2=>
  cases w2
  cases w1 with
  | list ho hall=>exact⟨_,_,ns,rfl,rfl,ho,Qwy ns _ hall,hlen⟩
theorem post_true(l:OpenLaw)(args:List WData):l.row.toRowW.claim.post args (.bool true) args=true:=
 postW_of (r:=l.row.toRowW) (X:=(true == true))
  (show WShape.has [] (.bool true) .bool=true by first | rfl | decide | simp[WShape.has,WShape.arms,WShape.armsAll])
  (show(WTm.eq .res (.lit (.bool true))).value [] { args:=args,res:=some (.bool true),after:=args }=some (.bool (true == true)) from w_eq_bool (w_res rfl) w_lit) rfl
section
variable{prog:Program}{w:World}{A:Around}{E:Value->Shared->Prop}{s:Shared}{K:Frag}
end
end Att
namespace L2
open PySem PySem.Spec PyProof.Rows
theorem Qz0:∀{vs:List Value}{ns:List Int},IntsAre vs ns->Vals (ns.map V.int) vs
 | _,_,.nil=>.nil
 | _,_,.cons n t h=>.cons ⟨t,rfl⟩ (Qz0 h)
def Only(H:Hp):Prop:=∀ b,H b=none∨∃ o xs,H b=some (.frz o (.lst xs))
theorem QMT{P:Program}{w:World}{K:PySem.W.Frag}{mg mb:‹"Y"›}{CX:CXT}{k:Nat}{fa a:Addr}{fd:FuncData}{x:Str}{sp:Sp}{s₁:Shared}{vs:List Value}{ns:List Int}
 (KX:K.In s₁.heap) (hns:s₁.heap.Ns mainGlobals mg) (hb:s₁.heap.Ns builtinsNs mb) (hbb:∀ x:Str,x≠"__name__"->mb x=bootBuiltins x) (hlim:s₁.heap.NoLimit) (hg:s₁.gens = #[])
 (ha:s₁.heap.get? a=some { cls:=.type "list",data:=.seq vs.toArray }) (hi:IntsAre vs ns) (hl:ns.length<=sizeLine) (hr:Room k callerA)
 (F:∀ base:Heap,K.In base->base.Ns mainGlobals mg->FnOk P w K mg base CX k fa fd [x] sp) (hbind:∀(s:Shared)(u:Value),BindsTo s fd ⟨[u],[]⟩ [(x,u)])
 (hsp:∀ H:Hp,Only H->SqL K H a (ns.map V.int)->sp [.ref a] H (fun v _=>v=.bl true) fun _ _ _=>False)
 (hCX:∀ H e s',CX [] H s₁ (fun _ _ _=>False) e s'->False):
 codeAny (model P w) callerA (.call (.ref fa) ⟨[.ref a],[]⟩) (fun r s'=>r=.ok (.ret (.bool true))/\OldK s₁.heap s'.heap/\s'.os=s₁.os/\AllBare s'.gens) s₁:=by
 have rv:=Qz0 hi
 have lenV:=hi.length
 -- from an abstract heap in which nothing but the script may be tracked
 have core:∀ H:Hp,Only H->SqL K H a (ns.map V.int)->HOk P w H s₁.heap->(∀ b,H b≠none->b=a)->(H a≠none->K.lookup a=none)->
  codeAny (model P w) callerA (.call (.ref fa) ⟨[.ref a],[]⟩) (fun r s'=>r=.ok (.ret (.bool true))/\OldK s₁.heap s'.heap/\s'.os=s₁.os/\AllBare s'.gens) s₁:=by
  intro H hO hS hok hA hK
  have base_of:∀{b:Addr}{o:Obj},s₁.heap.get? b=some o->H b=none->(hidT s₁.heap H).get? b=some o:=fun e n=>QMC e n
  have noA:∀{b:Addr}{o:Obj}{es:Array DictEntry}{ep:Nat},s₁.heap.get? b=some o->o.data=.dict es ep->H b=none:=fun {b o es ep} e d=>by
   cases q:H b with
   | none=>rfl
   | some u=>
    have e':b=a:=hA b (by rw[q];simp)
    subst e'
    rw[ha]at e;cases e
    have d':Data.seq vs.toArray _=Data.dict es ep:=d
    cases d'
  have nsK:∀{b:Addr}{m:‹"Y"›},s₁.heap.Ns b m->(hidT s₁.heap H).Ns b m:=fun {b m} ⟨o,es,ep,e,d,r⟩=>⟨o,es,ep,base_of e (noA e d),d,r⟩
  have hKb:K.In (hidT s₁.heap H):=fun b o e=>base_of (KX b o e) (by
   cases q:H b with
   | none=>rfl
   | some u=>
    have e':b=a:=hA b (by rw[q];simp)
    subst e'
    rw[hK (by rw[q];simp)]at e;cases e)
  have hM:Mod K mg (hidT s₁.heap H):=⟨hKb,nsK hns,⟨mb,nsK hb,hbb⟩,let ⟨mc,h1,h2⟩:=hlim;⟨mc,nsK h1,h2⟩⟩
  have e0:Env0 P w K mg (hidT s₁.heap H) callerA [] s₁ H:=⟨rfl,hM,fun b o e=>QOu e,Nat.le_of_eq (QLg _ _),trivial,fun b hb=>absurd (show b∈([]:List Addr) from hb) (by simp),hok,.of_eq hg⟩
  refine codeAny_mono ((F _ hKb (nsK hns)).run callerA [] s₁ H ⟨[.ref a],[]⟩ [.ref a] [.ref a] _ _ hr e0 (hbind s₁ (.ref a)) (.cons rfl .nil) (hsp H hO hS)) fun r s' h=>?_
  cases r with
  | error e=>exact(hCX H e s' h).elim
  | ok fl=>
   cases fl with
   | next=>exact False.elim h
   | brk=>exact False.elim h
   | cont=>exact False.elim h
   | ret u=>
    obtain⟨v,H',os,bare,un,hok',r',q⟩:=h
    have q':v=.bl true:=q
    subst q'
    obtain rfl:u=Value.bool true:=r'
    refine⟨rfl,OldK.of_keep fun b o e=>?_,os,bare⟩
    cases q:H b with
    | none=>exact un.keep b o e q (by intro z;exact absurd (show b∈([]:List Addr) from z) (by simp)) (by simp)
    | some u=>
     rcases hO b with z | ⟨ob,xs,z⟩
     ·rw[q]at z;cases z
     ·have z2:=un.frzs b ob _ z
      obtain⟨e1,_⟩:=hok b _ z
      obtain⟨e2,_⟩:=hok' b _ z2
      rw[e]at e1;cases e1
      exact e2
 cases hk:K.lookup a with
 | some o=>
  -- the script is one of the module's own objects
  have e:=KX a o hk
  rw[ha]at e
  cases e
  refine core (fun _=>none) (fun _=>.inl rfl) (.inr ⟨_,vs.toArray,_,hk,rfl,rfl,rfl,by rw[List.size_toArray,lenV];exact hl,by simpa using rv⟩) (fun b u z=>by have z':(none:Option HO)=some u:=z;cases z') (fun b z=>absurd rfl z) fun z=>absurd rfl z
 | none=>
  refine core (fun b=>if b=a then some (.frz { cls:=.type "list",data:=.seq vs.toArray } (.lst (ns.map V.int))) else none) (fun b=>?_) (.inl (.inr ⟨{ cls:=.type "list",data:=.seq vs.toArray },if_pos rfl⟩)) (fun b u z=>?_) (fun b z=>?_) fun _=>hk
  ·by_cases hb:b=a
   ·exact .inr ⟨_,_,if_pos hb⟩
   ·exact .inl (if_neg hb)
  ·by_cases hb:b=a
   ·have z':=(if_pos hb).symm.trans z
    cases z'
    subst hb
    exact⟨ha,by rw[List.length_map];exact hl,vs,_,rv,ha⟩
   ·have z':=(if_neg hb).symm.trans z
    cases z'
  ·by_cases hb:b=a
   ·exact hb
   ·exact absurd (if_neg hb) z
end L2
namespace L2
open PySem PySem.Spec PyProof.Rows
end L2
namespace L2
open PySem PySem.Spec PyProof.Rows
def Qq(s:Stmt):Arguments:=match s with
 | .FunctionDef _ a _ _ _ _ _ _ _ _=>a
 | _=>{ posonlyargs:=[],args:=[],vararg:=none,kwonlyargs:=[],kw_defaults:=[],kwarg:=none,defaults:=[] }
def Qp(s:Stmt):List Stmt:=match s with
 | .FunctionDef _ _ b _ _ _ _ _ _ _=>b
 | _=>[]
def Qa(s:Stmt):Scope:=match s with
 | .FunctionDef _ _ _ _ _ _ sc _ _ _=>sc
 | _=>{ kind:=.function,names:=[],isGenerator:=false,isCoroutine:=false }
abbrev CX0:CXT:=fun _ _ _ _ _ _=>False
abbrev E0:XK:=fun _ _ _=>False
theorem pass0{X:Cx}:QhG CX0 X E0:=fun _ _ _ _ _ _ _ h=>h.elim
structure Fun(K:PySem.W.Frag)(x qual:Str)(st:Stmt)(f:Addr)(fd:FuncData):Prop where
 ex:∃(oc:Value)(od:Option Addr)(kV doc pm:Value)(an:Option Addr)(cdv ct:Value)(osl:‹"d"›),
  fd=PySem.W.fnOf x qual (Qq st) (Qp st) (Qa st) .none kV doc pm an cdv ct/\K.lookup f=some ⟨oc,od,.func fd,osl⟩/\PySem.W.codeIn K cdv qual=true
 kp:PySem.W.keepIn K (.ref f)=true
section
variable{P:Program}{w:World}{K:PySem.W.Frag}{mg:Str->Option Value}{base:Heap}
theorem Fun.ok{x qual:Str}{st:Stmt}{f:Addr}{fd:FuncData}{N ps:List Str}{k:Nat}{sp:Sp}(F:Fun K x qual st f fd)(S:Qr N ps (Qa st))(len:∀ vs H Q E,sp vs H Q E->vs.length=ps.length)
 (hbody:∀(cdv:Value)(A:Around)(outer:List Env)(s:Shared)(H:Hp)(vs:List V)(Q:VK)(E:XK),Room k ‹"ay"›->sp vs H Q E->
  ∃ t,PSs (cxOf CX0 P w K mg base N qual (Qa st) f cdv A outer s H E).nox (Qp st) t/\t { nx:=fun _ H'=>Q .non H',rt:=Q } (start N vs) H):FnOk P w K mg base CX0 (k+1) f fd ps sp:=by
 obtain⟨oc,od,kV,doc,pm,an,cdv,ct,osl,rfl,lk,hcd⟩:=F.ex
 refine fn_of lk hcd S len fun A outer s H vs Q E hr hsp=>?_
 obtain⟨t,h,q⟩:=hbody cdv A outer s H vs Q E hr hsp
 exact⟨t,h.nox,q⟩
end
section
variable{X:Cx}
end
theorem iteF{A B:Prop}(h:B):if false=true then A else B:=by
 rw[if_neg Bool.false_ne_true]
 exact h
theorem iteT{A B:Prop}(h:A):if true=true then A else B:=by
 rw[if_pos rfl]
 exact h
def Same(H H':Hp):Prop:=∀ b o,H b=some o->H' b=some o
theorem Same.refl(H:Hp):Same H H:=fun _ _ h=>h
theorem Same.trans{H H1 H2:Hp}(a:Same H H1)(b:Same H1 H2):Same H H2:=fun c o h=>b c o (a c o h)
theorem Same.free{H H':Hp}(e:Same H H'){l:Addr}(h:H' l=Option.none):H l=Option.none:=by
 cases q:H l with
 | none=>rfl
 | some o=>
  rw[e l o q]at h
  cases h
theorem Same.seq{K:PySem.W.Frag}{H H':Hp}{a:Addr}{xs:List V}(e:Same H H')(h:SqL K H a xs):SqL K H' a xs:=by
 rcases h with(h | ⟨o,h⟩) | h
 ·exact .inl (.inl (e _ _ h))
 ·exact .inl (.inr ⟨o,e _ _ h⟩)
 ·exact .inr h
end L2
namespace L2
open PySem PySem.Spec PyProof.Rows
section
variable{κ:Type}[DecidableEq κ]
def valV(kvs:List (κ×V))(k:κ):Option V:=(kvs.find? fun kv=>decide (kv.1=k)).map (·.2)
def putK(kvs:List (κ×V))(k:κ)(v:V):List (κ×V):=
 if (kvs.any fun kv=>decide (kv.1=k))=true then kvs.map (fun kv=>if kv.1=k then(kv.1,v) else kv) else kvs++[(k,v)]
theorem QvJ{p:κ×V}{r:List (κ×V)}{k:κ}(e:p.1=k):valV (p::r) k=some p.2:=by simp[valV,List.find?_cons,e]
theorem Qvy{p:κ×V}{r:List (κ×V)}{k:κ}(e:¬ p.1=k):valV (p::r) k=valV r k:=by simp[valV,List.find?_cons,e]
theorem QBZ(k:κ):∀ kvs:List (κ×V),(kvs.any fun kv=>decide (kv.1=k))=(valV kvs k).isSome
 | []=>rfl
 | p::r=>by
  rw[List.any_cons]
  by_cases e:p.1=k
  ·simp only[QvJ e,decide_eq_true e,Bool.true_or,Option.isSome_some]
  ·rw[Qvy e,decide_eq_false e,Bool.false_or];exact QBZ k r
theorem QuD(kvs:List (κ×V))(k:κ)(v:V):(putK kvs k v).length<=kvs.length+1:=by
 unfold putK
 split
 ·rw[List.length_map];omega
 ·rw[List.length_append,List.length_cons,List.length_nil];omega
theorem RelO.isSome_eq{o:Option V}{u:Option Value}(r:RelO o u):o.isSome=u.isSome:=by
 cases o with
 | none=>cases u with
  | none=>rfl
  | some _=>exact(show False from r).elim
 | some _=>cases u with
  | none=>exact(show False from r).elim
  | some _=>rfl
theorem RelO.getD{o:Option V}{u:Option Value}{d:V}{d':Value}(r:RelO o u)(rd:RelV d d'):RelV (o.getD d) (u.getD d'):=by
 cases o with
 | none=>cases u with
  | none=>exact rd
  | some _=>exact(show False from r).elim
 | some _=>cases u with
  | none=>exact(show False from r).elim
  | some _=>exact r
theorem KV.val{kvs:List (κ×V)}{vs:List (κ×Value)}(r:KV kvs vs)(k:κ):RelO (valV kvs k) (valueAt vs k):=by
 unfold KV at r
 induction r with
 | nil=>exact True.intro
 | @cons p q ps qs h t ih=>
  obtain⟨h1,h2⟩:=h
  by_cases e:p.1=k
  ·have e':q.1=k:=h1.symm.trans e
   have b:valueAt (q::qs) k=some q.2:=by simp[valueAt,List.find?_cons,e']
   rw[QvJ e,b];exact h2
  ·have e':¬ q.1=k:=fun z=>e (h1.trans z)
   have b:valueAt (q::qs) k=valueAt qs k:=by simp[valueAt,List.find?_cons,e']
   rw[Qvy e,b];exact ih
theorem KV.any{kvs:List (κ×V)}{vs:List (κ×Value)}(r:KV kvs vs)(k:κ):(kvs.any fun kv=>decide (kv.1=k))=vs.any fun kv=>decide (kv.1=k):=by
 unfold KV at r
 induction r with
 | nil=>rfl
 | cons h t ih=>rw[List.any_cons,List.any_cons,ih,h.1]
theorem KV.repl{kvs:List (κ×V)}{vs:List (κ×Value)}(r:KV kvs vs)(k:κ){y:V}{u:Value}(ry:RelV y u):
 KV (kvs.map fun kv=>if kv.1=k then(kv.1,y) else kv) (vs.map fun kv=>if kv.1=k then(kv.1,u) else kv):=by
 unfold KV at r ⊢
 induction r with
 | nil=>exact .nil
 | @cons p q ps qs h t ih=>
  rw[List.map_cons,List.map_cons]
  refine .cons ?_ ih
  obtain⟨h1,h2⟩:=h
  by_cases e:p.1=k
  ·rw[if_pos e,if_pos (h1.symm.trans e)];exact⟨h1,ry⟩
  ·rw[if_neg e,if_neg (fun z=>e (h1.trans z))];exact⟨h1,h2⟩
theorem KV.put{kvs:List (κ×V)}{vs:List (κ×Value)}(r:KV kvs vs)(k:κ){y:V}{u:Value}(ry:RelV y u):KV (putK kvs k y) (stored vs k u):=by
 unfold putK stored
 rw[r.any k]
 by_cases e:(vs.any fun kv=>decide (kv.1=k))=true
 ·rw[if_pos e,if_pos e];exact r.repl k ry
 ·rw[if_neg e,if_neg e];exact Paired.snoc r ⟨rfl,ry⟩
theorem KV.length{kvs:List (κ×V)}{vs:List (κ×Value)}(r:KV kvs vs):kvs.length=vs.length:=Paired.length r
end
theorem kV_is{P:Program}{w:World}{k:Key}{u:Value}(r:RelV (kV k) u):(Qb9 P w).is k u=true:=by
 cases k with
 | inl i=>obtain⟨t,e⟩:=(show ∃ t,u=Value.int i t from r);subst e;exact QFr P w i t
 | inr x=>obtain⟨t,e⟩:=(show ∃ t,u=Value.str x t from r);subst e;exact QFu P w x t
theorem Qz9{P:Program}{w:World}:∀{ks:List Key}{us:List Value},Vals (ks.map kV) us->ItemsAre (Qb9 P w) ks us
 | [],_,r=>by rw[List.map_nil]at r;cases r;exact .nil
 | k::ks,_,r=>by
  rw[List.map_cons]at r
  cases r with
  | cons h t=>exact .cons (kV_is h) (Qz9 t)
abbrev KT(H:Hp):List (List Key×V)->List (List Key×Addr×Value)->Prop:=Paired fun p q=>p.1=q.1/\H q.2.1=some (.tup (p.1.map kV))/\RelV p.2 q.2.2
theorem KT.val{H:Hp}{kvs:List (List Key×V)}{xs:List (List Key×Addr×Value)}(r:KT H kvs xs)(k:List Key):RelO (valV kvs k) ((atKey xs k).map (·.2)):=by
 induction r with
 | nil=>exact True.intro
 | @cons p q ps qs h t ih=>
  obtain⟨h1,_,h2⟩:=h
  by_cases e:p.1=k
  ·have e':q.1=k:=h1.symm.trans e
   have b:atKey (q::qs) k=some q.2:=by simp[atKey,List.find?_cons,e']
   rw[QvJ e,b];exact h2
  ·have e':¬ q.1=k:=fun z=>e (h1.trans z)
   have b:atKey (q::qs) k=atKey qs k:=by simp[atKey,List.find?_cons,e']
   rw[Qvy e,b];exact ih
theorem KT.repl{H:Hp}{kvs:List (List Key×V)}{xs:List (List Key×Addr×Value)}(r:KT H kvs xs)(k:List Key){y:V}{u:Value}(ry:RelV y u):
 KT H (kvs.map fun kv=>if kv.1=k then(kv.1,y) else kv) (xs.map (putAt k u)):=by
 induction r with
 | nil=>exact .nil
 | @cons p q ps qs h t ih=>
  rw[List.map_cons,List.map_cons]
  refine .cons ?_ ih
  obtain⟨h1,h2,h3⟩:=h
  unfold putAt
  by_cases e:p.1=k
  ·rw[if_pos e,if_pos (h1.symm.trans e)];exact⟨h1,h2,ry⟩
  ·rw[if_neg e,if_neg (fun z=>e (h1.trans z))];exact⟨h1,h2,h3⟩
theorem KT.put{H:Hp}{kvs:List (List Key×V)}{xs:List (List Key×Addr×Value)}(r:KT H kvs xs)(k:List Key){b:Addr}{y:V}{u:Value}(hb:H b=some (.tup (k.map kV)))(ry:RelV y u):
 KT H (putK kvs k y) (storedH xs k b u):=by
 have e:(kvs.any fun kv=>decide (kv.1=k))=(atKey xs k).isSome:=by
  rw[QBZ,(r.val k).isSome_eq,Option.isSome_map]
 unfold putK storedH
 rw[e]
 by_cases q:(atKey xs k).isSome=true
 ·rw[if_pos q,if_pos q];exact r.repl k ry
 ·rw[if_neg q,if_neg q];exact Paired.snoc r ⟨rfl,hb,ry⟩
theorem KT.keeps{H H':Hp}{kvs:List (List Key×V)}{xs:List (List Key×Addr×Value)}(r:KT H kvs xs)(ht:∀ b ys,H b=some (.tup ys)->H' b=some (.tup ys)):KT H' kvs xs:=
 Paired.mapP r fun _ _ z=>⟨z.1,ht _ _ z.2.1,z.2.2⟩
section
variable{P:Program}{w:World}{H:Hp}{h:Heap}{a:Addr}
theorem rd_of{u:HO}(ok:HOk P w H h)(e:Rd H a u):ObjOk P w H h a u:=e.ok ok
theorem dk_rd{kvs:List (Key×V)}(ok:HOk P w H h)(e:Rd H a (.dK kvs)):kvs.length<=sizeLine/\(a == sysModules)=false/\∃ vs,KV kvs vs/\h.DictOf (Qb9 P w) a vs:=
 show ObjOk P w H h a (.dK kvs) from rd_of ok e
theorem dk_of{kvs:List (Key×V)}(ok:HOk P w H h)(e:H a=some (.dK kvs)):kvs.length<=sizeLine/\(a == sysModules)=false/\∃ vs,KV kvs vs/\h.DictOf (Qb9 P w) a vs:=dk_rd ok (.inl e)
theorem Qwc{ks:List Key}(ok:HOk P w H h)(e:H a=some (.tup (ks.map kV))):(tupleKind (Qb9 P w)).is h ks a:=by
 obtain⟨_,its,r,o,h1,h2,n,h3⟩:=(show ObjOk P w H h a (.tup (ks.map kV)) from ok a _ e)
 exact⟨o,its.toArray,n,h1,h2,h3,by simpa using Qz9 r⟩
theorem dt_rd{kvs:List (List Key×V)}(ok:HOk P w H h)(e:Rd H a (.dT kvs)):kvs.length<=sizeLine/\(a == sysModules)=false/\
 ∃ xs,KT H kvs xs/\h.DictOfH (tupleKind (Qb9 P w)) a xs:=by
 obtain⟨z,y,xs,r,o,es,ep,h1,h2,h3,h4,h5⟩:=(show ObjOk P w H h a (.dT kvs) from rd_of ok e)
 refine⟨z,y,xs,r,o,es,ep,h1,h2,h3,h4,fun x hx=>?_,h5⟩
 have all:∀{l:List (List Key×V)}{m:List (List Key×Addr×Value)},KT H l m->∀ x∈m,(tupleKind (Qb9 P w)).is h x.1 x.2.1:=by
  intro l m q
  induction q with
  | nil=>intro x hx;exact nomatch hx
  | @cons p q ps qs hq t ih=>
   intro x hx
   rcases List.mem_cons.mp hx with e | hx
   ·subst e
    exact Qwc ok (by rw[← hq.1];exact hq.2.1)
   ·exact ih x hx
 exact all r x hx
theorem dt_of{kvs:List (List Key×V)}(ok:HOk P w H h)(e:H a=some (.dT kvs)):kvs.length<=sizeLine/\(a == sysModules)=false/\
 ∃ xs,KT H kvs xs/\h.DictOfH (tupleKind (Qb9 P w)) a xs:=dt_rd ok (.inl e)
end
def DGet(H:Hp)(a:Addr)(y:V)(r:Option V):Prop:=
 (∃ kvs k,Rd H a (.dK kvs)/\y=kV k/\r=valV kvs k)∨∃ kvs k b,Rd H a (.dT kvs)/\y=.ref b/\H b=some (.tup (k.map kV))/\r=valV kvs k
def DPut(H:Hp)(a:Addr)(y v:V)(H':Hp):Prop:=
 (∃ kvs k,H a=some (.dK kvs)/\y=kV k/\kvs.length<sizeLine/\H'=upd H a (.dK (putK kvs k v)))∨
 ∃ kvs k b,H a=some (.dT kvs)/\y=.ref b/\H b=some (.tup (k.map kV))/\kvs.length<sizeLine/\H'=upd H a (.dT (putK kvs k v))
theorem DGet.k{H:Hp}{a:Addr}{kvs:List (Key×V)}{k:Key}(e:H a=some (.dK kvs)):DGet H a (kV k) (valV kvs k):=.inl ⟨kvs,k,.inl e,rfl,rfl⟩
theorem DGet.t{H:Hp}{a b:Addr}{kvs:List (List Key×V)}{k:List Key}(e:H a=some (.dT kvs))(eb:H b=some (.tup (k.map kV))):DGet H a (.ref b) (valV kvs k):=.inr ⟨kvs,k,b,.inl e,rfl,eb,rfl⟩
theorem DPut.k{H:Hp}{a:Addr}{kvs:List (Key×V)}{k:Key}{v:V}(e:H a=some (.dK kvs))(hl:kvs.length<sizeLine):DPut H a (kV k) v (upd H a (.dK (putK kvs k v))):=.inl ⟨kvs,k,e,rfl,hl,rfl⟩
theorem DPut.t{H:Hp}{a b:Addr}{kvs:List (List Key×V)}{k:List Key}{v:V}(e:H a=some (.dT kvs))(eb:H b=some (.tup (k.map kV)))(hl:kvs.length<sizeLine):
 DPut H a (.ref b) v (upd H a (.dT (putK kvs k v))):=.inr ⟨kvs,k,b,e,rfl,eb,hl,rfl⟩
section
variable{X:Cx}{pins:List (Addr×Obj)}{σ:St}{H:Hp}{s:Shared}{a:Addr}{y v:V}{u r:Value}{o:Option V}{A:Around}{E:Value->Shared->Prop}
theorem QK3{Q:‹"k"›}(hu:A.units+1<cLine)(I:‹"i"›)(g:DGet H a y (some v))(ry:RelV y u)(h:∀ w' s',Inv X pins σ H s'->RelV v w'->Q w' s'):
 wpAny ‹"j"› A (getItem (.ref a) u) Q E s:=by
 rcases g with⟨kvs,k,e,ey,l⟩ | ⟨kvs,k,b,e,ey,eb,l⟩
 ·subst ey
  obtain⟨z,hd,vs,rel,dd⟩:=dk_rd I.hok e
  obtain⟨w',hw,rw'⟩:=RelO.some_of (v:=v) (o:=valueAt vs k) (by rw[l];exact rel.val k)
  exact wpAny_getItem_of (kV_is ry) dd.mapOf hw (h w' _ (I.tok _) rw')
 ·subst ey
  cases (show u=Value.ref b from ry)
  obtain⟨z,hd,xs,rel,dd⟩:=dt_rd I.hok e
  obtain⟨w',hw,rw'⟩:=RelO.some_of (v:=v) (o:=(atKey xs k).map (·.2)) (by rw[l];exact rel.val k)
  obtain⟨p,hp,hp2⟩:=Option.map_eq_some_iff.mp hw
  refine wpAny_getItem_heap (tupleKind_room_in1 hu) (Qwc I.hok eb) dd hp ?_
  rw[hp2]
  exact h w' _ (I.tok _) rw'
theorem QHz{h':Heap}{t':Nat}{ob:HO}(I:‹"i"›)(mu:Mut (H a))(hs:Heap.SameBut a s.heap h')(he:∃ q,h'.get? a=some q)(new:ObjOk X.prog X.w (upd H a ob) h' a ob):
 Inv X pins σ (upd H a ob) { s with heap:=h',toks:=t' }:=
 I.write (x:=a) (e:=a) mu (.inl rfl) (fun b q hb z=>(hs.2 b hb).trans z) he new
theorem QPJ{P:Program}{w:World}{H':Hp}{h':Heap}{kvs:List (Key×V)}{vs:List (Key×Value)}(z:kvs.length<=sizeLine)(hd:(a == sysModules)=false)(rel:KV kvs vs)(dd:h'.DictOf (Qb9 P w) a vs):
 ObjOk P w H' h' a (.dK kvs):=⟨z,hd,vs,rel,dd⟩
theorem QLU{H':Hp}{Q:Unit->Shared->Prop}(hu:A.units+1<cLine)(I:‹"i"›)(g:DPut H a y v H')(ry:RelV y u)(rv:RelV v r)(h:∀ s',Inv X pins σ H' s'->Q () s'):
 wpAny ‹"j"› A (setItem (.ref a) u r) Q E s:=by
 rcases g with⟨kvs,k,e,ey,l,eH⟩ | ⟨kvs,k,b,e,ey,eb,l,eH⟩
 ·subst ey eH
  obtain⟨z,hd,vs,rel,dd⟩:=dk_of I.hok e
  have hz:vs.length<=sizeLine:=by rw[← rel.length];exact z
  have hl:(putK kvs k v).length<=sizeLine:=by have:=QuD kvs k v;omega
  refine wpAny_setItem_pairs (hsz:=hz) (kV_is ry) dd fun h' dd' hs=>h _ ?_
  have he:∃ q,h'.get? a=some q:=let ⟨q,_,_,hq,_⟩:=dd';⟨q,hq⟩
  exact QHz I (by rw[e];exact True.intro) hs he (QPJ hl hd (rel.put k rv) dd')
 ·subst ey eH
  cases (show u=Value.ref b from ry)
  obtain⟨z,hd,xs,rel,dd⟩:=dt_of I.hok e
  have hz:xs.length<=sizeLine:=by rw[← Paired.length rel];exact z
  have hl:(putK kvs k v).length<=sizeLine:=by have:=QuD kvs k v;omega
  refine wpAny_setItem_heap (hsz:=hz) (tupleKind_room_in1 hu) (Qwc I.hok eb) dd fun h' dd' hs=>h _ ?_
  obtain⟨q,es,ep,hq,h2,h3,h4,_,h5⟩:=dd'
  refine QHz I (by rw[e];exact True.intro) hs ⟨q,hq⟩ ⟨hl,hd,_,(rel.put k eb rv).keeps fun c ys ec=>?_,q,es,ep,hq,h2,h3,h4,h5⟩
  rw[Ql (ne_of ec e (fun z=>nomatch z))]
  exact ec
end
section
variable{X:Cx}{pins:List (Addr×Obj)}{σ:St}{H:Hp}{s:Shared}{a:Addr}{kvs:List (Key×V)}{k:Key}{u:Value}{A:Around}{E:Value->Shared->Prop}
end
def NoSl(i:Expr):Prop:=∀ ov iv,subscripted i false ov iv=operate [ov,iv] (getItem ov iv)
theorem QNZ{prog:Program}{w:World}{A:Around}{E:‹"k"›}{s:Shared}{env:Env}{value slice:Expr}{pos:Pos}{T id:String}{Q:‹"k"›}
 (hl:typeLookup (.type T) "__getitem__"=pure (some (.builtin id))) (hs:NoSl slice)
 (h:wpAny (model prog w) A (eval value env) (fun o s₁=>wpAny (model prog w) A (eval slice env) (fun i s₂ => s₂.TypeIs o T/\wpAny (model prog w) A (getItem o i) Q E s₂) E s₁) E s):
 wpAny (model prog w) A (eval (.Subscript value slice pos) env) Q E s:=by
 refine Subscript_ (wpAny_mono h (fun o s₁ h₁=>wpAny_mono h₁ (fun i s₂ h₂ => ?_) fun _ _ x=>x) fun _ _ x=>x)
 obtain⟨hT,h₂⟩:=h₂
 unfold subscriptTail
 refine wpAny_bind ?_
 rw[getitemInPython_of_ne hT.not_modules]
 refine wpAny_bind (wpAny_specialOf hT hl ?_)
 have fin:wpAny (model prog w) A (subscripted slice false o i) (fun r s₃ => wpAny (model prog w) A (letTemporaryGo value o r>>=fun _=>pure r) Q E s₃) E s₂ := by
  rw[hs o i]
  exact wpAny_operating (wpAny_mono h₂ (fun r s₃ h₃ => wpAny_bind (wpAny_letTemporaryGo (wpAny_pure h₃))) fun _ _ x=>x)
 first
  | exact wpAny_pure (wpAny_bind fin)
  | exact wpAny_bind (wpAny_pure (wpAny_bind fin))
  | exact wpAny_bind fin
theorem QGc{X:Cx}{pins:‹"r"›}{σ:St}{H:Hp}{s:Shared}{a:Addr}{y:V}{o:Option V}(I:‹"i"›)(g:DGet H a y o):s.TypeIs (.ref a) "dict":=by
 rcases g with⟨kvs,k,e,_,_⟩ | ⟨kvs,k,b,e,_,_,_⟩
 ·obtain⟨_,_,vs,_,dd⟩:=dk_rd I.hok e
  exact dd.typeIs
 ·obtain⟨_,_,xs,_,dd⟩:=dt_rd I.hok e
  exact dd.typeIs
def tDGet(td ty:TE):TE:=fun σ H Q=>td σ H fun x H1=>ty σ H1 fun y H2=>∃ a v,x=.ref a/\DGet H2 a y (some v)/\Q v H2
def sDPut(td ty tv:TE):TS:=fun D σ H=>tv σ H fun v H1=>td σ H1 fun x H2=>ty σ H2 fun y H3=>∃ a H4,x=.ref a/\DPut H3 a y v H4/\D.nx σ H4
section
variable{X:Cx}{o i e value:Expr}{pos pos' tpos:Pos}{td ty tv:TE}
theorem QOg(hu:X.A.units+1<cLine)(ho:PE X o td)(hi:PE X i ty)(hs:NoSl i):PE X (.Subscript o i pos) (tDGet td ty):=by
 intro pins s σ H Q I h
 refine QNZ PySem.F.slot_dict_getitem.lookup hs (thn (ho pins s σ H _ I h) fun u s1 ⟨x,H1,I1,rx,q1⟩=>thn (hi pins s1 σ H1 _ I1 q1) fun iv s2 ⟨y,H2,I2,ry,a,v,ex,g,q2⟩=>?_)
 subst ex
 obtain rfl:u=Value.ref a:=rx
 exact⟨QGc I2 g,QK3 hu I2 g ry fun w' s3 I3 rw'=>⟨v,H2,I3,rw',q2⟩⟩
theorem QOw(hu:X.A.units+1<cLine)(ho:PE X o td)(hi:PE X i ty)(hv:PE X value tv)(hs:swapsWith value (some (.Subscript o i pos')) pos.line X.env=pure false):
 PS X (.Assign [.Subscript o i pos'] value pos) (sDPut td ty tv):=by
 intro pins s σ H D I h
 refine wpAny_Assign_Subscript (thn (hv pins s σ H _ I h) fun r s1 ⟨v,H1,I1,rv,q1⟩=>thn (ho pins s1 σ H1 _ I1 q1) fun u s2 ⟨x,H2,I2,rx,q2⟩=>thn (hi pins s2 σ H2 _ I2 q2) fun iv s3 ⟨y,H3,I3,ry,a,H4,ex,g,q3⟩=>?_) hs
 subst ex
 obtain rfl:u=Value.ref a:=rx
 exact QLU hu I3 g ry rv fun s4 I4=>⟨σ,H4,I4,q3⟩
end
section
variable{X:Cx}{pos:Pos}
end
structure M1(X:Cx)(o:Expr)(m:Str)(apos:Pos)(e:Expr)(cpos:Pos):Prop where
 base:attributeBase o m X.env (eval o X.env)=eval o X.env
 few:((backTo cpos (starEach [e] X.env)).all (fun x => !x.1)&&(backToKw cpos (keywordEach [] X.env)).all (fun x=>x.1.isSome)
  && decide (([e]:List Expr).length+([]:List Keyword).length+(if ([]:List Keyword).isEmpty then 0 else 1)<30))=true
 line:(apos.endLine == cpos.line)=true
 trees:backTo cpos (starEach [e] X.env)=[(false,eval e X.env)]
def IsD(H:Hp)(a:Addr):Prop:=(∃ kvs,Rd H a (.dK kvs))∨∃ kvs,Rd H a (.dT kvs)
theorem QQe{X:Cx}{pins:‹"r"›}{σ:St}{H:Hp}{s:Shared}{a:Addr}(I:‹"i"›)(d:IsD H a):
 s.TypeIs (.ref a) "dict"/\(∀ b,Value.ref a=.ref b->∃ ob,s.heap.get? b=some ob/\ob.dict=none)/\(a == sysModules)=false:=by
 rcases d with⟨kvs,e⟩ | ⟨kvs,e⟩
 ·obtain⟨_,hd,vs,_,dd⟩:=dk_rd I.hok e
  refine⟨dd.typeIs,fun b q=>?_,hd⟩
  cases q
  obtain⟨ob,_,_,h1,h2,_⟩:=dd
  exact⟨ob,h1,h2.2.1⟩
 ·obtain⟨_,hd,xs,_,dd⟩:=dt_rd I.hok e
  refine⟨dd.typeIs,fun b q=>?_,hd⟩
  cases q
  obtain⟨ob,_,_,h1,h2,_⟩:=dd
  exact⟨ob,h1,h2.2.1⟩
section
variable{X:Cx}{pins:List (Addr×Obj)}{σ:St}{H:Hp}{s:Shared}{a:Addr}{y d:V}{u r:Value}{o:Option V}{A:Around}{E:Value->Shared->Prop}
theorem QPY{Q:‹"k"›}(hu:A.units+1<cLine)(I:‹"i"›)(g:DGet H a y o)(ry:RelV y u)(h:∀ w' s',Inv X pins σ H s'->RelV (o.getD .non) w'->Q w' s'):
 wpAny ‹"j"› A (call (.builtin "dict.get") [.ref a,u]) Q E s:=by
 rcases g with⟨kvs,k,e,ey,l⟩ | ⟨kvs,k,b,e,ey,eb,l⟩
 ·subst ey
  obtain⟨z,hd,vs,rel,dd⟩:=dk_rd I.hok e
  refine call_meetsIn PySem.F.slot_dict_get dd.typeIs PySem.F.entry_dict_get (PySem.F.args_dict_get_2 _ _) (meets_dict_get (Qb9 X.prog X.w) a (kV_is ry) hd) ⟨_,dd.mapOf,h _ _ (I.tok _) ?_⟩
  rw[l]
  exact(rel.val k).getD rfl
 ·subst ey
  cases (show u=Value.ref b from ry)
  obtain⟨z,hd,xs,rel,dd⟩:=dt_rd I.hok e
  refine call_meetsIn PySem.F.slot_dict_get dd.typeIs PySem.F.entry_dict_get (PySem.F.args_dict_get_2 _ _) (meetsH_dict_get (tupleKind (Qb9 X.prog X.w)) a b hd) ⟨tupleKind_room_in1 hu,k,xs,Qwc I.hok eb,dd,h _ _ (I.tok _) ?_⟩
  rw[l]
  exact(rel.val k).getD rfl
end
def QOO(td ty:TE):TE:=fun σ H Q=>td σ H fun x H1=>∃ a,x=.ref a/\IsD H1 a/\ty σ H1 fun y H2=>∃ o,DGet H2 a y o/\Q (o.getD .non) H2
section
variable{X:Cx}{o e f:Expr}{apos cpos:Pos}{td ty tx:TE}
theorem QMJ(hu:X.A.units+1<cLine)(ho:PE X o td)(he:PE X e ty)(m:M1 X o "get" apos e cpos):PE X (.Call (.Attribute o "get" apos) [e] [] cpos) (QOO td ty):=by
 intro pins s σ H Q I h
 refine wpAny_Call_method m.base m.few m.line PySem.F.plainAttrs_dict PySem.F.slot_dict_get PySem.F.type_dict_get (thn (ho pins s σ H _ I h) fun u s1 ⟨x,H1,I1,rx,a,ex,d,q1⟩=>?_)
 subst ex
 obtain rfl:u=Value.ref a:=rx
 obtain⟨t1,t2,_⟩:=QQe I1 d
 refine⟨t1,t2,?_⟩
 rw[m.trees]
 refine Calls.callWith_builtin rfl (Calls.evalArgs_plain (Calls.spliced_cons (thn (he pins s1 σ H1 _ I1 q1) fun iv s2 ⟨y,H2,I2,ry,ov,g,q2⟩=>Calls.spliced_nil ?_)))
 exact QPY hu I2 g ry fun w' s3 I3 rw'=>⟨_,H2,I3,rw',q2⟩
end
section
variable{X:Cx}{pins:List (Addr×Obj)}{σ:St}{H:Hp}{s:Shared}{a:Addr}{kvs:List (Key×V)}{A:Around}{E:Value->Shared->Prop}
end
section
variable{X:Cx}{pins:List (Addr×Obj)}{σ:St}{H:Hp}{s:Shared}{a:Addr}{y:V}{u:Value}{A:Around}{E:Value->Shared->Prop}
end
end L2
namespace L2
open PySem PySem.Spec PyProof.Rows
structure FlyS(P:Program)(w:World)(l:List Env)(H:Hp)(s:Shared)(ea C t:Addr)(H':Hp)(B:Heap)(s':Shared):Prop where
 os:s'.os=s.os
 bare:AllBare s'.gens
 un:Un (frs l) [] H H' s.heap s'.heap
 kb:∀ b o,s.heap.get? b=some o->H b=none->b∉frs l->B.get? b=some o
 th:∀ b o,s.heap.get? b=some o->b∉frs l->∃ o',B.get? b=some o'
 hok:HOk P w H' B
 fly:Heap.FlyingW B l ea (.ref C) (.ref t) s'.heap
def CXR(P:Program)(w:World):CXT:=fun l H s E e s'=>∃ ea C t H' B,e=.ref ea/\FlyS P w l H s ea C t H' B s'/\E (.ref C) none H'
section
variable{P:Program}{w:World}{l:List Env}{H H':Hp}{s s':Shared}{ea C t:Addr}{B h':Heap}
end
section
variable{X:Cx}{pins:List (Addr×Obj)}{σ:St}{H1:Hp}{s1:Shared}{E:XK}{ea C:Addr}{vs:List Value}{h':Heap}{Ex:Value->Shared->Prop}{M:Model}
theorem QkZ(I:Inv X pins σ H1 s1):∀ b o,X.s₀.heap.get? b=some o->b∉X.fs->b∉frs X.stack:=fun b o e hb z=>by
 rcases List.mem_cons.mp (I.stkSub b z) with q | q
 ·have:=Heap.lt_size e
  rw[q]at this
  exact absurd (Nat.lt_of_lt_of_le this I.ok.above) (Nat.lt_irrefl _)
 ·exact hb q
theorem QNG(I:Inv X pins σ H1 s1):HOk X.prog X.w H1 (PySem.W.hideAll s1.heap (frs X.stack)):=fun a o e=>
 (I.hok a o e).stay (fun b u hb q=>PySem.W.hideAll_get _ q fun z=>by
  have:=I.stkFree b z
  rcases hb with rfl | hb
  ·rw[this]at e;cases e
  ·rw[this]at hb;cases hb) (fun _ q=>q) fun _ _ q=>q
theorem QHQ(I:Inv X pins σ H1 s1):∀ b∈X.fs,∀ o,X.s₀.heap.get? b=some o->∀ vs,o.data≠.fields vs:=fun b hb o e=>by
 obtain⟨_,o',h1,h2⟩:=I.ok.funs.mem hb
 rw[e]at h1;cases h1
 exact h2
theorem QJn(I:Inv X pins σ H1 s1)(hst:X.stack=X.env::X.outer)(hfr:X.env.frame=some X.env.locals)(hex:X.ex=[])(hx:Heap.MadeExcOf s1.heap h' ea (.ref C) vs)(hE:E (.ref C) none H1):
 wpAny M X.A (leaving X.env (.ref ea)) (fun _ s''=>CXR X.prog X.w X.outer X.H₀ X.s₀ E (.ref ea) s'') Ex { s1 with heap:=h' }:=by
 have hin:∀ env∈X.stack,∀ b,env.frame=some b->b∈frs X.stack:=fun env he b hb=>List.mem_filterMap.mpr ⟨env,he,hb⟩
 have st:=I.stack
 refine wpAny_leaves_madeW (base:=PySem.W.hideAll s1.heap (frs X.stack)) (h:=s1.heap) (env:=X.env) (outer:=X.outer) (by rw[← hst];exact I.ok.frames) hfr (fun b o q=>PySem.W.of_hideAll _ q)
  (by rw[← hst];exact PySem.W.funFrames_hide st hin) hx fun h2 t fl tp nt up=>?_
 have nx:∀ b:Addr,b∉X.ex:=fun b z=>by rw[hex]at z;cases z
 have kbB:∀ b o,X.s₀.heap.get? b=some o->X.H₀ b=none->b∉X.fs->(PySem.W.hideAll s1.heap (frs X.stack)).get? b=some o:=fun b o e n hb=>PySem.W.hideAll_get _ (I.base.keep b o e n hb (nx b)) (QkZ I b o e hb)
 have thB:∀ b o,X.s₀.heap.get? b=some o->b∉X.fs->∃ o',(PySem.W.hideAll s1.heap (frs X.stack)).get? b=some o':=fun b o e hb=>by
  obtain⟨o',q⟩:=I.base.there b o e (nx b)
  exact⟨o',PySem.W.hideAll_get _ q (QkZ I b o e hb)⟩
 have slot:∀ b o,X.s₀.heap.get? b=some o->X.H₀ b=none->b∈X.fs->∃ sl,h2.get? b=some { o with slots:=sl }:=fun b o e n hb=>by
  obtain⟨sl,q⟩:=I.base.slot b o e n hb (nx b)
  obtain⟨sl2,q2⟩:=up b _ (hx.keeps _ _ q) (QHQ I b hb o e)
  exact⟨sl2,q2⟩
 refine⟨ea,C,t,H1,_,rfl,⟨I.os,I.bare,⟨fun b o e n hb _=>fl.1 b o (kbB b o e n hb),fun b o e n hb _=>slot b o e n hb,fun b o e n _=>I.base.free b o e n (nx b),fun b o e _=>?_,I.base.tups,I.base.frzs,I.base.tbls⟩,kbB,thB,QNG I,fl⟩,hE⟩
 by_cases hb:b∈X.fs
 ·obtain⟨sl,q⟩:=slot b o e (I.ok.frf b hb) hb
  exact⟨_,q⟩
 ·obtain⟨o',q⟩:=thB b o e hb
  exact⟨o',fl.1 b o' q⟩
theorem QMR{s':Shared}{e:Value}(I:Inv X pins σ H1 s1)(hst:X.stack=X.env::X.outer)(hfr:X.env.frame=some X.env.locals)(hex:X.ex=[])(h:CXR X.prog X.w X.stack H1 s1 E e s'):
 wpAny M X.A (leaving X.env e) (fun _ s''=>CXR X.prog X.w X.outer X.H₀ X.s₀ E e s'') Ex s':=by
 obtain⟨ea,C,t,H',B,rfl,F,hE⟩:=h
 have fl:=F.fly
 rw[hst]at fl
 refine wpAny_leaves_onW (by rw[← hst];exact I.ok.frames) hfr fl fun h2 fl2 up=>?_
 have nx:∀ b:Addr,b∉X.ex:=fun b z=>by rw[hex]at z;cases z
 have nn:∀ b:Addr,b∉([]:List Addr):=fun b z=>by cases z
 have kbB:∀ b o,X.s₀.heap.get? b=some o->X.H₀ b=none->b∉X.fs->B.get? b=some o:=fun b o e n hb=>
  F.kb b o (I.base.keep b o e n hb (nx b)) (I.base.free b o e n (nx b)) (QkZ I b o e hb)
 have thB:∀ b o,X.s₀.heap.get? b=some o->b∉X.fs->∃ o',B.get? b=some o':=fun b o e hb=>by
  obtain⟨o',q⟩:=I.base.there b o e (nx b)
  exact F.th b o' q (QkZ I b o e hb)
 have slot:∀ b o,X.s₀.heap.get? b=some o->X.H₀ b=none->b∈X.fs->∃ sl,h2.get? b=some { o with slots:=sl }:=fun b o e n hb=>by
  obtain⟨sl,q⟩:=I.base.slot b o e n hb (nx b)
  have hs:b∈frs X.stack:=by
   rw[hst]
   obtain⟨env,h1,h2⟩:=List.mem_filterMap.mp hb
   exact List.mem_filterMap.mpr ⟨env,List.mem_cons_of_mem _ h1,h2⟩
  obtain⟨sl1,q1⟩:=F.un.slot b _ q (I.base.free b o e n (nx b)) hs (nn b)
  obtain⟨sl2,q2⟩:=up b _ q1 (QHQ I b hb o e)
  exact⟨sl2,q2⟩
 refine⟨ea,C,t,H',B,rfl,⟨F.os.trans I.os,F.bare,⟨fun b o e n hb _=>fl2.1 b o (kbB b o e n hb),fun b o e n hb _=>slot b o e n hb,fun b o e n _=>?_,fun b o e _=>?_,fun b xs e=>F.un.tups b xs (I.base.tups b xs e),fun b o u e=>F.un.frzs b o u (I.base.frzs b o u e),fun b ps e=>?_⟩,kbB,thB,F.hok,fl2⟩,hE⟩
 ·obtain⟨o',q⟩:∃ o',s1.heap.get? b=some o':=I.base.there b o e (nx b)
  exact F.un.free b o' q (I.base.free b o e n (nx b)) (nn b)
 ·by_cases hb:b∈X.fs
  ·obtain⟨sl,q⟩:=slot b o e (I.ok.frf b hb) hb
   exact⟨_,q⟩
  ·obtain⟨o',q⟩:=thB b o e hb
   exact⟨o',fl2.1 b o' q⟩
 ·obtain⟨m1,q1⟩:=I.base.tbls b ps e
  obtain⟨m2,q2⟩:=F.un.tbls b _ q1
  exact⟨m1++m2,by rw[q2,Array.append_assoc]⟩
end
section
variable{P:Program}{w:World}{K:PySem.W.Frag}{mg:Str->Option Value}{base:Heap}{N:List Str}{qual:Str}{scope:Scope}{f:Addr}{cd:Value}{A:Around}{outer:List Env}{s:Shared}{H:Hp}{E:XK}
theorem passR:QhG (CXR P w) (cxOf (CXR P w) P w K mg base N qual scope f cd A outer s H E) E:=fun pins σ H1 s1 e s' I h=>QMR I rfl rfl rfl h
end
end L2
namespace L2
open PySem PySem.Spec PyProof.Rows
section
variable{X:Cx}{C:Addr}{E:XK}{x:Str}{e₀:Expr}{rest:List Expr}{ta:TA}{np cpos pos:Pos}
end
end L2
namespace L2
open PySem PySem.Spec PyProof.Rows
def exO(ea C:Addr):HO:=.ext fun h=>∃ o vs,h.get? ea=some o/\o.cls=.ref C/\o.data=.fields vs
section
variable{X:Cx}{pins:List (Addr×Obj)}{σ:St}{H H':Hp}{s s':Shared}{ea C t:Addr}{B:Heap}
end
section
variable{X:Cx}{pins:List (Addr×Obj)}{σ:St}{H H':Hp}{s s':Shared}{ea C DD t:Addr}{B:Heap}{x n:Str}{np hpos:Pos}{b₀:Stmt}{suite:List Stmt}{rest:List ExceptHandler}{D:Ends}{Ex:Value->Shared->Prop}{i:Nat}{ts:TS}
end
end L2
namespace L2
open PySem PySem.Spec PyProof.Rows
abbrev TXS:=Ends->St->Hp->(St->XK)->Prop
section
variable{X:Cx}{k:Nat}{f:Addr}{fd:FuncData}{ps:List Str}{sp:Sp}{dvs:List V}{ds:List Value}{x:Str}{p pos:Pos}{e:Expr}{es:List Expr}{ta:TA}
theorem PA.nox{es:List Expr}{t:TA}(h:PA X.nox es t){pos:Pos}{pins:‹"r"›}{s:Shared}{σ:St}{H:Hp}{Q:List V->Hp->Prop}{E:‹"k"›}(I:‹"i"›)(q:t σ H Q):
 wpAny ‹"j"› X.A (spliced (backTo pos (starEach es X.env))) (AP X pins σ Q) E s:=
 wpAny_mono (h pos pins s σ H Q (I.wish _) q) (fun _ _ ⟨v,H',I',r,q⟩=>⟨v,H',I'.unwish,r,q⟩) fun _ _ z=>False.elim z
variable{t u:TXS}{te:TX}{st:Stmt}{rest:List Stmt}{i:Nat}{px:Pos}
end
end L2
namespace L2
open PySem PySem.Spec PyProof.Rows
def ExAt(x D:Addr)(h:Heap):Prop:=∃ o vs,h.get? x=some o/\o.cls=.ref D/\o.data=.fields vs
section
open PySem.W PySem.Calls Builtin Builtin.ObjectAttr Builtin.Getset_descriptor
variable{K:PySem.W.Frag}{x D:Addr}
theorem Qpu{M:Model}{h:Heap}(I:ExAt x D h):Looks M h (typeOf (.ref x)) (.ref D):=by
 obtain⟨o,vs,h1,h2,_⟩:=I
 exact h2 ▸ (Looks.ld h1).andThen .now
theorem Qw1{M:Model}{h:Heap}(X:K.In h){name:Str}{a g:Value}(ha:findIn K (.ref D) name=some (some a))(hg:specialIn K a "__get__"=some (some g))(ht:takesIn K a=some true):
 Looks M h (find (.ref x) (.ref D) name) (.bind g a):=by
 have L1:=looks_findIn (M:=M) X ha
 have L2:Looks M h (getOf (some a)) (some g):=looks_specialIn X hg
 have L3:=looks_takesIn (M:=M) X ht
 exact L1.andThen (L2.andThen ((show Looks M h (dataDescriptor? (some a) (some g)) (some (g,a)) from L3.andThen .now).andThen (Looks.tag .now)))
variable{prog:Program}{w:World}{A:Around}{E:Value->Shared->Prop}{s:Shared}{name:Str}
theorem QM6{M:Model}{nameV:Value}{Q:Unit->Shared->Prop}(X:K.In s.heap)(I:ExAt x D s.heap)(hb:mroIn K D (.type "BaseException")=some true)(hq:Q () s):wpAny M A (checkBuiltinCall "BaseException.__getattribute__" ⟨[.ref x,nameV],[]⟩) Q E s:=by
 obtain⟨hh,g,dr,t,os⟩:=s
 have hk:builtinKind "BaseException.__getattribute__"=some .slot:=dk
 have hsplit:splitId "BaseException.__getattribute__"=some ("BaseException","__getattribute__"):=dk
 have L0:=Qpu (M:=M) I
 have L1:=looks_mroIn (M:=M) X hb
 have ha:=F.args_bexc_ga (.ref x) nameV
 simp only[checkBuiltinCall,hk,hsplit]
 refine wpAny_bind ?_
 unfold isInstance
 repeat (first | lk | wp_step)
 exact hq
theorem QP7{R:Result->Shared->Prop}{tp:Value}(X:K.In s.heap)(I:ExAt x D s.heap)(hm:mroIn K D (.type "object")=some true)
 (h:R (.ok (.ret (.ref D))) s):codeAny (model prog w) A (.call ‹"ak"› ⟨[.builtin "object.__class__",.ref x,tp],[]⟩) R s:=by
 obtain⟨hh,g,dr,t,os⟩:=s
 have L0:=Qpu (M:=model prog w) I
 have L1:=looks_mroIn (M:=model prog w) X hm
 refine codeAny_call_builtin KF.slot_gs.plain KF.entry_gs (KF.slot_gs.check _ _ _ _ _ _ _ _ KF.type_class (KF.args_gs _ _ _) ?_)
 unfold Builtin.«getset_descriptor.__get__» descrGet
 rw[dga_obj]
 refine wpAny_bind (wpAny_pure ?_)
 unfold descrGetter descrCheckInstance descrNameAndClass isInstance
 simp only[KF.owner_class]
 repeat lk
 refine⟨Code.quiet_builtin _ (dk),codeAny_builtin KF.entry_class ?_⟩
 unfold Builtin.«object.__class__» shownTypeOf
 repeat lk
 exact h
theorem QMu{g a:Value}{tk:Tok}{Q:Fin->Shared->Prop}(X:K.In s.heap)(I:ExAt x D s.heap)(ha:findIn K (.ref D) "__class__"=some (some ‹"o"›))
 (hn:specialIn K ‹"o"› "__get__"=some (some ‹"ak"›)) (ht:takesIn K ‹"o"›=some true) (hm:mroIn K D (.type "object")=some true)
 (hq:Q (.done (.ret (.ref D))) s):wpAny (model prog w) A (Builtin.«object.__getattribute__» ⟨[.ref x,.str "__class__" tk],[]⟩) Q E s:=by
 have L3:=Qw1 (x:=x) (M:=model prog w) X ha hn ht
 have L0:=Qpu (M:=model prog w) I
 obtain⟨hh,gg,d,t,os⟩:=s
 refine wpAny_bind (wpAny_pure ?_)
 refine wpAny_bind (wpAny_pure (wpAny_bind (L0.at (wpAny_bind (L3.at ?_)))))
 show wpAny _ _ (holding [_] (call ‹"ak"› [.builtin "object.__class__",.ref x,.ref D])>>=ret) _ _ _
 exact wpAny_bind (wpAny_holding (wpAny_call (QP7 (s:=⟨hh,gg,d,t,os⟩) X I hm (wpAny_pure hq))))
theorem QON{Q:Option Value->Shared->Prop}(X:K.In s.heap)(I:ExAt x D s.heap)(g1:findIn K (.ref D) "__getattribute__"=some (some (.builtin "BaseException.__getattribute__")))(hb:mroIn K D (.type "BaseException")=some true)
 (g2:findIn K (.ref D) "__getattr__"=some none) (ha:findIn K (.ref D) "__class__"=some (some ‹"o"›))
 (hn:specialIn K ‹"o"› "__get__"=some (some ‹"ak"›)) (ht:takesIn K ‹"o"›=some true) (hm:mroIn K D (.type "object")=some true)
 (h:Q (some (.ref D)) { s with toks:=s.toks+1 }):wpAny (model prog w) A (getAttr? (.ref x) "__class__") Q E s:=by
 obtain⟨hh,g,d,t,os⟩:=s
 have L0:=Qpu (M:=model prog w) I
 have L1:=looks_findIn (M:=model prog w) X g1
 have L2:=looks_findIn (M:=model prog w) X g2
 have f3:=PySem.F.attr_ValueError.ga.bind (.ref x)
 have hx2:(Value.builtin "BaseException.__getattribute__" == Value.builtin "object.__getattribute__")=false:=dk
 have hx1:(onTheHeap (Value.ref D)&&Value.builtin "BaseException.__getattribute__" == Value.builtin "object.__getattribute__")=false:=by rw[hx2];rfl
 unfold getAttr? getAttrBy? getAttrBy
 refine wpAny_bind (wpAny_mkText (wpAny_bind (wpAny_attempt (wpAny_holding (wpAny_bind (L0.at (wpAny_bind (L1.at ?_))))))))
 show wpAny _ _ (if (onTheHeap (Value.ref D)&&Value.builtin "BaseException.__getattribute__" == Value.builtin "object.__getattribute__")=true then _ else getAttrByItsOwn _ _ _ _ _ _) _ _ _
 rw[hx1,if_neg (by decide)]
 unfold getAttrByItsOwn
 refine wpAny_bind ?_
 show wpAny _ _ (typeLookup (.ref D) "__getattr__") _ _ _
 refine L2.at ?_
 refine wpAny_bind (wpAny_attempt ?_)
 refine wpAny_holding ?_
 show wpAny _ _ (boundAndCalled (.builtin "BaseException.__getattribute__") (.ref x) _) _ _ _
 unfold boundAndCalled
 refine wpAny_bind (wpAny_of_eq f3 ?_)
 refine wpAny_call (codeAny_call_builtin PySem.F.attr_ValueError.ga.plain F.entry_bexc_ga (QM6 (s:=⟨hh,g,d,t+1,os⟩) X I hb (QMu (g:=.none) (a:=.none) (s:=⟨hh,g,d,t+1,os⟩) X I ha hn ht hm ?_)))
 show wpAny _ _ (handedOut (.ref D)) _ _ _
 exact handed_on rfl (wpAny_pure h)
structure ExCls(K:PySem.W.Frag)(D:Addr):Prop where
 cl:(clsIn K D).isSome=true
 g1:findIn K (.ref D) "__getattribute__"=some (some (.builtin "BaseException.__getattribute__"))
 hb:mroIn K D (.type "BaseException")=some true
 g2:findIn K (.ref D) "__getattr__"=some none
 ha:findIn K (.ref D) "__class__"=some (some ‹"o"›)
 hn:specialIn K ‹"o"› "__get__"=some (some ‹"ak"›)
 htk:takesIn K ‹"o"›=some true
 hm:mroIn K D (.type "object")=some true
theorem QMA(e:ExCls K D):KitX K (.ref x) (.ref D) (ExAt x D) where
 ty:=fun _ _ _ I=>Qpu I
 it:=fun _ _ X _=>by
  obtain⟨cdD,hcD⟩:=Option.isSome_iff_exists.mp e.cl
  unfold clsIn at hcD
  split at hcD
  ·rename_i c' d' cd' sl' ho
   intro A' Q' E' s' k q
   unfold isType loadHead
   exact wpAny_bind (wpAny_loadPart (k _ _ (X _ _ ho)) (wpAny_pure q))
  ·cases hcD
 ne:=fun h tp dd its n sl X htp=>by
  obtain⟨cdD,hcD⟩:=Option.isSome_iff_exists.mp e.cl
  refine Bool.eq_false_iff.mpr fun q=>?_
  have e:D=tp:=Value.ref.inj (beq_iff_eq.mp q)
  subst e
  unfold clsIn at hcD
  split at hcD
  ·rename_i c' d' cd' sl' ho
   have z:=(X _ _ ho).symm.trans htp
   cases z
  ·cases hcD
 ca:=fun X I k=>QON X I e.g1 e.hb e.g2 e.ha e.hn e.htk e.hm k
end
end L2
set_option maxHeartbeats 1000000
namespace L2
open PySem PySem.Spec PyProof.Rows
section
variable{prog:Program}{w:World}{A:Around}{R:Result->Shared->Prop}{s:Shared}
theorem QBQ{elt target iter:Expr}{ifs:List Expr}{scope:Scope}{pos:Pos}{it acc:Value}{env:Env}(I:Nat->Shared->Prop)(NB:‹"k"›)(hNB:∀ e s',NB e s'->notedBy (model prog w) A env (fun e s'=>R (.error e) s') e s')
 (turn:∀ n s,I n s->wpAny (model prog w) A (pyNext it) (fun r s₁=>match r with
  | none=>R (.ok .next) s₁
  | some v=>wpAny (model prog w) A (letOwnedTupleGo target it v) (fun _ s₁'=>wpAny (model prog w) A (assign target env v) (fun _ s₂ =>
   wpAny (model prog w) A (forIn ifs true fun c r=>if r=true then do let ok ← isTrue c env (eval c env);pure (ForInStep.yield ok) else pure (ForInStep.yield r)) (fun ok s₃ =>
    if ok=true then wpAny (model prog w) A (eval elt env) (fun x s₄ =>
     wpAny (model prog w) A (call (.builtin "list.append") [acc,x]) (fun _ s₅ => ∃ m,m<n/\I m s₅) NB s₄) NB s₃
    else ∃ m,m<n/\I m s₃) NB s₂) NB s₁') NB s₁) NB s)
 (n:Nat) (h:I n s):
 codeAny (model prog w) A (.compLoop (.ListComp elt [⟨target,iter,ifs,0⟩] scope pos) 0 it acc env) R s:=by
 refine codeAny_loop rfl I (fun n s hI=>?_) n h
 show wpAny _ A ((compTurn (.ListComp elt [⟨target,iter,ifs,0⟩] scope pos) 0 it acc env).onRaise (fun x=>do noteFrame x env;theTreesLotGoes x)) _ _ s
 refine wpAny_noted ?_
 rw[compTurn_list]
 refine wpAny_bind (wpAny_standAt (wpAny_bind (wpAny_mono (turn n s hI) (fun r s₁ h₁=>?_) hNB)))
 cases r with
 | none=>exact wpAny_pure h₁
 | some v=>
  refine wpAny_bind (wpAny_mono h₁ (fun _ s₁' h₁'=>?_) hNB)
  refine wpAny_bind (wpAny_mono h₁' (fun _ s₂ h₂ => wpAny_bind (wpAny_mono h₂ (fun ok s₃ h₃ => ?_) hNB)) hNB)
  cases ok with
  | false=>exact wpAny_pure ⟨rfl,h₃⟩
  | true=>
   exact wpAny_bind (wpAny_bind (wpAny_mono h₃ (fun x s₄ h₄ => wpAny_bind (wpAny_mono h₄ (fun _ s₅ h₅ => wpAny_pure (wpAny_pure ⟨rfl,h₅⟩)) hNB)) hNB))
end
def Qh(scope outer:Scope):Scope:=
 { scope with names:=scope.names.map fun(n,k)=>if (k == .free&&outer.kind == .function&&outer.names.lookup n == some .cell) then(n,.cell) else(n,k) }
theorem Qpk(c:Str->NameKind->Bool)(x:Str):∀ names:List (Str×NameKind),(names.map fun(n,k)=>if c n k=true then(n,NameKind.cell) else(n,k)).lookup x=(names.lookup x).map fun k=>if c x k=true then NameKind.cell else k
 | []=>rfl
 | (n,k)::r=>by
  have ih:=Qpk c x r
  show List.lookup x ((if c n k=true then(n,NameKind.cell) else(n,k))::_)=_
  by_cases hx:x=n
  ·subst hx
   by_cases hc:c x k=true
   ·rw[if_pos hc,List.lookup_cons_self,List.lookup_cons_self];simp[hc]
   ·rw[if_neg hc,List.lookup_cons_self,List.lookup_cons_self];simp[hc]
  ·have hb:(x == n)=false:=by simpa using hx
   by_cases hc:c n k=true
   ·rw[if_pos hc,List.lookup_cons,List.lookup_cons,hb];exact ih
   ·rw[if_neg hc,List.lookup_cons,List.lookup_cons,hb];exact ih
theorem Qnm(scope outer:Scope)(x:Str):(Qh scope outer).names.lookup x=(scope.names.lookup x).map fun k=>if (k == .free&&outer.kind == .function&&outer.names.lookup x == some .cell)=true then NameKind.cell else k:=
 Qpk (fun n k=>k == .free&&outer.kind == .function&&outer.names.lookup n == some .cell) x scope.names
theorem QAi{scope outer:Scope}{x:Str}(h:scope.names.lookup x=some .free):(Qh scope outer).names.lookup x=some .cell∨(Qh scope outer).names.lookup x=some .free:=by
 rw[Qnm,h]
 show some (if _ then _ else _)=_∨some (if _ then _ else _)=_
 split
 ·exact .inl rfl
 ·exact .inr rfl
theorem QBa{scope outer:Scope}{x:Str}(h:(Qh scope outer).names.lookup x=some .cell∨(Qh scope outer).names.lookup x=some .free):scope.names.lookup x=some .cell∨scope.names.lookup x=some .free:=by
 rw[Qnm]at h
 cases e:scope.names.lookup x with
 | none=>rw[e]at h;rcases h with h | h<;>cases h
 | some k=>
  rw[e]at h
  cases k with
  | free=>exact .inr rfl
  | cell=>exact .inl rfl
  | _=>rcases h with h | h<;>cases h
def Qbw(env:Env):List (Str×NameKind)->List (Str×Addr)->List (Str×Addr)
 | [],acc=>acc
 | (n,k)::r,acc=>if (k == .free)=true then Qbw env r ((n,(env.cells.lookup n).getD 0)::acc) else Qbw env r acc
theorem Qw8{scope:Scope}{env:Env}(h:∀ y∈scope.names,y.2=.free->(env.cells.lookup y.1).isSome=true):closureFor scope env=pure (Qbw env scope.names []):=by
 have go:∀(names:List (Str×NameKind))(acc:List (Str×Addr)),(∀ y∈names,y.2=.free->(env.cells.lookup y.1).isSome=true)->
  (forIn names acc fun x r=>if (x.2 == NameKind.free)=true then(cellOf env x.1>>=fun a=>pure (ForInStep.yield ((x.1,a)::r))) else pure (ForInStep.yield r):Sem (List (Str×Addr)))=pure (Qbw env names acc):=by
  intro names
  induction names with
  | nil=>intro acc _;rfl
  | cons y r ih=>
   intro acc hy
   obtain⟨n,k⟩:=y
   rw[List.forIn_cons]
   unfold Qbw
   by_cases hk:(k == NameKind.free)=true
   ·obtain⟨c,hc⟩:=Option.isSome_iff_exists.mp (hy (n,k) List.mem_cons_self (beq_iff_eq.mp hk))
    have e:cellOf env n=pure c:=by unfold cellOf;rw[show env.cells.lookup n=some c from hc]
    simp only[hk,if_true,e]
    rw[show(env.cells.lookup n).getD 0=c from by rw[show env.cells.lookup n=some c from hc];rfl]
    exact ih _ fun y hm=>hy y (List.mem_cons_of_mem _ hm)
   ·simp only[hk]
    exact ih _ fun y hm=>hy y (List.mem_cons_of_mem _ hm)
 have e:=go scope.names [] h
 unfold closureFor
 exact congrArg (fun m=>m>>=fun s=>(pure s:Sem (List (Str×Addr)))) e
theorem Qli{env:Env}{p:Str×Addr}:∀{names:List (Str×NameKind)}{acc:List (Str×Addr)},p∈Qbw env names acc->p∈acc∨p.2=(env.cells.lookup p.1).getD 0/\∃ y∈names,y.1=p.1/\y.2=.free
 | [],_,h=>.inl h
 | (n,k)::r,acc,h=>by
  unfold Qbw at h
  split at h
  ·rename_i hk
   rcases Qli h with h | ⟨h,y,hy,e⟩
   ·rcases List.mem_cons.mp h with h | h
    ·subst h;exact .inr ⟨rfl,(n,k),List.mem_cons_self,rfl,beq_iff_eq.mp hk⟩
    ·exact .inl h
   ·exact .inr ⟨h,y,List.mem_cons_of_mem _ hy,e⟩
  ·rcases Qli h with h | ⟨h,y,hy,e⟩
   ·exact .inl h
   ·exact .inr ⟨h,y,List.mem_cons_of_mem _ hy,e⟩
theorem QkW{env:Env}{x:Str}:∀{names:List (Str×NameKind)}{acc:List (Str×Addr)},(acc.lookup x).isSome=true∨(∃ y∈names,y.1=x/\y.2=.free)->((Qbw env names acc).lookup x).isSome=true
 | [],_,h=>h.elim id fun⟨_,hy,_⟩=>nomatch hy
 | (n,k)::r,acc,h=>by
  unfold Qbw
  split
  ·rename_i hk
   refine QkW ?_
   rcases h with h | ⟨y,hy,e1,e2⟩
   ·refine .inl ?_
    rw[List.lookup_cons]
    split
    ·rfl
    ·exact h
   ·rcases List.mem_cons.mp hy with rfl | hy
    ·refine .inl ?_
     have e1:n=x:=e1
     subst e1
     rw[List.lookup_cons_self];rfl
    ·exact .inr ⟨y,hy,e1,e2⟩
  ·rename_i hk
   refine QkW ?_
   rcases h with h | ⟨y,hy,e1,e2⟩
   ·exact .inl h
   ·rcases List.mem_cons.mp hy with rfl | hy
    ·have e2:k=.free:=e2
     subst e2
     exact absurd rfl hk
    ·exact .inr ⟨y,hy,e1,e2⟩
theorem QcG{α:Type}{l:List (Str×α)}{x:Str}{c:α}(h:l.lookup x=some c):(x,c)∈l:=PySem.mem_of_lookup h
theorem QwX{p:Str×Addr}:∀{names:List (Str×NameKind)}{n:Nat}{acc:List (Str×Addr)},p∈cellsFrom n names acc->p∈acc∨n<=p.2
 | [],_,_,h=>.inl h
 | (y,k)::r,n,acc,h=>by
  unfold cellsFrom at h
  split at h
  ·rcases QwX h with h | h
   ·rcases List.mem_cons.mp h with h | h
    ·subst h;exact .inr ‹"an"›
    ·exact .inl h
   ·exact .inr (Nat.le_of_succ_le h)
  ·exact QwX h
theorem QET:∀{names:List (Str×NameKind)}{n:Nat}{acc:List (Str×Addr)},(∀ p∈acc,p.2<n)->(∀ p∈acc,∀ q∈acc,p.2=q.2->p.1=q.1)->∀ p∈cellsFrom n names acc,∀ q∈cellsFrom n names acc,p.2=q.2->p.1=q.1
 | [],_,_,_,h=>h
 | (y,k)::r,n,acc,hl,hi=>by
  unfold cellsFrom
  split
  ·refine QET (fun p hp=>?_) fun p hp q hq e=>?_
   ·rcases List.mem_cons.mp hp with rfl | hp
    ·exact Nat.lt_succ_self _
    ·exact Nat.lt_succ_of_lt (hl p hp)
   ·rcases List.mem_cons.mp hp with rfl | hp<;>rcases List.mem_cons.mp hq with rfl | hq
    ·rfl
    ·exact absurd e (Nat.ne_of_gt (hl q hq))
    ·exact absurd e (Nat.ne_of_lt (hl p hp))
    ·exact hi p hp q hq e
  ·exact QET hl hi
theorem Qzr:∀{names:List (Str×NameKind)}{h:Heap}{acc:List (Str×Addr)},(∀ p∈acc,∃ v,h.IsCell p.2 v)->∀ p∈cellsFrom h.objs.size names acc,∃ v,(pushCells h names).IsCell p.2 v
 | [],_,_,h=>h
 | (y,k)::r,h,acc,hc=>by
  unfold cellsFrom pushCells
  split
  ·have:=Qzr (names:=r) (h:=h.push { cls:=.type "cell",data:=.cell none }) (acc:=(y,h.objs.size)::acc) fun p hp=>by
    rcases List.mem_cons.mp hp with rfl | hp
    ·exact⟨none,_,Heap.get?_push_size _ rfl,rfl⟩
    ·obtain⟨v,q⟩:=hc p hp
     exact⟨v,q.keeps fun b o e=>Heap.get?_push_of_some _ e⟩
   rwa [Heap.size_push]at this
  ·exact Qzr hc
theorem Qzm{x:Str}:∀{names:List (Str×NameKind)}{n:Nat}{acc:List (Str×Addr)},(∀ y∈names,y.1=x->y.2=.free)->(cellsFrom n names acc).lookup x=acc.lookup x
 | [],_,_,_=>rfl
 | (y,k)::r,n,acc,h=>by
  unfold cellsFrom
  split
  ·rename_i hk
   rw[Qzm fun z hz=>h z (List.mem_cons_of_mem _ hz),List.lookup_cons]
   split
   ·rename_i hb
    have hx:x=y:=beq_iff_eq.mp hb
    have:=h (y,k) List.mem_cons_self hx.symm
    have this:k=.free:=this
    subst this
    exact absurd hk (by decide)
   ·rfl
  ·exact Qzm fun z hz=>h z (List.mem_cons_of_mem _ hz)
def QEN(scope:Scope)(cl:List (Str×Addr))(L:Addr)(env:Env):Env:=
 { scope:=Qh scope env.scope,locals:=L,globals:=env.globals,cells:=cellsFrom (L+1) scope.names cl,qual:=env.qual,func:=none,code:=env.code,frame:=env.frame,builtins:=env.builtins }
theorem QNI{M:Model}{A:Around}{E:‹"k"›}{s:Shared}{scope:Scope}{cl:List (Str×Addr)}{env:Env}{Q:Env->Shared->Prop}
 (h:∀ c,{ c with scope:=relabel scope env }=QEN scope cl s.heap.objs.size env->c.locals=s.heap.objs.size->Q c { s with heap:=pushCells (s.heap.push { cls:=.type "dict",data:=.dict #[] }) scope.names }):
 wpAny M A (newFunctionEnv scope env.globals cl [] env.qual none .none (some env)) Q E s:=by
 simp only[newFunctionEnv,Option.isSome_some,if_true]
 refine wpAny_bind (wpAny_alloc ?_)
 refine wpAny_bind (wpAny_layCells _ (fun name kind cells=>by cases hkc:kind == NameKind.cell<;>simp[hkc]) _ _ _ _ ?_)
 rw[show({ s with heap:=s.heap.push { cls:=.type "dict",data:=.dict #[] } }:Shared).heap.objs.size=s.heap.objs.size+1 from Heap.size_push ..]
 refine wpAny_bind (wpAny_pure (wpAny_pure (h _ ?_ rfl)))
 rfl
def capt(js:‹"K"›)(σ:St):St:=js.map fun j=>j.bind fun j=>(σ[j]?).join
structure QC(N':List Str)(js:List (Option Nat))(scope outer:Scope)(N:List Str):Prop where
 kind:scope.kind=.function
 uniq:∀ y∈scope.names,scope.names.lookup y.1=some y.2
 nd:N'.Nodup
 len:js.length=N'.length
 free:∀ y∈scope.names,y.2=.free->outer.names.lookup y.1=some .cell∨outer.names.lookup y.1=some .free
 cap:((N'.zip js).all fun p=>match p.2 with
  | none=>true
  | some j=>decide (N[j]?=some p.1)&&decide (scope.names.lookup p.1=some .free))=true
theorem QC.capOf{N':List Str}{js:‹"K"›}{scope outer:Scope}{N:List Str}(S:QC N' js scope outer N){i j:Nat}{x:Str}(h1:N'[i]?=some x)(h2:js[i]?=some (some j)):
 N[j]?=some x/\scope.names.lookup x=some .free/\∀ y∈scope.names,y.1=x->y.2=.free:=by
 have h:=List.all_eq_true.mp S.cap (x,some j) (by
  refine List.mem_of_getElem? (i:=i) ?_
  rw[List.getElem?_zip_eq_some]
  exact⟨h1,h2⟩)
 simp only[Bool.and_eq_true,decide_eq_true_eq]at h
 exact⟨h.1,h.2,fun y hy e=>by
  have:=S.uniq y hy
  rw[e,h.2]at this
  exact(Option.some.inj this).symm⟩
theorem QC.names{N':List Str}{js:‹"K"›}{scope outer:Scope}{N:List Str}(S:QC N' js scope outer N):∀ y∈scope.names,y.2=.local->scope.names.lookup y.1=some .local:=fun y hy e=>by
 rw[S.uniq y hy,e]
def cxC(X:Cx)(N':List Str)(scope:Scope)(fp:List Addr)(s:Shared)(H:Hp):Cx:=
 { X with N:=N',s₀:=s,H₀:=H,env:=QEN scope (Qbw X.env scope.names []) s.heap.objs.size X.env,outer:=X.stack,ex:=fp,
          fn:=fun x=>match scope.names.lookup x with | some .cell=>true | _=>false,pn:=[],xe:=fun _ _=>False }
theorem QMr{X:Cx}{N':List Str}{js:‹"K"›}{scope:Scope}{pins:‹"r"›}{σ:St}{H:Hp}{s:Shared}{fp:List Addr}(S:QC N' js scope X.env.scope X.N)(I:‹"i"›)(hf:∀ b∈fp,FpOk X pins H b)
 (hlt:∀ b∈fp,b<s.heap.objs.size):
 Inv (cxC X N' scope fp s H) [] (capt js σ) H { s with heap:=pushCells (s.heap.push { cls:=.type "dict",data:=.dict #[] }) scope.names }:=by
 have hk:∀ b o,s.heap.get? b=some o->(pushCells (s.heap.push { cls:=.type "dict",data:=.dict #[] }) scope.names).get? b=some o:=fun b o e=>pushCells_keeps _ _ b o (Heap.get?_push_of_some _ e)
 have sz:(s.heap.push { cls:=.type "dict",data:=.dict #[] }).objs.size=s.heap.objs.size+1:=Heap.size_push ..
 -- captured cells stand in the outer frame
 have out:∀ x,(∃ y∈scope.names,y.1=x/\y.2=.free)->∃ c,X.env.cells.lookup x=some c:=fun x ⟨y,hy,e1,e2⟩=>by
  subst e1
  exact I.ok.has y.1 (S.free y hy e2)
 have clm:∀ p∈Qbw X.env scope.names [],X.env.cells.lookup p.1=some p.2:=fun p hp=>by
  rcases Qli hp with h | ⟨h,hy⟩
  ·cases h
  ·obtain⟨c,hc⟩:=out p.1 hy
   rw[hc]at h ⊢
   rw[h];rfl
 have cllt:∀ p∈Qbw X.env scope.names [],p.2<s.heap.objs.size:=fun p hp=>by
  obtain⟨v,q⟩:=I.cell p.1 p.2 (clm p hp)
  exact q.lt
 have cin:∀ x c,(cellsFrom (s.heap.objs.size+1) scope.names (Qbw X.env scope.names [])).lookup x=some c->X.env.cells.lookup x=some c∨s.heap.objs.size+1<=c:=fun x c e=>by
  rcases QwX (QcG e) with h | h
  ·exact .inl (clm _ h)
  ·exact .inr h
 have capL:∀ x,scope.names.lookup x=some .free->(∀ y∈scope.names,y.1=x->y.2=.free)->(cellsFrom (s.heap.objs.size+1) scope.names (Qbw X.env scope.names [])).lookup x=X.env.cells.lookup x:=fun x hx hy=>by
  rw[Qzm hy]
  have hs:=QkW (env:=X.env) (x:=x) (names:=scope.names) (acc:=[]) (.inr ⟨_,QcG hx,rfl,rfl⟩)
  obtain⟨c,hc⟩:=Option.isSome_iff_exists.mp hs
  rw[hc,clm _ (QcG hc)]
 refine⟨⟨I.ok.mod,S.kind,I.ok.glob,I.ok.blt,Nat.le_refl _,fun x y c h1 h2=>?_,fun x hx=>?_,fun x c hx h=>?_,I.ok.hd,I.ok.frames,.inl rfl,fun b hb=>?_,I.bs,Nat.le_trans I.ok.bsz I.sz,fun b o e hb=>?_,fun b hb hz=>?_,I.stack,I.stkFree⟩,
  rfl,I.bare,Un.kept hk,?_,fun x c h=>?_,I.hok.fresh ‹"an"›,fun x c h=>?_,fun p hp=>absurd (show p∈([]:List (Addr×Obj)) from hp) (by simp),I.hok.kept hk,?_⟩
 ·refine QET (names:=scope.names) (n:=s.heap.objs.size+1) (acc:=Qbw X.env scope.names []) (fun p hp=>Nat.lt_succ_of_lt (cllt p hp)) (fun p hp q hq e=>?_) (x,c) (QcG h1) (y,c) (QcG h2) rfl
  have a:=clm p hp
  have b:=clm q hq
  rw[← e]at b
  exact I.ok.inj _ _ _ a b
 ·have hx':=QBa (show(Qh scope X.env.scope).names.lookup x=some .cell∨_ from hx)
  refine Option.isSome_iff_exists.mp (PySem.W.cellsFrom_some scope.names _ _ ?_)
  rcases hx' with h | h
  ·exact .inl h
  ·exact .inr (QkW (.inr ⟨_,QcG h,rfl,rfl⟩))
 ·rcases QwX (QcG h) with hm | hm
  ·-- an own cell's name is captured too: its first entry is the own one
   have hx':scope.names.lookup x=some .cell:=by
    have hx2:(match scope.names.lookup x with | some .cell=>true | _=>false)=true:=hx
    split at hx2
    ·assumption
    ·cases hx2
   rcases Qli hm with q | ⟨_,y,hy,e1,e2⟩
   ·cases q
   ·have:=S.uniq y hy
    have e1:y.1=x:=e1
    rw[e1,hx',e2]at this
    cases this
  ·exact Nat.le_of_succ_le hm
 ·refine⟨Nat.ne_of_lt (hlt b hb),fun x c h e=>?_⟩
  rcases cin x c h with q | q
  ·exact(hf b hb).2.2.2.2.1 x c q e
  ·have:=hlt b hb
   rw[← e]at this
   exact absurd (Nat.lt_of_lt_of_le this (Nat.le_of_succ_le q)) (Nat.lt_irrefl _)
 ·rcases(hf b hb).2.2.2.1 with z | z
  ·exact I.ok.noex b o e z
  ·exact absurd (Nat.lt_of_lt_of_le (Heap.lt_size (I.ok.bs b o e).1) z) (Nat.lt_irrefl _)
 ·rcases List.mem_cons.mp (I.stkSub b hz) with e | e
  ·exact(hf b hb).2.1 e
  ·exact(hf b hb).2.2.1 e
 ·obtain⟨m,hn,hl⟩:=I.loc
  refine⟨fun _=>none,(Heap.Ns.new s.heap (.type "dict")).keeps (pushCells_keeps _ _),fun i x v h1 h2 h3=>?_⟩
  have h2':((js[i]?).map fun j=>j.bind fun j=>(σ[j]?).join)=some (some v):=by
   unfold capt at h2
   rw[List.getElem?_map]at h2
   exact h2
  cases e:js[i]? with
  | none=>rw[e]at h2';cases h2'
  | some o=>
   rw[e]at h2'
   cases o with
   | none=>cases h2'
   | some j=>
    have h4:(σ[j]?).join=some v:=Option.some.inj h2'
    have h5:σ[j]?=some (some v):=by
     cases z:σ[j]? with
     | none=>rw[z]at h4;cases h4
     | some o=>rw[z]at h4;have h4:o=some v:=h4;rw[h4]
    obtain⟨hN,hx,hy⟩:=S.capOf h1 e
    have hvis:=S.free _ (QcG hx) rfl
    obtain⟨u,r,lk⟩:=hl j x v hN h5 (.inr hvis)
    refine⟨u,r,.inr ⟨QAi hx,?_⟩⟩
    rcases lk with⟨k,_⟩ | ⟨_,c,hc,z⟩
    ·have k:X.env.scope.names.lookup x=some .local:=k
     rcases hvis with q | q
     ·rw[k]at q;cases q
     ·rw[k]at q;cases q
    ·exact⟨c,(capL x hx hy).trans hc,z.keeps hk⟩
 ·have:=Qzr (names:=scope.names) (h:=s.heap.push { cls:=.type "dict",data:=.dict #[] }) (acc:=Qbw X.env scope.names []) (fun p hp=>by
   obtain⟨v,q⟩:=I.cell p.1 p.2 (clm p hp)
   exact⟨v,q.keeps fun b o e=>Heap.get?_push_of_some _ e⟩) (x,c) (by rw[sz];exact QcG h)
  exact this
 ·rcases cin x c h with q | q
  ·exact I.freeC x c q
  ·exact I.hok.fresh (Nat.le_of_succ_le q)
 ·show(js.map _).length=N'.length
  rw[List.length_map];exact S.len
def eMax(X:Cx)(e:Expr):TE:=fun σ H Q=>∃ t,PE X e t/\t σ H Q
theorem QPB{X:Cx}{e:Expr}:PE X e (eMax X e):=fun pins s σ H Q I ⟨t,ht,h⟩=>ht pins s σ H Q I h
def gMax(X:Cx)(e:Expr):TG:=fun v σ H Q=>∃ t,PG X e t/\t v σ H Q
theorem QP9{X:Cx}{e:Expr}:PG X e (gMax X e):=fun pins s σ H v u Q I r ⟨t,ht,h⟩=>ht pins s σ H v u Q I r h
def PIf(X:Cx)(ifs:List Expr)(tc:TT):Prop:=(ifs=[]/\tc=fun _ H Q=>Q true H)∨∃ c,ifs=[c]/\PT X c tc
theorem QNX{X:Cx}:PIf X [] (fun _ H Q=>Q true H):=.inl ⟨rfl,rfl⟩
theorem QN2{X:Cx}{c:Expr}{tc:TT}(h:PT X c tc):PIf X [c] tc:=.inr ⟨c,rfl,h⟩
theorem PIf.run{X:Cx}{ifs:List Expr}{tc:TT}(h:PIf X ifs tc){pins:‹"r"›}{s:Shared}{σ:St}{H:Hp}{Q:Bool->Hp->Prop}(I:‹"i"›)(q:tc σ H Q):
 wpAny ‹"j"› X.A (forIn ifs true fun c r=>if r=true then do let ok ← isTrue c X.env (eval c X.env);pure (ForInStep.yield ok) else pure (ForInStep.yield r)) (TP X pins σ Q) X.xe s:=by
 rcases h with⟨rfl,rfl⟩ | ⟨c,rfl,h⟩
 ·exact wpAny_tests_nil ⟨H,I,q⟩
 ·exact wpAny_tests_one (h pins s σ H Q I q)
def cMax(X:Cx)(ifs:List Expr):TT:=fun σ H Q=>∃ t,PIf X ifs t/\t σ H Q
def CompW(X':Cx)(js:‹"K"›)(tg elt:Expr)(ifs:List Expr)(σ:St)(H1:Hp)(J:It)(p:Addr)(Q:VK):Prop:=
 ∃ W:Nat->Nat->St->Hp->Prop,(∃ m,W 0 m (capt js σ) (upd H1 p (.lst [])))/\∀ i m τ H',W i m τ H'->
 (J.stop i H'/\Q (.ref p) H')∨(J.go i H'/\∃ N:St->Hp->Prop,(∀ τ' H'',N τ' H''->∃ m',m'<m/\W (i+1) m' τ' H'')/\∀ x H'',J.yld i H' x H''->gMax X' tg x τ H'' fun τ2 H2=>cMax X' ifs τ2 H2 fun b H3=>
  if b=true then eMax X' elt τ2 H3 fun y H4=>∃ ys,H4 p=some (.lst ys)/\ys.length<sizeLine/\N τ2 (upd H4 p (.lst (ys++[y]))) else N τ2 H3)
def tComp(X:Cx)(N':List Str)(js:‹"K"›)(scope:Scope)(tg elt:Expr)(ifs:List Expr)(wi:TI):TE:=fun σ H Q=>wi σ H fun J H1=>∀ p,H1 p=none->∀ fp s,
 CompW (cxC X N' scope fp s (upd H1 p (.lst []))) js tg elt ifs σ H1 J p Q
section
variable{X:Cx}{N':List Str}{js:List (Option Nat)}{scope:Scope}{tg iter elt:Expr}{ifs:List Expr}{wi:TI}{pos:Pos}
theorem QwY{pins:‹"r"›}{σ:St}{H:Hp}{s:Shared}{R:V->Hp->Prop}{E:‹"k"›}(hc:X.calm=true)(S:QC N' js scope X.env.scope X.N)
 {it:Addr} {fp:List Addr} {tn:Nat->Heap->Prop} {J:It} (I2:‹"i"›) (T:Turn X.prog X.w X.K tg J fp it tn) (st:tn 0 s.heap) (hf:∀ b∈fp,FpOk X pins H b)
 (hW:∀ p,H p=none->∀ fp s,CompW (cxC X N' scope fp s (upd H p (.lst []))) js tg elt ifs σ H J p R)
 {RR:Value->Addr->Result->Shared->Prop}
 (hRR:∀(D C:Addr)(s':Shared)(H':Hp),Inv X pins σ H' s'->(∃ m,s'.heap.Ns C m)->H' C=none->C≠X.env.locals->X.s₀.heap.objs.size<=C->(∀ x c,X.env.cells.lookup x=some c->c≠C)->(∀ p∈X.pn++pins,p.1≠C)->R (.ref D) H'->RR (.ref D) C (.ok .next) s'):
 wpAny ‹"j"› X.A (newList []) (fun acc s₃ => wpAny ‹"j"› X.A (newFunctionEnv scope X.env.globals (Qbw X.env scope.names []) [] X.env.qual none .none (some X.env)) (fun cenv s₄ =>
  codeAny ‹"j"› X.A (.compStart ‹"q"› 0 (.ref it) acc { cenv with scope:=relabel scope X.env }) (RR acc cenv.locals) s₄) E s₃) E s:=by
 refine wpAny_newObj_type ?_
 have hfresh:H s.heap.objs.size=none:=I2.hok.fresh ‹"an"›
 have I3:Inv X pins σ (upd H s.heap.objs.size (.lst [])) { s with heap:=s.heap.push { cls:=.type "list",data:=.seq ([]:List Value).toArray } }:=I2.lnew (t':=s.toks) .nil (Nat.zero_le _)
 generalize hs3:({ s with heap:=s.heap.push { cls:=.type "list",data:=.seq ([]:List Value).toArray } }:Shared)=s3 at I3 ⊢
 have hsz3:s3.heap.objs.size=s.heap.objs.size+1:=by rw[← hs3];exact Heap.size_push ..
 have hk3:∀ b o,s.heap.get? b=some o->s3.heap.get? b=some o:=fun b o e=>by rw[← hs3];exact Heap.get?_push_of_some _ e
 have flt:∀ b∈fp,b<s.heap.objs.size:=fun b hb=>by
  obtain⟨o,e,_⟩:=T.obj _ _ st b hb
  exact Heap.lt_size e
 have hf3:∀ b∈fp,FpOk X pins (upd H s.heap.objs.size (.lst [])) b:=fun b hb=>⟨by rw[Ql (Nat.ne_of_lt (flt b hb))];exact(hf b hb).1,(hf b hb).2⟩
 have st3:tn 0 s3.heap:=T.keep _ _ _ st fun b _ o e=>hk3 b o e
 refine QNI fun cenv ecenv el=>?_
 rw[ecenv,el]
 have I4:=QMr (fp:=fp) S I3 hf3 fun b hb=>by rw[hsz3];exact Nat.lt_succ_of_lt (flt b hb)
 obtain⟨W,⟨m0,w0⟩,turn⟩:=hW _ hfresh fp s3
 generalize hX':cxC X N' scope fp s3 (upd H s.heap.objs.size (.lst []))=X' at I4 turn
 generalize hs4:({ s3 with heap:=pushCells (s3.heap.push { cls:=.type "dict",data:=.dict #[] }) scope.names }:Shared)=s4 at I4 ⊢
 have eenv:QEN scope (Qbw X.env scope.names []) s3.heap.objs.size X.env=X'.env:=by rw[← hX'];rfl
 have eprog:X'.prog=X.prog:=by rw[← hX'];rfl
 have ew:X'.w=X.w:=by rw[← hX'];rfl
 have eK:X'.K=X.K:=by rw[← hX'];rfl
 have eA:X'.A=X.A:=by rw[← hX'];rfl
 have ecalm:X'.calm=true:=by rw[← hX'];exact hc
 have exe:∀ e s',X'.xe e s'->False:=fun e s' h=>by rw[← hX']at h;exact h
 have eex:X'.ex=fp:=by rw[← hX'];rfl
 have efs:X'.fs=frs X.stack:=by rw[← hX'];rfl
 have epn:X'.pn=[]:=by rw[← hX'];rfl
 have es0:X'.s₀=s3:=by rw[← hX'];rfl
 have eH0:X'.H₀=upd H s.heap.objs.size (.lst []):=by rw[← hX'];rfl
 have eloc:X'.env.locals=s3.heap.objs.size:=by rw[← eenv];rfl
 rw[eenv]
 have st4:tn 0 s4.heap:=T.keep _ _ _ st3 fun b _ o e=>by rw[← hs4];exact pushCells_keeps _ _ b o (Heap.get?_push_of_some _ e)
 -- the iterator's objects,seen from the block
 have fpok:∀{H':Hp},(∀ b∈fp,H' b=none)->∀ b∈fp,FpOk X' [] H' b:=fun {H'} hn b hb=>by
  obtain⟨h1,h2⟩:=I4.ok.exf b (by rw[eex];exact hb)
  exact⟨hn b hb,h1,fun z=>I4.ok.exfs b (by rw[eex];exact hb) z,.inl (by rw[eex];exact hb),h2,fun p hp=>by rw[epn]at hp;cases hp⟩
 have loop:∀ s5,s5=s4->codeAny ‹"j"› X.A (.compLoop ‹"q"› 0 (.ref it) (.ref s.heap.objs.size) X'.env) (RR (.ref s.heap.objs.size) s3.heap.objs.size) s5:=by
  rintro s5 rfl
  refine QBQ (fun n s'=>∃ i τ H',Inv X' [] τ H' s'/\tn i s'.heap/\(∀ b∈fp,H' b=none)/\W i n τ H') (fun _ _=>False) (fun _ _ h=>h.elim) ?_ m0 ⟨0,_,_,I4,st4,fun b hb=>(hf3 b hb).1,w0⟩
  rintro n s6 ⟨i,τ,H6,I6,st6,fr6,w6⟩
  have A1:∀{α:Type}{t:Sem α}{Q:α->Shared->Prop}{s:Shared},wpAny (model X'.prog X'.w) X'.A t Q X'.xe s->wpAny ‹"j"› X.A t Q (fun _ _=>False) s:=fun {α t Q s} h=>by
   rw[eprog,ew,eA]at h
   exact wpAny_mono h (fun _ _ q=>q) exe
  rcases turn i n τ H6 w6 with⟨stop,qn⟩ | ⟨go,N,hN,step⟩
  ·have h7:=T.done X' eprog ew eK ecalm i [] s6 τ H6 (fun _ _=>False) I6 (fpok fr6) st6 stop
   rw[eA]at h7
   refine thn h7 fun r s7 ⟨hr,I7⟩=>?_
   subst hr
   -- back to the frame around
   have un:=I7.base
   rw[es0,eH0,efs,eex]at un
   have Iout:Inv X pins σ H6 s7:=I3.call' (ch:=fp) (by rw[I7.os,es0]) un (by have:=I7.hok;rw[eprog,ew]at this;exact this) I7.bare fun b hb=>by
    obtain⟨f0,f1,f2,f3,f4,f5⟩:=hf3 b hb
    exact⟨f3,f1,f4,f5⟩
   refine hRR _ _ s7 H6 Iout ?_ ?_ ?_ ?_ ?_ ?_ qn
   ·obtain⟨m,hn,_⟩:=I7.loc
    rw[eloc]at hn
    exact⟨m,hn⟩
   ·have:=I7.free
    rw[eloc]at this
    exact this
   ·exact Nat.ne_of_gt I3.lt
   ·exact I3.sz
   ·intro x c e z
    obtain⟨v,q⟩:=I3.cell x c e
    exact absurd q.lt (by rw[z];exact Nat.lt_irrefl _)
   ·intro p hp z
    exact absurd (Heap.lt_size (I3.pin p hp).1) (by rw[z];exact Nat.lt_irrefl _)
  ·have h6:=T.item X' eprog ew eK ecalm i [] s6 τ H6 (fun _ _=>False) I6 (fpok fr6) st6 go
   rw[eA]at h6
   refine thn h6 fun r s7 ⟨u,hr,h7⟩=>?_
   subst hr
   refine thn h7 fun _ s8 ⟨x,H8,I8,r8,y8,st8,fr8⟩=>?_
   have I8':=I8.pinned (fpok fr8) (T.obj _ _ st8)
   refine thn (A1 (QP9 _ s8 τ H8 x u _ I8' r8 (step x H8 y8))) fun _ s9 ⟨τ9,H9,I9,q9⟩=>?_
   obtain⟨tcc,hif,q9⟩:=q9
   refine thn (A1 (hif.run I9 q9)) fun ok s10 ⟨H10,I10,q10⟩=>?_
   have again:∀{τ':St}{H':Hp}{s':Shared},Inv X' ([]++QrW fp s8.heap) τ' H' s'->N τ' H'->∃ m,m<n/\∃ i τ H',Inv X' [] τ H' s'/\tn i s'.heap/\(∀ b∈fp,H' b=none)/\W i m τ H':=fun {τ' H' s'} I' n'=>by
    obtain⟨m',hm,w'⟩:=hN τ' H' n'
    refine⟨m',hm,i+1,τ',H',I'.unpinned,T.keep _ _ _ st8 fun b hb o e=>(I'.pin (b,o) ‹"am"›).1,fun b hb=>?_,w'⟩
    obtain⟨o,e,d⟩:=T.obj _ _ st8 b hb
    exact(I'.pin (b,o) ‹"am"›).2.1
   cases ok with
   | false=>
    rw[if_neg Bool.false_ne_true]at q10 ⊢
    exact again I10 q10
   | true=>
    rw[if_pos rfl]at q10 ⊢
    refine thn (A1 (QPB _ s10 τ9 H10 _ I10 q10)) fun y s11 ⟨yv,H11,I11,r11,ys,hp11,hz,n11⟩=>?_
    refine thn (A1 (QzT _ s11 τ9 H11 (.ref s.heap.objs.size) [yv] (.ref s.heap.objs.size) [y] (fun _ H'=>N τ9 H') I11 rfl (.cons r11 .nil) ⟨_,ys,yv,rfl,rfl,hp11,hz,n11⟩)) fun _ s12 ⟨v12,H12,I12,_,n12⟩=>?_
    exact again I12 n12
 exact codeAny_compStart_list (loop _ rfl) (T.self _ 0 _ _ _ st4 (loop _ rfl))
theorem QNY(hc:X.calm=true)(S:QC N' js scope X.env.scope X.N)(hi:PI X tg iter wi)
 (hs:∀ x,foldedSetIterable iter X.env x=pure x:=by intro _;rfl):PE X ‹"q"› (tComp X N' js scope tg elt ifs wi):=by
 intro pins s σ H Q I h
 rw[eval_ListComp]
 have hcl:closureFor scope X.env=pure (Qbw X.env scope.names []):=Qw8 fun y hy e=>by
  obtain⟨c,hc⟩:=I.ok.has y.1 (S.free y hy e)
  rw[hc];rfl
 refine wpAny_comprehension_free (use:=none) rfl hs hcl S.kind S.names (thn (hi pins s σ H _ I h) fun v s1 h1=>thn h1 fun itv s2 h2=>?_)
 obtain⟨it,fp,tn,J,H2,e,I2,T,st2,f2,hW⟩:=h2
 subst e
 refine QwY (R:=Q) (RR:=fun acc C=>compPost ‹"j"› X.A X.xe none (EP X pins σ Q) acc C) hc S I2 T st2 f2 hW ?_
 intro D C s' H' I' ⟨m,hn⟩ hC h1 h2 h3 h4 q
 refine⟨m,hn,fun h' hsb=>⟨.ref D,H',?_,rfl,q⟩⟩
 exact I'.turned (t':=s'.toks) (fun b o hb e=>(hsb.2 b hb).trans e) hC (Ne.symm (Ne.symm h1)) (.inr h2) h3 h4
theorem QNE{i:Nat}{x:Str}{px spos:Pos}(hc:X.calm=true)(S:QC N' js scope X.env.scope X.N)(hi:PI X tg iter wi)
 (hN:X.N.Nodup) (hx:X.N[i]?=some x) (hl:Loc X.env.scope x)
 (hsw:swapsWith ‹"q"› (some (.Name x px)) spos.line X.env=pure true)
 (hf:X.fn x=true∨X.env.scope.names.lookup x=some .local:=by first | exact .inl rfl | exact .inr rfl | assumption)
 (hs:∀ x,foldedSetIterable iter X.env x=pure x:=by intro _;rfl):PS X (.Assign [.Name x px] ‹"q"› spos) (tAsg (tComp X N' js scope tg elt ifs wi) (gName i)):=by
 intro pins s σ H D I h
 rw[exec_Assign_Name_used _ _ _ _ hsw]
 refine wpAny_bind (wpAny_standAt (wpAny_bind ?_))
 show wpAny _ X.A (do let _ ← comprehension ‹"q"› scope X.env _ (newList []) false (eval iter X.env) (some (assign (.Name x px) X.env))) _ _ s
 have hcl:closureFor scope X.env=pure (Qbw X.env scope.names []):=Qw8 fun y hy e=>by
  obtain⟨c,hc⟩:=I.ok.has y.1 (S.free y hy e)
  rw[hc];rfl
 refine wpAny_bind (wpAny_mono (wpAny_comprehension_free (use:=some (assign (.Name x px) X.env)) (Q:=fun _ s'=>SP X pins D .next s') rfl hs hcl S.kind S.names
  (thn (hi pins s σ H _ I h) fun v s1 h1=>thn h1 fun itv s2 h2=>?_)) (fun _ s' hq=>wpAny_pure (wpAny_pure hq)) fun _ _ e=>e)
 obtain⟨it,fp,tn,J,H2,e,I2,T,st2,f2,hW⟩:=h2
 subst e
 refine QwY (R:=fun v H'=>D.nx (σ.set i (some v)) H') (RR:=fun acc C=>compPost ‹"j"› X.A X.xe (some (assign (.Name x px) X.env)) (fun _ s'=>SP X pins D .next s') acc C) hc S I2 T st2 f2 hW ?_
 intro DD C s' H' I' ⟨m,hn⟩ hC h1 h2 h3 h4 q
 show wpAny _ X.A (assign (.Name x px) X.env (.ref DD)) _ _ s'
 refine wpAny_assign_Name (Qz2 (v:=.ref DD) I' hN hx hl rfl (fun s'' I'' ⟨a,hsb,ha⟩=>?_) hf)
 have hCa:C≠a:=by
  rcases ha with rfl | ha
  ·exact h1
  ·exact Ne.symm (h3 x a ha)
 refine⟨m,hn.sameBut hsb hCa,fun h' hsb'=>⟨_,H',?_,q⟩⟩
 exact I''.turned (t':=s''.toks) (fun b o hb e=>(hsb'.2 b hb).trans e) hC h1 (.inr h2) h3 h4
end
end L2
namespace DL
open PySem PySem.Spec PyProof.Rows L2
inductive D where
 | non | bl (b:Bool) | int (i:Int) | str (x:Str)
 | lst (xs:List D) | tup (xs:List D) | dic (kvs:List (Key×D)) | ins (c:Str) (fs:List (Str×D)) | err (c:Str)
instance:Inhabited D:=⟨.non⟩
abbrev CTab:=Str->Option Addr
section
variable(K:PySem.W.Frag)(CT:CTab)(H:Hp)
mutual
def Rep:D->V->Prop
 | .non,v=>v=.non
 | .bl b,v=>v=.bl b
 | .int i,v=>v=.int i
 | .str x,v=>v=.str x
 | .lst ds,v=>∃ a vs,v=.ref a/\SqL K H a vs/\RepL ds vs
 | .tup ds,v=>∃ a vs,v=.ref a/\SqT K H a vs/\RepL ds vs
 | .dic kds,v=>∃ a kvs,v=.ref a/\Rd H a (.dK kvs)/\RepK kds kvs
 | .ins c fds,v=>∃ a C dx fs,v=.ref a/\CT c=some C/\H a=some (.ins C dx fs)/\RepF fds fs
 | .err c,v=>∃ a C,v=.ref a/\CT c=some C/\H a=some (exO a C)
def RepL:List D->List V->Prop
 | [],vs=>vs=[]
 | d::ds,vs=>∃ v r,vs=v::r/\Rep d v/\RepL ds r
def RepK:List (Key×D)->List (Key×V)->Prop
 | [],kvs=>kvs=[]
 | (k,d)::ds,kvs=>∃ v r,kvs=(k,v)::r/\Rep d v/\RepK ds r
def RepF:List (Str×D)->List (Str×V)->Prop
 | [],kvs=>kvs=[]
 | (k,d)::ds,kvs=>∃ v r,kvs=(k,v)::r/\Rep d v/\RepF ds r
end
end
section
variable{K:PySem.W.Frag}{CT:CTab}{H H':Hp}
theorem Same.sqT{a:Addr}{xs:List V}(e:Same H H')(h:SqT K H a xs):SqT K H' a xs:=by
 rcases h with(h | ⟨o,h⟩) | h
 ·exact .inl (.inl (e _ _ h))
 ·exact .inl (.inr ⟨o,e _ _ h⟩)
 ·exact .inr h
theorem Same.rd{a:Addr}{u:HO}(e:Same H H')(h:Rd H a u):Rd H' a u:=by
 rcases h with h | ⟨o,h⟩
 ·exact .inl (e _ _ h)
 ·exact .inr ⟨o,e _ _ h⟩
mutual
theorem Rep.mono(e:Same H H'):∀(d:D)(v:V),Rep K CT H d v->Rep K CT H' d v
 | .non,_,h=>h
 | .bl _,_,h=>h
 | .int _,_,h=>h
 | .str _,_,h=>h
 | .lst ds,_,⟨a,vs,h1,h2,h3⟩=>⟨a,vs,h1,e.seq h2,RepL.mono e ds vs h3⟩
 | .tup ds,_,⟨a,vs,h1,h2,h3⟩=>⟨a,vs,h1,Same.sqT e h2,RepL.mono e ds vs h3⟩
 | .dic ds,_,⟨a,vs,h1,h2,h3⟩=>⟨a,vs,h1,Same.rd e h2,RepK.mono e ds vs h3⟩
 | .ins c ds,_,⟨a,C,dx,fs,h1,h2,h3,h4⟩=>⟨a,C,dx,fs,h1,h2,e _ _ h3,RepF.mono e ds fs h4⟩
 | .err c,_,⟨a,C,h1,h2,h3⟩=>⟨a,C,h1,h2,e _ _ h3⟩
theorem RepL.mono(e:Same H H'):∀(ds:List D)(vs:List V),RepL K CT H ds vs->RepL K CT H' ds vs
 | [],_,h=>h
 | d::ds,_,⟨v,r,h1,h2,h3⟩=>⟨v,r,h1,Rep.mono e d v h2,RepL.mono e ds r h3⟩
theorem RepK.mono(e:Same H H'):∀(ds:List (Key×D))(vs:List (Key×V)),RepK K CT H ds vs->RepK K CT H' ds vs
 | [],_,h=>h
 | (k,d)::ds,_,⟨v,r,h1,h2,h3⟩=>⟨v,r,h1,Rep.mono e d v h2,RepK.mono e ds r h3⟩
theorem RepF.mono(e:Same H H'):∀(ds:List (Str×D))(vs:List (Str×V)),RepF K CT H ds vs->RepF K CT H' ds vs
 | [],_,h=>h
 | (k,d)::ds,_,⟨v,r,h1,h2,h3⟩=>⟨v,r,h1,Rep.mono e d v h2,RepF.mono e ds r h3⟩
end
theorem RepL.length:∀{ds:List D}{vs:List V},RepL K CT H ds vs->ds.length=vs.length
 | [],_,h=>by cases h;rfl
 | d::ds,_,⟨v,r,h1,h2,h3⟩=>by subst h1;simp[RepL.length h3]
theorem RepL.get:∀{ds:List D}{vs:List V}{i:Nat}{d:D},RepL K CT H ds vs->ds[i]?=some d->∃ v,vs[i]?=some v/\Rep K CT H d v
 | [],_,_,_,_,e=>by simp at e
 | d::ds,_,0,_,⟨v,r,h1,h2,h3⟩,e=>by subst h1;simp at e;subst e;exact⟨v,rfl,h2⟩
 | d::ds,_,i+1,x,⟨v,r,h1,h2,h3⟩,e=>by
  subst h1
  obtain⟨u,a,b⟩:=RepL.get (i:=i) (d:=x) h3 (by simpa using e)
  exact⟨u,by simpa using a,b⟩
theorem RepL.append:∀{ds es:List D}{vs us:List V},RepL K CT H ds vs->RepL K CT H es us->RepL K CT H (ds++es) (vs++us)
 | [],_,_,_,h,k=>by cases h;exact k
 | d::ds,_,_,_,⟨v,r,h1,h2,h3⟩,k=>by subst h1;exact⟨v,_,rfl,h2,RepL.append h3 k⟩
theorem RepL.take:∀(n:Nat){ds:List D}{vs:List V},RepL K CT H ds vs->RepL K CT H (ds.take n) (vs.take n)
 | 0,_,_,_=>by simp[RepL]
 | n+1,[],_,h=>by cases h;simp[RepL]
 | n+1,d::ds,_,⟨v,r,h1,h2,h3⟩=>by subst h1;exact⟨v,_,rfl,h2,RepL.take n h3⟩
theorem RepL.drop:∀(n:Nat){ds:List D}{vs:List V},RepL K CT H ds vs->RepL K CT H (ds.drop n) (vs.drop n)
 | 0,_,_,h=>h
 | n+1,[],_,h=>by cases h;simp[RepL]
 | n+1,d::ds,_,⟨v,r,h1,h2,h3⟩=>by subst h1;exact RepL.drop n h3
theorem RepL.set{d:D}{v:V}(q:Rep K CT H d v):∀(i:Nat){ds:List D}{vs:List V},RepL K CT H ds vs->RepL K CT H (ds.set i d) (vs.set i v)
 | _,[],_,h=>by cases h;simp[RepL]
 | 0,_::ds,_,⟨w,r,h1,h2,h3⟩=>by subst h1;exact⟨v,r,rfl,q,h3⟩
 | i+1,e::ds,_,⟨w,r,h1,h2,h3⟩=>by subst h1;exact⟨w,_,rfl,h2,RepL.set q i h3⟩
theorem RepL.rep{ds:List D}{vs:List V}(h:RepL K CT H ds vs):∀ k:Nat,RepL K CT H (List.replicate k ds).flatten (List.replicate k vs).flatten
 | 0=>rfl
 | k+1=>by
  rw[List.replicate_succ,List.replicate_succ,List.flatten_cons,List.flatten_cons]
  exact h.append (h.rep k)
theorem RepL.one{d:D}{v:V}(h:Rep K CT H d v):RepL K CT H [d] [v]:=⟨v,[],rfl,h,rfl⟩
theorem RepL.map_int:∀(ns:List Int),RepL K CT H (ns.map D.int) (ns.map V.int)
 | []=>rfl
 | n::ns=>⟨_,_,rfl,rfl,RepL.map_int ns⟩
end
inductive Out(α:Type) where
 | ok (a:α) | exc (x:D) | stuck
namespace Out
def bind{α β:Type}:Out α->(α->Out β)->Out β
 | .ok a,f=>f a
 | .exc x,_=>.exc x
 | .stuck,_=>.stuck
instance:Monad Out where
 pure:=.ok
 bind:=bind
def post{α:Type}(o:Out α)(k:α->Prop)(x:D->Prop):Prop:=match o with
 | .ok a=>k a
 | .exc e=>x e
 | .stuck=>False
@[simp] theorem bind_ok{α β:Type}(a:α)(f:α->Out β):(Out.ok a>>=f)=f a:=rfl
@[simp] theorem bind_exc{α β:Type}(x:D)(f:α->Out β):((Out.exc x:Out α)>>=f)=.exc x:=rfl
@[simp] theorem bind_stuck{α β:Type}(f:α->Out β):((Out.stuck:Out α)>>=f)=.stuck:=rfl
@[simp] theorem QQq{α β:Type}(a:α)(f:α->Out β):(Out.ok a).bind f=f a:=rfl
@[simp] theorem QQp{α β:Type}(x:D)(f:α->Out β):(Out.exc x:Out α).bind f=.exc x:=rfl
@[simp] theorem QQf{α β:Type}(f:α->Out β):(Out.stuck:Out α).bind f=.stuck:=rfl
@[simp] theorem pure_eq{α:Type}(a:α):(pure a:Out α)=.ok a:=rfl
theorem post_bind{α β:Type}(o:Out α)(f:α->Out β)(k:β->Prop)(x:D->Prop):(o>>=f).post k x↔o.post (fun a=>(f a).post k x) x:=by
 cases o<;>exact Iff.rfl
theorem post_mono{α:Type}{o:Out α}{k k':α->Prop}{x:D->Prop}(h:o.post k x)(hk:∀ a,k a->k' a):o.post k' x:=by
 cases o with
 | ok a=>exact hk a h
 | exc e=>exact h
 | stuck=>exact h
end Out
end DL
namespace DL
open PySem PySem.Spec PyProof.Rows L2
abbrev St:=L2.St
inductive SM where
 | k | o | l | s
abbrev SD:=List (Option (SM×D))
structure Dc where
 X:Cx
 CT:CTab
 G0:Hp
 XD:D->Prop
 /-- what is lent -/
 B:Hp
 /-- what of the entry's objects may be written -/
 M:Addr->Prop
 /-- which address a written slot holds -/
 W:Nat->Option Addr:=fun _=>none
abbrev Dc.K(C:Dc):PySem.W.Frag:=C.X.K
def Own(K:PySem.W.Frag)(CT:CTab)(G H:Hp)(p:Addr):D->Prop
 | .lst ds=>∃ vs,H p=some (.lst vs)/\RepL K CT G ds vs
 | .dic ds=>∃ kvs,H p=some (.dK kvs)/\RepK K CT G ds kvs
 | .ins c ds=>∃ A dx fs,CT c=some A/\H p=some (.ins A dx fs)/\RepF K CT G ds fs
 | _=>False
theorem Own.there{K:PySem.W.Frag}{CT:CTab}{G H:Hp}{p:Addr}:∀{d:D},Own K CT G H p d->∃ o,H p=some o
 | .lst _,⟨_,h,_⟩=>⟨_,h⟩
 | .dic _,⟨_,h,_⟩=>⟨_,h⟩
 | .ins _ _,⟨_,_,_,_,h,_⟩=>⟨_,h⟩
 | .non,h=>h.elim
 | .bl _,h=>h.elim
 | .int _,h=>h.elim
 | .str _,h=>h.elim
 | .tup _,h=>h.elim
theorem Own.mono{K:PySem.W.Frag}{CT:CTab}{G G' H H':Hp}{p:Addr}(g:Same G G')(h:∀ o,H p=some o->H' p=some o):∀{d:D},Own K CT G H p d->Own K CT G' H' p d
 | .lst ds,⟨vs,a,b⟩=>⟨vs,h _ a,RepL.mono g ds vs b⟩
 | .dic ds,⟨vs,a,b⟩=>⟨vs,h _ a,RepK.mono g ds vs b⟩
 | .ins _ ds,⟨A,dx,fs,e,a,b⟩=>⟨A,dx,fs,e,h _ a,RepF.mono g ds fs b⟩
 | .non,h=>h.elim
 | .bl _,h=>h.elim
 | .int _,h=>h.elim
 | .str _,h=>h.elim
 | .tup _,h=>h.elim
theorem Own.rep{K:PySem.W.Frag}{CT:CTab}{G H:Hp}{p:Addr}(g:Same G H):∀{d:D},Own K CT G H p d->Rep K CT H d (.ref p)
 | .lst ds,⟨vs,a,b⟩=>⟨p,vs,rfl,SqL.of a,RepL.mono g ds vs b⟩
 | .dic ds,⟨vs,a,b⟩=>⟨p,vs,rfl,Rd.of a,RepK.mono g ds vs b⟩
 | .ins _ ds,⟨A,dx,fs,e,a,b⟩=>⟨p,A,dx,fs,rfl,e,a,RepF.mono g ds fs b⟩
 | .non,h=>h.elim
 | .bl _,h=>h.elim
 | .int _,h=>h.elim
 | .str _,h=>h.elim
 | .tup _,h=>h.elim
structure GH(C:Dc)(G H:Hp):Prop where
 sub:Same G H
 g0:Same C.G0 G
 new:∀ b,C.G0 b=none->G b≠none->C.X.H₀ b=none
 fr:∀ b o,C.X.H₀ b=some o->¬ C.M b->H b=some o
 dom:∀ b,H b=none->C.X.H₀ b=none
 bs:Same C.B H
 bh:∀ b,C.X.H₀ b=none->C.B b=none
structure StR(C:Dc)(G H:Hp)(σ:St)(ς:SD):Prop extends GH C G H where
 len:σ.length=ς.length
 fz:∀(i:Nat) d,ς[i]?=some (some (.k,d))->∃ v,σ[i]?=some (some v)/\Rep C.X.K C.CT G d v
 ow:∀(i:Nat) d,ς[i]?=some (some (.o,d))->∃ p,σ[i]?=some (some (.ref p))/\G p=none/\C.X.H₀ p=none/\Own C.X.K C.CT G H p d
 ln:∀(i:Nat) d,ς[i]?=some (some (.l,d))->∃ v,σ[i]?=some (some v)/\Rep C.X.K C.CT C.B d v
 inj:∀(i j:Nat) d e p,i≠j->ς[i]?=some (some (.o,d))->ς[j]?=some (some (.o,e))->σ[i]?=some (some (.ref p))->σ[j]?≠some (some (.ref p))
 sf:∀(i:Nat) d,ς[i]?=some (some (.s,d))->∃ p,σ[i]?=some (some (.ref p))/\G p=none/\C.X.H₀ p≠none/\(C.M p/\C.W i=some p)/\C.B p=none/\Own C.X.K C.CT G H p d
 su:∀(i j:Nat) d e p,i≠j->ς[i]?=some (some (.s,d))->ς[j]?=some (some (.s,e))->σ[i]?=some (some (.ref p))->σ[j]?≠some (some (.ref p))
section
variable{C:Dc}{G G' H H':Hp}{σ:St}{ς:SD}
theorem GH.gnone(S:GH C G H){p:Addr}(h:H p=none):G p=none:=S.sub.free h
theorem GH.h0none(S:GH C G H){p:Addr}(h:H p=none):C.X.H₀ p=none:=S.dom p h
theorem QD{H:Hp}{p:Addr}{o:HO}(h:H p=none):Same H (upd H p o):=fun b u e=>by
 rw[Ql (QY e h)];exact e
theorem Qr2{G H:Hp}{p:Addr}{o:HO}(s:Same G H):Same (upd G p o) (upd H p o):=fun b u e=>by
 by_cases hb:b=p
 ·subst hb;rw[QO]at e ⊢;exact e
 ·rw[Ql hb]at e ⊢;exact s b u e
theorem GH.grow(S:GH C G H)(hH:Same H H')(hG:Same G G')(hs:Same G' H')(hn:∀ b,G b=none->G' b≠none->H b=none):GH C G' H' where
 sub:=hs
 g0:=S.g0.trans hG
 new:=fun b h0 h1=>by
  cases q:G b with
  | none=>exact S.h0none (hn b q h1)
  | some o=>exact S.new b h0 (by rw[q];simp)
 fr:=fun b o e m=>hH b o (S.fr b o e m)
 dom:=fun b e=>S.dom b (hH.free e)
 bs:=S.bs.trans hH
 bh:=S.bh
theorem StR.own_ne(S:‹"ax"›){i:Nat}{d:D}{p:Addr}(h:ς[i]?=some (some (.o,d)))(hp:σ[i]?=some (some (.ref p))):∃ o,H p=some o:=by
 obtain⟨q,e,_,_,o⟩:=S.ow i d h
 rw[hp]at e;cases e
 exact o.there
theorem StR.grow(S:‹"ax"›)(hH:Same H H')(hG:Same G G')(hs:Same G' H')(hn:∀ b,G b=none->G' b≠none->H b=none):StR C G' H' σ ς where
 toGH:=S.toGH.grow hH hG hs hn
 len:=S.len
 fz:=fun i d e=>let ⟨v,a,b⟩:=S.fz i d e;⟨v,a,Rep.mono hG d v b⟩
 ow:=fun i d e=>by
  obtain⟨p,a,b,c,o⟩:=S.ow i d e
  refine⟨p,a,?_,c,o.mono hG fun u q=>hH _ _ q⟩
  cases q:G' p with
  | none=>rfl
  | some u=>
   obtain⟨w,hw⟩:=o.there
   have:=hn p b (by rw[q];simp)
   rw[hw]at this;cases this
 ln:=S.ln
 inj:=S.inj
 sf:=fun i d e=>by
  obtain⟨p,a,b,c,m,z,o⟩:=S.sf i d e
  refine⟨p,a,?_,c,m,z,o.mono hG fun u q=>hH _ _ q⟩
  cases q:G' p with
  | none=>rfl
  | some u=>
   obtain⟨w,hw⟩:=o.there
   have:=hn p b (by rw[q];simp)
   rw[hw]at this;cases this
 su:=S.su
theorem StR.alloc(S:‹"ax"›){p:Addr}{o:HO}(h:H p=none):StR C (upd G p o) (upd H p o) σ ς:=
 S.grow (QD h) (QD (S.sub.free h)) (Qr2 S.sub) fun b g n=>by
  by_cases hb:b=p
  ·subst hb;exact h
  ·rw[Ql hb,g]at n;exact absurd rfl n
theorem StR.allocO(S:‹"ax"›){p:Addr}{o:HO}(h:H p=none):StR C G (upd H p o) σ ς:=
 S.grow (QD h) (Same.refl G) (S.sub.trans (QD h)) fun b g n=>absurd g n
end
def KD(C:Dc)(G H:Hp)(σ:St)(ς:SD)(Q:VK)(d:D):Prop:=∀ v H' G',StR C G' H' σ ς->Same H H'->Same G G'->Rep C.X.K C.CT G' d v->Q v H'
def KB(C:Dc)(G H:Hp)(σ:St)(ς:SD)(Q:VK)(d:D):Prop:=∀ v H' G',StR C G' H' σ ς->Same H H'->Same G G'->Rep C.X.K C.CT H' d v->Q v H'
def KF(C:Dc)(G H:Hp)(σ:St)(ς:SD)(Q:VK)(d:D):Prop:=∀ p H' G',StR C G' H' σ ς->Same H H'->Same G G'->H p=none->G' p=none->Own C.X.K C.CT G' H' p d->Q (.ref p) H'
def DE(C:Dc)(e:Expr)(E:SD->Out D):Prop:=∃ t,PE C.X e t/\∀ G H σ ς Q,StR C G H σ ς->(E ς).post (KD C G H σ ς Q) C.XD->t σ H Q
def DB(C:Dc)(e:Expr)(E:SD->Out D):Prop:=∃ t,PE C.X e t/\∀ G H σ ς Q,StR C G H σ ς->(E ς).post (KB C G H σ ς Q) C.XD->t σ H Q
def DF(C:Dc)(e:Expr)(E:SD->Out D):Prop:=∃ t,PE C.X e t/\∀ G H σ ς Q,StR C G H σ ς->(E ς).post (KF C G H σ ς Q) C.XD->t σ H Q
def KT(C:Dc)(G H:Hp)(σ:St)(ς:SD)(Q:Bool->Hp->Prop)(b:Bool):Prop:=∀ H' G',StR C G' H' σ ς->Same H H'->Same G G'->Q b H'
def DT(C:Dc)(e:Expr)(T:SD->Out Bool):Prop:=∃ t,PT C.X e t/\∀ G H σ ς Q,StR C G H σ ς->(T ς).post (KT C G H σ ς Q) C.XD->t σ H Q
def DW(C:Dc)(e:Expr)(T:SD->Out Bool):Prop:=∃ t,PW C.X e t/\∀ G H σ ς Q,StR C G H σ ς->(T ς).post (KT C G H σ ς Q) C.XD->t σ H Q
def DA(C:Dc)(es:List Expr)(A:‹"aq"›):Prop:=∃ t,PA C.X es t/\∀ G H σ ς Q,StR C G H σ ς->
 (A ς).post (fun ds=>∀ vs H' G',StR C G' H' σ ς->Same H H'->Same G G'->RepL C.X.K C.CT G' ds vs->Q vs H') C.XD->t σ H Q
def DAB(C:Dc)(es:List Expr)(A:‹"aq"›):Prop:=∃ t,PA C.X es t/\∀ G H σ ς Q,StR C G H σ ς->
 (A ς).post (fun ds=>∀ vs H' G',StR C G' H' σ ς->Same H H'->Same G G'->RepL C.X.K C.CT H' ds vs->Q vs H') C.XD->t σ H Q
inductive Fl where
 | nx (ς:SD) | rt (fr:Bool) (d:D) | bk (ς:SD) | ct (ς:SD)
def RetR(K:PySem.W.Frag)(CT:CTab)(fr:Bool)(H0 G' H':Hp)(d:D)(v:V):Prop:=
 if fr=true then ∃ p,v=.ref p/\H0 p=none/\G' p=none/\Own K CT G' H' p d else Rep K CT G' d v
def FlK(C:Dc)(G:Hp)(W:Ends):Fl->Prop
 | .nx ς'=>∀ σ' H' G',StR C G' H' σ' ς'->Same G G'->W.nx σ' H'
 | .bk ς'=>∀ σ' H' G',StR C G' H' σ' ς'->Same G G'->W.bk σ' H'
 | .ct ς'=>∀ σ' H' G',StR C G' H' σ' ς'->Same G G'->W.ct σ' H'
 | .rt fr d=>∀ v H' G',GH C G' H'->Same G G'->RetR C.X.K C.CT fr C.X.H₀ G' H' d v->W.rt v H'
def DS(C:Dc)(st:Stmt)(T:SD->Out Fl):Prop:=∃ t,PS C.X st t/\∀ G H σ ς W,StR C G H σ ς->(T ς).post (FlK C G W) C.XD->t W σ H
def DSs(C:Dc)(st:List Stmt)(T:SD->Out Fl):Prop:=∃ t,PSs C.X st t/\∀ G H σ ς W,StR C G H σ ς->(T ς).post (FlK C G W) C.XD->t W σ H
section
variable{C:Dc}{e:Expr}{E:SD->Out D}
theorem StR.freeze{G H:Hp}{σ:St}{ς:SD}(S:‹"ax"›){p:Addr}{o:HO}(hp:H p=some o)(hg:G p=none)(h0:C.X.H₀ p=none)(hn:∀(i:Nat) d,ς[i]?=some (some (.o,d))->σ[i]?≠some (some (.ref p))):StR C (upd G p o) H σ ς where
 sub:=fun b u q=>by
  by_cases hb:b=p
  ·subst hb;rw[QO]at q;cases q;exact hp
  ·rw[Ql hb]at q;exact S.sub b u q
 g0:=S.g0.trans (QD hg)
 new:=fun b h1 h2=>by
  by_cases hb:b=p
  ·subst hb;exact h0
  ·rw[Ql hb]at h2;exact S.new b h1 h2
 fr:=S.fr
 dom:=S.dom
 bs:=S.bs
 bh:=S.bh
 len:=S.len
 fz:=fun i d q=>let ⟨v,a,b⟩:=S.fz i d q;⟨v,a,Rep.mono (QD hg) d v b⟩
 ow:=fun i d q=>by
  obtain⟨r,a,b,c,w⟩:=S.ow i d q
  refine⟨r,a,?_,c,w.mono (QD hg) fun _ z=>z⟩
  rw[Ql (by rintro rfl;exact hn i d q a)];exact b
 ln:=S.ln
 inj:=S.inj
 sf:=fun i d q=>by
  obtain⟨r,a,b,c,m,z,w⟩:=S.sf i d q
  refine⟨r,a,?_,c,m,z,w.mono (QD hg) fun _ z=>z⟩
  rw[Ql (by rintro rfl;exact c h0)];exact b
 su:=S.su
theorem Own.known{K:PySem.W.Frag}{CT:CTab}{G H:Hp}{p:Addr}{o:HO}(hg:G p=none)(hp:H p=some o):∀{d:D},Own K CT G H p d->Rep K CT (upd G p o) d (.ref p)
 | .lst ds,⟨vs,a,b⟩=>by rw[hp]at a;cases a;exact⟨p,vs,rfl,SqL.of QO,RepL.mono (QD hg) ds vs b⟩
 | .dic ds,⟨vs,a,b⟩=>by rw[hp]at a;cases a;exact⟨p,vs,rfl,Rd.of QO,RepK.mono (QD hg) ds vs b⟩
 | .ins _ ds,⟨A,dx,fs,e,a,b⟩=>by rw[hp]at a;cases a;exact⟨p,A,dx,fs,rfl,e,QO,RepF.mono (QD hg) ds fs b⟩
 | .non,h=>h.elim
 | .bl _,h=>h.elim
 | .int _,h=>h.elim
 | .str _,h=>h.elim
 | .tup _,h=>h.elim
theorem StR.new_ne{G H:Hp}{σ:St}{ς:SD}(S:‹"ax"›){p:Addr}(h:H p=none):∀(i:Nat) d,ς[i]?=some (some (.o,d))->σ[i]?≠some (some (.ref p)):=fun i d q z=>by
 obtain⟨o,w⟩:=S.own_ne q z
 rw[h]at w;cases w
theorem KD.ofF{G H:Hp}{σ:St}{ς:SD}{Q:VK}{d:D}(S:‹"ax"›)(k:KD C G H σ ς Q d):KF C G H σ ς Q d:=fun p H' G' S' hH hG hp hg ow=>by
 obtain⟨o,ho⟩:=ow.there
 exact k _ _ _ (S'.freeze ho hg (S.h0none hp) (S.new_ne hp)) hH (hG.trans (QD hg)) (ow.known hg ho)
theorem DF.de(h:DF C e E):DE C e E:=by
 obtain⟨t,h1,h2⟩:=h
 refine⟨t,h1,fun G H σ ς Q S q=>h2 G H σ ς Q S (Out.post_mono q fun d k=>KD.ofF S k)⟩
theorem DE.db(h:DE C e E):DB C e E:=by
 obtain⟨t,h1,h2⟩:=h
 refine⟨t,h1,fun G H σ ς Q S q=>h2 G H σ ς Q S (Out.post_mono q fun d k v H' G' S' a b r=>k v H' G' S' a b (Rep.mono S'.sub d v r))⟩
def D.scal:D->Bool
 | .non=>true
 | .bl _=>true
 | .int _=>true
 | .str _=>true
 | _=>false
theorem Rep.scal{K:PySem.W.Frag}{CT:CTab}{G H:Hp}:∀{d:D}{v:V},d.scal=true->Rep K CT H d v->Rep K CT G d v
 | .non,_,_,h=>h
 | .bl _,_,_,h=>h
 | .int _,_,_,h=>h
 | .str _,_,_,h=>h
def QpD(o:Out D):Out D:=o>>=fun d=>if d.scal=true then .ok d else .stuck
theorem DB.de(h:DB C e E):DE C e (fun ς=>QpD (E ς)):=by
 obtain⟨t,h1,h2⟩:=h
 refine⟨t,h1,fun G H σ ς Q S q=>h2 G H σ ς Q S ?_⟩
 unfold QpD at q
 rw[Out.post_bind]at q
 refine Out.post_mono q fun d k v H' G' S' a b r=>?_
 by_cases hs:d.scal=true
 ·rw[if_pos hs]at k
  exact k v H' G' S' a b (r.scal hs)
 ·rw[if_neg hs]at k
  exact k.elim
theorem KD.now{G H:Hp}{σ:St}{ς:SD}{Q:VK}{d:D}{v:V}(k:KD C G H σ ς Q d)(S:‹"ax"›)(r:Rep C.X.K C.CT G d v):Q v H:=k v H G S (Same.refl H) (Same.refl G) r
theorem KB.now{G H:Hp}{σ:St}{ς:SD}{Q:VK}{d:D}{v:V}(k:KB C G H σ ς Q d)(S:‹"ax"›)(r:Rep C.X.K C.CT H d v):Q v H:=k v H G S (Same.refl H) (Same.refl G) r
theorem KT.now{G H:Hp}{σ:St}{ς:SD}{Q:Bool->Hp->Prop}{b:Bool}(k:KT C G H σ ς Q b)(S:‹"ax"›):Q b H:=k H G S (Same.refl H) (Same.refl G)
theorem KD.later{G H G1 H1:Hp}{σ:St}{ς:SD}{Q:VK}{d:D}(k:KD C G H σ ς Q d)(hH:Same H H1)(hG:Same G G1):KD C G1 H1 σ ς Q d:=fun v H' G' S a b r=>k v H' G' S (hH.trans a) (hG.trans b) r
theorem KB.later{G H G1 H1:Hp}{σ:St}{ς:SD}{Q:VK}{d:D}(k:KB C G H σ ς Q d)(hH:Same H H1)(hG:Same G G1):KB C G1 H1 σ ς Q d:=fun v H' G' S a b r=>k v H' G' S (hH.trans a) (hG.trans b) r
theorem KT.later{G H G1 H1:Hp}{σ:St}{ς:SD}{Q:Bool->Hp->Prop}{d:Bool}(k:KT C G H σ ς Q d)(hH:Same H H1)(hG:Same G G1):KT C G1 H1 σ ς Q d:=fun H' G' S a b=>k H' G' S (hH.trans a) (hG.trans b)
theorem KF.later{G H G1 H1:Hp}{σ:St}{ς:SD}{Q:VK}{d:D}(k:KF C G H σ ς Q d)(hH:Same H H1)(hG:Same G G1):KF C G1 H1 σ ς Q d:=fun p H' G' S a b hp hg ow=>k p H' G' S (hH.trans a) (hG.trans b) (hH.free hp) hg ow
theorem KF.lst{G H:Hp}{σ:St}{ς:SD}{Q:VK}{ds:List D}{vs:List V}(k:KF C G H σ ς Q (.lst ds))(S:‹"ax"›)(r:RepL C.X.K C.CT G ds vs):∀ p,H p=none->Q (.ref p) (upd H p (.lst vs)):=fun p hp=>
 k p _ G (S.allocO hp) (QD hp) (Same.refl G) hp (S.gnone hp) ⟨vs,QO,r⟩
theorem KD.tup{G H:Hp}{σ:St}{ς:SD}{Q:VK}{ds:List D}{vs:List V}(k:KD C G H σ ς Q (.tup ds))(S:‹"ax"›)(r:RepL C.X.K C.CT G ds vs):∀ p,H p=none->Q (.ref p) (upd H p (.tup vs)):=fun p hp=>
 k _ _ _ (S.alloc hp) (QD hp) (QD (S.gnone hp)) ⟨p,vs,rfl,SqT.of QO,RepL.mono (QD (S.gnone hp)) ds vs r⟩
end
end DL
namespace DL
open PySem PySem.Spec PyProof.Rows L2
def eVar(i:Nat):SD->Out D:=fun ς=>match ς[i]? with | some (some (.k,d))=>.ok d | _=>.stuck
def eVarB(i:Nat):SD->Out D:=fun ς=>match ς[i]? with | some (some (_,d))=>.ok d | _=>.stuck
def eC(d:D):SD->Out D:=fun _=>.ok d
section
variable{C:Dc}{pos:Pos}
theorem QNt{i:Nat}{ς:SD}{k:D->Prop}{x:D->Prop}(h:(eVar i ς).post k x):∃ d,ς[i]?=some (some (.k,d))/\k d:=by
 unfold eVar at h
 split at h
 ·rename_i d e;exact⟨d,e,h⟩
 ·exact h.elim
theorem QL3{i:Nat}{ς:SD}{k:D->Prop}{x:D->Prop}(h:(eVarB i ς).post k x):∃ b d,ς[i]?=some (some (b,d))/\k d:=by
 unfold eVarB at h
 split at h
 ·rename_i b d e;exact⟨b,d,e,h⟩
 ·exact h.elim
theorem Qb(i:Nat){x:Str}(hN:C.X.N[i]?=some x:=by rfl)(hv:Vis C.X.env.scope x:=by first | exact Or.inl rfl | exact Or.inr (Or.inl rfl) | exact Or.inr (Or.inr rfl))
 (hd:‹"f"›:=by decide) (hcd:‹"C"›:=by decide):DE C (.Name x pos) (eVar i):=by
 refine⟨_,QfI (i:=i) hN hv hd hcd,fun G H σ ς Q S q=>?_⟩
 obtain⟨d,e,k⟩:=QNt q
 obtain⟨v,a,b⟩:=S.fz i d e
 exact⟨v,a,k.now S b⟩
theorem QdR(i:Nat){x:Str}(hN:C.X.N[i]?=some x:=by rfl)(hv:Vis C.X.env.scope x:=by first | exact Or.inl rfl | exact Or.inr (Or.inl rfl) | exact Or.inr (Or.inr rfl))
 (hd:‹"f"›:=by decide) (hcd:‹"C"›:=by decide):DB C (.Name x pos) (eVarB i):=by
 refine⟨_,QfI (i:=i) hN hv hd hcd,fun G H σ ς Q S q=>?_⟩
 obtain⟨b,d,e,k⟩:=QL3 q
 cases b with
 | k=>
  obtain⟨v,a,b⟩:=S.fz i d e
  exact⟨v,a,k.now S (Rep.mono S.sub d v b)⟩
 | o=>
  obtain⟨p,a,b,c,w⟩:=S.ow i d e
  exact⟨_,a,k.now S (w.rep S.sub)⟩
 | l=>
  obtain⟨v,a,b⟩:=S.ln i d e
  exact⟨v,a,k.now S (Rep.mono S.bs d v b)⟩
 | s=>
  obtain⟨p,a,b,c,m,z,w⟩:=S.sf i d e
  exact⟨_,a,k.now S (w.rep S.sub)⟩
theorem Qd{i:Int}{j}:DE C (.Constant (.int i) j pos) (eC (.int i)):=⟨_,QO4,fun G H σ ς Q S q=>KD.now q S rfl⟩
theorem de_bl{b:Bool}{j}:DE C (.Constant (.bool b) j pos) (eC (.bl b)):=⟨_,pe_bl,fun G H σ ς Q S q=>KD.now q S rfl⟩
theorem QKn{j}:DE C (.Constant .none j pos) (eC .non):=⟨_,QPb,fun G H σ ς Q S q=>KD.now q S rfl⟩
theorem QLh{x:Str}{j}:DE C (.Constant (.str x) j pos) (eC (.str x)):=⟨_,QO3,fun G H σ ς Q S q=>KD.now q S rfl⟩
def toV:D->V
 | .bl b=>.bl b
 | .int i=>.int i
 | .str x=>.str x
 | _=>.non
theorem QxH{K:PySem.W.Frag}{CT:CTab}{H:Hp}:∀{d:D},d.scal=true->Rep K CT H d (toV d)
 | .non,_=>rfl
 | .bl _,_=>rfl
 | .int _,_=>rfl
 | .str _,_=>rfl
theorem Qe5{x:Str}{d:D}{u:Value}(hg:Gl C.X x)(hm:C.X.mg x=some u)(hs:d.scal=true)(r:RelV (toV d) u)(hd:‹"f"›:=by decide):DE C (.Name x pos) (eC d):=
 ⟨_,QoT hg hm r hd,fun G H σ ς Q S q=>KD.now q S (QxH hs)⟩
end
def e1(f:D->Out D)(a:SD->Out D):SD->Out D:=fun ς=>a ς>>=f
def e2(f:D->D->Out D)(a b:SD->Out D):SD->Out D:=fun ς=>a ς>>=fun x=>b ς>>=fun y=>f x y
def DRS(C:Dc)(r:R2)(f:D->D->Out D):Prop:=∀ G H σ ς (Q:VK) x y vx vy,StR C G H σ ς->Rep C.X.K C.CT H x vx->Rep C.X.K C.CT H y vy->
 (f x y).post (fun d=>d.scal=true/\Q (toV d) H) (fun _=>False)->r vx vy H Q
def scal2(f:D->D->Out D):Prop:=∀ x y,match f x y with | .ok d=>d.scal=true | .exc _=>False | .stuck=>True
section
variable{C:Dc}{a b c:Expr}{A B A':SD->Out D}{pos:Pos}
theorem Ql8{o:Out D}{G H:Hp}{σ:St}{ς:SD}{Q:VK}(S:‹"ax"›)(hs:match o with | .ok d=>d.scal=true | .exc _=>False | .stuck=>True)(q:o.post (KD C G H σ ς Q) C.XD):
 o.post (fun d=>d.scal=true/\Q (toV d) H) (fun _=>False):=by
 cases o with
 | ok d=>exact⟨hs,KD.now q S (QxH hs)⟩
 | exc _=>exact hs
 | stuck=>exact q
theorem dop{t:TE}{r:R2}{f:D->D->Out D}{ta tb:TE}(hr:DRS C r f)(hs:scal2 f)
 (h1:∀ G H σ ς Q,StR C G H σ ς->(A ς).post (KB C G H σ ς Q) C.XD->ta σ H Q) (h2:∀ G H σ ς Q,StR C G H σ ς->(B ς).post (KB C G H σ ς Q) C.XD->tb σ H Q):
 ∀ G H σ ς Q,StR C G H σ ς->(e2 f A B ς).post (KD C G H σ ς Q) C.XD->tOp r ta tb σ H Q:=by
 intro G H σ ς Q S q
 unfold e2 at q
 rw[Out.post_bind]at q
 refine h1 G H σ ς _ S (Out.post_mono q fun x k v1 H1 G1 S1 a1 b1 r1=>?_)
 rw[Out.post_bind]at k
 refine h2 G1 H1 σ ς _ S1 (Out.post_mono k fun y k2 v2 H2 G2 S2 a2 b2 r2=>?_)
 refine hr G2 H2 σ ς _ x y v1 v2 S2 (Rep.mono a2 x v1 r1) r2 (Ql8 S2 (hs x y) ?_)
 exact Out.post_mono k2 fun d kd=>KD.later kd (a1.trans a2) (b1.trans b2)
theorem de_op{op:Operator}{r:R2}{f:D->D->Out D}(ho:OpR C.X (binaryOp op) r)(hr:DRS C r f)(hs:scal2 f)(ha:DB C a A)(hb:DB C b B):DE C (.BinOp a op b pos) (e2 f A B):=by
 obtain⟨ta,p1,q1⟩:=ha
 obtain⟨tb,p2,q2⟩:=hb
 exact⟨_,pe_op ho p1 p2,dop (t:=ta) hr hs q1 q2⟩
theorem QDZ{op:CmpOp}{r:R2}{f:D->D->Out D}(ho:OpR C.X (compareOp op) r)(hr:DRS C r f)(hs:scal2 f)(ha:DB C a A)(hb:DB C b B)(hm:behindInMarks op b=false):DE C (.Compare a [op] [b] pos) (e2 f A B):=by
 obtain⟨ta,p1,q1⟩:=ha
 obtain⟨tb,p2,q2⟩:=hb
 exact⟨_,QOA ho p1 p2 hm,dop (t:=ta) hr hs q1 q2⟩
def tVal(a:SD->Out D):SD->Out Bool:=fun ς=>a ς>>=fun d=>match d with | .bl b=>.ok b | _=>.stuck
theorem Qtb{o:Out D}{G H:Hp}{σ:St}{ς:SD}{Q:Bool->Hp->Prop}(q:(o>>=fun d=>match d with | .bl b=>Out.ok b | _=>.stuck).post (KT C G H σ ς Q) C.XD):
 o.post (KD C G H σ ς fun x H'=>∃ k,x=.bl k/\Q k H') C.XD:=by
 rw[Out.post_bind]at q
 refine Out.post_mono q fun d k v H' G' S' a b r=>?_
 cases d with
 | bl c=>exact⟨c,r,k H' G' S' a b⟩
 | _=>exact k.elim
theorem Qlr{op:CmpOp}{r:R2}{f:D->D->Out D}(ho:OpR C.X (compareOp op) r)(hr:DRS C r f)(hs:scal2 f)(ha:DB C a A)(hb:DB C b B)(hm:behindInMarks op b=false):DT C (.Compare a [op] [b] pos) (tVal (e2 f A B)):=by
 obtain⟨ta,p1,q1⟩:=ha
 obtain⟨tb,p2,q2⟩:=hb
 exact⟨_,QNz ho p1 p2 hm,fun G H σ ς Q S q=>dop (t:=ta) hr hs q1 q2 G H σ ς _ S (Qtb q)⟩
theorem Qbf(h:DE C a A)(he:∀ whole,isTrue a C.X.env whole=(do let v ← whole;standAt a.pos;holding [v] (truthy v)):=by intro _;rfl):DT C a (tVal A):=by
 obtain⟨ta,p1,q1⟩:=h
 exact⟨_,QP4 p1 he,fun G H σ ς Q S q=>q1 G H σ ς _ S (Qtb q)⟩
def Qdq(f g:D->D->Out D)(a b c:SD->Out D):SD->Out D:=fun ς=>a ς>>=fun x=>b ς>>=fun y=>f x y>>=fun z=>match z with
 | .bl true=>c ς>>=fun w=>g y w
 | .bl false=>.ok (.bl false)
 | _=>.stuck
theorem QJ3{r r':R2}{f g:D->D->Out D}{ta tb tc:TE}(hr:DRS C r f)(hs:scal2 f)(hr':DRS C r' g)(hs':scal2 g)
 (h1:∀ G H σ ς Q,StR C G H σ ς->(A ς).post (KB C G H σ ς Q) C.XD->ta σ H Q) (h2:∀ G H σ ς Q,StR C G H σ ς->(B ς).post (KB C G H σ ς Q) C.XD->tb σ H Q)
 (h3:∀ G H σ ς Q,StR C G H σ ς->(A' ς).post (KB C G H σ ς Q) C.XD->tc σ H Q):
 ∀ G H σ ς Q,StR C G H σ ς->(Qdq f g A B A' ς).post (KD C G H σ ς Q) C.XD->QDk r r' ta tb tc σ H Q:=by
 intro G H σ ς Q S q
 unfold Qdq at q
 rw[Out.post_bind]at q
 refine h1 G H σ ς _ S (Out.post_mono q fun x k v1 H1 G1 S1 a1 b1 r1=>?_)
 rw[Out.post_bind]at k
 refine h2 G1 H1 σ ς _ S1 (Out.post_mono k fun y k2 v2 H2 G2 S2 a2 b2 r2=>?_)
 rw[Out.post_bind]at k2
 refine hr G2 H2 σ ς _ x y v1 v2 S2 (Rep.mono a2 x v1 r1) r2 ?_
 have hxy:=hs x y
 cases e:f x y with
 | exc _=>rw[e]at hxy;exact hxy
 | stuck=>rw[e]at k2;exact k2.elim
 | ok z=>
  rw[e]at k2
  refine⟨by rw[e]at hxy;exact hxy,?_⟩
  cases z with
  | bl cc=>
   refine⟨cc,rfl,?_⟩
   cases cc with
   | false=>exact iteF (KD.now (KD.later (show KD C G H σ ς Q (.bl false) from k2) (a1.trans a2) (b1.trans b2)) S2 rfl)
   | true=>
    refine iteT (h3 G2 H2 σ ς _ S2 ?_)
    have k2':(A' ς>>=fun w=>g y w).post (KD C G H σ ς Q) C.XD:=k2
    rw[Out.post_bind]at k2'
    refine Out.post_mono k2' fun w k3 v3 H3 G3 S3 a3 b3 r3=>?_
    refine hr' G3 H3 σ ς _ y w v2 v3 S3 (Rep.mono a3 y v2 r2) r3 (Ql8 S3 (hs' y w) ?_)
    exact Out.post_mono k3 fun d kd=>KD.later kd ((a1.trans a2).trans a3) ((b1.trans b2).trans b3)
  | _=>exact k2.elim
theorem QD2{op op':CmpOp}{r r':R2}{f g:D->D->Out D}(ho:OpR C.X (compareOp op) r)(hr:DRS C r f)(hs:scal2 f)(ho':OpR C.X (compareOp op') r')(hr':DRS C r' g)(hs':scal2 g)
 (ha:DB C a A) (hb:DB C b B) (hc:DB C c A') (hm:lastMarks [op,op'] [b,c]=false:=by with_unfolding_all rfl):DE C (.Compare a [op,op'] [b,c] pos) (Qdq f g A B A'):=by
 obtain⟨ta,p1,q1⟩:=ha
 obtain⟨tb,p2,q2⟩:=hb
 obtain⟨tc,p3,q3⟩:=hc
 exact⟨_,QMo ho ho' p1 p2 p3 hm,QJ3 hr hs hr' hs' q1 q2 q3⟩
theorem QDM{op op':CmpOp}{r r':R2}{f g:D->D->Out D}(ho:OpR C.X (compareOp op) r)(hr:DRS C r f)(hs:scal2 f)(ho':OpR C.X (compareOp op') r')(hr':DRS C r' g)(hs':scal2 g)
 (ha:DB C a A) (hb:DB C b B) (hc:DB C c A') (hm:lastMarks [op,op'] [b,c]=false:=by with_unfolding_all rfl):DT C (.Compare a [op,op'] [b,c] pos) (tVal (Qdq f g A B A')):=by
 obtain⟨ta,p1,q1⟩:=ha
 obtain⟨tb,p2,q2⟩:=hb
 obtain⟨tc,p3,q3⟩:=hc
 exact⟨_,QNa ho ho' p1 p2 p3 hm,fun G H σ ς Q S q=>QJ3 hr hs hr' hs' q1 q2 q3 G H σ ς _ S (Qtb q)⟩
end
section
variable{C:Dc}
def dI(cnd:Int->Int->Bool)(g:Int->Int->D):D->D->Out D
 | .int i,.int j=>if cnd i j=true then .ok (g i j) else .stuck
 | _,_=>.stuck
def dI0(g:Int->Int->D):D->D->Out D
 | .int i,.int j=>.ok (g i j)
 | _,_=>.stuck
theorem QQ{α:Type}{c:Prop}[Decidable c]{a b:Out α}{k:α->Prop}{x:D->Prop}(h:(if c then a else b).post k x):(c/\a.post k x)∨(¬ c/\b.post k x):=by
 by_cases e:c
 ·rw[if_pos e]at h;exact .inl ⟨e,h⟩
 ·rw[if_neg e]at h;exact .inr ⟨e,h⟩
theorem QiO{c:Prop}[Decidable c]{d:D}(h:d.scal=true):match (if c then Out.ok d else Out.stuck:Out D) with | .ok d=>d.scal=true | .exc _=>False | .stuck=>True:=by
 by_cases e:c
 ·rw[if_pos e];exact h
 ·rw[if_neg e];exact True.intro
theorem QtP{cnd:Int->Int->Bool}{g:Int->Int->D}(h:∀ i j,(g i j).scal=true):scal2 (dI cnd g):=by
 intro x y
 cases x with
 | int i=>
  cases y with
  | int j=>exact QiO (h i j)
  | _=>exact True.intro
 | _=>exact True.intro
theorem Qb8{g:Int->Int->D}(h:∀ i j,(g i j).scal=true):scal2 (dI0 g):=by
 intro x y
 cases x<;>cases y<;>simp[dI0,h]
theorem Qw9{cnd:Int->Int->Bool}{P:Int->Int->Prop}{g:Int->Int->D}(hP:∀ i j,cnd i j=true->P i j):DRS C (rI P fun i j=>toV (g i j)) (dI cnd g):=by
 intro G H σ ς Q x y vx vy S hx hy q
 cases x with
 | int i=>
  cases y with
  | int j=>
   cases hx;cases hy
   refine⟨i,j,rfl,rfl,?_⟩
   rcases QQ (show(if cnd i j=true then Out.ok (g i j) else Out.stuck).post _ _ from q) with⟨hc,q⟩ | ⟨hc,q⟩
   ·exact⟨hP i j hc,q.2⟩
   ·exact q.elim
  | _=>exact q.elim
 | _=>exact q.elim
theorem QcO{g:Int->Int->D}:DRS C (rI0 fun i j=>toV (g i j)) (dI0 g):=by
 intro G H σ ς Q x y vx vy S hx hy q
 cases x with
 | int i=>
  cases y with
  | int j=>
   cases hx;cases hy
   exact⟨i,j,rfl,rfl,q.2⟩
  | _=>exact q.elim
 | _=>exact q.elim
variable{a b c:Expr}{A B:SD->Out D}{pos:Pos}
def dSub:D->D->Out D:=dI0 fun i j=>.int (i - j)
def big(i:Int):Bool:=decide (i.natAbs<2 ^ 9000)
def dMul:D->D->Out D:=dI (fun i j=>decide (Builtin.Int.intBits i+Builtin.Int.intBits j<=134217728)) fun i j=>.int (i * j)
def dFdiv:D->D->Out D:=dI (fun i j=>decide (j≠0)&&big j) fun i j=>.int (i.fdiv j)
def dMod:D->D->Out D:=dI (fun i j=>decide (j≠0)) fun i j=>.int (i.fmod j)
def dPow:D->D->Out D:=dI (fun i j=>decide (0<=j)&&decide (j<=1000000)&&decide (i.natAbs<2 ^ 64)) fun i j=>.int (i ^ j.toNat)
theorem QNj{i:Int}(h:big i=true):i.natAbs.log2<9000:=by
 have h':i.natAbs<2 ^ 9000:=of_decide_eq_true h
 by_cases z:i.natAbs=0
 ·rw[z];decide
 ·exact(Nat.log2_lt z).mpr h'
theorem QOz{X:Cx}:OpR X (binaryOp .Mult) (rI IntMulOk fun i j=>.int (i * j)):=opI fun _ _ _ _ _ _ _ hc q=>mul_int q hc
def CDivB(i j:Int):Prop:=j≠0/\j.natAbs.log2<9000
theorem QME{X:Cx}:OpR X (binaryOp .FloorDiv) (rI CDivB fun i j=>.int (i.fdiv j)):=opI fun _ _ _ _ _ _ _ hc q=>floordiv_int hc.1 q (.inl (PyProof.noPylong_of_log2 hc.2))
theorem Qdl(ha:DB C a A)(hb:DB C b B):DE C (.BinOp a .Sub b pos) (e2 dSub A B):=de_op QP5 QcO (Qb8 fun _ _=>rfl) ha hb
theorem Qjr(ha:DB C a A)(hb:DB C b B):DE C (.BinOp a .Mult b pos) (e2 dMul A B):=de_op QOz (Qw9 fun i j h=>IntMulOk.of_le ‹"an"› ‹"an"› (of_decide_eq_true h)) (QtP fun _ _=>rfl) ha hb
theorem QtL(ha:DB C a A)(hb:DB C b B):DE C (.BinOp a .FloorDiv b pos) (e2 dFdiv A B):=de_op QME (Qw9 fun i j h=>by
 rw[Bool.and_eq_true]at h
 exact⟨of_decide_eq_true h.1,QNj h.2⟩) (QtP fun _ _=>rfl) ha hb
theorem Q4(ha:DB C a A)(hb:DB C b B):DE C (.BinOp a .Mod b pos) (e2 dMod A B):=de_op QN8 (Qw9 fun i j h=>of_decide_eq_true h) (QtP fun _ _=>rfl) ha hb
theorem QrY(ha:DB C a A)(hb:DB C b B):DE C (.BinOp a .Pow b pos) (e2 dPow A B):=de_op QPo (Qw9 fun i j h=>by
 rw[Bool.and_eq_true,Bool.and_eq_true]at h
 exact⟨of_decide_eq_true h.1.1,of_decide_eq_true h.1.2,of_decide_eq_true h.2⟩) (QtP fun _ _=>rfl) ha hb
def dAdd:D->D->Out D
 | .int i,.int j=>.ok (.int (i+j))
 | .str x,.str y=>if x.length+y.length<=sizeLine then .ok (.str (x++y)) else .stuck
 | _,_=>.stuck
theorem QaE(ha:DB C a A)(hb:DB C b B):DE C (.BinOp a .Add b pos) (e2 dAdd A B):=by
 refine de_op (QPz.or QIB) ?_ ?_ ha hb
 ·intro G H σ ς Q x y vx vy S hx hy q
  cases x with
  | int i=>
   cases y with
   | int j=>
    cases hx;cases hy
    exact .inl ⟨i,j,rfl,rfl,q.2⟩
   | _=>exact q.elim
  | str i=>
   cases y with
   | str j=>
    cases hx;cases hy
    rcases QQ (show(if i.length+j.length<=sizeLine then Out.ok (D.str (i++j)) else Out.stuck).post _ _ from q) with⟨hc,q⟩ | ⟨hc,q⟩
    ·exact .inr ⟨i,j,rfl,rfl,hc,q.2⟩
    ·exact q.elim
   | _=>exact q.elim
  | _=>exact q.elim
 ·intro x y
  cases x with
  | int i=>
   cases y with
   | int j=>exact rfl
   | _=>exact True.intro
  | str i=>
   cases y with
   | str j=>exact QiO rfl
   | _=>exact True.intro
  | _=>exact True.intro
def dLt:D->D->Out D:=dI0 fun i j=>.bl (decide (i<j))
def dLe:D->D->Out D:=dI0 fun i j=>.bl (decide (i<=j))
def dGt:D->D->Out D:=dI0 fun i j=>.bl (decide (j<i))
def dGe:D->D->Out D:=dI0 fun i j=>.bl (decide (j<=i))
end
section
variable{C:Dc}{a b c:Expr}{A B:SD->Out D}{pos:Pos}
def dNeg:D->Out D
 | .int i=>.ok (.int (-i))
 | _=>.stuck
theorem Qmd(ha:DB C a A):DE C (.UnaryOp .USub a pos) (e1 dNeg A):=by
 obtain⟨ta,p1,q1⟩:=ha
 refine⟨_,pe_un QOT p1,fun G H σ ς Q S q=>?_⟩
 unfold e1 at q
 rw[Out.post_bind]at q
 refine q1 G H σ ς _ S (Out.post_mono q fun x k v1 H1 G1 S1 a1 b1 r1=>?_)
 cases x with
 | int i=>cases r1;exact⟨i,rfl,KD.now (KD.later k a1 b1) S1 rfl⟩
 | _=>exact k.elim
variable{TA TB:SD->Out Bool}{rest:List Expr}
def tAnd'(a b:SD->Out Bool):SD->Out Bool:=fun ς=>a ς>>=fun c=>if c=true then b ς else .ok false
def tOr'(a b:SD->Out Bool):SD->Out Bool:=fun ς=>a ς>>=fun c=>if c=true then .ok true else b ς
def tNot'(a:SD->Out Bool):SD->Out Bool:=fun ς=>a ς>>=fun c=>.ok (!c)
theorem DW.dt{e:Expr}{T:SD->Out Bool}(h:DW C e T):DT C e T:=let ⟨t,p,q⟩:=h;⟨t,p.pt,q⟩
theorem QtA(ha:DT C a TA):DW C (.BoolOp .And [a] pos) TA:=let ⟨t,p,q⟩:=ha;⟨t,QNB p,q⟩
theorem Qft(ha:DT C a TA):DW C (.BoolOp .Or [a] pos) TA:=let ⟨t,p,q⟩:=ha;⟨t,QO8 p,q⟩
theorem Qwt(ha:DT C a TA)(hb:DW C (.BoolOp .And (b::rest) pos) TB):DW C (.BoolOp .And (a::b::rest) pos) (tAnd' TA TB):=by
 obtain⟨t1,p1,q1⟩:=ha
 obtain⟨t2,p2,q2⟩:=hb
 refine⟨_,QPD p1 p2,fun G H σ ς Q S q=>?_⟩
 unfold tAnd' at q
 rw[Out.post_bind]at q
 refine q1 G H σ ς _ S (Out.post_mono q fun x k H1 G1 S1 a1 b1=>?_)
 cases x with
 | true=>exact iteT (q2 G1 H1 σ ς _ S1 (Out.post_mono (show(TB ς).post _ _ from k) fun x k=>KT.later k a1 b1))
 | false=>exact iteF (KT.now (KT.later (show KT C G H σ ς Q false from k) a1 b1) S1)
theorem dw_or(ha:DT C a TA)(hb:DW C (.BoolOp .Or (b::rest) pos) TB):DW C (.BoolOp .Or (a::b::rest) pos) (tOr' TA TB):=by
 obtain⟨t1,p1,q1⟩:=ha
 obtain⟨t2,p2,q2⟩:=hb
 refine⟨_,pw_or p1 p2,fun G H σ ς Q S q=>?_⟩
 unfold tOr' at q
 rw[Out.post_bind]at q
 refine q1 G H σ ς _ S (Out.post_mono q fun x k H1 G1 S1 a1 b1=>?_)
 cases x with
 | true=>exact iteT (KT.now (KT.later (show KT C G H σ ς Q true from k) a1 b1) S1)
 | false=>exact iteF (q2 G1 H1 σ ς _ S1 (Out.post_mono (show(TB ς).post _ _ from k) fun x k=>KT.later k a1 b1))
theorem QaX(ha:DT C a TA):DT C (.UnaryOp .Not a pos) (tNot' TA):=by
 obtain⟨t1,p1,q1⟩:=ha
 refine⟨_,QP6 p1,fun G H σ ς Q S q=>?_⟩
 unfold tNot' at q
 rw[Out.post_bind]at q
 exact q1 G H σ ς _ S (Out.post_mono q fun x k H1 G1 S1 a1 b1=>k H1 G1 S1 a1 b1)
def eAnd(a b:SD->Out D):SD->Out D:=fun ς=>a ς>>=fun d=>match d with | .bl true=>b ς | .bl false=>.ok (.bl false) | _=>.stuck
def eOr(a b:SD->Out D):SD->Out D:=fun ς=>a ς>>=fun d=>match d with | .bl true=>.ok (.bl true) | .bl false=>b ς | _=>.stuck
def eNot(a:SD->Out D):SD->Out D:=fun ς=>a ς>>=fun d=>match d with | .bl c=>.ok (.bl (!c)) | _=>.stuck
theorem Qjx{op}(h:DE C a A):DE C (.BoolOp op [a] pos) A:=let ⟨t,p,q⟩:=h;⟨t,QPi p,q⟩
theorem Qfz(ha:DE C a A)(hb:DE C (.BoolOp .And (b::rest) pos) B):DE C (.BoolOp .And (a::b::rest) pos) (eAnd A B):=by
 obtain⟨t1,p1,q1⟩:=ha
 obtain⟨t2,p2,q2⟩:=hb
 refine⟨_,QOQ p1 p2,fun G H σ ς Q S q=>?_⟩
 unfold eAnd at q
 rw[Out.post_bind]at q
 refine q1 G H σ ς _ S (Out.post_mono q fun x k v1 H1 G1 S1 a1 b1 r1=>?_)
 cases x with
 | bl c=>
  refine⟨c,r1,?_⟩
  cases c with
  | true=>exact iteT (q2 G1 H1 σ ς _ S1 (Out.post_mono (show(B ς).post _ _ from k) fun x k=>KD.later k a1 b1))
  | false=>exact iteF (KD.now (KD.later (show KD C G H σ ς Q (.bl false) from k) a1 b1) S1 rfl)
 | _=>exact k.elim
theorem QPA(ha:DE C a A):DE C (.UnaryOp .Not a pos) (eNot A):=by
 obtain⟨t1,p1,q1⟩:=ha
 refine⟨_,QPe p1,fun G H σ ς Q S q=>?_⟩
 unfold eNot at q
 rw[Out.post_bind]at q
 refine q1 G H σ ς _ S (Out.post_mono q fun x k v1 H1 G1 S1 a1 b1 r1=>?_)
 cases x with
 | bl c=>exact⟨c,r1,KD.now (KD.later (show KD C G H σ ς Q (.bl (!c)) from k) a1 b1) S1 rfl⟩
 | _=>exact k.elim
def eIf(t:SD->Out Bool)(a b:SD->Out D):SD->Out D:=fun ς=>t ς>>=fun c=>if c=true then a ς else b ς
theorem de_if{t:Expr}(ht:DT C t TA)(ha:DE C a A)(hb:DE C b B):DE C (.IfExp t a b pos) (eIf TA A B):=by
 obtain⟨t0,p0,q0⟩:=ht
 obtain⟨t1,p1,q1⟩:=ha
 obtain⟨t2,p2,q2⟩:=hb
 refine⟨_,QMU p0 p1 p2,fun G H σ ς Q S q=>?_⟩
 unfold eIf at q
 rw[Out.post_bind]at q
 refine q0 G H σ ς _ S (Out.post_mono q fun x k H1 G1 S1 a1 b1=>?_)
 cases x with
 | true=>exact iteT (q1 G1 H1 σ ς _ S1 (Out.post_mono (show(A ς).post _ _ from k) fun x k=>KD.later k a1 b1))
 | false=>exact iteF (q2 G1 H1 σ ς _ S1 (Out.post_mono (show(B ς).post _ _ from k) fun x k=>KD.later k a1 b1))
end
end DL
namespace DL
open PySem PySem.Spec PyProof.Rows L2
def aNil:SD->Out (List D):=fun _=>.ok []
def aCons(a:SD->Out D)(r:‹"aq"›):SD->Out (List D):=fun ς=>a ς>>=fun x=>r ς>>=fun xs=>.ok (x::xs)
section
variable{C:Dc}{e:Expr}{es:List Expr}{E:SD->Out D}{A:SD->Out (List D)}{pos:Pos}
theorem Qj:DA C [] aNil:=⟨_,QeS,fun G H σ ς Q S q=>q [] H G S (Same.refl H) (Same.refl G) rfl⟩
theorem Qz:DAB C [] aNil:=⟨_,QeS,fun G H σ ς Q S q=>q [] H G S (Same.refl H) (Same.refl G) rfl⟩
theorem Qc(ha:DE C e E)(hr:DA C es A)(hs:‹"c"›:=by rfl):DA C (e::es) (aCons E A):=by
 obtain⟨t1,p1,q1⟩:=ha
 obtain⟨t2,p2,q2⟩:=hr
 refine⟨_,QbX p1 p2 hs,fun G H σ ς Q S q=>?_⟩
 unfold aCons at q
 rw[Out.post_bind]at q
 refine q1 G H σ ς _ S (Out.post_mono q fun x k v1 H1 G1 S1 a1 b1 r1=>?_)
 rw[Out.post_bind]at k
 refine q2 G1 H1 σ ς _ S1 (Out.post_mono k fun xs k2 vs H2 G2 S2 a2 b2 r2=>?_)
 exact k2 (v1::vs) H2 G2 S2 (a1.trans a2) (b1.trans b2) ⟨v1,vs,rfl,Rep.mono b2 x v1 r1,r2⟩
theorem Qu(ha:DB C e E)(hr:DAB C es A)(hs:‹"c"›:=by rfl):DAB C (e::es) (aCons E A):=by
 obtain⟨t1,p1,q1⟩:=ha
 obtain⟨t2,p2,q2⟩:=hr
 refine⟨_,QbX p1 p2 hs,fun G H σ ς Q S q=>?_⟩
 unfold aCons at q
 rw[Out.post_bind]at q
 refine q1 G H σ ς _ S (Out.post_mono q fun x k v1 H1 G1 S1 a1 b1 r1=>?_)
 rw[Out.post_bind]at k
 refine q2 G1 H1 σ ς _ S1 (Out.post_mono k fun xs k2 vs H2 G2 S2 a2 b2 r2=>?_)
 exact k2 (v1::vs) H2 G2 S2 (a1.trans a2) (b1.trans b2) ⟨v1,vs,rfl,Rep.mono a2 x v1 r1,r2⟩
def fits(n:Nat):Bool:=decide (n<=sizeLine)
def eTup(a:‹"aq"›):SD->Out D:=fun ς=>a ς>>=fun xs=>if fits xs.length=true then .ok (.tup xs) else .stuck
def eLst(a:‹"aq"›):SD->Out D:=fun ς=>a ς>>=fun xs=>if fits xs.length=true then .ok (.lst xs) else .stuck
theorem QfE{x1}(h:DA C es A):DE C (.Tuple es x1 pos) (eTup A):=by
 obtain⟨t,p,q⟩:=h
 refine⟨_,QLQ p,fun G H σ ς Q S k=>?_⟩
 unfold eTup at k
 rw[Out.post_bind]at k
 refine q G H σ ς _ S (Out.post_mono k fun xs k2 vs H1 G1 S1 a1 b1 r1=>?_)
 rcases QQ k2 with⟨hc,k3⟩ | ⟨_,k3⟩
 ·exact⟨by rw[← r1.length];exact of_decide_eq_true hc,KD.tup (KD.later k3 a1 b1) S1 r1⟩
 ·exact k3.elim
theorem Qap(h:DA C es A):DF C (.List es pos) (eLst A):=by
 obtain⟨t,p,q⟩:=h
 refine⟨_,QQc p,fun G H σ ς Q S k=>?_⟩
 unfold eLst at k
 rw[Out.post_bind]at k
 refine q G H σ ς _ S (Out.post_mono k fun xs k2 vs H1 G1 S1 a1 b1 r1=>?_)
 rcases QQ k2 with⟨hc,k3⟩ | ⟨_,k3⟩
 ·exact⟨by rw[← r1.length];exact of_decide_eq_true hc,KF.lst (KF.later k3 a1 b1) S1 r1⟩
 ·exact k3.elim
end
theorem Qpw{K:PySem.W.Frag}{CT:CTab}{H:Hp}{ds:List D}{vs:List V}{i:Int}{d:D}(r:RepL K CT H ds vs)(h:atI ds i=some d):∃ v,atI vs i=some v/\Rep K CT H d v:=by
 unfold atI at h ⊢
 rw[← r.length]
 cases e:ixN ds.length i with
 | none=>rw[e]at h;cases h
 | some j=>
  rw[e]at h
  exact r.get h
def optO{α:Type}:Option α->Out α
 | some a=>.ok a
 | none=>.stuck
theorem QcW{α:Type}{o:Option α}{k:α->Prop}{x:D->Prop}(h:(optO o).post k x):∃ a,o=some a/\k a:=by
 cases o with
 | none=>exact h.elim
 | some a=>exact⟨a,rfl,h⟩
def dIx:D->D->Out D
 | .lst xs,.int i=>optO (atI xs i)
 | .tup xs,.int i=>optO (atI xs i)
 | .str x,.int i=>if fits x.length=true then optO ((atI x.cps.toList i).map fun c=>D.str ⟨#[c]⟩) else .stuck
 | _,_=>.stuck
section
variable{C:Dc}{a b:Expr}{A B:SD->Out D}{pos:Pos}
theorem QQd{R:Hp->Hp}{G H:Hp}{σ:St}{ς:SD}{Q:VK}{x y:D}{vx vy:V}{k:D->Prop}(hx:Rep C.X.K C.CT H x vx)(hy:Rep C.X.K C.CT H y vy)
 (q:(dIx x y).post k C.XD) (hk:∀ d v,k d->Rep C.X.K C.CT H d v->Q v H):rIx C.X.K vx vy H Q:=by
 cases y with
 | int i=>
  cases hy
  cases x with
  | lst xs=>
   obtain⟨p,vs,rfl,h2,h3⟩:=hx
   obtain⟨d,e,kd⟩:=QcW q
   obtain⟨v,e2,r⟩:=Qpw h3 e
   exact .inl ⟨p,vs,i,v,rfl,rfl,h2,e2,hk d v kd r⟩
  | tup xs=>
   obtain⟨p,vs,rfl,h2,h3⟩:=hx
   obtain⟨d,e,kd⟩:=QcW q
   obtain⟨v,e2,r⟩:=Qpw h3 e
   exact .inr (.inl ⟨p,vs,i,v,rfl,rfl,h2,e2,hk d v kd r⟩)
  | str z=>
   cases hx
   rcases QQ (show(if fits z.length=true then optO ((atI z.cps.toList i).map fun c=>D.str ⟨#[c]⟩) else .stuck).post k C.XD from q) with⟨hc,q⟩ | ⟨_,q⟩
   ·obtain⟨d,e,kd⟩:=QcW q
    cases e3:atI z.cps.toList i with
    | none=>rw[e3]at e;cases e
    | some c=>
     rw[e3]at e
     cases e
     exact .inr (.inr ⟨z,i,c,rfl,rfl,of_decide_eq_true hc,e3,hk _ _ kd rfl⟩)
   ·exact q.elim
  | _=>exact q.elim
 | _=>cases x<;>exact q.elim
theorem db_ix(ha:DB C a A)(hb:DB C b B)(hs:QtC b:=by intro _ _;rfl):DB C (.Subscript a b pos) (e2 dIx A B):=by
 obtain⟨ta,p1,q1⟩:=ha
 obtain⟨tb,p2,q2⟩:=hb
 refine⟨_,pe_ix QBP p1 p2 hs,fun G H σ ς Q S q=>?_⟩
 unfold e2 at q
 rw[Out.post_bind]at q
 refine q1 G H σ ς _ S (Out.post_mono q fun x k v1 H1 G1 S1 a1 b1 r1=>?_)
 rw[Out.post_bind]at k
 refine q2 G1 H1 σ ς _ S1 (Out.post_mono k fun y k2 v2 H2 G2 S2 a2 b2 r2=>?_)
 exact QQd (R:=id) (G:=G2) (σ:=σ) (ς:=ς) (Rep.mono a2 x v1 r1) r2 k2 fun d v kd r=>KB.now (KB.later kd (a1.trans a2) (b1.trans b2)) S2 r
theorem de_ix(ha:DE C a A)(hb:DB C b B)(hs:QtC b:=by intro _ _;rfl):DE C (.Subscript a b pos) (e2 dIx A B):=by
 obtain⟨ta,p1,q1⟩:=ha
 obtain⟨tb,p2,q2⟩:=hb
 refine⟨_,pe_ix QBP p1 p2 hs,fun G H σ ς Q S q=>?_⟩
 unfold e2 at q
 rw[Out.post_bind]at q
 refine q1 G H σ ς _ S (Out.post_mono q fun x k v1 H1 G1 S1 a1 b1 r1=>?_)
 rw[Out.post_bind]at k
 refine q2 G1 H1 σ ς _ S1 (Out.post_mono k fun y k2 v2 H2 G2 S2 a2 b2 r2=>?_)
 have r1':=Rep.mono b2 x v1 r1
 cases y with
 | int i=>
  cases r2
  cases x with
  | lst xs=>
   obtain⟨p,vs,rfl,h2,h3⟩:=r1'
   obtain⟨d,e,kd⟩:=QcW k2
   obtain⟨v,e2,r⟩:=Qpw h3 e
   exact .inl ⟨p,vs,i,v,rfl,rfl,S2.sub.seq h2,e2,KD.now ‹"ao"› S2 r⟩
  | tup xs=>
   obtain⟨p,vs,rfl,h2,h3⟩:=r1'
   obtain⟨d,e,kd⟩:=QcW k2
   obtain⟨v,e2,r⟩:=Qpw h3 e
   exact .inr (.inl ⟨p,vs,i,v,rfl,rfl,Same.sqT S2.sub h2,e2,KD.now ‹"ao"› S2 r⟩)
  | str z=>
   cases r1'
   rcases QQ (show(if fits z.length=true then optO ((atI z.cps.toList i).map fun c=>D.str ⟨#[c]⟩) else .stuck).post _ C.XD from k2) with⟨hc,q⟩ | ⟨_,q⟩
   ·obtain⟨d,e,kd⟩:=QcW q
    cases e3:atI z.cps.toList i with
    | none=>rw[e3]at e;cases e
    | some c=>
     rw[e3]at e
     cases e
     exact .inr (.inr ⟨z,i,c,rfl,rfl,of_decide_eq_true hc,e3,KD.now ‹"ao"› S2 rfl⟩)
   ·exact q.elim
  | _=>exact k2.elim
 | _=>cases x<;>exact k2.elim
end
def cutD{α:Type}(xs:List α)(lo hi:Option Int):List α:=(xs.drop (HT.sIx xs.length 0 lo)).take (HT.sIx xs.length xs.length hi - HT.sIx xs.length 0 lo)
theorem QOt{K:PySem.W.Frag}{CT:CTab}{H:Hp}{ds:List D}{vs:List V}(lo hi:Option Int)(r:RepL K CT H ds vs):RepL K CT H (cutD ds lo hi) (cutV vs lo hi):=by
 unfold cutD cutV
 rw[r.length]
 exact(r.drop _).take _
def oNo:SD->Out (Option Int):=fun _=>.ok none
def oSome(e:SD->Out D):SD->Out (Option Int):=fun ς=>e ς>>=fun d=>match d with | .int i=>.ok (some i) | _=>.stuck
def DO(C:Dc)(e:Option Expr)(T:SD->Out (Option Int)):Prop:=∃ t,PO C.X e t/\∀ G H σ ς Q,StR C G H σ ς->(T ς).post (fun o=>∀ H' G',StR C G' H' σ ς->Same H H'->Same G G'->Q o H') C.XD->t σ H Q
section
variable{C:Dc}{a b:Expr}{A B:SD->Out D}{lo hi:Option Expr}{L U:SD->Out (Option Int)}{pos p2:Pos}
theorem QHK(h:DB C a A):DO C (some a) (oSome A):=by
 obtain⟨t,p,q⟩:=h
 refine⟨_,QNN p,fun G H σ ς Q S k=>?_⟩
 unfold oSome at k
 rw[Out.post_bind]at k
 refine q G H σ ς _ S (Out.post_mono k fun x k2 v1 H1 G1 S1 a1 b1 r1=>?_)
 cases x with
 | int i=>cases r1;exact⟨i,rfl,k2 H1 G1 S1 a1 b1⟩
 | _=>exact k2.elim
def eSl(a:SD->Out D)(l u:SD->Out (Option Int)):SD->Out D:=fun ς=>a ς>>=fun x=>l ς>>=fun i=>u ς>>=fun j=>match x with
 | .lst xs=>.ok (.lst (cutD xs i j))
 | _=>.stuck
theorem df_sl(ha:DE C a A)(hl:DO C lo L)(hu:DO C hi U):DF C (.Subscript a (.Slice lo hi none p2) pos) (eSl A L U):=by
 obtain⟨ta,p1,q1⟩:=ha
 obtain⟨tl,p3,q3⟩:=hl
 obtain⟨tu,p4,q4⟩:=hu
 refine⟨_,QMt QNL p1 p3 p4,fun G H σ ς Q S q=>?_⟩
 unfold eSl at q
 rw[Out.post_bind]at q
 refine q1 G H σ ς _ S (Out.post_mono q fun x k v1 H1 G1 S1 a1 b1 r1=>?_)
 rw[Out.post_bind]at k
 refine q3 G1 H1 σ ς _ S1 (Out.post_mono k fun i k2 H2 G2 S2 a2 b2=>?_)
 rw[Out.post_bind]at k2
 refine q4 G2 H2 σ ς _ S2 (Out.post_mono k2 fun j k3 H3 G3 S3 a3 b3=>?_)
 cases x with
 | lst xs=>
  obtain⟨p,vs,rfl,h2,h3⟩:=Rep.mono (b2.trans b3) _ v1 r1
  exact⟨p,vs,rfl,S3.sub.seq h2,KF.lst (KF.later (show KF C G H σ ς Q (.lst (cutD xs i j)) from k3) ((a1.trans a2).trans a3) ((b1.trans b2).trans b3)) S3 (QOt i j h3)⟩
 | _=>exact k3.elim
end
section
variable{C:Dc}{x:Str}{p pos:Pos}{e:Expr}{es:List Expr}{A:SD->Out (List D)}{id T:String}
def eA(f:List D->Out D)(a:‹"aq"›):SD->Out D:=fun ς=>a ς>>=f
def DCS(C:Dc)(r:List V->Hp->VK->Prop)(f:List D->Out D):Prop:=∀ G H σ ς (Q:VK) xs vs,StR C G H σ ς->RepL C.X.K C.CT H xs vs->
 (f xs).post (fun d=>d.scal=true/\Q (toV d) H) (fun _=>False)->r vs H Q
def scalA(f:List D->Out D):Prop:=∀ xs,match f xs with | .ok d=>d.scal=true | .exc _=>False | .stuck=>True
theorem dcall{r:List V->Hp->VK->Prop}{f:List D->Out D}{t:TA}(hr:DCS C r f)(hs:scalA f)
 (h:∀ G H σ ς Q,StR C G H σ ς->(A ς).post (fun ds=>∀ vs H' G',StR C G' H' σ ς->Same H H'->Same G G'->RepL C.X.K C.CT H' ds vs->Q vs H') C.XD->t σ H Q):
 ∀ G H σ ς Q,StR C G H σ ς->(eA f A ς).post (KD C G H σ ς Q) C.XD->tCB r t σ H Q:=by
 intro G H σ ς Q S q
 unfold eA at q
 rw[Out.post_bind]at q
 refine h G H σ ς _ S (Out.post_mono q fun ds k vs H1 G1 S1 a1 b1 r1=>?_)
 exact hr G1 H1 σ ς Q ds vs S1 r1 (Ql8 S1 (hs ds) (Out.post_mono k fun d kd=>KD.later kd a1 b1))
theorem Qve{r:List V->Hp->VK->Prop}{f:List D->Out D}(hc:CallR C.X (.builtin id) r)(hr:DCS C r f)(hs:scalA f)(hg:Gl C.X x)(hm:C.X.mg x=none)(hv:bootBuiltins x=some (.builtin id))(ha:DAB C (e::es) A)(hn:x≠"__name__":=by decide)(hdb:‹"f"›:=by decide)
 (he:‹"c"›:=by rfl) (hpl:(backTo pos ‹"az"›).any (·.1)=false:=by rfl):DE C ‹"F"› (eA f A):=by
 obtain⟨t,p1,q1⟩:=ha
 exact⟨_,Qu0 hc hg hm hv p1 hn hdb he hpl,dcall hr hs q1⟩
theorem QKQ{r:List V->Hp->VK->Prop}{f:List D->Out D}(hc:CallR C.X (.type T) r)(hr:DCS C r f)(hs:scalA f)(hg:Gl C.X x)(hm:C.X.mg x=none)(hv:bootBuiltins x=some (.type T))(ha:DAB C (e::es) A)(hn:x≠"__name__":=by decide)(hdb:‹"f"›:=by decide)
 (he:‹"c"›:=by rfl) (hpl:(backTo pos ‹"az"›).any (·.1)=false:=by rfl):DE C ‹"F"› (eA f A):=by
 obtain⟨t,p1,q1⟩:=ha
 exact⟨_,QzO hc hg hm hv p1 hn hdb he hpl,dcall hr hs q1⟩
def fLen:List D->Out D
 | [.lst xs]=>.ok (.int xs.length)
 | [.tup xs]=>.ok (.int xs.length)
 | [.str x]=>if fits x.length=true then .ok (.int x.length) else .stuck
 | _=>.stuck
theorem QOe:DCS C (fun xs H Q=>(∃ p ys,xs=[.ref p]/\(SqL C.X.K H p ys∨SqT C.X.K H p ys)/\Q (.int ys.length) H)∨∃ z,xs=[.str z]/\z.length<=sizeLine/\Q (.int z.length) H) fLen:=by
 intro G H σ ς Q xs vs S r q
 cases xs with
 | nil=>exact q.elim
 | cons x xr=>
  obtain⟨v,vr,rfl,r1,r2⟩:=r
  cases xr with
  | cons y yr=>cases x<;>exact q.elim
  | nil=>
   cases r2
   cases x with
   | lst ys=>
    obtain⟨p,us,rfl,h2,h3⟩:=r1
    exact .inl ⟨p,us,rfl,.inl h2,by rw[← h3.length];exact q.2⟩
   | tup ys=>
    obtain⟨p,us,rfl,h2,h3⟩:=r1
    exact .inl ⟨p,us,rfl,.inr h2,by rw[← h3.length];exact q.2⟩
   | str z=>
    cases r1
    rcases QQ (show(if fits z.length=true then Out.ok (D.int z.length) else .stuck).post _ _ from q) with⟨hc,q⟩ | ⟨_,q⟩
    ·exact .inr ⟨z,rfl,of_decide_eq_true hc,q.2⟩
    ·exact q.elim
   | _=>exact q.elim
theorem QMp:scalA fLen:=by
 intro xs
 cases xs with
 | nil=>exact True.intro
 | cons x xr=>
  cases xr with
  | cons y yr=>cases x<;>exact True.intro
  | nil=>
   cases x with
   | lst ys=>exact rfl
   | tup ys=>exact rfl
   | str z=>exact QiO rfl
   | _=>exact True.intro
theorem Q3(hg:Gl C.X "len")(hm:C.X.mg "len"=none)(ha:DAB C (e::es) A)
 (he:‹"c"›:=by rfl) (hpl:(backTo pos ‹"az"›).any (·.1)=false:=by rfl):DE C (.Call (.Name "len" p) (e::es) [] pos) (eA fLen A):=
 Qve (QDN.or QDi) QOe QMp hg hm PySem.boot_len ha (by decide) (by decide) he hpl
def f1(g:D->Out D):List D->Out D
 | [x]=>g x
 | _=>.stuck
theorem QxJ{g:D->Out D}(h:∀ x,match g x with | .ok d=>d.scal=true | .exc _=>False | .stuck=>True):scalA (f1 g):=by
 intro xs
 match xs with
 | []=>exact True.intro
 | [x]=>exact h x
 | _::_::_=>exact True.intro
def dAbs:D->Out D
 | .int i=>.ok (.int (if i<0 then -i else i))
 | _=>.stuck
theorem QBS{r:List V->Hp->VK->Prop}{g:D->Out D}(h:∀ G H σ ς (Q:VK) x v,StR C G H σ ς->Rep C.X.K C.CT H x v->(g x).post (fun d=>d.scal=true/\Q (toV d) H) (fun _=>False)->r [v] H Q):DCS C r (f1 g):=by
 intro G H σ ς Q xs vs S r q
 match xs,r with
 | [],_=>exact q.elim
 | [x],⟨v,vr,e1,r1,r2⟩=>cases r2;subst e1;exact h G H σ ς Q x v S r1 q
 | _::_::_,_=>exact q.elim
end
mutual
def D.py:D->PyData
 | .non=>.none
 | .bl b=>.bool b
 | .int i=>.int i
 | .str x=>.str x
 | .lst xs=>.list (D.pys xs)
 | .tup xs=>.tuple (D.pys xs)
 | .dic _=>.dict []
 | .ins _ _=>.dict []
 | .err _=>.dict []
def D.pys:List D->List PyData
 | []=>[]
 | x::xs=>D.py x::D.pys xs
end
section
variable{X:Cx}{pins:List (Addr×Obj)}{σ:L2.St}{H:Hp}{s:Shared}{CT:CTab}
mutual
theorem QlO(I:‹"i"›):∀(d:D)(v:V)(u:Value),Rep X.K CT H d v->RelV v u->d.py.canLay0=true->∃ as,Reads s.heap u d.py as
 | .non,_,_,h,r,_=>by cases h;cases r;exact⟨_,.none⟩
 | .bl b,_,_,h,r,_=>by cases h;cases r;exact⟨_,.bool b⟩
 | .int i,_,_,h,r,_=>by cases h;obtain⟨t,rfl⟩:=r;exact⟨_,.int i t⟩
 | .str x,_,_,h,r,_=>by cases h;obtain⟨t,rfl⟩:=r;exact⟨_,.str x t⟩
 | .lst ds,_,_,⟨a,vs,h1,h2,h3⟩,r,c=>by
  subst h1;cases r
  obtain⟨its,q,⟨o,n,ho,hc,_,hd⟩,_⟩:=I.list h2
  obtain⟨as,ra⟩:=QsS I ds vs its h3 q (by simpa [D.py,PyData.canLay0] using c)
  exact⟨_,.list ho hc hd (by simpa using ra)⟩
 | .tup ds,_,_,⟨a,vs,h1,h2,h3⟩,r,c=>by
  subst h1;cases r
  obtain⟨its,q,⟨o,ho,hc,n,hd⟩,_⟩:=I.tuple h2
  obtain⟨as,ra⟩:=QsS I ds vs its h3 q (by simpa [D.py,PyData.canLay0] using c)
  exact⟨_,.tuple ho hc hd (by simpa using ra)⟩
 | .dic _,_,_,_,_,c=>by simp[D.py,PyData.canLay0]at c
 | .ins _ _,_,_,_,_,c=>by simp[D.py,PyData.canLay0]at c
 | .err _,_,_,_,_,c=>by simp[D.py,PyData.canLay0]at c
theorem QsS(I:‹"i"›):∀(ds:List D)(vs:List V)(us:List Value),RepL X.K CT H ds vs->Vals vs us->PyData.canLayAll0 (D.pys ds)=true->∃ as,ReadsAll s.heap us (D.pys ds) as
 | [],_,_,h,r,_=>by cases h;cases r;exact⟨_,.nil⟩
 | d::ds,_,_,⟨v,w,h1,h2,h3⟩,r,c=>by
  subst h1
  cases r with
  | cons r1 r2=>
   have c':d.py.canLay0=true/\PyData.canLayAll0 (D.pys ds)=true:=by simpa [D.pys,PyData.canLayAll0] using c
   obtain⟨as,q1⟩:=QlO I d v _ h2 r1 c'.1
   obtain⟨bs,q2⟩:=QsS I ds w _ h3 r2 c'.2
   exact⟨_,.cons q1 q2⟩
end
end
def shp(d:D):Bool:=SeqAt.shaped d.py
def dEq(x y:D):Out D:=if (shp x&&shp y)=true then .ok (.bl (PyData.eqv x.py y.py)) else .stuck
def dNe(x y:D):Out D:=if (shp x&&shp y)=true then .ok (.bl (!PyData.eqv x.py y.py)) else .stuck
section
variable{C:Dc}{a b:Expr}{A B:SD->Out D}{pos:Pos}
def rEqD(C:Dc)(n:Bool):R2:=fun vx vy H Q=>∃ x y,Rep C.X.K C.CT H x vx/\Rep C.X.K C.CT H y vy/\shp x=true/\shp y=true/\Q (.bl (n != PyData.eqv x.py y.py)) H
theorem QMa(hu:C.X.A.units+64<cLine):OpR C.X (compareOp .Eq) (rEqD C false):=by
 intro pins s σ H vx vy u w Q I rx ry h
 obtain⟨x,y,h1,h2,h3,h4,q⟩:=h
 obtain⟨as,ra⟩:=QlO I x vx u h1 rx (SeqAt.canLay_of_shaped h3)
 obtain⟨bs,rb⟩:=QlO I y vy w h2 ry (SeqAt.canLay_of_shaped h4)
 exact eq_dataH ra rb h3 h4 hu ⟨.bl _,H,I,rfl,by simpa using q⟩
theorem QOY(hu:C.X.A.units+64<cLine):OpR C.X (compareOp .NotEq) (rEqD C true):=by
 intro pins s σ H vx vy u w Q I rx ry h
 obtain⟨x,y,h1,h2,h3,h4,q⟩:=h
 obtain⟨as,ra⟩:=QlO I x vx u h1 rx (SeqAt.canLay_of_shaped h3)
 obtain⟨bs,rb⟩:=QlO I y vy w h2 ry (SeqAt.canLay_of_shaped h4)
 exact ne_dataH ra rb h3 h4 hu ⟨.bl _,H,I,rfl,by simpa using q⟩
theorem QKY:DRS C (rEqD C false) dEq:=by
 intro G H σ ς Q x y vx vy S hx hy q
 rcases QQ q with⟨hc,q⟩ | ⟨_,q⟩
 ·rw[Bool.and_eq_true]at hc
  exact⟨x,y,hx,hy,hc.1,hc.2,by simpa [toV] using q.2⟩
 ·exact q.elim
theorem QPH:DRS C (rEqD C true) dNe:=by
 intro G H σ ς Q x y vx vy S hx hy q
 rcases QQ q with⟨hc,q⟩ | ⟨_,q⟩
 ·rw[Bool.and_eq_true]at hc
  exact⟨x,y,hx,hy,hc.1,hc.2,by simpa [toV] using q.2⟩
 ·exact q.elim
theorem QH2:scal2 dEq:=fun x y=>QiO rfl
theorem QNF:scal2 dNe:=fun x y=>QiO rfl
theorem dt_lt(ha:DB C a A)(hb:DB C b B):DT C (.Compare a [.Lt] [b] pos) (tVal (e2 dLt A B)):=Qlr op_lt QcO (Qb8 fun _ _=>rfl) ha hb (QjG _)
theorem dt_le(ha:DB C a A)(hb:DB C b B):DT C (.Compare a [.LtE] [b] pos) (tVal (e2 dLe A B)):=Qlr op_le QcO (Qb8 fun _ _=>rfl) ha hb (QjG _)
theorem dt_gt(ha:DB C a A)(hb:DB C b B):DT C (.Compare a [.Gt] [b] pos) (tVal (e2 dGt A B)):=Qlr op_gt QcO (Qb8 fun _ _=>rfl) ha hb (QjG _)
theorem dt_ge(ha:DB C a A)(hb:DB C b B):DT C (.Compare a [.GtE] [b] pos) (tVal (e2 dGe A B)):=Qlr op_ge QcO (Qb8 fun _ _=>rfl) ha hb (QjG _)
theorem de_eq(hu:C.X.A.units+64<cLine)(ha:DB C a A)(hb:DB C b B):DE C (.Compare a [.Eq] [b] pos) (e2 dEq A B):=QDZ (QMa hu) QKY QH2 ha hb (QjG _)
theorem dt_eq(hu:C.X.A.units+64<cLine)(ha:DB C a A)(hb:DB C b B):DT C (.Compare a [.Eq] [b] pos) (tVal (e2 dEq A B)):=Qlr (QMa hu) QKY QH2 ha hb (QjG _)
theorem dt_ne(hu:C.X.A.units+64<cLine)(ha:DB C a A)(hb:DB C b B):DT C (.Compare a [.NotEq] [b] pos) (tVal (e2 dNe A B)):=Qlr (QOY hu) QPH QNF ha hb (QjG _)
end
end DL
namespace DL
open PySem PySem.Spec PyProof.Rows L2
def isD:D->D->Bool
 | .non,.non=>true
 | .bl a,.bl b=>a == b
 | _,_=>false
def cstD:D->Bool
 | .non=>true
 | .bl _=>true
 | _=>false
def dIs(x y:D):Out D:=if cstD y=true then .ok (.bl (isD x y)) else .stuck
section
variable{C:Dc}{a b:Expr}{A B:SD->Out D}{pos:Pos}
def rIs(C:Dc)(n:Bool):R2:=fun vx vy H Q=>∃ x y,Rep C.X.K C.CT H x vx/\Rep C.X.K C.CT H y vy/\cstD y=true/\Q (.bl (n != isD x y)) H
theorem QPf{M:Model}{A:Around}{E:‹"k"›}{s:Shared}{Q:‹"k"›}{v:Value}{c:Bool}{x:V}(r:RelV x v)(h:Q (.bool (v == .bool c)) s):wpAny M A (compareOp .Is v (.bool c)) Q E s:=by
 cases x<;>first
  | (cases r;exact wpAny_pure h)
  | (obtain⟨t,rfl⟩:=r;exact wpAny_pure h)
theorem QOJ{K:PySem.W.Frag}{CT:CTab}{H:Hp}{x:D}{v:V}{u:Value}(h:Rep K CT H x v)(r:RelV v u):(u == Value.none)=isD x .non:=by
 cases x with
 | non=>cases h;cases r;rfl
 | bl _=>cases h;cases r;rfl
 | int _=>cases h;obtain⟨t,rfl⟩:=r;rfl
 | str _=>cases h;obtain⟨t,rfl⟩:=r;rfl
 | lst _=>obtain⟨a,vs,rfl,_⟩:=h;cases r;rfl
 | tup _=>obtain⟨a,vs,rfl,_⟩:=h;cases r;rfl
 | dic _=>obtain⟨a,vs,rfl,_⟩:=h;cases r;rfl
 | ins _ _=>obtain⟨a,_,_,_,rfl,_⟩:=h;cases r;rfl
 | err _=>obtain⟨a,_,rfl,_⟩:=h;cases r;rfl
theorem QPF{K:PySem.W.Frag}{CT:CTab}{H:Hp}{x:D}{v:V}{u:Value}{c:Bool}(h:Rep K CT H x v)(r:RelV v u):(u == Value.bool c)=isD x (.bl c):=by
 cases x with
 | non=>cases h;cases r;rfl
 | bl d=>cases h;cases r;cases c<;>cases d<;>rfl
 | int _=>cases h;obtain⟨t,rfl⟩:=r;rfl
 | str _=>cases h;obtain⟨t,rfl⟩:=r;rfl
 | lst _=>obtain⟨a,vs,rfl,_⟩:=h;cases r;rfl
 | tup _=>obtain⟨a,vs,rfl,_⟩:=h;cases r;rfl
 | dic _=>obtain⟨a,vs,rfl,_⟩:=h;cases r;rfl
 | ins _ _=>obtain⟨a,_,_,_,rfl,_⟩:=h;cases r;rfl
 | err _=>obtain⟨a,_,rfl,_⟩:=h;cases r;rfl
theorem op_is:OpR C.X (compareOp .Is) (rIs C false):=by
 intro pins s σ H vx vy u w Q I rx ry h
 obtain⟨x,y,h1,h2,h3,q⟩:=h
 cases y with
 | non=>cases h2;cases ry;exact is_none_gen ⟨.bl _,H,I,by rw[QOJ h1 rx];rfl,by simpa using q⟩
 | bl c=>cases h2;cases ry;exact QPf rx ⟨.bl _,H,I,by rw[QPF h1 rx];rfl,by simpa using q⟩
 | _=>cases h3
theorem QPX:DRS C (rIs C false) dIs:=by
 intro G H σ ς Q x y vx vy S hx hy q
 rcases QQ q with⟨hc,q⟩ | ⟨_,q⟩
 ·exact⟨x,y,hx,hy,hc,by simpa [toV] using q.2⟩
 ·exact q.elim
theorem dt_is(ha:DB C a A)(hb:DB C b B):DT C (.Compare a [.Is] [b] pos) (tVal (e2 dIs A B)):=Qlr op_is QPX (fun _ _=>QiO rfl) ha hb (QjG _)
end
def QcB:D->String
 | .non=>"NoneType"
 | .bl _=>"bool"
 | .int _=>"int"
 | .str _=>"str"
 | .lst _=>"list"
 | .tup _=>"tuple"
 | .dic _=>"dict"
 | .ins _ _=>"object"
 | .err _=>"object"
structure ClsD(K:PySem.W.Frag)(A:Addr):Prop where
 cl:Cls K A
 ha:PySem.W.findIn K (.ref A) "__class__"=some (some ‹"o"›)
 hn:PySem.W.specialIn K ‹"o"› "__get__"=some (some ‹"ak"›)
 htk:PySem.W.takesIn K ‹"o"›=some true
 hm:PySem.W.mroIn K A (.type "object")=some true
def KitD(K:PySem.W.Frag)(CT:CTab)(d:D)(uc:Value)(b:Bool):Prop:=match d with
 | .ins c _=>∀ A,CT c=some A->ClsD K A/\PySem.W.kitOne K (.ref A) uc=some b
 | .err c=>∀ A,CT c=some A->ExCls K A/\PySem.W.kitOne K (.ref A) uc=some b
 | d=>PySem.W.kitOne K (.type (QcB d)) uc=some b
section
variable{C:Dc}{e cx:Expr}{E:SD->Out D}{p pos:Pos}{vc:V}{uc:Value}
theorem QOE{pins:‹"r"›}{σ:L2.St}{H:Hp}{s:Shared}{A:Around}{Ex:‹"k"›}{Q:‹"k"›}{d:D}{v:V}{u:Value}{b:Bool}(I:Inv C.X pins σ H s)(h:Rep C.X.K C.CT H d v)(r:RelV v u)(k:KitD C.X.K C.CT d uc b)
 (q:∀ tk,Q (.bool b) { s with toks:=tk }):wpAny (model C.X.prog C.X.w) A (call (.builtin "isinstance") [u,uc]) Q Ex s:=by
 cases d with
 | non=>cases h;cases r;exact PySem.W.kia_one PySem.W.kitx_none I.kIn True.intro k (fun z=>nomatch z) q
 | bl y=>cases h;cases r;exact PySem.W.kia_one PySem.W.kitx_bool I.kIn True.intro k (fun z=>nomatch z) q
 | int i=>cases h;obtain⟨t,rfl⟩:=r;exact PySem.W.kia_one PySem.W.kitx_int I.kIn True.intro k (fun z=>nomatch z) q
 | str i=>cases h;obtain⟨t,rfl⟩:=r;exact PySem.W.kia_one PySem.W.kitx_str I.kIn True.intro k (fun z=>nomatch z) q
 | lst ds=>
  obtain⟨a,vs,rfl,h2,_⟩:=h;cases r
  obtain⟨its,_,⟨o,n,ho,hc,_⟩,_⟩:=I.list h2
  exact PySem.W.kia_one PySem.W.kitx_list I.kIn ⟨o,ho,hc⟩ k (fun z=>nomatch z) q
 | tup ds=>
  obtain⟨a,vs,rfl,h2,_⟩:=h;cases r
  obtain⟨its,_,⟨o,ho,hc,_⟩,_⟩:=I.tuple h2
  exact PySem.W.kia_one PySem.W.kitx_tuple I.kIn ⟨o,ho,hc⟩ k (fun z=>nomatch z) q
 | dic ds=>
  obtain⟨a,kvs,rfl,h2,_⟩:=h;cases r
  obtain⟨_,_,vs,_,p⟩:=h2.ok I.hok
  obtain⟨o,es,ep,h1,h2,_⟩:=p
  exact PySem.W.kia_one PySem.W.kitx_dict I.kIn ⟨o,h1,h2.1⟩ k (fun z=>nomatch z) q
 | ins c fs=>
  obtain⟨a,A',dx,fs',rfl,h1,h2,_⟩:=h;cases r
  obtain⟨cd,kk⟩:=k A' h1
  obtain⟨mA,O,_⟩:=Qpt I.hok h2
  obtain⟨od,J,_⟩:=O.look
  exact PySem.W.kia_one (PySem.W.kitx_own (cd.cl.get _) cd.cl.hd cd.ha cd.hn cd.htk cd.hm) I.kIn J kk (fun z=>nomatch z) q
 | err c=>
  obtain⟨a,A',rfl,h1,h2⟩:=h;cases r
  obtain⟨cd,kk⟩:=k A' h1
  obtain⟨J,_⟩:=(show ObjOk C.X.prog C.X.w H s.heap a (exO a A') from I.hok a _ h2)
  exact PySem.W.kia_one (QMA cd) I.kIn J kk (fun z=>nomatch z) q
def clsV:V->Option Value
 | .ty n=>some (.type n)
 | .ref a=>some (.ref a)
 | _=>none
def eIsa(f:D->Out Bool)(a:SD->Out D):SD->Out D:=fun ς=>a ς>>=fun d=>f d>>=fun b=>.ok (.bl b)
theorem QPm{f:D->Out Bool}(hc:PE C.X cx (tC vc))(rc:clsV vc=some uc)(hf:∀ d,match f d with | .ok b=>KitD C.X.K C.CT d uc b | .exc _=>False | .stuck=>True)(hg:Gl C.X "isinstance")(hm:C.X.mg "isinstance"=none)(h:DB C e E)
 (he:starEach (e::[cx]) C.X.env=(false,eval e C.X.env)::starEach [cx] C.X.env:=by rfl) (he2:starEach (cx::[]) C.X.env=(false,eval cx C.X.env)::starEach [] C.X.env:=by rfl)
 (hpl:(backTo pos (starEach [cx] C.X.env)).any (·.1)=false:=by rfl):DE C (.Call (.Name "isinstance" p) [e,cx] [] pos) (eIsa f E):=by
 obtain⟨t,p1,q1⟩:=h
 have hR:CallR C.X (.builtin "isinstance") (fun xs H Q=>∃ d x b,xs=[x,vc]/\Rep C.X.K C.CT H d x/\KitD C.X.K C.CT d uc b/\Q (.bl b) H):=by
  intro pins s σ H xs us Q I r h
  obtain⟨d,x,b,rfl,h1,h2,q⟩:=h
  obtain⟨u,w,rfl,r1,r2⟩:=vals2 r
  have:w=uc:=by
   cases vc<;>first
    | (cases rc;cases r2;rfl)
    | cases rc
  subst this
  exact QOE I h1 r1 h2 fun tk=>⟨.bl b,H,I.tok _,rfl,q⟩
 refine⟨_,Qu0 hR hg hm PyProof.Rows.Boot.«isinstance» (QbX p1 (QbX hc QeS he2) he) (by decide) (by decide) he hpl,fun G H σ ς Q S q=>?_⟩
 unfold eIsa at q
 rw[Out.post_bind]at q
 refine q1 G H σ ς _ S (Out.post_mono q fun d k v1 H1 G1 S1 a1 b1 r1=>?_)
 rw[Out.post_bind]at k
 have hd:=hf d
 cases e:f d with
 | exc _=>rw[e]at hd;exact hd.elim
 | stuck=>rw[e]at k;exact k.elim
 | ok b=>
  rw[e]at k hd
  exact⟨d,v1,b,rfl,r1,hd,KD.now (KD.later (show KD C G H σ ς Q (.bl b) from k) a1 b1) S1 rfl⟩
end
end DL
namespace DL
open PySem PySem.Spec PyProof.Rows L2
section
variable{C:Dc}{G H:Hp}{σ:St}{ς:SD}
theorem QH{α:Type}{xs:List α}{i j:Nat}{x y:α}(h:(xs.set i x)[j]?=some y):(i=j/\y=x/\i<xs.length)∨(i≠j/\xs[j]?=some y):=by
 rw[List.getElem?_set]at h
 by_cases e:i=j
 ·rw[if_pos e]at h
  by_cases l:i<xs.length
  ·rw[if_pos l]at h;exact .inl ⟨e,(Option.some.inj h).symm,l⟩
  ·rw[if_neg l]at h;cases h
 ·rw[if_neg e]at h;exact .inr ⟨e,h⟩
theorem Qhk{α:Type}{xs:List α}{i:Nat}{x:α}(h:i<xs.length):(xs.set i x)[i]?=some x:=by
 rw[List.getElem?_set,if_pos rfl,if_pos h]
theorem Qs{α:Type}{xs:List α}{i j:Nat}{x:α}(h:i≠j):(xs.set i x)[j]?=xs[j]?:=by
 rw[List.getElem?_set,if_neg h]
theorem StR.set(S:‹"ax"›){d:D}{v:V}(i:Nat)(r:Rep C.X.K C.CT G d v):StR C G H (σ.set i (some v)) (ς.set i (some (.k,d))) where
 toGH:=S.toGH
 len:=by rw[List.length_set,List.length_set];exact S.len
 fz:=fun j e h=>by
  rcases QH h with⟨rfl,h2,l⟩ | ⟨ne,h2⟩
  ·cases h2
   exact⟨v,Qhk (by rw[S.len];exact l),r⟩
  ·rw[Qs ne];exact S.fz j e h2
 ow:=fun j e h=>by
  rcases QH h with⟨rfl,h2,l⟩ | ⟨ne,h2⟩
  ·cases h2
  ·rw[Qs ne];exact S.ow j e h2
 ln:=fun j e h=>by
  rcases QH h with⟨rfl,h2,l⟩ | ⟨ne,h2⟩
  ·cases h2
  ·rw[Qs ne];exact S.ln j e h2
 inj:=fun j k d1 d2 p hjk h1 h2 h3=>by
  rcases QH h1 with⟨rfl,q1,l⟩ | ⟨n1,q1⟩
  ·cases q1
  ·rcases QH h2 with⟨rfl,q2,l⟩ | ⟨n2,q2⟩
   ·cases q2
   ·rw[Qs n1]at h3
    rw[Qs n2];exact S.inj j k d1 d2 p hjk q1 q2 h3
 sf:=fun j e h=>by
  rcases QH h with⟨rfl,h2,l⟩ | ⟨ne,h2⟩
  ·cases h2
  ·rw[Qs ne];exact S.sf j e h2
 su:=fun j k d1 d2 p hjk h1 h2 h3=>by
  rcases QH h1 with⟨rfl,q1,l⟩ | ⟨n1,q1⟩
  ·cases q1
  ·rcases QH h2 with⟨rfl,q2,l⟩ | ⟨n2,q2⟩
   ·cases q2
   ·rw[Qs n1]at h3
    rw[Qs n2];exact S.su j k d1 d2 p hjk q1 q2 h3
theorem StR.setO(S:‹"ax"›){d:D}{p:Addr}(i:Nat)(hg:G p=none)(h0:C.X.H₀ p=none)(ow:Own C.X.K C.CT G H p d)(hn:∀(j:Nat) e,j≠i->ς[j]?=some (some (.o,e))->σ[j]?≠some (some (.ref p))):
 StR C G H (σ.set i (some (.ref p))) (ς.set i (some (.o,d))) where
 toGH:=S.toGH
 len:=by rw[List.length_set,List.length_set];exact S.len
 fz:=fun j e h=>by
  rcases QH h with⟨rfl,h2,l⟩ | ⟨ne,h2⟩
  ·cases h2
  ·rw[Qs ne];exact S.fz j e h2
 ow:=fun j e h=>by
  rcases QH h with⟨rfl,h2,l⟩ | ⟨ne,h2⟩
  ·cases h2
   exact⟨p,Qhk (by rw[S.len];exact l),hg,h0,ow⟩
  ·rw[Qs ne];exact S.ow j e h2
 ln:=fun j e h=>by
  rcases QH h with⟨rfl,h2,l⟩ | ⟨ne,h2⟩
  ·cases h2
  ·rw[Qs ne];exact S.ln j e h2
 inj:=fun j k d1 d2 q hjk h1 h2 h3=>by
  rcases QH h1 with⟨rfl,q1,l1⟩ | ⟨n1,q1⟩
  ·rcases QH h2 with⟨rfl,q2,l⟩ | ⟨n2,q2⟩
   ·exact absurd rfl hjk
   ·rw[Qhk (by rw[S.len];exact l1)]at h3
    cases h3
    rw[Qs n2];exact hn k d2 (Ne.symm n2) q2
  ·rcases QH h2 with⟨rfl,q2,l⟩ | ⟨n2,q2⟩
   ·rw[Qs n1]at h3
    rw[Qhk (by rw[S.len];exact l)]
    intro z;cases z
    exact hn j d1 (Ne.symm n1) q1 h3
   ·rw[Qs n1]at h3
    rw[Qs n2];exact S.inj j k d1 d2 q hjk q1 q2 h3
 sf:=fun j e h=>by
  rcases QH h with⟨rfl,h2,l⟩ | ⟨ne,h2⟩
  ·cases h2
  ·rw[Qs ne];exact S.sf j e h2
 su:=fun j k d1 d2 p hjk h1 h2 h3=>by
  rcases QH h1 with⟨rfl,q1,l⟩ | ⟨n1,q1⟩
  ·cases q1
  ·rcases QH h2 with⟨rfl,q2,l⟩ | ⟨n2,q2⟩
   ·cases q2
   ·rw[Qs n1]at h3
    rw[Qs n2];exact S.su j k d1 d2 p hjk q1 q2 h3
end
def sNil:SD->Out Fl:=fun ς=>.ok (.nx ς)
def thenF(U:SD->Out Fl):Fl->Out Fl
 | .nx ς=>U ς
 | .rt b d=>.ok (.rt b d)
 | .bk ς=>.ok (.bk ς)
 | .ct ς=>.ok (.ct ς)
def sSeq(T U:SD->Out Fl):SD->Out Fl:=fun ς=>T ς>>=thenF U
section
variable{C:Dc}{e:Expr}{E:SD->Out D}{st:Stmt}{rest:List Stmt}{T U:SD->Out Fl}{pos:Pos}
theorem FlK.later{G G1:Hp}{W:Ends}{f:Fl}(h:FlK C G W f)(s:Same G G1):FlK C G1 W f:=by
 cases f with
 | nx ς=>exact fun σ' H' G' S q=>h σ' H' G' S (s.trans q)
 | bk ς=>exact fun σ' H' G' S q=>h σ' H' G' S (s.trans q)
 | ct ς=>exact fun σ' H' G' S q=>h σ' H' G' S (s.trans q)
 | rt b d=>exact fun σ' H' G' S q=>h σ' H' G' S (s.trans q)
theorem Q1:DSs C [] sNil:=⟨_,QOd,fun G H σ ς W S q=>q σ H G S (Same.refl G)⟩
theorem Qf(h1:DS C st T)(h2:DSs C rest U):DSs C (st::rest) (sSeq T U):=by
 obtain⟨t1,p1,q1⟩:=h1
 obtain⟨t2,p2,q2⟩:=h2
 refine⟨_,QMn p1 p2,fun G H σ ς W S q=>?_⟩
 unfold sSeq at q
 rw[Out.post_bind]at q
 refine q1 G H σ ς _ S (Out.post_mono q fun f k=>?_)
 cases f with
 | nx ς'=>exact fun σ' H' G' S' s'=>q2 G' H' σ' ς' W S' (Out.post_mono (show(U ς').post _ _ from k) fun f k=>FlK.later k s')
 | bk ς'=>exact k
 | ct ς'=>exact k
 | rt b d=>exact k
theorem Qi(h1:DS C st T):DSs C [st] T:=let ⟨t,p,q⟩:=h1;⟨t,QOq p,q⟩
def sSet(i:Nat)(E:SD->Out D):SD->Out Fl:=fun ς=>E ς>>=fun d=>.ok (.nx (ς.set i (some (.k,d))))
def sSetO(i:Nat)(E:SD->Out D):SD->Out Fl:=fun ς=>E ς>>=fun d=>.ok (.nx (ς.set i (some (.o,d))))
theorem QG{i:Nat}{x:Str}{pos':Pos}(hN:C.X.N.Nodup)(hi:C.X.N[i]?=some x)(hx:Loc C.X.env.scope x)(he:DE C e E)(hs:swapsWith e (some (.Name x pos')) pos.line C.X.env=pure false:=by rfl)
 (hf:C.X.fn x=true∨C.X.env.scope.names.lookup x=some .local:=by first | exact .inl rfl | exact .inr rfl | assumption):DS C (.Assign [.Name x pos'] e pos) (sSet i E):=by
 obtain⟨t,p,q⟩:=he
 refine⟨_,QMb hN hi hx p hs hf,fun G H σ ς W S k=>?_⟩
 unfold sSet at k
 rw[Out.post_bind]at k
 exact q G H σ ς _ S (Out.post_mono k fun d k v H1 G1 S1 a1 b1 r1=>k _ H1 G1 (S1.set i r1) b1)
theorem QbY{i:Nat}{x:Str}{pos':Pos}(hN:C.X.N.Nodup)(hi:C.X.N[i]?=some x)(hx:Loc C.X.env.scope x)(he:DF C e E)(hs:swapsWith e (some (.Name x pos')) pos.line C.X.env=pure false:=by rfl)
 (hf:C.X.fn x=true∨C.X.env.scope.names.lookup x=some .local:=by first | exact .inl rfl | exact .inr rfl | assumption):DS C (.Assign [.Name x pos'] e pos) (sSetO i E):=by
 obtain⟨t,p,q⟩:=he
 refine⟨_,QMb hN hi hx p hs hf,fun G H σ ς W S k=>?_⟩
 unfold sSetO at k
 rw[Out.post_bind]at k
 exact q G H σ ς _ S (Out.post_mono k fun d k p H1 G1 S1 a1 b1 hp hg ow=>k _ H1 G1 (S1.setO i hg (S.h0none hp) ow fun j e _ z=>S.new_ne hp j e z) b1)
def sPar(i j:Nat)(A:‹"aq"›):SD->Out Fl:=fun ς=>A ς>>=fun ds=>match ds with
 | [x,y]=>.ok (.nx ((ς.set i (some (.k,x))).set j (some (.k,y))))
 | _=>.stuck
def Qaz:List Nat->List D->SD->Out SD
 | [],[],ς=>.ok ς
 | i::is,d::ds,ς=>Qaz is ds (ς.set i (some (.k,d)))
 | _,_,_=>.stuck
def DGs(C:Dc)(es:List Expr)(is:List Nat):Prop:=∃ t,PGs C.X es t/\∀ G H σ ς ds vs ς' (Q:St->Hp->Prop),StR C G H σ ς->RepL C.X.K C.CT G ds vs->Qaz is ds ς=.ok ς'->
 (∀ σ',StR C G H σ' ς'->Q σ' H)->t vs σ H Q
theorem Qe1:DGs C [] []:=by
 refine⟨_,QOI,fun G H σ ς ds vs ς' Q S r h q=>?_⟩
 cases ds with
 | nil=>
  cases h
  exact⟨r,q σ S⟩
 | cons d ds=>cases h
theorem Qai{i:Nat}{is:List Nat}{x:Str}{es:List Expr}(hN:C.X.N.Nodup)(hi:C.X.N[i]?=some x)(hx:Loc C.X.env.scope x)(h2:DGs C es is)
 (hf:C.X.fn x=true∨C.X.env.scope.names.lookup x=some .local:=by first | exact .inl rfl | exact .inr rfl | assumption)
 (hs:(assignEach (.Name x pos::es) C.X.env).map (·.2)=assign (.Name x pos) C.X.env::(assignEach es C.X.env).map (·.2):=by rfl):DGs C (.Name x pos::es) (i::is):=by
 obtain⟨t,p,q⟩:=h2
 refine⟨_,QMZ (QHw hN hi hx hf) p hs,fun G H σ ς ds vs ς' Q S r h k=>?_⟩
 cases ds with
 | nil=>cases h
 | cons d ds=>
  obtain⟨v,w,rfl,r1,r2⟩:=r
  exact⟨v,w,rfl,q G H _ _ ds w ς' Q (S.set i r1) r2 h k⟩
def sUnp(is:List Nat)(E:SD->Out D):SD->Out Fl:=fun ς=>E ς>>=fun d=>match d with
 | .tup ds=>Qaz is ds ς>>=fun ς'=>.ok (.nx ς')
 | _=>.stuck
theorem Qqp:∀{is:List Nat}{ds:List D}{ς ς':SD},Qaz is ds ς=.ok ς'->ds.length=is.length
 | [],[],_,_,_=>rfl
 | i::is,d::ds,ς,ς',h=>by
  have:=Qqp (is:=is) (ds:=ds) h
  simp[this]
 | [],_::_,_,_,h=>by cases h
 | _::_,[],_,_,h=>by cases h
theorem QEO{es:List Expr}{is:List Nat}{k:Nat}{pt:Pos}(hc:C.X.calm=true)(he:DE C e E)(hg:DGs C es is)(hn:(assignEach es C.X.env).length=is.length:=by rfl)(hst:(assignEach es C.X.env).findIdx? (·.1)=none:=by rfl)
 (hs:swapsWithSole [.Tuple es k pt] e pos.line C.X.env=pure false:=by rfl) (hw:swappedStores [.Tuple es k pt] e C.X.env=pure none:=by rfl)
 (h1:(assignEach [.Tuple es k pt] C.X.env).map (·.2)=[assign (.Tuple es k pt) C.X.env]:=by rfl):DS C (.Assign [.Tuple es k pt] e pos) (sUnp is E):=by
 obtain⟨t,p,q⟩:=he
 obtain⟨t2,p2,q2⟩:=hg
 refine⟨_,QDW p (QKu hc p2 hn hst) hs hw h1,fun G H σ ς W S k=>?_⟩
 unfold sUnp at k
 rw[Out.post_bind]at k
 refine q G H σ ς _ S (Out.post_mono k fun d k v H1 G1 S1 a1 b1 r1=>?_)
 cases d with
 | tup ds=>
  obtain⟨a,vs,rfl,h2,h3⟩:=r1
  have k':(Qaz is ds ς>>=fun ς'=>Out.ok (Fl.nx ς')).post (FlK C G W) C.XD:=k
  rw[Out.post_bind]at k'
  cases z:Qaz is ds ς with
  | exc _=>exact absurd z (by
   have:∀(is:List Nat) (ds:List D) (ς:SD) x,Qaz is ds ς≠.exc x:=by
    intro is
    induction is with
    | nil=>intro ds ς x h;cases ds<;>cases h
    | cons i is ih=>intro ds ς x h;cases ds with
     | nil=>cases h
     | cons d ds=>exact ih ds _ x h
   exact this is ds ς _)
  | stuck=>rw[z]at k';exact k'.elim
  | ok ς'=>
   rw[z]at k'
   refine⟨a,vs,rfl,Same.sqT S1.sub h2,by rw[← h3.length];exact Qqp z,?_⟩
   exact q2 G1 H1 σ ς ds vs ς' _ S1 h3 z fun σ' S'=>k' σ' H1 G1 S' b1
 | _=>exact k.elim
def sRet(E:SD->Out D):SD->Out Fl:=fun ς=>E ς>>=fun d=>.ok (.rt false d)
def sRetF(E:SD->Out D):SD->Out Fl:=fun ς=>E ς>>=fun d=>.ok (.rt true d)
theorem QI(he:DE C e E):DS C (.Return (some e) pos) (sRet E):=by
 obtain⟨t,p,q⟩:=he
 refine⟨_,QB4 p,fun G H σ ς W S k=>?_⟩
 unfold sRet at k
 rw[Out.post_bind]at k
 exact q G H σ ς _ S (Out.post_mono k fun d k v H1 G1 S1 a1 b1 r1=>k v H1 G1 S1.toGH b1 r1)
theorem Qcu(he:DF C e E):DS C (.Return (some e) pos) (sRetF E):=by
 obtain⟨t,p,q⟩:=he
 refine⟨_,QB4 p,fun G H σ ς W S k=>?_⟩
 unfold sRetF at k
 rw[Out.post_bind]at k
 exact q G H σ ς _ S (Out.post_mono k fun d k p H1 G1 S1 a1 b1 hp hg ow=>k _ H1 G1 S1.toGH b1 ⟨p,rfl,S.h0none hp,hg,ow⟩)
def sRetO(i:Nat):SD->Out Fl:=fun ς=>match ς[i]? with | some (some (.o,d))=>.ok (.rt true d) | _=>.stuck
theorem Qo2(i:Nat){x:Str}{px:Pos}(hN:C.X.N[i]?=some x:=by rfl)(hv:Vis C.X.env.scope x:=by first | exact Or.inl rfl | exact Or.inr (Or.inl rfl) | exact Or.inr (Or.inr rfl))
 (hd:‹"f"›:=by decide) (hcd:‹"C"›:=by decide):DS C (.Return (some (.Name x px)) pos) (sRetO i):=by
 refine⟨_,QB4 ‹"aQ"›,fun G H σ ς W S k=>?_⟩
 unfold sRetO at k
 split at k
 ·rename_i d z
  obtain⟨p,a,b,c,w⟩:=S.ow i d z
  exact⟨_,a,k _ H G S.toGH (Same.refl G) ⟨p,rfl,c,b,w⟩⟩
 ·exact k.elim
def sIf(c:SD->Out Bool)(T U:SD->Out Fl):SD->Out Fl:=fun ς=>c ς>>=fun b=>if b=true then T ς else U ς
theorem ds_if{c:Expr}{a b:List Stmt}{TC:SD->Out Bool}(hc:DT C c TC)(ha:DSs C a T)(hb:DSs C b U):DS C (.If c a b pos) (sIf TC T U):=by
 obtain⟨t0,p0,q0⟩:=hc
 obtain⟨t1,p1,q1⟩:=ha
 obtain⟨t2,p2,q2⟩:=hb
 refine⟨_,ps_if p0 p1 p2,fun G H σ ς W S k=>?_⟩
 unfold sIf at k
 rw[Out.post_bind]at k
 refine q0 G H σ ς _ S (Out.post_mono k fun b k H1 G1 S1 a1 b1=>?_)
 cases b with
 | true=>exact iteT (q1 G1 H1 σ ς W S1 (Out.post_mono (show(T ς).post _ _ from k) fun f k=>FlK.later k b1))
 | false=>exact iteF (q2 G1 H1 σ ς W S1 (Out.post_mono (show(U ς).post _ _ from k) fun f k=>FlK.later k b1))
def QhD:SD->Out Fl:=fun _=>.stuck
theorem QfH:DS C st QhD:=⟨_,QM1,fun G H σ ς W S k=>k.elim⟩
end
def loopD(body:D->SD->Out Fl):List D->SD->Out Fl
 | [],ς=>.ok (.nx ς)
 | x::xs,ς=>body x ς>>=fun f=>match f with
  | .nx ς'=>loopD body xs ς'
  | .ct ς'=>loopD body xs ς'
  | .bk ς'=>.ok (.nx ς')
  | .rt b d=>.ok (.rt b d)
def DG(C:Dc)(tg:Expr)(g:D->SD->Out SD):Prop:=∃ t,PG C.X tg t/\∀ G H σ ς d v ς' (Q:St->Hp->Prop),StR C G H σ ς->Rep C.X.K C.CT G d v->g d ς=.ok ς'->(∀ σ',StR C G H σ' ς'->Q σ' H)->t v σ H Q
def gN(i:Nat):D->SD->Out SD:=fun d ς=>.ok (ς.set i (some (.k,d)))
def gT(is:List Nat):D->SD->Out SD:=fun d ς=>match d with | .tup ds=>Qaz is ds ς | _=>.stuck
def noExc{α β γ : Type}(g:α->β->Out γ):Prop:=∀ a b x,g a b≠.exc x
theorem Qw(i:Nat):noExc (gN i):=fun _ _ _ h=>by cases h
theorem QCb(is:List Nat):∀(ds:List D) (ς:SD) x,Qaz is ds ς≠.exc x:=by
 induction is with
 | nil=>intro ds ς x h;cases ds<;>cases h
 | cons i is ih=>intro ds ς x h;cases ds with
  | nil=>cases h
  | cons d ds=>exact ih ds _ x h
theorem Qhe(is:List Nat):noExc (gT is):=fun d ς x h=>by
 cases d with
 | tup ds=>exact QCb is ds ς x h
 | _=>cases h
section
variable{C:Dc}{e tg iter:Expr}{E:SD->Out D}{body:List Stmt}{T U:SD->Out Fl}{pos:Pos}{g:D->SD->Out SD}
theorem QA{i:Nat}{x:Str}(hN:C.X.N.Nodup)(hi:C.X.N[i]?=some x)(hx:Loc C.X.env.scope x)
 (hf:C.X.fn x=true∨C.X.env.scope.names.lookup x=some .local:=by first | exact .inl rfl | exact .inr rfl | assumption):DG C (.Name x pos) (gN i):=
 ⟨_,QHw hN hi hx hf,fun G H σ ς d v ς' Q S r h k=>by cases h;exact k _ (S.set i r)⟩
theorem Qmj{es:List Expr}{is:List Nat}{k:Nat}(hc:C.X.calm=true)(hg:DGs C es is)(hn:(assignEach es C.X.env).length=is.length:=by rfl)(hst:(assignEach es C.X.env).findIdx? (·.1)=none:=by rfl):
 DG C (.Tuple es k pos) (gT is):=by
 obtain⟨t2,p2,q2⟩:=hg
 refine⟨_,QKu hc p2 hn hst,fun G H σ ς d v ς' Q S r h k=>?_⟩
 cases d with
 | tup ds=>
  obtain⟨a,vs,rfl,h2,h3⟩:=r
  exact⟨a,vs,rfl,Same.sqT S.sub h2,by rw[← h3.length];exact Qqp h,q2 G H σ ς ds vs ς' Q S h3 h k⟩
 | _=>cases h
def sFor(g:D->SD->Out SD)(its:‹"aq"›)(T:SD->Out Fl):SD->Out Fl:=fun ς=>its ς>>=fun xs=>loopD ‹"af"› xs ς
def itL(E:SD->Out D):SD->Out (List D):=fun ς=>E ς>>=fun d=>match d with | .lst xs=>.ok xs | _=>.stuck
theorem turnD{W:Ends}{x:D}{v:V}{xs:List D}{G H:Hp}{σ:St}{ς:SD}{tb:TS}{tt:TG}{N:L2.St->Hp->Prop}(hne:noExc g)
 (hg:∀ G H σ ς d v ς' (Q:St->Hp->Prop),StR C G H σ ς->Rep C.X.K C.CT G d v->g d ς=.ok ς'->(∀ σ',StR C G H σ' ς'->Q σ' H)->tt v σ H Q)
 (hb:∀ G H σ ς W,StR C G H σ ς->(T ς).post (FlK C G W) C.XD->tb W σ H)
 (S:‹"ax"›) (r:Rep C.X.K C.CT G x v) (q:(loopD ‹"af"› (x::xs) ς).post (FlK C G W) C.XD)
 (hN:∀ σ' H' G' ς',StR C G' H' σ' ς'->Same G G'->(loopD ‹"af"› xs ς').post (FlK C G' W) C.XD->N σ' H'):
 tt v σ H fun σ2 H2=>tb { W with nx:=N,ct:=N,bk:=W.nx } σ2 H2:=by
 have q':((g x ς>>=fun ς'=>T ς')>>=fun f=>match f with
  | .nx ς'=>loopD ‹"af"› xs ς'
  | .ct ς'=>loopD ‹"af"› xs ς'
  | .bk ς'=>.ok (.nx ς')
  | .rt b d=>.ok (.rt b d)).post (FlK C G W) C.XD:=q
 rw[Out.post_bind,Out.post_bind]at q'
 cases z:g x ς with
 | exc y=>exact absurd z (hne _ _ _)
 | stuck=>rw[z]at q';exact q'.elim
 | ok ς1=>
  rw[z]at q'
  refine hg G H σ ς x v ς1 _ S r z fun σ1 S1=>hb G H σ1 ς1 _ S1 (Out.post_mono q' fun f k=>?_)
  cases f with
  | nx ς'=>exact fun σ' H' G' S' s'=>hN σ' H' G' ς' S' s' (Out.post_mono (show(loopD _ xs ς').post _ _ from k) fun f k=>FlK.later k s')
  | ct ς'=>exact fun σ' H' G' S' s'=>hN σ' H' G' ς' S' s' (Out.post_mono (show(loopD _ xs ς').post _ _ from k) fun f k=>FlK.later k s')
  | bk ς'=>exact fun σ' H' G' S' s'=>(show FlK C G W (.nx ς') from k) σ' H' G' S' s'
  | rt b d=>exact k
theorem QAa{α:Type}{xs:List α}{i:Nat}{x:α}(h:xs[i]?=some x):xs.drop i=x::xs.drop (i+1):=by
 obtain⟨l,e⟩:=List.getElem?_eq_some_iff.mp h
 rw[List.drop_eq_getElem_cons l,e]
def Qcm(lo:Int)(n:Nat):List D:=(List.range n).map fun(i:Nat)=>D.int (lo+i)
theorem QJP{lo:Int}{n i:Nat}(h:i<n):(Qcm lo n)[i]?=some (D.int (lo+i)):=by
 unfold Qcm
 rw[List.getElem?_map,List.getElem?_range h];rfl
theorem Qwh{lo:Int}{n:Nat}:(Qcm lo n).length=n:=by simp[Qcm]
def Qpq(i:Int):Bool:=decide (-(2 ^ 62)<=i)&&decide (i<2 ^ 62)
def itR1(A:SD->Out D):SD->Out (List D):=fun ς=>A ς>>=fun d=>match d with
 | .int n=>if Qpq n=true then .ok (Qcm 0 n.toNat) else .stuck
 | _=>.stuck
theorem QIZ{i:Int}(h:Qpq i=true) : -(2 ^ 62)<=i/\i<2 ^ 62:=by
 unfold Qpq at h
 rw[Bool.and_eq_true]at h
 exact⟨of_decide_eq_true h.1,of_decide_eq_true h.2⟩
def QF(c:SD->Out Bool)(b:SD->Out Fl):Nat->SD->Out Fl
 | 0,_=>.stuck
 | n+1,ς=>c ς>>=fun t=>if t=true then b ς>>=fun f=>match f with
  | .nx ς'=>QF c b n ς'
  | .ct ς'=>QF c b n ς'
  | .bk ς'=>.ok (.nx ς')
  | .rt b d=>.ok (.rt b d)
  else .ok (.nx ς)
def QEj(m:SD->Nat)(c:SD->Out Bool)(b:SD->Out Fl):SD->Out Fl:=fun ς=>QF c b (m ς) ς
theorem QNg(m:SD->Nat){c:Expr}{TC:SD->Out Bool}(hp:PassesOwn (model C.X.prog C.X.w) C.X.A C.X.env C.X.xe)(hc:DT C c TC)(hb:DSs C body T):DS C (.While c body [] pos) (QEj m TC T):=by
 obtain⟨t0,p0,q0⟩:=hc
 obtain⟨t1,p1,q1⟩:=hb
 refine⟨_,QMW hp p0 p1,fun G H σ ς W S k=>?_⟩
 refine⟨fun n σ' H'=>∃ G' ς',StR C G' H' σ' ς'/\(QF TC T n ς').post (FlK C G' W) C.XD,⟨m ς,G,ς,S,k⟩,?_⟩
 rintro n σ' H' ⟨G',ς',S',k'⟩
 cases n with
 | zero=>exact k'.elim
 | succ n=>
  rw[QF,Out.post_bind]at k'
  refine q0 G' H' σ' ς' _ S' (Out.post_mono k' fun b k H1 G1 S1 a1 b1=>?_)
  cases b with
  | false=>exact iteF ((show FlK C G' W (.nx ς') from k) σ' H1 G1 S1 b1)
  | true=>
   rw[if_pos rfl,Out.post_bind]at k
   refine iteT ⟨fun σ2 H2=>∃ G2 ς2,StR C G2 H2 σ2 ς2/\(QF TC T n ς2).post (FlK C G2 W) C.XD,fun σ2 H2 h=>⟨n,Nat.lt_succ_self n,h⟩,?_⟩
   refine q1 G1 H1 σ' ς' _ S1 (Out.post_mono k fun f k=>?_)
   cases f with
   | nx ς2=>exact fun σ2 H2 G2 S2 s2=>⟨G2,ς2,S2,Out.post_mono (show(QF TC T n ς2).post _ _ from k) fun f k=>FlK.later k (b1.trans s2)⟩
   | ct ς2=>exact fun σ2 H2 G2 S2 s2=>⟨G2,ς2,S2,Out.post_mono (show(QF TC T n ς2).post _ _ from k) fun f k=>FlK.later k (b1.trans s2)⟩
   | bk ς2=>exact fun σ2 H2 G2 S2 s2=>(show FlK C G' W (.nx ς2) from k) σ2 H2 G2 S2 (b1.trans s2)
   | rt b d=>exact FlK.later (show FlK C G' W (.rt b d) from k) b1
noncomputable def fuelC(c:SD->Out Bool)(b:SD->Out Fl)(ς:SD):Nat:=by
 classical exact if h:∃ n,QF c b n ς≠.stuck then Classical.choose h else 0
noncomputable def QbE(c:SD->Out Bool)(b:SD->Out Fl):SD->Out Fl:=QEj (fuelC c b) c b
theorem QzG{c:Expr}{TC:SD->Out Bool}(hp:PassesOwn (model C.X.prog C.X.w) C.X.A C.X.env C.X.xe)(hc:DT C c TC)(hb:DSs C body T):DS C (.While c body [] pos) (QbE TC T):=QNg (fuelC TC T) hp hc hb
theorem Qoa{c:SD->Out Bool}{b:SD->Out Fl}:∀(n:Nat)(ς:SD),QF c b n ς≠.stuck->QF c b (n+1) ς=QF c b n ς
 | 0,ς,h=>absurd rfl h
 | n+1,ς,h=>by
  rw[QF,QF]
  rw[QF]at h
  cases hc:c ς with
  | stuck=>rfl
  | exc _=>rfl
  | ok t=>
   rw[hc]at h
   cases t with
   | false=>rfl
   | true=>
    have h':(b ς>>=fun f=>match f with
     | .nx ς'=>QF c b n ς'
     | .ct ς'=>QF c b n ς'
     | .bk ς'=>.ok (.nx ς')
     | .rt b d=>.ok (.rt b d))≠.stuck:=h
    show(b ς>>=fun f=>match f with
     | .nx ς'=>QF c b (n+1) ς'
     | .ct ς'=>QF c b (n+1) ς'
     | .bk ς'=>.ok (.nx ς')
     | .rt b d=>.ok (.rt b d))=(b ς>>=fun f=>match f with
     | .nx ς'=>QF c b n ς'
     | .ct ς'=>QF c b n ς'
     | .bk ς'=>.ok (.nx ς')
     | .rt b d=>.ok (.rt b d))
    cases hb:b ς with
    | stuck=>rfl
    | exc _=>rfl
    | ok f=>
     rw[hb]at h'
     cases f with
     | nx ς'=>exact Qoa n ς' h'
     | ct ς'=>exact Qoa n ς' h'
     | bk _=>rfl
     | rt _ _=>rfl
theorem Qs1{c:SD->Out Bool}{b:SD->Out Fl}{ς:SD}{n:Nat}(h:QF c b n ς≠.stuck):∀ k,QF c b (n+k) ς=QF c b n ς
 | 0=>rfl
 | k+1=>by
  have ih:=Qs1 h k
  rw[← Nat.add_assoc,Qoa (n+k) ς (by rw[ih];exact h),ih]
theorem Qdj{c:SD->Out Bool}{b:SD->Out Fl}{ς:SD}(n:Nat)(h:QF c b n ς≠.stuck):QbE c b ς=QF c b n ς:=by
 have hx:∃ n,QF c b n ς≠.stuck:=⟨n,h⟩
 have e:fuelC c b ς=Classical.choose hx:=by unfold fuelC;rw[dif_pos hx]
 unfold QbE QEj
 rw[e]
 have h2:=Classical.choose_spec hx
 generalize Classical.choose hx=m at h2 ⊢
 rcases Nat.le_total n m with hl | hl
 ·obtain⟨k,rfl⟩:=Nat.exists_eq_add_of_le hl
  exact Qs1 h k
 ·obtain⟨k,rfl⟩:=Nat.exists_eq_add_of_le hl
  exact(Qs1 h2 k).symm
theorem QgY{c:SD->Out Bool}{b:SD->Out Fl}{ς:SD}(h:∀ n,QF c b n ς=.stuck):QbE c b ς=.stuck:=h _
theorem Qps(c:SD->Out Bool)(b:SD->Out Fl)(ς:SD):QbE c b ς=(c ς>>=fun t=>if t=true then b ς>>=fun f=>match f with
 | .nx ς'=>QbE c b ς'
 | .ct ς'=>QbE c b ς'
 | .bk ς'=>.ok (.nx ς')
 | .rt b d=>.ok (.rt b d)
 else .ok (.nx ς)):=by
 have key:∀ n,QF c b (n+1) ς≠.stuck->QbE c b ς=QF c b (n+1) ς:=fun n h=>Qdj _ h
 cases hc:c ς with
 | stuck=>exact QgY fun n=>by cases n with | zero=>rfl | succ n=>rw[QF,hc];rfl
 | exc x=>exact(Qdj 1 (by rw[QF,hc];exact fun z=>nomatch z)).trans (by rw[QF,hc];rfl)
 | ok t=>
  cases t with
  | false=>exact(Qdj 1 (by rw[QF,hc];exact fun z=>nomatch z)).trans (by rw[QF,hc];rfl)
  | true=>
   cases hb:b ς with
   | stuck=>exact(QgY fun n=>by cases n with | zero=>rfl | succ n=>rw[QF,hc];show(b ς>>=_)=_;rw[hb];rfl).trans (by show _=Out.stuck;rfl)
   | exc x=>exact(Qdj 1 (by rw[QF,hc];show(b ς>>=_)≠_;rw[hb];exact fun z=>nomatch z)).trans (by rw[QF,hc];show(b ς>>=_)=_;rw[hb];rfl)
   | ok f=>
    have go:∀ ς',(f=.nx ς'∨f=.ct ς')->(∀ n,QF c b (n+1) ς=QF c b n ς')->QbE c b ς=QbE c b ς':=fun ς' _ e=>by
     by_cases hx:∃ n,QF c b n ς'≠.stuck
     ·obtain⟨n,hn⟩:=hx
      rw[Qdj n hn,Qdj (n+1) (by rw[e];exact hn),e]
     ·have hs:∀ n,QF c b n ς'=.stuck:=fun n=>Classical.byContradiction fun z=>hx ⟨n,z⟩
      rw[QgY hs]
      exact QgY fun n=>by cases n with | zero=>rfl | succ n=>rw[e];exact hs n
    cases f with
    | nx ς'=>exact go ς' (.inl rfl) fun n=>by rw[QF,hc];show(b ς>>=_)=_;rw[hb];rfl
    | ct ς'=>exact go ς' (.inr rfl) fun n=>by rw[QF,hc];show(b ς>>=_)=_;rw[hb];rfl
    | bk ς'=>exact(Qdj 1 (by rw[QF,hc];show(b ς>>=_)≠_;rw[hb];exact fun z=>nomatch z)).trans (by rw[QF,hc];show(b ς>>=_)=_;rw[hb];rfl)
    | rt r d=>exact(Qdj 1 (by rw[QF,hc];show(b ς>>=_)≠_;rw[hb];exact fun z=>nomatch z)).trans (by rw[QF,hc];show(b ς>>=_)=_;rw[hb];rfl)
end
end DL
namespace DL
open PySem PySem.Spec PyProof.Rows L2
def RetG(K:PySem.W.Frag)(CT:CTab)(fr:Bool)(H0 G' H':Hp)(d:D)(v:V):Prop:=
 if (fr && !d.scal)=true then ∃ p,v=.ref p/\H0 p=none/\G' p=none/\Own K CT G' H' p d else Rep K CT G' d v
def retF(fr:Bool):Fl->Out D
 | .rt b d=>if (!fr||b||d.scal)=true then .ok d else .stuck
 | .nx _=>.ok .non
 | _=>.stuck
def bodyF(fr:Bool)(n len:Nat)(T:SD->Out Fl):List D->Out D:=fun ds=>
 if ds.length=n then T (ds.map (fun d=>some (.k,d))++List.replicate (len - n) none)>>=retF fr else .stuck
def SpD(K:PySem.W.Frag)(CT:CTab)(fr:Bool)(m:List D->Out D):Sp:=fun vs H Q _=>∃ ds G0,Same G0 H/\RepL K CT G0 ds vs/\
 (m ds).post ‹"aO"› (fun _=>False)
structure FunV(K:PySem.W.Frag)(x qual:Str)(st:Stmt)(f:Addr)(fd:FuncData)(dV:Value):Prop where
 ex:∃(oc:Value)(od:Option Addr)(kV doc pm:Value)(an:Option Addr)(cdv ct:Value)(osl:‹"d"›),
  fd=PySem.W.fnOf x qual (Qq st) (Qp st) (Qa st) dV kV doc pm an cdv ct/\K.lookup f=some ⟨oc,od,.func fd,osl⟩/\PySem.W.codeIn K cdv qual=true
 kp:PySem.W.keepIn K (.ref f)=true
theorem Qx{K:PySem.W.Frag}{x qual:Str}{st:Stmt}{f:Addr}{oc:Value}{od an:Option Addr}{osl:‹"d"›}{dV kV doc pm cdv ct:Value}(l:K.lookup f=some ⟨oc,od,.func (PySem.W.fnOf x qual (Qq st) (Qp st) (Qa st) dV kV doc pm an cdv ct),osl⟩)
 (c:PySem.W.codeIn K cdv qual=true) (k:PySem.W.keepIn K (.ref f)=true):FunV K x qual st f (PySem.W.fnOf x qual (Qq st) (Qp st) (Qa st) dV kV doc pm an cdv ct) dV:=⟨⟨oc,od,kV,doc,pm,an,cdv,ct,osl,rfl,l,c⟩,k⟩
theorem FunV.binds{K:PySem.W.Frag}{x qual:Str}{st:Stmt}{f:Addr}{fd:FuncData}{ps:List Str}(F:FunV K x qual st f fd .none)
 (h:∀(kV doc pm:Value)(an:Option Addr)(cdv ct:Value)(us:List Value),us.length=ps.length->bindArgs (PySem.W.fnOf x qual (Qq st) (Qp st) (Qa st) .none kV doc pm an cdv ct) ⟨us,[]⟩=pure (ps.zip us)):Binds K fd ps []:=by
 obtain⟨oc,od,kV,doc,pm,an,cdv,ct,osl,rfl,lk,hcd⟩:=F.ex
 exact .all (h kV doc pm an cdv ct)
abbrev dcOf(P:Program)(w:World)(K:PySem.W.Frag)(mg:‹"Y"›)(base:Heap)(CT:CTab)(N:List Str)(qual:Str)(sc:Scope)(f:Addr)(cdv:Value)(A:Around)(outer:List Env)(s:Shared)(H:Hp)(E:XK)(G:Hp):Dc:=
 { X:=(cxOf CX0 P w K mg base N qual sc f cdv A outer s H E).nox,CT:=CT,G0:=G,XD:=fun _=>False,B:=H,M:=fun _=>False }
theorem QfC{N:List Str}{vs:List V}{i:Nat}{v:V}(h:vs[i]?=some v):(L2.start N vs)[i]?=some (some v):=by
 unfold L2.start
 have hi:i<vs.length:=(List.getElem?_eq_some_iff.mp h).1
 rw[List.getElem?_append_left (by simpa using hi),List.getElem?_map,h];rfl
theorem Qfw{ds:List D}{k:Nat}{i:Nat}{x:SM×D}(h:(ds.map (fun d=>some (SM.k,d))++List.replicate k (none:Option (SM×D)))[i]?=some (some x)):∃ d,ds[i]?=some d/\x=(.k,d):=by
 by_cases hi:i<ds.length
 ·rw[List.getElem?_append_left (by simpa using hi),List.getElem?_map]at h
  cases e:ds[i]? with
  | none=>rw[e]at h;cases h
  | some d=>rw[e]at h;cases h;exact⟨d,rfl,rfl⟩
 ·rw[List.getElem?_append_right (by simpa using hi),List.getElem?_replicate]at h
  split at h<;>cases h
theorem GH.freezeR{C:Dc}{G' H':Hp}(S:GH C G' H'){p:Addr}{o:HO}(hp:H' p=some o)(hg:G' p=none)(h0:C.X.H₀ p=none):GH C (upd G' p o) H' where
 sub:=fun b u q=>by
  by_cases hb:b=p
  ·subst hb;rw[QO]at q;cases q;exact hp
  ·rw[Ql hb]at q;exact S.sub b u q
 g0:=S.g0.trans (QD hg)
 new:=fun b h1 h2=>by
  by_cases hb:b=p
  ·subst hb;exact h0
  ·rw[Ql hb]at h2;exact S.new b h1 h2
 fr:=S.fr
 dom:=S.dom
 bs:=S.bs
 bh:=S.bh
theorem fnV{P:Program}{w:World}{K:PySem.W.Frag}{mg:‹"Y"›}{base:Heap}{CT:CTab}{fr:Bool}{x qual:Str}{st:Stmt}{f:Addr}{fd:FuncData}{dV:Value}{N ps:List Str}{k:Nat}{T:SD->Out Fl}
 (F:FunV K x qual st f fd dV) (S:Qr N ps (Qa st))
 (hb:∀(cdv:Value)(A:Around)(outer:List Env)(s:Shared)(H:Hp)(E:XK)(G:Hp),Room k ‹"ay"›->DSs (dcOf P w K mg base CT N qual (Qa st) f cdv A outer s H E G) (Qp st) T):
 FnOk P w K mg base CX0 (k+1) f fd ps (SpD K CT fr (bodyF fr ps.length N.length T)):=by
 obtain⟨oc,od,kV,doc,pm,an,cdv,ct,osl,rfl,lk,hcd⟩:=F.ex
 have hpl:ps.length<=N.length:=by have:=congrArg List.length S.pre;rw[List.length_take]at this;omega
 have len:∀ vs H Q E,SpD K CT fr (bodyF fr ps.length N.length T) vs H Q E->vs.length=ps.length:=by
  intro vs H Q E ⟨ds,G0,sub,r,q⟩
  unfold bodyF at q
  by_cases hl:ds.length=ps.length
  ·rw[← r.length];exact hl
  ·rw[if_neg hl]at q;exact q.elim
 refine fn_of lk hcd S len fun A outer s H vs Q E hr hsp=>?_
 have hlen:=len vs H Q E hsp
 obtain⟨ds,G0,sub,r,q⟩:=hsp
 obtain⟨t,p1,q1⟩:=hb cdv A outer s H E G0 hr
 have hl:ds.length=ps.length:=by rw[r.length];exact hlen
 refine⟨t,p1.nox,?_⟩
 unfold bodyF at q
 rw[if_pos hl,Out.post_bind]at q
 have S0:StR (dcOf P w K mg base CT N qual (Qa st) f cdv A outer s H E G0) G0 H (L2.start N vs) (ds.map (fun d=>some (.k,d))++List.replicate (N.length - ps.length) none):={
  sub:=sub
  g0:=Same.refl _
  new:=fun b h1 h2=>absurd h1 h2
  fr:=fun b o e _=>e
  dom:=fun b e=>e
  bs:=Same.refl _
  bh:=fun b e=>e
  len:=by unfold L2.start;simp;omega
  fz:=fun i d e=>by
   obtain⟨d',e1,e2⟩:=Qfw e
   cases e2
   obtain⟨v,e3,rv⟩:=r.get e1
   exact⟨v,QfC e3,rv⟩
  ow:=fun i d e=>by
   obtain⟨d',e1,e2⟩:=Qfw e
   cases e2
  ln:=fun i d e=>by
   obtain⟨d',e1,e2⟩:=Qfw e
   cases e2
  inj:=fun i j d e p _ h=>by
   obtain⟨d',e1,e2⟩:=Qfw h
   cases e2
  sf:=fun i d e=>by
   obtain⟨d',e1,e2⟩:=Qfw e
   cases e2
  su:=fun i j d e p _ h=>by
   obtain⟨d',e1,e2⟩:=Qfw h
   cases e2 }
 refine q1 G0 H (L2.start N vs) _ _ S0 (Out.post_mono q fun fl kk=>?_)
 cases fl with
 | nx ς'=>exact fun σ' H' G' S' s'=>kk .non H' G' s' (fun b o e=>S'.fr b o e id) S'.sub S'.new (by unfold RetG;rw[if_neg (by cases fr<;>decide)];rfl)
 | bk ς'=>exact fun σ' H' G' S' s'=>kk.elim
 | ct ς'=>exact fun σ' H' G' S' s'=>kk.elim
 | rt b d=>
  intro v H' G' S' s' ret
  have kk':(if (!fr||b||d.scal)=true then Out.ok d else Out.stuck).post ‹"aO"› (fun _=>False):=kk
  rcases QQ kk' with⟨hc,k2⟩ | ⟨_,k2⟩
  ·have k3:∀ v H' G',Same G0 G'->Same H H'->Same G' H'->(∀ b,G0 b=none->G' b≠none->H b=none)->RetG K CT fr H G' H' d v->Q v H':=k2
   cases b with
   | false=>
    refine k3 v H' G' s' (fun b o e=>S'.fr b o e id) S'.sub S'.new ?_
    unfold RetG
    have hn:¬ (fr && !d.scal)=true:=by revert hc;cases fr<;>cases d.scal<;>simp
    rw[if_neg hn]
    exact ret
   | true=>
    obtain⟨p,rfl,h0,hg,ow⟩:=(show ∃ p,v=.ref p/\H p=none/\G' p=none/\Own K CT G' H' p d from ret)
    cases fr with
    | true=>
     refine k3 _ H' G' s' (fun b o e=>S'.fr b o e id) S'.sub S'.new ?_
     have hs:d.scal=false:=by cases d<;>first | rfl | exact ow.elim
     unfold RetG
     rw[if_pos (by rw[hs];rfl)]
     exact⟨p,rfl,h0,hg,ow⟩
    | false=>
     obtain⟨o,ho⟩:=ow.there
     have S2:=GH.freezeR S' ho hg h0
     refine k3 _ H' _ (s'.trans (QD hg)) (fun b o e=>S2.fr b o e id) S2.sub S2.new ?_
     unfold RetG
     rw[if_neg (by simp)]
     exact ow.known hg ho
  ·exact k2.elim
def DefOk(P:Program)(w:World)(K:PySem.W.Frag)(mg:‹"Y"›)(base:Heap)(CT:CTab)(x:Str)(k:Nat)(fr:Bool)(dd:List D)(m:List D->Out D):Prop:=
 ∃ f fd ps ds,FnOk P w K mg base CX0 k f fd ps (SpD K CT fr m)/\mg x=some (.ref f)/\PySem.W.keepIn K (.ref f)=true/\Binds K fd ps ds/\Vals (dd.map toV) ds
theorem QqI{K:PySem.W.Frag}{CT:CTab}{H:Hp}:∀{dd:List D},dd.all D.scal=true->RepL K CT H dd (dd.map toV)
 | [],_=>rfl
 | d::ds,h=>by
  rw[List.all_cons,Bool.and_eq_true]at h
  exact⟨_,_,rfl,QxH h.1,QqI h.2⟩
def Qpd(o:Out D):Out D:=o>>=fun d=>if d.scal=true then .stuck else .ok d
section
variable{C:Dc}{x:Str}{k:Nat}{fr:Bool}{dd:List D}{m:List D->Out D}{e:Expr}{es:List Expr}{A:SD->Out (List D)}{p pos:Pos}
theorem de_f(h:DefOk C.X.prog C.X.w C.X.K C.X.mg C.X.base C.CT x k fr dd m)(hr:Room k C.X.A)(ha:DA C (e::es) A)(hg:Gl C.X x)(hs:dd.all D.scal=true:=by rfl)(hx:∀ x,¬ C.XD x:=by exact fun _ h=>h)
 (hdb:‹"f"›:=by decide) (he:‹"c"›:=by rfl) (hpl:(backTo pos ‹"az"›).any (·.1)=false:=by rfl):
 DE C ‹"F"› (eA (fun xs=>m (xs++dd)) A):=by
 obtain⟨f,fd,ps,ds,F,hm,hk,hb,hd⟩:=h
 obtain⟨t,p1,q1⟩:=ha
 refine⟨_,QtR F hr hg hm hk hb hd pass0 p1 hdb he hpl,fun G H σ ς Q S q=>?_⟩
 unfold eA at q
 rw[Out.post_bind]at q
 refine q1 G H σ ς _ S (Out.post_mono q fun xs kk vs H1 G1 S1 a1 b1 r1=>⟨xs++dd,G1,S1.sub,r1.append (QqI hs),?_⟩)
 cases z:m (xs++dd) with
 | stuck=>rw[z]at kk;exact kk.elim
 | exc y=>rw[z]at kk;exact absurd kk (hx y)
 | ok d=>
  rw[z]at kk
  intro v H' G' g1 h1 s1 n1 ret
  unfold RetG at ret
  by_cases hc:(fr && !d.scal)=true
  ·rw[if_pos hc]at ret
   obtain⟨pp,rfl,h0,hg',ow⟩:=ret
   obtain⟨o,ho⟩:=ow.there
   have S2:=(S1.grow h1 g1 s1 n1).freeze ho hg' (S1.h0none h0) (fun i d' z1 z2=>by
    obtain⟨o',ho'⟩:=S1.own_ne z1 z2
    rw[h0]at ho';cases ho')
   exact(show KD C G H σ ς Q d from kk) _ _ _ S2 (a1.trans h1) ((b1.trans g1).trans (QD hg')) (ow.known hg' ho)
  ·rw[if_neg hc]at ret
   exact(show KD C G H σ ς Q d from kk) v H' G' (S1.grow h1 g1 s1 n1) (a1.trans h1) (b1.trans g1) ret
theorem df_f(h:DefOk C.X.prog C.X.w C.X.K C.X.mg C.X.base C.CT x k true dd m)(hr:Room k C.X.A)(ha:DA C (e::es) A)(hg:Gl C.X x)(hs:dd.all D.scal=true:=by rfl)(hx:∀ x,¬ C.XD x:=by exact fun _ h=>h)
 (hdb:‹"f"›:=by decide) (he:‹"c"›:=by rfl) (hpl:(backTo pos ‹"az"›).any (·.1)=false:=by rfl):
 DF C ‹"F"› (fun ς=>Qpd (eA (fun xs=>m (xs++dd)) A ς)):=by
 obtain⟨f,fd,ps,ds,F,hm,hk,hb,hd⟩:=h
 obtain⟨t,p1,q1⟩:=ha
 refine⟨_,QtR F hr hg hm hk hb hd pass0 p1 hdb he hpl,fun G H σ ς Q S q=>?_⟩
 unfold Qpd eA at q
 rw[Out.post_bind,Out.post_bind]at q
 refine q1 G H σ ς _ S (Out.post_mono q fun xs kk vs H1 G1 S1 a1 b1 r1=>⟨xs++dd,G1,S1.sub,r1.append (QqI hs),?_⟩)
 cases z:m (xs++dd) with
 | stuck=>rw[z]at kk;exact kk.elim
 | exc y=>rw[z]at kk;exact absurd kk (hx y)
 | ok d=>
  rw[z]at kk
  intro v H' G' g1 h1 s1 n1 ret
  rcases QQ (show(if d.scal=true then Out.stuck else Out.ok d).post _ _ from kk) with⟨_,kk⟩ | ⟨hc,kk⟩
  ·exact kk.elim
  ·unfold RetG at ret
   rw[if_pos (by cases hh:d.scal with | true=>exact absurd hh hc | false=>rfl)]at ret
   obtain⟨pp,rfl,h0,hg',ow⟩:=ret
   exact(show KF C G H σ ς Q d from kk) pp H' G' (S1.grow h1 g1 s1 n1) (a1.trans h1) (b1.trans g1) (a1.free h0) hg' ow
end
abbrev bitsI(i:Int):Nat:=Builtin.Int.intBits i
theorem Qxp:∀{xs:List PySem.W.WData}{x:PySem.W.WData},x∈xs->x.weight<=PySem.W.WData.weightAll xs
 | y::r,x,hx=>by
  rcases List.mem_cons.mp hx with rfl | hx'
  ·simp only[PySem.W.WData.weightAll];omega
  ·have:=Qxp hx'
   simp only[PySem.W.WData.weightAll];omega
theorem QGw{ns:List Int}(h:PySem.W.WData.layableAll [PySem.W.WData.list (ns.map PySem.W.WData.int)]=true):∀ z∈ns,bitsI z<=1048576:=fun z hz=>by
 have h1:(PySem.W.WData.list (ns.map PySem.W.WData.int)).layable=true:=by simpa [PySem.W.WData.layableAll] using h
 have h2:(PySem.W.WData.list (ns.map PySem.W.WData.int)).weight<=2 ^ 20:=of_decide_eq_true (Bool.and_eq_true_iff.mp h1).2
 have h3:(PySem.W.WData.int z).weight<=PySem.W.WData.weightAll (ns.map PySem.W.WData.int):=Qxp (List.mem_map.mpr ⟨z,hz,rfl⟩)
 have h4:(PySem.W.WData.int z).weight<=1048576:=by
  have e:(2:Nat) ^ 20=1048576:=by decide
  simp only[PySem.W.WData.weight]at h2
  omega
 simpa only[PySem.W.WData.weight,Builtin.Int.intBits] using h4
theorem walk_of{l:PySem.W.OpenLaw}{n k:Nat}{q:Program}{loose:List Str}{XP:(Str->Option Value)->Heap->Prop}{YP:World->Heap->Prop}{d:DefRec}{K:Params->PySem.W.Frag}{CX:World->CXT}{sp:World->Sp}{x:Str}
 (hn:l.most=some n) (hn2:n<=sizeLine) (hdf:d.params.defaults=[]) (hr:Room k callerA)
 (hY:∀(w:World)(h:Heap),YP w h->(K w.params).In h)
 (F:∀(w:World)(mg:‹"Y"›)(fa:Addr)(h:Heap),(K w.params).In h->h.Ns mainGlobals mg->mg d.name=some (.ref fa)->
  ∃ fd:FuncData,(∀(s:Shared)(u:Value),BindsTo s fd ⟨[u],[]⟩ [(x,u)])/\
   ∀ base:Heap,(K w.params).In base->base.Ns mainGlobals mg->FnOk l.prog w (K w.params) mg base (CX w) k fa fd [x] (sp w))
 (hsp:∀(w:World)(H:Hp)(a:Addr)(ns:List Int),ns.length<=n->(∀ z∈ns,bitsI z<=1048576)->Only H->SqL (K w.params) H a (ns.map V.int)->sp w [.ref a] H (fun v _=>v=.bl true) fun _ _ _=>False)
 (hCX:∀(w:World)(H:Hp)(s:Shared)(e:Value)(s':Shared),CX w [] H s (fun _ _ _=>False) e s'->False):
 PySem.W.WalkO q loose XP YP l.row.toRowW d [] (fun f vs=>PySem.call f vs):=by
 intro w s₀ s₁ mg mb G Y fa o pm cd doc dV kV ho hd hcd hD hmg hg args vals as hpre hlay hrd hwl hlo
 obtain rfl:dV=.none:=PySem.W.Dflts.none hD hdf
 obtain rfl:kV=.none:=PySem.W.Dflts.noKw hD
 obtain⟨a,vs,ns,rfl,rfl,hobj,hints,hlen⟩:=Att.script_of hn hpre hwl
 have KX:=hY w _ Y
 obtain⟨fd,hb,hF⟩:=F w mg fa _ KX G.T.g hmg
 refine PySem.W.enter_call (codeAny_mono (QMT KX G.T.g G.T.b G.T.builtins G.T.nolimit hg hobj hints (Nat.le_trans hlen hn2) hr hF hb (fun H hO hS=>hsp w H a ns hlen (QGw hlay) hO hS) fun H e s'=>hCX w H s₁ e s') fun r s' hq=>?_)
 obtain⟨rfl,h2,h3,h4⟩:=hq
 exact⟨.inl ⟨.bool true,.bool true,[],rfl,fun _=>rfl,.bool true,Att.post_true l _,fun _=>⟨List.Pairwise.nil,fun _ hm=>(nomatch hm)⟩⟩,h2,h3,h4⟩
end DL
namespace DL
open PySem PySem.Spec PyProof.Rows L2
def rCatS(K:PySem.W.Frag):R2:=fun x y H Q=>∃ l b xs zs,x=.ref l/\y=.ref b/\SqL K H l xs/\SqL K H b zs/\xs.length+zs.length<=sizeLine/\∀ p,H p=none->Q (.ref p) (upd H p (.lst (xs++zs)))
theorem QOf{X:Cx}:OpR X (binaryOp .Add) (rCatS X.K):=by
 intro pins s σ H x y v u Q I rx ry h
 obtain⟨l,b,xs,zs,rfl,rfl,hH,hB,hz,q⟩:=h
 cases rx
 cases ry
 obtain⟨its,r,pl,hz1⟩:=I.list hH
 obtain⟨its2,r2,pl2,hz2⟩:=I.list hB
 obtain⟨⟨cls,dd,data,sl⟩,n,ho,hc,hdd,hd⟩:=pl
 obtain⟨⟨cls2,dd2,data2,sl2⟩,n2,ho2,hc2,hdd2,hd2⟩:=pl2
 simp only at hc hd hc2 hd2
 subst hc hd hc2 hd2
 have e:its.toArray++its2.toArray=(its++its2).toArray:=by simp
 have h1:=r.length
 have h2:=r2.length
 refine concat_meets ⟨_,ho,rfl⟩ ⟨_,ho2,rfl⟩ noFill_list_add seq_list_add PySem.F.slot_list_add PySem.F.entry_list_add (PySem.F.args_list_add_2 _ _) (list_addW l b its.toArray its2.toArray n n2 dd dd2 sl sl2 (by rw[List.size_toArray,List.size_toArray];omega)) ⟨ho,ho2,?_⟩
 rw[e]
 exact⟨.ref _,_,I.lnew (t':=s.toks) (r.append r2) (by rw[List.length_append];omega),rfl,q _ I.fresh⟩
def dCat:D->D->Out D
 | .lst xs,.lst ys=>if fits (xs.length+ys.length)=true then .ok (.lst (xs++ys)) else .stuck
 | _,_=>.stuck
def dRep:D->D->Out D
 | .lst xs,.int k=>if (decide (-(2 ^ 63)<=k)&&decide (k<2 ^ 63)&&fits (xs.length * k.toNat))=true then .ok (.lst (List.replicate k.toNat xs).flatten) else .stuck
 | _,_=>.stuck
section
variable{C:Dc}{a b:Expr}{A B:SD->Out D}{pos:Pos}
theorem QPv(ha:DE C a A)(hb:DE C b B):DF C (.BinOp a .Add b pos) (e2 dCat A B):=by
 obtain⟨ta,p1,q1⟩:=ha
 obtain⟨tb,p2,q2⟩:=hb
 refine⟨_,pe_op QOf p1 p2,fun G H σ ς Q S q=>?_⟩
 unfold e2 at q
 rw[Out.post_bind]at q
 refine q1 G H σ ς _ S (Out.post_mono q fun x k v1 H1 G1 S1 a1 b1 r1=>?_)
 rw[Out.post_bind]at k
 refine q2 G1 H1 σ ς _ S1 (Out.post_mono k fun y k2 v2 H2 G2 S2 a2 b2 r2=>?_)
 have r1':=Rep.mono b2 x v1 r1
 cases x with
 | lst xs=>
  cases y with
  | lst ys=>
   obtain⟨p,vs,rfl,h2,h3⟩:=r1'
   obtain⟨p',vs',rfl,h2',h3'⟩:=r2
   rcases QQ (show(if fits (xs.length+ys.length)=true then Out.ok (D.lst (xs++ys)) else .stuck).post _ _ from k2) with⟨hc,k3⟩ | ⟨_,k3⟩
   ·exact⟨p,p',vs,vs',rfl,rfl,S2.sub.seq h2,S2.sub.seq h2',by rw[← h3.length, ← h3'.length];exact of_decide_eq_true hc,
     KF.lst (KF.later (show KF C G H σ ς Q (.lst (xs++ys)) from k3) (a1.trans a2) (b1.trans b2)) S2 (h3.append h3')⟩
   ·exact k3.elim
  | _=>exact k2.elim
 | _=>cases y<;>exact k2.elim
theorem QEG(ha:DF C a A)(hb:DB C b B):DF C (.BinOp a .Mult b pos) (e2 dRep A B):=by
 obtain⟨ta,p1,q1⟩:=ha
 obtain⟨tb,p2,q2⟩:=hb
 refine⟨_,pe_op QPd p1 p2,fun G H σ ς Q S q=>?_⟩
 unfold e2 at q
 rw[Out.post_bind]at q
 refine q1 G H σ ς _ S (Out.post_mono q fun x k p H1 G1 S1 a1 b1 hp hg ow=>?_)
 rw[Out.post_bind]at k
 refine q2 G1 H1 σ ς _ S1 (Out.post_mono k fun y k2 v2 H2 G2 S2 a2 b2 r2=>?_)
 cases x with
 | lst xs=>
  cases y with
  | int i=>
   cases r2
   obtain⟨vs,h2,h3⟩:=ow
   rcases QQ (show(if (decide (-(2 ^ 63)<=i)&&decide (i<2 ^ 63)&&fits (xs.length * i.toNat))=true then Out.ok (D.lst (List.replicate i.toNat xs).flatten) else .stuck).post _ _ from k2) with⟨hc,k3⟩ | ⟨_,k3⟩
   ·rw[Bool.and_eq_true,Bool.and_eq_true]at hc
    have h3':RepL C.X.K C.CT G2 xs vs:=RepL.mono b2 xs vs h3
    exact⟨p,i,vs,rfl,rfl,a2 _ _ h2,of_decide_eq_true hc.1.1,of_decide_eq_true hc.1.2,by rw[← h3'.length];exact of_decide_eq_true hc.2,
     KF.lst (KF.later (show KF C G H σ ς Q (.lst (List.replicate i.toNat xs).flatten) from k3) (a1.trans a2) (b1.trans b2)) S2 (h3'.rep i.toNat)⟩
   ·exact k3.elim
  | _=>exact k2.elim
 | _=>cases y<;>exact k2.elim
def dList:D->Out D
 | .lst xs=>.ok (.lst xs)
 | .tup xs=>.ok (.lst xs)
 | _=>.stuck
theorem RepL.flat{K:PySem.W.Frag}{CT:CTab}{G H:Hp}:∀{ds:List D}{vs:List V},ds.all D.scal=true->RepL K CT H ds vs->RepL K CT G ds vs
 | [],_,_,h=>h
 | d::ds,_,hs,⟨v,r,h1,h2,h3⟩=>by
  rw[List.all_cons,Bool.and_eq_true]at hs
  exact⟨v,r,h1,h2.scal hs.1,RepL.flat hs.2 h3⟩
theorem Qea{p:Pos}(hg:Gl C.X "list")(hm:C.X.mg "list"=none)(ha:DE C a A)
 (he:starEach (a::[]) C.X.env=(false,eval a C.X.env)::starEach [] C.X.env:=by rfl):DF C (.Call (.Name "list" p) [a] [] pos) (e1 dList A):=by
 obtain⟨ta,p1,q1⟩:=ha
 refine⟨_,QzO QEW hg hm PyProof.Rows.Boot.«list» (QbX p1 QeS he) (by decide) (by decide) he rfl,fun G H σ ς Q S q=>?_⟩
 unfold e1 at q
 rw[Out.post_bind]at q
 refine q1 G H σ ς _ S (Out.post_mono q fun x k v1 H1 G1 S1 a1 b1 r1=>?_)
 cases x with
 | lst xs=>
  obtain⟨p,vs,rfl,h2,h3⟩:=r1
  exact⟨p,vs,rfl,.inl (S1.sub.seq h2),KF.lst (KF.later (show KF C G H σ ς Q (.lst xs) from k) a1 b1) S1 h3⟩
 | tup xs=>
  obtain⟨p,vs,rfl,h2,h3⟩:=r1
  exact⟨p,vs,rfl,.inr (Same.sqT S1.sub h2),KF.lst (KF.later (show KF C G H σ ς Q (.lst xs) from k) a1 b1) S1 h3⟩
 | _=>exact k.elim
end
section
variable{C:Dc}{e:Expr}{es:List Expr}{A:SD->Out (List D)}{p pos:Pos}
def dInt:D->Out D
 | .int i=>.ok (.int i)
 | .bl b=>.ok (.int (if b then 1 else 0))
 | _=>.stuck
theorem QHI(hg:Gl C.X "int")(hm:C.X.mg "int"=none)(ha:DAB C (e::es) A)
 (he:‹"c"›:=by rfl) (hpl:(backTo pos ‹"az"›).any (·.1)=false:=by rfl):DE C (.Call (.Name "int" p) (e::es) [] pos) (eA (f1 dInt) A):=by
 refine QKQ QMg (QBS ?_) (QxJ ?_) hg hm PyProof.Rows.Boot.«int» ha (by decide) (by decide) he hpl
 ·intro G H σ ς Q x v S r q
  cases x with
  | int i=>cases r;exact .inl ⟨i,rfl,q.2⟩
  | bl b=>cases r;exact .inr ⟨b,rfl,q.2⟩
  | _=>exact q.elim
 ·intro x
  cases x<;>first | exact rfl | exact True.intro
end
def isaT(T:String):D->Out Bool
 | .ins _ _=>.stuck
 | .err _=>.stuck
 | .bl _=>.ok (T == "bool"||T == "int")
 | d=>.ok (QcB d == T)
structure Kit(K:PySem.W.Frag)(T:String):Prop where
 h:∀ d:D,(match d with | .ins _ _=>True | .err _=>True | .bl _=>PySem.W.kitOne K (.type "bool") (.type T)=some (T == "bool"||T == "int") | d=>PySem.W.kitOne K (.type (QcB d)) (.type T)=some (QcB d == T))
section
variable{C:Dc}{e:Expr}{E:SD->Out D}{p pc pos:Pos}
theorem Qe0(T:Str){T':String}(k:Kit C.X.K T')(hgT:Gl C.X T)(hmT:C.X.mg T=none)(hb:bootBuiltins T=some (.type T'))(hg:Gl C.X "isinstance")(hm:C.X.mg "isinstance"=none)(h:DB C e E)
 (hn:T≠"__name__":=by decide) (hdb:(T == ("__debug__":Str))=false:=by decide)
 (he:starEach (e::[.Name T pc]) C.X.env=(false,eval e C.X.env)::starEach [.Name T pc] C.X.env:=by rfl) (he2:starEach (.Name T pc::[]) C.X.env=(false,eval (.Name T pc) C.X.env)::starEach [] C.X.env:=by rfl)
 (hpl:(backTo pos (starEach [.Name T pc] C.X.env)).any (·.1)=false:=by rfl):DE C (.Call (.Name "isinstance" p) [e,.Name T pc] [] pos) (eIsa (isaT T') E):=by
 refine QPm (vc:=.ty T') (uc:=.type T') (QOp hgT hmT hb rfl hn hdb) rfl (fun d=>?_) hg hm h he he2 hpl
 have:=k.h d
 cases d<;>first | exact True.intro | exact this
end
theorem Qr0{K:PySem.W.Frag}{T:String}(h1:PySem.W.kitOne K (.type "NoneType") (.type T)=some ("NoneType" == T))(h2:PySem.W.kitOne K (.type "bool") (.type T)=some (T == "bool"||T == "int"))
 (h3:PySem.W.kitOne K (.type "int") (.type T)=some ("int" == T)) (h4:PySem.W.kitOne K (.type "str") (.type T)=some ("str" == T)) (h5:PySem.W.kitOne K (.type "list") (.type T)=some ("list" == T))
 (h6:PySem.W.kitOne K (.type "tuple") (.type T)=some ("tuple" == T)) (h7:PySem.W.kitOne K (.type "dict") (.type T)=some ("dict" == T)):Kit K T:=⟨fun d=>by
 cases d with
 | non=>exact h1
 | bl _=>exact h2
 | int _=>exact h3
 | str _=>exact h4
 | lst _=>exact h5
 | tup _=>exact h6
 | dic _=>exact h7
 | ins _ _=>exact True.intro
 | err _=>exact True.intro⟩
theorem QOB{K:PySem.W.Frag}:Kit K "int":=Qr0 (by rfl) (by rfl) (by rfl) (by rfl) (by rfl) (by rfl) (by rfl)
theorem QMS{K:PySem.W.Frag}:Kit K "bool":=Qr0 (by rfl) (by rfl) (by rfl) (by rfl) (by rfl) (by rfl) (by rfl)
theorem QHU{K:PySem.W.Frag}:Kit K "str":=Qr0 (by rfl) (by rfl) (by rfl) (by rfl) (by rfl) (by rfl) (by rfl)
theorem QpP{K:PySem.W.Frag}:Kit K "list":=Qr0 (by rfl) (by rfl) (by rfl) (by rfl) (by rfl) (by rfl) (by rfl)
theorem Qzx{K:PySem.W.Frag}:Kit K "tuple":=Qr0 (by rfl) (by rfl) (by rfl) (by rfl) (by rfl) (by rfl) (by rfl)
def Qcb(i:Nat)(E:SD->Out D):SD->Out Fl:=fun ς=>match ς[i]? with
 | some (some (.o,.lst xs))=>E ς>>=fun d=>if decide (xs.length<sizeLine)=true then .ok (.nx (ς.set i (some (.o,.lst (xs++[d]))))) else .stuck
 | _=>.stuck
def sPutO(i:Nat)(I E:SD->Out D):SD->Out Fl:=fun ς=>E ς>>=fun d=>match ς[i]? with
 | some (some (.o,.lst xs))=>I ς>>=fun k=>match k with
  | .int k=>optO (ixN xs.length k)>>=fun j=>.ok (.nx (ς.set i (some (.o,.lst (xs.set j d)))))
  | _=>.stuck
 | _=>.stuck
section
variable{C:Dc}{G H:Hp}{σ:St}{ς:SD}
theorem Qip{α:Type}{xs:List α}{i:Nat}{x:α}(h:xs[i]?=some x):xs.set i x=xs:=by
 obtain⟨hi,e⟩:=List.getElem?_eq_some_iff.mp h
 rw[← e];exact List.set_getElem_self hi
theorem StR.write(S:‹"ax"›){i:Nat}{p:Addr}{xs ys:List D}{vs ws:List V}(hi:ς[i]?=some (some (.o,.lst xs)))(hp:σ[i]?=some (some (.ref p)))(hH:H p=some (.lst vs))(r:RepL C.X.K C.CT G ys ws):
 StR C G (upd H p (.lst ws)) σ (ς.set i (some (.o,.lst ys))):=by
 obtain⟨p',e1,hg,h0,ow⟩:=S.ow i _ hi
 rw[hp]at e1;cases e1
 have hil:i<ς.length:=(List.getElem?_eq_some_iff.mp hi).1
 have ne:∀ b o,G b=some o->b≠p:=fun b o e z=>by subst z;rw[hg]at e;cases e
 have S':StR C G (upd H p (.lst ws)) (σ.set i (some (.ref p))) (ς.set i (some (.o,.lst ys))):={
  sub:=fun b o e=>by rw[Ql (ne b o e)];exact S.sub b o e
  g0:=S.g0
  new:=S.new
  fr:=fun b o e m=>by
   rw[Ql (by rintro rfl;rw[h0]at e;cases e)];exact S.fr b o e m
  dom:=fun b e=>by
   by_cases hb:b=p
   ·subst hb;exact h0
   ·rw[Ql hb]at e;exact S.dom b e
  bs:=fun b o e=>by
   rw[Ql (by rintro rfl;rw[S.bh _ h0]at e;cases e)];exact S.bs b o e
  bh:=S.bh
  len:=by rw[List.length_set,List.length_set];exact S.len
  fz:=fun j d h=>by
   rcases QH h with⟨rfl,h2,l⟩ | ⟨hne,h2⟩
   ·cases h2
   ·rw[Qs hne];exact S.fz j d h2
  ow:=fun j d h=>by
   rcases QH h with⟨rfl,h2,l⟩ | ⟨hne,h2⟩
   ·cases h2
    exact⟨p,Qhk (by rw[S.len];exact l),hg,h0,⟨ws,QO,r⟩⟩
   ·rw[Qs hne]
    obtain⟨q,a,b,c,w⟩:=S.ow j d h2
    have qp:q≠p:=by
     rintro rfl
     exact S.inj i j _ _ q hne hi h2 hp a
    exact⟨q,a,b,c,w.mono (Same.refl G) fun o z=>by rw[Ql qp];exact z⟩
  ln:=fun j d h=>by
   rcases QH h with⟨rfl,h2,l⟩ | ⟨hne,h2⟩
   ·cases h2
   ·rw[Qs hne];exact S.ln j d h2
  inj:=fun j k d1 d2 q hjk h1 h2 h3=>by
   have get:∀(j:Nat) d,(ς.set i (some (.o,D.lst ys)))[j]?=some (some (.o,d))->∃ d',ς[j]?=some (some (.o,d')):=fun j d h=>by
    rcases QH h with⟨rfl,h2,l⟩ | ⟨hne,h2⟩
    ·exact⟨_,hi⟩
    ·exact⟨_,h2⟩
   obtain⟨d1',g1⟩:=get j d1 h1
   obtain⟨d2',g2⟩:=get k d2 h2
   rw[Qip hp]at h3 ⊢
   exact S.inj j k d1' d2' q hjk g1 g2 h3
  sf:=fun j d h=>by
   rcases QH h with⟨rfl,h2,l⟩ | ⟨hne,h2⟩
   ·cases h2
   ·rw[Qs hne]
    obtain⟨q,a,b,c,m,z,w⟩:=S.sf j d h2
    have qp:q≠p:=by
     rintro rfl
     exact c h0
    exact⟨q,a,b,c,m,z,w.mono (Same.refl G) fun o z=>by rw[Ql qp];exact z⟩
  su:=fun j k d1 d2 q hjk h1 h2 h3=>by
   rcases QH h1 with⟨rfl,q1,l⟩ | ⟨n1,q1⟩
   ·cases q1
   ·rcases QH h2 with⟨rfl,q2,l⟩ | ⟨n2,q2⟩
    ·cases q2
    ·rw[Qs n1]at h3
     rw[Qs n2];exact S.su j k d1 d2 q hjk q1 q2 h3 }
 rw[Qip hp]at S'
 exact S'
variable{a e:Expr}{A E:SD->Out D}{pos p1 p2 p3:Pos}{x:Str}
theorem QcM(i:Nat)(he:DE C e E)(hN:C.X.N[i]?=some x:=by rfl)(hv:Vis C.X.env.scope x:=by first | exact Or.inl rfl | exact Or.inr (Or.inl rfl) | exact Or.inr (Or.inr rfl))
 (hd:‹"f"›:=by decide) (hcd:‹"C"›:=by decide)
 (hbase:attributeBase (.Name x p1) "append" C.X.env (eval (.Name x p1) C.X.env)=eval (.Name x p1) C.X.env:=by rfl)
 (hfew:((backTo p3 (starEach (e::[]) C.X.env)).all (fun x => !x.1)&&(backToKw p3 (keywordEach [] C.X.env)).all (fun x=>x.1.isSome)
  && decide ((e::[]).length+([]:List Keyword).length+(if ([]:List Keyword).isEmpty then 0 else 1)<30))=true:=by rfl)
 (hline:(p2.endLine == p3.line)=true:=by rfl) (hs:starEach (e::[]) C.X.env=(false,eval e C.X.env)::starEach [] C.X.env:=by rfl)
 (hsw:swapsWith (.Call (.Attribute (.Name x p1) "append" p2) [e] [] p3) none pos.line C.X.env=pure false:=by rfl):
 DS C (.Expr (.Call (.Attribute (.Name x p1) "append" p2) [e] [] p3) pos) (Qcb i E):=by
 obtain⟨t,p,q⟩:=he
 refine⟨_,Qy4 (pe_bm PySem.F.plainAttrs_list PySem.F.slot_list_append PySem.F.type_list_append QzT ‹"aQ"› (QbX p QeS hs) hbase hfew hline hs rfl) hsw,fun G H σ ς W S k=>?_⟩
 unfold Qcb at k
 split at k
 ·rename_i xs z
  obtain⟨pp,e1,hg,h0,ow⟩:=S.ow i _ z
  obtain⟨vs,hv1,hv2⟩:=ow
  rw[Out.post_bind]at k
  refine⟨_,e1,.inl ⟨rfl,vs,SqL.of hv1⟩,q G H σ ς _ S (Out.post_mono k fun d k2 v H1 G1 S1 a1 b1 r1=>?_)⟩
  rcases QQ k2 with⟨hc,k3⟩ | ⟨_,k3⟩
  ·have hl:=hv2.length
   refine⟨pp,vs,v,rfl,rfl,a1 _ _ hv1,by rw[← hl];exact of_decide_eq_true hc,?_⟩
   exact k3 σ _ G1 (S1.write z e1 (a1 _ _ hv1) ((RepL.mono b1 xs vs hv2).append (RepL.one r1))) b1
  ·exact k3.elim
 ·exact k.elim
theorem QtI(i:Nat)(hi:DB C a A)(he:DE C e E)(hN:C.X.N[i]?=some x:=by rfl)(hv:Vis C.X.env.scope x:=by first | exact Or.inl rfl | exact Or.inr (Or.inl rfl) | exact Or.inr (Or.inr rfl))
 (hd:‹"f"›:=by decide) (hcd:‹"C"›:=by decide)
 (hst:∀ v,assign (.Subscript (.Name x p1) a p2) C.X.env v=(do
  let ov ← holding [v] (eval (.Name x p1) C.X.env)
  let iv ← holding [v,ov] (eval a C.X.env)
  standAt p2
  holding [v,ov,iv] (setItem ov iv v)
  release [v,ov,iv] []):=by intro _;rfl)
 (hs:swapsWithSole [.Subscript (.Name x p1) a p2] e pos.line C.X.env=pure false:=by rfl) (hw:swappedStores [.Subscript (.Name x p1) a p2] e C.X.env=pure none:=by rfl)
 (h1:(assignEach [.Subscript (.Name x p1) a p2] C.X.env).map (·.2)=[assign (.Subscript (.Name x p1) a p2) C.X.env]:=by rfl):DS C (.Assign [.Subscript (.Name x p1) a p2] e pos) (sPutO i A E):=by
 obtain⟨t,p,q⟩:=he
 obtain⟨t2,p2,q2⟩:=hi
 refine⟨_,QDW p (QLH ‹"aQ"› p2 QEQ hst) hs hw h1,fun G H σ ς W S k=>?_⟩
 unfold sPutO at k
 rw[Out.post_bind]at k
 refine q G H σ ς _ S (Out.post_mono k fun d k v H1 G1 S1 a1 b1 r1=>?_)
 split at k
 ·rename_i xs z
  obtain⟨pp,e1,hg,h0,ow⟩:=S1.ow i _ z
  obtain⟨vs,hv1,hv2⟩:=ow
  rw[Out.post_bind]at k
  refine⟨_,e1,q2 G1 H1 σ ς _ S1 (Out.post_mono k fun y k2 w H2 G2 S2 a2 b2 r2=>?_)⟩
  cases y with
  | int j=>
   cases r2
   have k2':(optO (ixN xs.length j)>>=fun j=>Out.ok (Fl.nx (ς.set i (some (.o,D.lst (xs.set j d)))))).post (FlK C G W) C.XD:=k2
   rw[Out.post_bind]at k2'
   obtain⟨jj,ej,k3⟩:=QcW k2'
   refine⟨pp,vs,j,jj,rfl,rfl,a2 _ _ hv1,by rw[← hv2.length];exact ej,?_⟩
   exact k3 σ _ G2 (S2.write z e1 (a2 _ _ hv1) ((RepL.mono b2 xs vs hv2).set (Rep.mono b2 d v r1) jj)) (b1.trans b2)
  | _=>exact k2.elim
 ·exact k.elim
end
end DL
namespace DL
open PySem PySem.Spec PyProof.Rows L2
structure DIt(K:PySem.W.Frag)(CT:CTab)(G1:Hp)(J:It)(ds:List D):Prop where
 go:∀ G H (i:Nat) d,Same G1 G->Same G H->ds[i]?=some d->J.go i H/\∀ x H',J.yld i H x H'->∃ G',Same G G'/\Same H H'/\Same G' H'/\(∀ b,G b=none->G' b≠none->H b=none)/\Rep K CT G' d x
 stop:∀ G H,Same G1 G->Same G H->J.stop ds.length H
structure DItB(K:PySem.W.Frag)(CT:CTab)(B1 G1:Hp)(J:It)(ds:List D):Prop where
 go:∀ G H (i:Nat) d,Same G1 G->Same G H->Same B1 H->ds[i]?=some d->J.go i H/\∀ x H',J.yld i H x H'->∃ G',Same G G'/\Same H H'/\Same G' H'/\(∀ b,G b=none->G' b≠none->H b=none)/\Rep K CT G' d x
 stop:∀ G H,Same G1 G->Same G H->Same B1 H->J.stop ds.length H
theorem DIt.b{K:PySem.W.Frag}{CT:CTab}{B1 G1:Hp}{J:It}{ds:List D}(h:DIt K CT G1 J ds):DItB K CT B1 G1 J ds:=⟨fun G H i d a b _ e=>h.go G H i d a b e,fun G H a b _=>h.stop G H a b⟩
def DIB(C:Dc)(tg iter:Expr)(its:‹"aq"›):Prop:=∃ wi,PI C.X tg iter wi/\∀ G H σ ς (R:It->Hp->Prop),StR C G H σ ς->
 (its ς).post (fun ds=>∀ J H1 G1,StR C G1 H1 σ ς->Same H H1->Same G G1->DItB C.X.K C.CT H1 G1 J ds->R J H1) C.XD->wi σ H R
def DI(C:Dc)(tg iter:Expr)(its:‹"aq"›):Prop:=∃ wi,PI C.X tg iter wi/\∀ G H σ ς (R:It->Hp->Prop),StR C G H σ ς->
 (its ς).post (fun ds=>∀ J H1 G1,StR C G1 H1 σ ς->Same H H1->Same G G1->DIt C.X.K C.CT G1 J ds->R J H1) C.XD->wi σ H R
section
variable{C:Dc}{e tg iter:Expr}{E:SD->Out D}{body:List Stmt}{T U:SD->Out Fl}{pos:Pos}{g:D->SD->Out SD}{its:SD->Out (List D)}
theorem DI.b(h:DI C tg iter its):DIB C tg iter its:=by
 obtain⟨wi,p,q⟩:=h
 exact⟨wi,p,fun G H σ ς R S k=>q G H σ ς R S (Out.post_mono k fun ds kd J H1 G1 S1 a b dit=>kd J H1 G1 S1 a b dit.b)⟩
theorem QNk{K:PySem.W.Frag}{CT:CTab}{G1:Hp}{a:Addr}{ds:List D}{vs:List V}(h:SqL K G1 a vs)(r:RepL K CT G1 ds vs):DIt K CT G1 (Itl K a) ds where
 go:=fun G H i d s1 sH hd=>by
  obtain⟨v,hv,rv⟩:=r.get hd
  have hq:SqL K H a vs:=sH.seq (s1.seq h)
  refine⟨⟨vs,v,hq,hv⟩,fun x H' ⟨e,y⟩=>?_⟩
  have ex:vs[i]?=some x:=y vs hq
  rw[hv]at ex;cases ex
  subst e
  exact⟨G,Same.refl _,Same.refl _,sH,fun b g n=>absurd g n,Rep.mono s1 d v rv⟩
 stop:=fun G H s1 sH=>⟨vs,sH.seq (s1.seq h),by rw[r.length];exact Nat.le_refl _⟩
theorem QMc{K:PySem.W.Frag}{CT:CTab}{G1:Hp}{lo:Int}{n:Nat}:DIt K CT G1 (Itr lo n) (Qcm lo n) where
 go:=fun G H i d s1 sH hd=>by
  have hi:i<n:=by
   have:=(List.getElem?_eq_some_iff.mp hd).1
   rw[Qwh]at this;exact this
  rw[QJP hi]at hd;cases hd
  exact⟨hi,fun x H' ⟨e,y⟩=>by
   subst e y
   exact⟨G,Same.refl _,Same.refl _,sH,fun b g n=>absurd g n,rfl⟩⟩
 stop:=fun G H s1 sH=>by rw[Qwh];exact Nat.le_refl _
theorem Qan(h:DE C iter E):DI C tg iter (itL E):=by
 obtain⟨t,p,q⟩:=h
 refine⟨_,QNC p,fun G H σ ς R S k=>?_⟩
 unfold itL at k
 rw[Out.post_bind]at k
 refine q G H σ ς _ S (Out.post_mono k fun d k v H1 G1 S1 a1 b1 r1=>?_)
 cases d with
 | lst xs=>
  obtain⟨a,vs,rfl,h2,h3⟩:=r1
  exact⟨a,rfl,⟨vs,S1.sub.seq h2⟩,k _ H1 G1 S1 a1 b1 (QNk h2 h3)⟩
 | _=>exact k.elim
theorem QaA{a:Expr}{A:SD->Out D}{p1 p2:Pos}(hgl:Gl C.X "range")(hm:C.X.mg "range"=none)(ha:DB C a A)
 (hst:starEach [a] C.X.env=(false,eval a C.X.env)::starEach [] C.X.env:=by rfl):DI C tg (.Call (.Name "range" p1) [a] [] p2) (itR1 A):=by
 obtain⟨t,p,q⟩:=ha
 refine⟨_,QLy hgl hm (QbX p QeS hst) hst,fun G H σ ς R S k=>?_⟩
 unfold itR1 at k
 rw[Out.post_bind]at k
 refine q G H σ ς _ S (Out.post_mono k fun d k v H1 G1 S1 a1 b1 r=>?_)
 cases d with
 | int n=>
  cases r
  rcases QQ k with⟨hc,k⟩ | ⟨_,k⟩
  ·obtain⟨c1,c2⟩:=QIZ hc
   exact⟨n,rfl,c1,c2,k _ H1 G1 S1 a1 b1 QMc⟩
  ·exact k.elim
 | _=>exact k.elim
theorem QcS(hp:PassesOwn (model C.X.prog C.X.w) C.X.A C.X.env C.X.xe)(hc:C.X.calm=true)(hi:DI C tg iter its)(hg:DG C tg g)(hne:noExc g)(hb:DSs C body T)
 (hs:∀ x,foldedSetIterable iter C.X.env x=pure x:=by intro _;rfl):DS C (.For tg iter body [] pos) (sFor g its T):=by
 obtain⟨t0,p0,q0⟩:=hi
 obtain⟨t1,p1,q1⟩:=hg
 obtain⟨t2,p2,q2⟩:=hb
 refine⟨_,QP2 hp hc p0 p1 p2 hs,fun G H σ ς W S k=>?_⟩
 unfold sFor at k
 rw[Out.post_bind]at k
 refine q0 G H σ ς _ S (Out.post_mono k fun xs k J H1 G1 S1 a1 b1 dit=>?_)
 refine⟨fun i m σ' H'=>m=xs.length - i/\i<=xs.length/\∃ G' ς',StR C G' H' σ' ς'/\Same G1 G'/\(loopD ‹"af"› (xs.drop i) ς').post (FlK C G' W) C.XD,
  ⟨xs.length,by simp,Nat.zero_le _,G1,ς,S1,Same.refl _,Out.post_mono (by simpa using k) fun f k=>FlK.later k b1⟩,?_⟩
 rintro i m σ' H' ⟨rfl,hle,G',ς',S',s',q'⟩
 by_cases hlt:i<xs.length
 ·have hd:xs[i]?=some xs[i]:=by simp[hlt]
  obtain⟨hgo,hy⟩:=dit.go G' H' i _ s' S'.sub hd
  refine .inr ⟨hgo,fun σ2 H2=>∃ G2 ς2,StR C G2 H2 σ2 ς2/\Same G1 G2/\(loopD ‹"af"› (xs.drop (i+1)) ς2).post (FlK C G2 W) C.XD,
   fun σ2 H2 h2=>⟨xs.length - (i+1),by omega,rfl,hlt,h2⟩,fun x H'' y=>?_⟩
  obtain⟨G'',g1,h1,s1,n1,r⟩:=hy x H'' y
  rw[QAa hd]at q'
  exact turnD hne q1 q2 (S'.grow h1 g1 s1 n1) r (Out.post_mono q' fun f k=>FlK.later k g1) fun σ2 H2 G2 ς2 S2 s2 q2=>⟨G2,ς2,S2,(s'.trans g1).trans s2,q2⟩
 ·have e:i=xs.length:=by omega
  subst e
  rw[List.drop_length]at q'
  exact .inl ⟨dit.stop G' H' s' S'.sub,q' σ' H' G' S' (Same.refl _)⟩
end
def compM(f:D->Out (Option D)):List D->Out (List D)
 | []=>.ok []
 | x::xs=>f x>>=fun o=>compM f xs>>=fun ys=>.ok (o.toList++ys)
def captS(ς:SD)(j:Nat):Option (SM×D):=match ς[j]? with
 | some (some (.k,d))=>some (.k,d)
 | some (some (_,d))=>some (.l,d)
 | _=>none
def captD(js:‹"K"›)(ς:SD):SD:=js.map fun j=>j.bind (captS ς)
def turnC(js:‹"K"›)(g:D->SD->Out SD)(c:SD->Out Bool)(e:SD->Out D)(ς:SD)(x:D):Out (Option D):=
 g x (captD js ς)>>=fun τ=>c τ>>=fun b=>if b=true then e τ>>=fun y=>.ok (some y) else .ok none
def eComp(js:‹"K"›)(its:‹"aq"›)(g:D->SD->Out SD)(c:SD->Out Bool)(e:SD->Out D):SD->Out D:=fun ς=>
 its ς>>=fun xs=>compM (turnC js g c e ς) xs>>=fun ys=>if fits ys.length=true then .ok (.lst ys) else .stuck
def DIf(C:Dc)(ifs:List Expr)(T:SD->Out Bool):Prop:=∃ t,PIf C.X ifs t/\∀ G H σ ς Q,StR C G H σ ς->(T ς).post (KT C G H σ ς Q) C.XD->t σ H Q
def cTrue:SD->Out Bool:=fun _=>.ok true
theorem QM{C:Dc}:DIf C [] cTrue:=⟨_,QNX,fun G H σ ς Q S q=>KT.now q S⟩
theorem QtG{C:Dc}{c:Expr}{T:SD->Out Bool}(h:DT C c T):DIf C [c] T:=let ⟨t,p,q⟩:=h;⟨t,QN2 p,q⟩
def gKeep(g:D->SD->Out SD)(τ0:SD):Prop:=∀ x τ,g x τ0=.ok τ->τ.length=τ0.length/\∀(i:Nat) md,τ0[i]?=some (some md)->τ[i]?=some (some md)
theorem QE{i:Nat}{τ0:SD}(h:τ0[i]?=some none):gKeep (gN i) τ0:=by
 intro x τ e
 cases e
 refine⟨List.length_set ..,fun j md hj=>?_⟩
 rw[Qs (by rintro rfl;rw[h]at hj;cases hj)];exact hj
theorem QFc:∀(is:List Nat)(ds:List D)(τ0 τ:SD),(∀ i∈is,∀ md,τ0[i]?=some (some md)->False)->Qaz is ds τ0=.ok τ->τ.length=τ0.length/\∀(i:Nat) md,τ0[i]?=some (some md)->τ[i]?=some (some md)
 | [],[],τ0,τ,_,e=>by cases e;exact⟨rfl,fun _ _ h=>h⟩
 | i::is,d::ds,τ0,τ,h,e=>by
  have e':Qaz is ds (τ0.set i (some (.k,d)))=.ok τ:=e
  -- the later targets may meet the stored one again: only what was there ahead is kept
  have go:∀(is:List Nat)(ds:List D)(τ1 τ:SD),τ1.length=τ0.length->(∀ i∈is,∀ md,τ0[i]?=some (some md)->False)->(∀(i:Nat) md,τ0[i]?=some (some md)->τ1[i]?=some (some md))->Qaz is ds τ1=.ok τ->
   τ.length=τ0.length/\∀(i:Nat) md,τ0[i]?=some (some md)->τ[i]?=some (some md):=by
   intro is
   induction is with
   | nil=>intro ds τ1 τ hl _ hk e;cases ds with
    | nil=>cases e;exact⟨hl,hk⟩
    | cons _ _=>cases e
   | cons i is ih=>intro ds τ1 τ hl hn hk e;cases ds with
    | nil=>cases e
    | cons d ds=>
     refine ih ds _ τ (by rw[List.length_set];exact hl) (fun j hj=>hn j (List.mem_cons_of_mem _ hj)) (fun j md hj=>?_) e
     rw[Qs (by rintro rfl;exact hn _ List.mem_cons_self md hj)];exact hk j md hj
  refine go is ds _ τ (List.length_set ..) (fun j hj=>h j (List.mem_cons_of_mem _ hj)) (fun j md hj=>?_) e'
  rw[Qs (by rintro rfl;exact h _ List.mem_cons_self md hj)];exact hj
 | [],_::_,_,_,_,e=>by cases e
 | _::_,[],_,_,_,e=>by cases e
theorem QuV{is:List Nat}{τ0:SD}(h:∀ i∈is,τ0[i]?=some none):gKeep (gT is) τ0:=by
 intro x τ e
 cases x with
 | tup ds=>exact QFc is ds τ0 τ (fun i hi md z=>by rw[h i hi]at z;cases z) e
 | _=>cases e
theorem Qt{js:‹"K"›}{i:Nat}(h:js[i]?=some none)(ς:SD):(captD js ς)[i]?=some none:=by
 unfold captD
 rw[List.getElem?_map,h];rfl
section
variable{C:Dc}{G H:Hp}{σ:St}{ς:SD}
theorem StR.weak{ς':SD}(S:StR C G H σ ς')(hl:ς'.length=ς.length)(h:∀(i:Nat) md,ς[i]?=some (some md)->ς'[i]?=some (some md)):StR C G H σ ς:=
 { S with len:=by rw[S.len,hl],fz:=fun i d e=>S.fz i d (h i _ e),ow:=fun i d e=>S.ow i d (h i _ e),ln:=fun i d e=>S.ln i d (h i _ e),inj:=fun i j d e p n h1 h2=>S.inj i j d e p n (h i _ h1) (h j _ h2),sf:=fun i d e=>S.sf i d (h i _ e),su:=fun i j d e p n h1 h2=>S.su i j d e p n (h i _ h1) (h j _ h2) }
theorem StR.updM(S:‹"ax"›){p:Addr}{o:HO}(hM:C.M p)(h0:C.X.H₀ p≠none)(hno:∀(i:Nat) d,ς[i]?≠some (some (.s,d)))(hB:C.B p=none)(hg:G p=none):StR C G (upd H p o) σ ς where
 sub:=fun b u e=>by rw[Ql (by rintro rfl;rw[hg]at e;cases e)];exact S.sub b u e
 g0:=S.g0
 new:=S.new
 fr:=fun b u e m=>by rw[Ql (by rintro rfl;exact m hM)];exact S.fr b u e m
 dom:=fun b e=>by
  by_cases hb:b=p
  ·subst hb;rw[QO]at e;cases e
  ·rw[Ql hb]at e;exact S.dom b e
 bs:=fun b u e=>by rw[Ql (by rintro rfl;rw[hB]at e;cases e)];exact S.bs b u e
 bh:=S.bh
 len:=S.len
 fz:=S.fz
 ow:=fun i d e=>by
  obtain⟨q,a,b,c,w⟩:=S.ow i d e
  exact⟨q,a,b,c,w.mono (Same.refl G) fun u z=>by rw[Ql (by rintro rfl;exact h0 c)];exact z⟩
 ln:=S.ln
 inj:=S.inj
 sf:=fun i d e=>absurd e (hno i d)
 su:=S.su
abbrev ccOf(C:Dc)(N':List Str)(scope:Scope)(fp:List Addr)(s:Shared)(H1 G1:Hp)(p:Addr):Dc:=
 { X:=cxC C.X N' scope fp s (upd H1 p (.lst [])),CT:=C.CT,G0:=G1,XD:=fun _=>False,B:=H1,M:=fun b=>b=p }
theorem Qjp{js:‹"K"›}{i:Nat}{md:SM×D}(h:(captD js ς)[i]?=some (some md)):∃ j,js[i]?=some (some j)/\captS ς j=some md:=by
 unfold captD at h
 rw[List.getElem?_map]at h
 cases e:js[i]? with
 | none=>rw[e]at h;cases h
 | some o=>
  rw[e]at h
  cases o with
  | none=>cases h
  | some j=>exact⟨j,rfl,Option.some.inj h⟩
theorem Qqv{js:‹"K"›}{i j:Nat}{v:V}(h:js[i]?=some (some j))(hv:σ[j]?=some (some v)):(capt js σ)[i]?=some (some v):=by
 unfold capt
 rw[List.getElem?_map,h]
 show some ((σ[j]?).join)=_
 rw[hv];rfl
theorem QgC{j:Nat}{m:SM}{d:D}(h:captS ς j=some (m,d)):(m=.k/\ς[j]?=some (some (.k,d)))∨(m=.l/\(ς[j]?=some (some (.o,d))∨ς[j]?=some (some (.l,d))∨ς[j]?=some (some (.s,d)))):=by
 unfold captS at h
 split at h
 ·rename_i d' e;cases h;exact .inl ⟨rfl,e⟩
 ·rename_i m' d' hne e
  cases h
  cases m' with
  | k=>exact(hne rfl).elim
  | o=>exact .inr ⟨rfl,.inl e⟩
  | l=>exact .inr ⟨rfl,.inr (.inl e)⟩
  | s=>exact .inr ⟨rfl,.inr (.inr e)⟩
 ·cases h
theorem QvC{js:‹"K"›}{i:Nat}{d:D}(h:(captD js ς)[i]?=some (some (.s,d))):False:=by
 obtain⟨j,h1,h2⟩:=Qjp h
 rcases QgC h2 with⟨h3,_⟩ | ⟨h3,_⟩<;>cases h3
theorem StR.comp{N':List Str}{scope:Scope}{fp:List Addr}{s:Shared}{js:‹"K"›}{p:Addr}(S:‹"ax"›)(hp:H p=none):StR ‹"B"› G (upd H p (.lst [])) (capt js σ) (captD js ς) where
 sub:=S.sub.trans (QD hp)
 g0:=Same.refl _
 new:=fun b h1 h2=>absurd h1 h2
 fr:=fun b o e _=>e
 dom:=fun b e=>e
 bs:=QD hp
 bh:=fun b e=>by
  have e':upd H p (.lst []) b=none:=e
  by_cases hb:b=p
  ·subst hb;exact hp
  ·rw[Ql hb]at e';exact e'
 len:=by unfold capt captD;rw[List.length_map,List.length_map]
 fz:=fun i d e=>by
  obtain⟨j,h1,h2⟩:=Qjp e
  rcases QgC h2 with⟨_,h3⟩ | ⟨h3,_⟩
  ·obtain⟨v,a,b⟩:=S.fz j d h3
   exact⟨v,Qqv h1 a,b⟩
  ·cases h3
 ow:=fun i d e=>by
  obtain⟨j,h1,h2⟩:=Qjp e
  rcases QgC h2 with⟨h3,_⟩ | ⟨h3,_⟩<;>cases h3
 ln:=fun i d e=>by
  obtain⟨j,h1,h2⟩:=Qjp e
  rcases QgC h2 with⟨h3,_⟩ | ⟨_,h3 | h3 | h3⟩
  ·cases h3
  ·obtain⟨q,a,_,_,w⟩:=S.ow j d h3
   exact⟨_,Qqv h1 a,w.rep S.sub⟩
  ·obtain⟨v,a,b⟩:=S.ln j d h3
   exact⟨v,Qqv h1 a,Rep.mono S.bs d v b⟩
  ·obtain⟨q,a,_,_,_,_,w⟩:=S.sf j d h3
   exact⟨_,Qqv h1 a,w.rep S.sub⟩
 inj:=fun i j d e q _ h=>by
  obtain⟨j,h1,h2⟩:=Qjp h
  rcases QgC h2 with⟨h3,_⟩ | ⟨h3,_⟩<;>cases h3
 sf:=fun i d e=>(QvC e).elim
 su:=fun i j d e p _ h=>(QvC h).elim
variable{N':List Str}{js:List (Option Nat)}{scope:Scope}{tg iter elt:Expr}{ifs:List Expr}{its:SD->Out (List D)}{g:D->SD->Out SD}{c:SD->Out Bool}{e:SD->Out D}{pos:Pos}
theorem QM0{J:It}{xs:List D}{p:Addr}{fp:List Addr}{s:Shared}{Q:VK}(S:‹"ax"›)(hp:H p=none)(dit:DItB C.X.K C.CT H G J xs)(hx:∀ x,¬ C.XD x)(hk:gKeep g (captD js ς))(hne:noExc g)
 (hin:DG ‹"B"› tg g/\DIf ‹"B"› ifs c/\DE ‹"B"› elt e)
 (q:(compM (turnC js g c e ς) xs>>=fun ys=>if fits ys.length=true then Out.ok (D.lst ys) else .stuck).post (fun d=>∀ H' G',StR C G' H' σ ς->Same H H'->Same G G'->G' p=none->Own C.X.K C.CT G' H' p d->Q (.ref p) H') C.XD):
 CompW (cxC C.X N' scope fp s (upd H p (.lst []))) js tg elt ifs σ H J p Q:=by
 obtain⟨⟨tt,pg,hg⟩,⟨tcc,pif,hcI⟩,⟨te,pe,he⟩⟩:=hin
 generalize hτ:captD js ς=τ0 at hk
 have S0:StR ‹"B"› G (upd H p (.lst [])) (capt js σ) τ0:=by rw[← hτ];exact S.comp hp
 refine⟨fun i m τ H'=>m=xs.length - i/\i<=xs.length/\∃ G' acc vs,StR ‹"B"› G' H' τ τ0/\H' p=some (.lst vs)/\RepL C.X.K C.CT G' acc vs/\G' p=none/\
  (compM (turnC js g c e ς) (xs.drop i)).post ‹"b"› C.XD,
  ⟨xs.length,by simp,Nat.zero_le _,G,[],[],S0,QO,rfl,S.sub.free hp,by rw[Out.post_bind]at q;simpa using q⟩,?_⟩
 rintro i m τ H' ⟨rfl,hle,G',acc,vs,S',hp',r',hg',q'⟩
 have hH0:(ccOf C N' scope fp s H G p).X.H₀ p≠none:=by
  show upd H p (.lst []) p≠none
  rw[QO];simp
 by_cases hlt:i<xs.length
 ·have hd:xs[i]?=some xs[i]:=by simp[hlt]
  obtain⟨hgo,hy⟩:=dit.go G' H' i _ S'.g0 S'.sub S'.bs hd
  refine .inr ⟨hgo,fun τ2 H2=>i+1<=xs.length/\∃ G' acc vs,StR ‹"B"› G' H2 τ2 τ0/\H2 p=some (.lst vs)/\RepL C.X.K C.CT G' acc vs/\G' p=none/\
   (compM (turnC js g c e ς) (xs.drop (i+1))).post ‹"b"› C.XD,
   fun τ2 H2 h2=>⟨xs.length - (i+1),by omega,rfl,h2⟩,fun x H'' y=>?_⟩
  obtain⟨G'',g1,h1,s1,n1,r⟩:=hy x H'' y
  have S'':=S'.grow h1 g1 s1 n1
  have hgp:G'' p=none:=by
   cases z:G'' p with
   | none=>rfl
   | some o=>
    have:=n1 p hg' (by rw[z];simp)
    rw[hp']at this;cases this
  rw[QAa hd,compM,Out.post_bind]at q'
  have tu:turnC js g c e ς xs[i]=(g xs[i] τ0>>=fun τ=>c τ>>=fun b=>if b=true then e τ>>=fun y=>Out.ok (some y) else Out.ok none):=by unfold turnC;rw[hτ]
  rw[tu,Out.post_bind]at q'
  cases z:g xs[i] τ0 with
  | exc w=>exact absurd z (hne _ _ _)
  | stuck=>rw[z]at q';exact q'.elim
  | ok τ1=>
   rw[z]at q'
   obtain⟨hl1,hk1⟩:=hk _ _ z
   refine⟨tt,pg,hg G'' H'' τ τ0 xs[i] x τ1 _ S'' r z fun τ2 S2=>?_⟩
   have q2:(c τ1>>=fun b=>if b=true then e τ1>>=fun y=>Out.ok (some y) else Out.ok none).post _ _:=q'
   rw[Out.post_bind]at q2
   -- no refusal leaves the block
   have q3:(c τ1).post (fun b=>(if b=true then e τ1>>=fun y=>Out.ok (some y) else Out.ok none).post (fun o=>(compM (turnC js g c e ς) (xs.drop (i+1))>>=fun ys=>Out.ok (o.toList++ys)).post ‹"b"› C.XD) C.XD) (fun _=>False):=by
    cases w:c τ1 with
    | ok b=>rw[w]at q2;exact q2
    | exc w'=>rw[w]at q2;exact absurd q2 (hx _)
    | stuck=>rw[w]at q2;exact q2.elim
   refine⟨tcc,pif,hcI G'' H'' τ2 τ1 _ S2 (Out.post_mono q3 fun b kb H3 G3 S3 a3 b3=>?_)⟩
   have hp3:H3 p=some (.lst vs):=a3 _ _ (h1 _ _ hp')
   have hg3:G3 p=none:=by
    cases z3:G3 p with
    | none=>rfl
    | some o=>
     have e3:(ccOf C N' scope fp s H G p).G0 p=none:=S.sub.free hp
     exact absurd (S3.new p e3 (by rw[z3];simp)) hH0
   cases b with
   | false=>
    refine iteF ⟨hlt,G3,acc,vs,S3.weak (by rw[hl1]) hk1,hp3,RepL.mono (g1.trans b3) acc vs r',hg3,?_⟩
    have kb':(compM (turnC js g c e ς) (xs.drop (i+1))>>=fun ys=>Out.ok ((none:Option D).toList++ys)).post ‹"b"› C.XD:=kb
    rw[Out.post_bind]at kb'
    exact Out.post_mono kb' fun ys k=>k
   | true=>
    have kb:(e τ1>>=fun y=>Out.ok (some y)).post (fun o=>(compM (turnC js g c e ς) (xs.drop (i+1))>>=fun ys=>Out.ok (o.toList++ys)).post ‹"b"› C.XD) C.XD:=kb
    rw[Out.post_bind]at kb
    have kb2:(e τ1).post (fun y=>(compM (turnC js g c e ς) (xs.drop (i+1))>>=fun ys=>Out.ok ((some y:Option D).toList++ys)).post ‹"b"› C.XD) (fun _=>False):=by
     cases w:e τ1 with
     | ok b=>rw[w]at kb;exact kb
     | exc w'=>rw[w]at kb;exact absurd kb (hx _)
     | stuck=>rw[w]at kb;exact kb.elim
    refine iteT ⟨te,pe,he G3 H3 τ2 τ1 _ S3 (Out.post_mono kb2 fun y ky v4 H4 G4 S4 a4 b4 r4=>?_)⟩
    rw[Out.post_bind]at ky
    have hp4:H4 p=some (.lst vs):=a4 _ _ hp3
    have hg4:G4 p=none:=by
     cases z3:G4 p with
     | none=>rfl
     | some o=>
      have e3:(ccOf C N' scope fp s H G p).G0 p=none:=S.sub.free hp
      exact absurd (S4.new p e3 (by rw[z3];simp)) hH0
    have rr:=RepL.mono ((g1.trans b3).trans b4) acc vs r'
    refine⟨vs,hp4,?_,hlt,G4,acc++[y],vs++[v4],?_,QO,rr.append (RepL.one r4),hg4,?_⟩
    ·cases w:compM (turnC js g c e ς) (xs.drop (i+1)) with
     | stuck=>rw[w]at ky;exact ky.elim
     | exc w'=>rw[w]at ky;exact absurd ky (hx _)
     | ok ys=>
      rw[w]at ky
      rcases QQ (show(if fits (acc++((some y:Option D).toList++ys)).length=true then Out.ok (D.lst (acc++((some y:Option D).toList++ys))) else .stuck).post _ _ from ky) with⟨hc,_⟩ | ⟨_,k⟩
      ·have hc':=of_decide_eq_true hc
       rw[List.length_append,List.length_append]at hc'
       have:(some y:Option D).toList.length=1:=rfl
       have hl:=r'.length
       omega
      ·exact k.elim
    ·exact(S4.weak (by rw[hl1]) hk1).updM rfl hH0 (fun i d z=>by rw[← hτ]at z;exact QvC z) hp hg4
    ·exact Out.post_mono ky fun ys k=>by
      have e5:acc++[y]++ys=acc++((some y:Option D).toList++ys):=by simp
      rw[e5];exact k
 ·have ei:i=xs.length:=by omega
  subst ei
  rw[List.drop_length]at q'
  refine .inl ⟨dit.stop G' H' S'.g0 S'.sub S'.bs,?_⟩
  have q2:(if fits (acc++[]).length=true then Out.ok (D.lst (acc++[])) else .stuck).post _ C.XD:=q'
  rcases QQ q2 with⟨_,k⟩ | ⟨_,k⟩
  ·rw[List.append_nil]at k
   have hHH:Same H H':=fun b o eb=>S'.fr b o (by
    show upd H p (.lst []) b=some o
    rw[Ql (QY eb hp)];exact eb) (QY eb hp)
   have SG:StR C G' H' σ ς:=S.grow hHH S'.g0 S'.sub fun b h1 h2=>by
    have:=S'.new b h1 h2
    have this:upd H p (.lst []) b=none:=this
    by_cases hb:b=p
    ·subst hb;exact hp
    ·rw[Ql hb]at this;exact this
   exact k H' G' SG hHH S'.g0 hg' ⟨vs,hp',r'⟩
  ·exact k.elim
theorem compT(hi:∃ wi,PI C.X tg iter wi/\∀ G H σ ς (R:It->Hp->Prop),StR C G H σ ς->(its ς).post (fun ds=>∀ J H1 G1,StR C G1 H1 σ ς->Same H H1->Same G G1->DItB C.X.K C.CT H1 G1 J ds->R J H1) C.XD->wi σ H R)
 (hx:∀ x,¬ C.XD x) (hk:∀ ς,gKeep g (captD js ς)) (hne:noExc g)
 (hin:‹"aG"›):
 ∃ wi,PI C.X tg iter wi/\∀ G H σ ς Q,StR C G H σ ς->(eComp js its g c e ς).post (KF C G H σ ς Q) C.XD->tComp C.X N' js scope tg elt ifs wi σ H Q:=by
 obtain⟨wi,pi,hq⟩:=hi
 refine⟨wi,pi,fun G H σ ς Q S k=>?_⟩
 unfold eComp at k
 rw[Out.post_bind]at k
 refine hq G H σ ς _ S (Out.post_mono k fun xs k J H1 G1 S1 a1 b1 dit p hp fp s=>?_)
 refine QM0 S1 hp dit hx (hk ς) hne (hin fp s H1 G1 p) (Out.post_mono k fun d kd H' G' S' h1 g1 hg ow=>?_)
 exact kd p H' G' S' (a1.trans h1) (b1.trans g1) (a1.free hp) hg ow
theorem QV(hc:C.X.calm=true)(S:QC N' js scope C.X.env.scope C.X.N)(hi:DIB C tg iter its)(hk:∀ ς,gKeep g (captD js ς))(hne:noExc g)
 (hin:‹"aG"›)
 (hx:∀ x,¬ C.XD x:=by exact fun _ h=>h) (hs:∀ x,foldedSetIterable iter C.X.env x=pure x:=by intro _;rfl):DF C ‹"q"› (eComp js its g c e):=by
 obtain⟨wi,pi,h⟩:=compT hi hx hk hne hin
 exact⟨_,QNY hc S pi hs,h⟩
variable{i:Nat}{x:Str}{px spos:Pos}
theorem Qhm(hc:C.X.calm=true)(S:QC N' js scope C.X.env.scope C.X.N)(hi:DIB C tg iter its)(hk:∀ ς,gKeep g (captD js ς))(hne:noExc g)
 (hin:‹"aG"›)
 (hN:C.X.N.Nodup) (hxN:C.X.N[i]?=some x) (hl:Loc C.X.env.scope x)
 (hsw:swapsWith ‹"q"› (some (.Name x px)) spos.line C.X.env=pure true:=by rfl)
 (hf:C.X.fn x=true∨C.X.env.scope.names.lookup x=some .local:=by first | exact .inl rfl | exact .inr rfl | assumption)
 (hx:∀ x,¬ C.XD x:=by exact fun _ h=>h) (hs:∀ x,foldedSetIterable iter C.X.env x=pure x:=by intro _;rfl):DS C (.Assign [.Name x px] ‹"q"› spos) (sSet i (eComp js its g c e)):=by
 obtain⟨wi,pi,h⟩:=compT hi hx hk hne hin
 refine⟨_,QNE hc S pi hN hxN hl hsw hf hs,fun G H σ ς W S k=>?_⟩
 unfold sSet at k
 rw[Out.post_bind]at k
 exact h G H σ ς _ S (Out.post_mono k fun d k=>KD.ofF (Q:=fun v H1=>W.nx (σ.set i (some v)) H1) S fun v H1 G1 S1 a1 b1 r1=>k _ H1 G1 (S1.set i r1) b1)
end
end DL
namespace L2
open PySem PySem.Spec PyProof.Rows
def Its(x:Str):It:=⟨fun i _=>i<x.cps.size,fun i H v H'=>H'=H/\∃ c,x.cps[i]?=some c/\v=.str ⟨#[c]⟩,fun i _=>x.cps.size<=i⟩
section
variable{X:Cx}{tg:Expr}
theorem QzD{P:Program}{w:World}{K:PySem.W.Frag}{tg:Expr}{x:Str}{ty:String}{t:Tok}(it:Addr)(hn:["enumerate","zip","dict_itemiterator","dict_reverseitemiterator","odict_iterator","itertools.zip_longest","itertools.pairwise"].contains ty=false)
 (hs:∀(A:Around)(i:Nat)(s:Shared)(Q:‹"k"›)(E:‹"k"›),s.heap.IsStrIter it ty x t i->Q (.ref it) s->wpAny (model P w) A (pyIter (.ref it)) Q E s)
 (W:∀ A':Around,A'.handled=none->Walks P w A' it [it] [it] x.cps.size (SignAt x) (fun i h=>h.IsStrIter it ty x t i)):Turn P w K tg (Its x) [it] it (fun i h=>h.IsStrIter it ty x t i/\i<=x.cps.size) where
 mem:=by simp
 obj:=fun i h st b hb=>by
  have e:b=it:=by simpa using hb
  subst e
  obtain⟨⟨o,e,c,d⟩,_⟩:=st
  exact⟨o,e,fun v z=>by rw[d]at z;cases z⟩
 keep:=fun i h h' st k=>⟨by obtain⟨⟨o,e,c,d⟩,_⟩:=st;exact⟨o,k it (by simp) o e,c,d⟩,st.2⟩
 item:=by
  intro X hP hw hK hc i pins s σ H E I hf st hg
  subst hP hw hK
  obtain⟨f0,f1,f2,f3,f4,f5⟩:=hf it (by simp)
  refine(W X.A (I.ok.hd hc)).item i s _ _ hg st.1 fun v h' tk hv st' kk=>?_
  obtain⟨c,u,hcx,rfl⟩:=hv
  have I1:Inv X pins σ H { s with heap:=h',toks:=tk }:=I.turned (fun b o hb e=>kk b o (by simpa using hb) e) f0 f1 f3 f4 f5
  obtain⟨o,e,c',d⟩:=id st'
  exact⟨_,rfl,go_of (s:={ s with heap:=h',toks:=tk }) e c' d hn ⟨.str ⟨#[c]⟩,H,I1,⟨u,rfl⟩,⟨rfl,c,hcx,rfl⟩,⟨st',hg⟩,fun b hb=>(hf b hb).1⟩⟩
 done:=by
  intro X hP hw hK hc i pins s σ H E I hf st hg
  subst hP hw hK
  obtain⟨f0,f1,f2,f3,f4,f5⟩:=hf it (by simp)
  have hg':x.cps.size<=i:=hg
  have e:i=x.cps.size:=Nat.le_antisymm st.2 hg'
  subst e
  exact(W X.A (I.ok.hd hc)).done s _ _ st.1 fun h' tk kk=>⟨rfl,I.turned (fun b o hb e=>kk b o (by simpa using hb) e) f0 f1 f3 f4 f5⟩
 self:=fun A i s Q E st h=>hs A i s Q E st.1 h
def iStr(tl:TE):TI:=fun σ H R=>tl σ H fun x H1=>∃ z,x=.str z/\R (Its z) H1
theorem QO7{l:Expr}{tl:TE}(hl:PE X l tl):PI X tg l (iStr tl):=by
 intro pins s σ H R I h
 refine thn (hl pins s σ H _ I h) fun v s1 ⟨x,H1,I1,r1,q1⟩=>?_
 obtain⟨z,e,q⟩:=q1
 subst e
 obtain⟨t,rfl⟩:=r1
 cases ha:z.cps.all (· < 128)
 ·refine wpAny_pyIter_wide ha ⟨s1.heap.objs.size,[s1.heap.objs.size],_,_,H1,rfl,I1.kept (t':=s1.toks) fun b o e=>Heap.get?_push_of_some _ e,QzD (x:=z) (ty:="str_iterator") (t:=t) _ (by decide) (fun _ _ _ _ _ st h=>wpAny_pyIter_striter_wide st h) (fun A' hA=>Walks.strWide hA _ z t),⟨⟨_,Heap.get?_push_size _ rfl,rfl,rfl⟩,Nat.zero_le _⟩,fun b hb=>?_,q⟩
  have e:b=s1.heap.objs.size:=by simpa using hb
  subst e
  exact I1.fpOk ‹"an"› (I1.hok.fresh ‹"an"›)
 ·refine wpAny_pyIter_ascii ha ⟨s1.heap.objs.size,[s1.heap.objs.size],_,_,H1,rfl,I1.kept (t':=s1.toks) fun b o e=>Heap.get?_push_of_some _ e,QzD (x:=z) (ty:="str_ascii_iterator") (t:=t) _ (by decide) (fun _ _ _ _ _ st h=>wpAny_pyIter_striter_ascii st h) (fun A' hA=>Walks.strAscii hA _ z t),⟨⟨_,Heap.get?_push_size _ rfl,rfl,rfl⟩,Nat.zero_le _⟩,fun b hb=>?_,q⟩
  have e:b=s1.heap.objs.size:=by simpa using hb
  subst e
  exact I1.fpOk ‹"an"› (I1.hok.fresh ‹"an"›)
theorem QMd(bs:List Bool):(List.range bs.length).all (fun i=>(bs[i]?).getD false)=bs.all id:=by
 rw[Bool.eq_iff_iff,List.all_eq_true,List.all_eq_true]
 constructor
 ·intro h b hb
  obtain⟨i,hi,e⟩:=List.mem_iff_getElem.mp hb
  have:=h i (List.mem_range.mpr hi)
  rw[List.getElem?_eq_getElem hi,Option.getD_some,e]at this
  exact this
 ·intro h i hi
  have hi':=List.mem_range.mp hi
  rw[List.getElem?_eq_getElem hi',Option.getD_some]
  exact h _ (List.getElem_mem hi')
theorem QKr(bs:List Bool):(List.range bs.length).any (fun i=>(bs[i]?).getD false)=bs.any id:=by
 rw[Bool.eq_iff_iff,List.any_eq_true,List.any_eq_true]
 constructor
 ·rintro ⟨i,hi,h⟩
  have hi':=List.mem_range.mp hi
  rw[List.getElem?_eq_getElem hi',Option.getD_some]at h
  exact⟨_,List.getElem_mem hi',h⟩
 ·rintro ⟨b,hb,h⟩
  obtain⟨i,hi,e⟩:=List.mem_iff_getElem.mp hb
  exact⟨i,List.mem_range.mpr hi,by rw[List.getElem?_eq_getElem hi,Option.getD_some,e];exact h⟩
theorem QJ5(hc:X.calm=true):CallR X (.builtin "all") (fun xs H Q=>∃(p:Addr)(bs:List Bool),xs=[.ref p]/\SqL X.K H p (bs.map V.bl)/\Q (.bl (bs.all id)) H):=by
 intro pins s σ H xs us Q I r h
 obtain⟨p,bs,rfl,hq,q⟩:=h
 obtain⟨u,rfl,rx⟩:=vals1 r
 cases rx
 obtain⟨its,rv,pl,hz⟩:=I.list hq
 have hlen:=rv.length
 refine call_all_walk ?_
 refine wpAny_pyIter_list pl.isList ?_
 have hp:p<s.heap.objs.size:=by obtain⟨o,n,ho,_⟩:=pl;exact Heap.lt_size ho
 have hne:p≠s.heap.objs.size:=Nat.ne_of_lt hp
 refine⟨_,_,_,_,_,_,fun i=>(bs[i]?).getD false,rfl,Walks.list (A:=X.A.in1) (I.ok.hd hc) _ p hne its.toArray,⟨⟨_,Heap.get?_push_size _ rfl,rfl,rfl⟩,pl.isList.at fun o e=>Heap.get?_push_of_some _ e⟩,?_,fun h' tk kk=>⟨.bl (bs.all id),H,?_,?_,q⟩⟩
 ·intro i v s2 Q2 E2 hv hQ2
  have hv':its[i]?=some v:=by simpa using hv
  have hi:i<bs.length:=by
   have:=(List.getElem?_eq_some_iff.mp hv').1
   rw[List.length_map]at hlen
   omega
  obtain⟨y,hy,ry⟩:=rv.get (i:=i) (x:=.bl bs[i]) (by rw[List.getElem?_map,List.getElem?_eq_getElem hi];rfl)
  rw[hv']at hy
  cases hy
  cases ry
  have hQ2:Q2 ((bs[i]?).getD false) s2:=hQ2
  rw[List.getElem?_eq_getElem hi,Option.getD_some]at hQ2
  exact wpAny_pure hQ2
 ·exact I.kept fun b o e=>kk b o (by
   intro hb
   have e2:b=s.heap.objs.size:=by simpa using hb
   subst e2
   exact absurd (Heap.lt_size e) (Nat.lt_irrefl _)) (Heap.get?_push_of_some _ e)
 ·rw[List.size_toArray, ← hlen,List.length_map,QMd];exact rfl
theorem QKZ(hc:X.calm=true):CallR X (.builtin "any") (fun xs H Q=>∃(p:Addr)(bs:List Bool),xs=[.ref p]/\SqL X.K H p (bs.map V.bl)/\Q (.bl (bs.any id)) H):=by
 intro pins s σ H xs us Q I r h
 obtain⟨p,bs,rfl,hq,q⟩:=h
 obtain⟨u,rfl,rx⟩:=vals1 r
 cases rx
 obtain⟨its,rv,pl,hz⟩:=I.list hq
 have hlen:=rv.length
 refine call_any_walk ?_
 refine wpAny_pyIter_list pl.isList ?_
 have hp:p<s.heap.objs.size:=by obtain⟨o,n,ho,_⟩:=pl;exact Heap.lt_size ho
 have hne:p≠s.heap.objs.size:=Nat.ne_of_lt hp
 refine⟨_,_,_,_,_,_,fun i=>(bs[i]?).getD false,rfl,Walks.list (A:=X.A.in1) (I.ok.hd hc) _ p hne its.toArray,⟨⟨_,Heap.get?_push_size _ rfl,rfl,rfl⟩,pl.isList.at fun o e=>Heap.get?_push_of_some _ e⟩,?_,fun h' tk kk=>⟨.bl (bs.any id),H,?_,?_,q⟩⟩
 ·intro i v s2 Q2 E2 hv hQ2
  have hv':its[i]?=some v:=by simpa using hv
  have hi:i<bs.length:=by
   have:=(List.getElem?_eq_some_iff.mp hv').1
   rw[List.length_map]at hlen
   omega
  obtain⟨y,hy,ry⟩:=rv.get (i:=i) (x:=.bl bs[i]) (by rw[List.getElem?_map,List.getElem?_eq_getElem hi];rfl)
  rw[hv']at hy
  cases hy
  cases ry
  have hQ2:Q2 ((bs[i]?).getD false) s2:=hQ2
  rw[List.getElem?_eq_getElem hi,Option.getD_some]at hQ2
  exact wpAny_pure hQ2
 ·exact I.kept fun b o e=>kk b o (by
   intro hb
   have e2:b=s.heap.objs.size:=by simpa using hb
   subst e2
   exact absurd (Heap.lt_size e) (Nat.lt_irrefl _)) (Heap.get?_push_of_some _ e)
 ·rw[List.size_toArray, ← hlen,List.length_map,QKr];exact rfl
end
end L2
namespace DL
open PySem PySem.Spec PyProof.Rows L2
def signs(z:Str):List D:=z.cps.toList.map fun c=>D.str ⟨#[c]⟩
def itS(E:SD->Out D):SD->Out (List D):=fun ς=>E ς>>=fun d=>match d with | .str z=>.ok (signs z) | _=>.stuck
section
variable{C:Dc}{e tg iter a b:Expr}{E A B:SD->Out D}{pos p:Pos}{es:List Expr}{AA:SD->Out (List D)}
theorem QOa{K:PySem.W.Frag}{CT:CTab}{G1:Hp}{z:Str}:DIt K CT G1 (Its z) (signs z) where
 go:=fun G H i d s1 sH hd=>by
  unfold signs at hd
  rw[List.getElem?_map]at hd
  cases hc:z.cps.toList[i]? with
  | none=>rw[hc]at hd;cases hd
  | some c=>
   rw[hc]at hd
   cases hd
   have hi:i<z.cps.size:=by
    have:=(List.getElem?_eq_some_iff.mp hc).1
    simpa using this
   refine⟨hi,fun x H' ⟨e,c',h1,h2⟩=>?_⟩
   subst e h2
   have h1':z.cps.toList[i]?=some c':=by simpa using h1
   rw[hc]at h1'
   cases h1'
   exact⟨G,Same.refl _,Same.refl _,sH,fun b g n=>absurd g n,rfl⟩
 stop:=fun G H s1 sH=>by
  unfold signs
  show z.cps.size<=_
  rw[List.length_map];simp
theorem QPK(h:DB C iter E):DI C tg iter (itS E):=by
 obtain⟨t,p,q⟩:=h
 refine⟨_,QO7 p,fun G H σ ς R S k=>?_⟩
 unfold itS at k
 rw[Out.post_bind]at k
 refine q G H σ ς _ S (Out.post_mono k fun d k v H1 G1 S1 a1 b1 r1=>?_)
 cases d with
 | str z=>cases r1;exact⟨z,rfl,k _ H1 G1 S1 a1 b1 QOa⟩
 | _=>exact k.elim
def dIn:D->D->Out D
 | .str x,.str y=>.ok (.bl (!(Builtin.Str.occurrences y x 0 y.length 1).isEmpty))
 | _,_=>.stuck
theorem QPw:DRS C (fun x y H Q=>∃ i j,x=.str i/\y=.str j/\Q (.bl (!(Builtin.Str.occurrences j i 0 j.length 1).isEmpty)) H) dIn:=by
 intro G H σ ς Q x y vx vy S hx hy q
 cases x with
 | str x=>
  cases y with
  | str y=>cases hx;cases hy;exact⟨x,y,rfl,rfl,q.2⟩
  | _=>exact q.elim
 | _=>cases y<;>exact q.elim
theorem QOr:scal2 dIn:=fun x y=>by cases x<;>cases y<;>first | exact rfl | exact True.intro
theorem de_in(ha:DB C a A)(hb:DB C b B)(hm:behindInMarks .In b=false:=by rfl):DE C (.Compare a [.In] [b] pos) (e2 dIn A B):=QDZ QL0 QPw QOr ha hb hm
def blsOf:List D->Option (List Bool)
 | []=>some []
 | .bl b::r=>(blsOf r).map (b :: ·)
 | _::_=>none
theorem QrX{K:PySem.W.Frag}{CT:CTab}{H:Hp}:∀{ds:List D}{bs:List Bool}{vs:List V},blsOf ds=some bs->RepL K CT H ds vs->vs=bs.map V.bl
 | [],bs,vs,h,r=>by cases h;exact r
 | d::ds,bs,vs,h,⟨v,w,h1,h2,h3⟩=>by
  cases d with
  | bl b=>
   cases e:blsOf ds with
   | none=>rw[blsOf,e]at h;cases h
   | some cs=>
    rw[blsOf,e]at h
    cases h
    cases h2
    rw[h1,QrX e h3];rfl
  | _=>cases h
def fAll:D->Out D
 | .lst xs=>match blsOf xs with | some bs=>.ok (.bl (bs.all id)) | none=>.stuck
 | _=>.stuck
def fAny:D->Out D
 | .lst xs=>match blsOf xs with | some bs=>.ok (.bl (bs.any id)) | none=>.stuck
 | _=>.stuck
theorem QjA(hc:C.X.calm=true)(hg:Gl C.X "all")(hm:C.X.mg "all"=none)(ha:DAB C (e::es) AA)
 (he:‹"c"›:=by rfl) (hpl:(backTo pos ‹"az"›).any (·.1)=false:=by rfl):DE C (.Call (.Name "all" p) (e::es) [] pos) (eA (f1 fAll) AA):=by
 refine Qve (QJ5 hc) (QBS ?_) (QxJ ?_) hg hm PyProof.Rows.Boot.«all» ha (by decide) (by decide) he hpl
 ·intro G H σ ς Q x v S r q
  cases x with
  | lst xs=>
   cases eb:blsOf xs with
   | none=>rw[fAll,eb]at q;exact q.elim
   | some bs=>
    rw[fAll,eb]at q
    obtain⟨a,vs,rfl,h2,h3⟩:=r
    rw[QrX eb h3]at h2
    exact⟨a,bs,rfl,h2,q.2⟩
  | _=>exact q.elim
 ·intro x
  cases x with
  | lst xs=>
   rw[fAll]
   cases blsOf xs with
   | none=>exact True.intro
   | some bs=>exact rfl
  | _=>exact True.intro
theorem QP1(hc:C.X.calm=true)(hg:Gl C.X "any")(hm:C.X.mg "any"=none)(ha:DAB C (e::es) AA)
 (he:‹"c"›:=by rfl) (hpl:(backTo pos ‹"az"›).any (·.1)=false:=by rfl):DE C (.Call (.Name "any" p) (e::es) [] pos) (eA (f1 fAny) AA):=by
 refine Qve (QKZ hc) (QBS ?_) (QxJ ?_) hg hm PyProof.Rows.Boot.«any» ha (by decide) (by decide) he hpl
 ·intro G H σ ς Q x v S r q
  cases x with
  | lst xs=>
   cases eb:blsOf xs with
   | none=>rw[fAny,eb]at q;exact q.elim
   | some bs=>
    rw[fAny,eb]at q
    obtain⟨a,vs,rfl,h2,h3⟩:=r
    rw[QrX eb h3]at h2
    exact⟨a,bs,rfl,h2,q.2⟩
  | _=>exact q.elim
 ·intro x
  cases x with
  | lst xs=>
   rw[fAny]
   cases blsOf xs with
   | none=>exact True.intro
   | some bs=>exact rfl
  | _=>exact True.intro
theorem QMF{X:Cx}:PE X (.Dict [] [] pos) (fun _ H Q=>∀ p,H p=none->Q (.ref p) (upd H p (.dK []))):=fun pins s σ H Q I h=>by
 have hb:sysModules<s.heap.objs.size:=Nat.lt_trans (by decide) (show mainGlobals<s.heap.objs.size from(I.mod.glob.keeps I.bk).lt)
 exact wpAny_Dict_empty ⟨.ref s.heap.objs.size,_,I.laid (a:=s.heap.objs.size) (o:=.dK []) (t':=s.toks) (fun _ _ q=>Heap.get?_push_of_some _ q) ‹"an"›
  ⟨Nat.zero_le _,beq_eq_false_iff_ne.mpr (Ne.symm (Nat.ne_of_lt hb)),[],.nil,Heap.DictOf.new s.heap⟩,rfl,h _ (I.hok.fresh ‹"an"›)⟩
def eDic0:SD->Out D:=fun _=>.ok (.dic [])
theorem QN7:DF C (.Dict [] [] pos) eDic0:=⟨_,QMF,fun G H σ ς Q S q p hp=>by
 have q:KF C G H σ ς Q (.dic []):=q
 exact q p _ G (S.allocO hp) (QD hp) (Same.refl _) hp (S.gnone hp) ⟨[],QO,rfl⟩⟩
end
end DL
namespace DL
open PySem PySem.Spec PyProof.Rows L2
def ctOf(K:PySem.W.Frag):CTab:=fun c=>match PySem.W.nsIn K mainGlobals c with | some (some (.ref a))=>some a | _=>none
theorem ct_of{K:PySem.W.Frag}{c:Str}{a:Addr}(h:PySem.W.nsIn K mainGlobals c=some (some (.ref a))):ctOf K c=some a:=by unfold ctOf;rw[h]
structure Rz(C:Dc)(E:XK):Prop where
 pass:QhG (CXR C.X.prog C.X.w) C.X E
 xd:∀ d,C.XD d->∃ c Cc,d=.err c/\C.CT c=some Cc/\∀ H',(∀ b o,C.X.H₀ b=some o->¬ C.M b->H' b=some o)->E (.ref Cc) none H'
 made:∀(Cc:Addr) pins σ H1 s1 ea h' vs,Inv C.X pins σ H1 s1->Heap.MadeExcOf s1.heap h' ea (.ref Cc) vs->E (.ref Cc) none H1->C.X.xe (.ref ea) { s1 with heap:=h' }
 calm:C.X.calm=true
theorem rz0{C:Dc}(hx:∀ d,¬ C.XD d:=by exact fun _ h=>h)(hc:C.X.calm=true:=by rfl):Rz C E0 where
 pass:=fun pins σ H s e s' I h=>by obtain⟨_,_,_,_,_,_,_,z⟩:=h;exact z.elim
 xd:=fun d h=>absurd h (hx d)
 made:=fun Cc pins σ H1 s1 ea h' vs I hx hE=>hE.elim
 calm:=hc
abbrev Dc.nox(C:Dc):Dc:={ C with X:=C.X.nox,XD:=fun _=>False }
def noX{α:Type}:Out α->Out α
 | .exc _=>.stuck
 | o=>o
theorem QPl{α:Type}(a:α):noX (.ok a)=.ok a:=rfl
theorem QDL{α:Type}{o:Out α}{k:α->Prop}{x:D->Prop}(h:(noX o).post k x):o.post k (fun _=>False):=by cases o<;>exact h
section
variable{C:Dc}{G H:Hp}{σ:St}{ς:SD}{e:Expr}{es:List Expr}{st:Stmt}{sts:List Stmt}
theorem GH.nox(S:GH C G H):GH C.nox G H:=⟨S.sub,S.g0,S.new,S.fr,S.dom,S.bs,S.bh⟩
theorem GH.unnox(S:GH C.nox G H):GH C G H:=⟨S.sub,S.g0,S.new,S.fr,S.dom,S.bs,S.bh⟩
theorem StR.nox(S:‹"ax"›):StR C.nox G H σ ς:=⟨S.toGH.nox,S.len,S.fz,S.ow,S.ln,S.inj,S.sf,S.su⟩
theorem StR.unnox(S:StR C.nox G H σ ς):StR C G H σ ς:=⟨S.toGH.unnox,S.len,S.fz,S.ow,S.ln,S.inj,S.sf,S.su⟩
theorem PA.nox'{X:Cx}{t:TA}(h:PA X.nox es t):PA X es t:=fun pos pins s σ H Q I q=>PA.nox h I q
theorem DA.lift{A:‹"aq"›}(h:DA C.nox es A):DA C es (fun ς=>noX (A ς)):=by
 obtain⟨t,p,q⟩:=h
 exact⟨t,PA.nox' p,fun G H σ ς Q S k=>q G H σ ς Q S.nox (Out.post_mono (QDL k) fun d kd v H' G' S' a b r=>kd v H' G' S'.unnox a b r)⟩
theorem FlK.nox{W:Ends}{f:Fl}(h:FlK C G W f):FlK C.nox G W f:=by
 cases f with
 | nx ς=>exact fun σ' H' G' S q=>h σ' H' G' S.unnox q
 | bk ς=>exact fun σ' H' G' S q=>h σ' H' G' S.unnox q
 | ct ς=>exact fun σ' H' G' S q=>h σ' H' G' S.unnox q
 | rt b d=>exact fun v H' G' S q r=>h v H' G' S.unnox q r
theorem PS.nox'{X:Cx}{t:TS}(h:PS X.nox st t):PS X st t:=fun pins s σ H D I hw=>
 wpAny_mono (h pins s σ H D (I.wish _) hw) (fun _ _ q=>q.unwish) fun _ _ z=>False.elim z
theorem DS.lift{T:SD->Out Fl}(h:DS C.nox st T):DS C st (fun ς=>noX (T ς)):=by
 obtain⟨t,p,q⟩:=h
 exact⟨t,PS.nox' p,fun G H σ ς W S k=>q G H σ ς W S.nox (Out.post_mono (QDL k) fun f kf=>kf.nox)⟩
variable{x:Str}{k:Nat}{fr:Bool}{dd:List D}{m:List D->Out D}{A:SD->Out (List D)}{p pos:Pos}{E:XK}
end
end DL
namespace DL
open PySem PySem.Spec PyProof.Rows L2
section
variable{C:Dc}{x:Str}{k:Nat}{fr:Bool}{dd:List D}{m:List D->Out D}{e:Expr}{es:List Expr}{A:SD->Out (List D)}{p pos:Pos}
variable{T U:SD->Out FX}{TE:SD->Out EX}{st:Stmt}{sts rest:List Stmt}{i:Nat}{px:Pos}
section
variable{G H:Hp}{σ:St}{ς:SD}{ea:Addr}
end
end
end DL
namespace L2
open PySem PySem.Spec PyProof.Rows
end L2
namespace DL
open PySem PySem.Spec PyProof.Rows L2
section
variable{C:Dc}{pos p:Pos}{e cx:Expr}{E:SD->Out D}
end
end DL
namespace L2
open PySem PySem.Spec PyProof.Rows
def Itz(K:PySem.W.Frag)(a b:Addr):It:=
 ⟨fun i H=>∃ xs ys x y,SqL K H a xs/\SqL K H b ys/\xs[i]?=some x/\ys[i]?=some y,
  fun i H v H'=>∃ p x y,H p=none/\v=.ref p/\H'=upd H p (.tup [x,y])/\(∀ xs,SqL K H a xs->xs[i]?=some x)/\∀ ys,SqL K H b ys->ys[i]?=some y,
  fun i H=>∃ xs ys,SqL K H a xs/\SqL K H b ys/\(xs.length<=i∨ys.length<=i)⟩
theorem QMw{P:Program}{w:World}{K:PySem.W.Frag}{elts:List Expr}{k1:Nat}{pos:Pos}{z TI TO i1 i2 l1 l2:Addr}(D:ZipApart z TI TO i1 i2 l1 l2):
 Turn P w K (.Tuple elts k1 pos) (Itz K l1 l2) [z,TI,TO,i1,i2] z (fun i h=>IsZip h z TI TO .none/\IsPair h TI (.ref i1) (.ref i2)/\(∃ a b,IsPair h TO a b)/\h.IsListIter i1 l1 i/\h.IsListIter i2 l2 i) where
 mem:=by simp
 obj:=fun i h st b hb=>by
  obtain⟨s1,s2,⟨_,_,s3⟩,⟨o4,e4,c4,d4⟩,⟨o5,e5,c5,d5⟩⟩:=st
  simp only[List.mem_cons,List.not_mem_nil,or_false]at hb
  rcases hb with rfl | rfl | rfl | rfl | rfl
  ·exact⟨_,s1,fun v q=>by cases q⟩
  ·exact⟨_,s2,fun v q=>by cases q⟩
  ·exact⟨_,s3,fun v q=>by cases q⟩
  ·exact⟨_,e4,fun v q=>by rw[d4]at q;cases q⟩
  ·exact⟨_,e5,fun v q=>by rw[d5]at q;cases q⟩
 keep:=fun i h h' st k=>by
  obtain⟨s1,s2,⟨a,b,s3⟩,s4,s5⟩:=st
  exact⟨k z (by simp) _ s1,k TI (by simp) _ s2,⟨a,b,k TO (by simp) _ s3⟩,s4.at fun o e=>k i1 (by simp) o e,s5.at fun o e=>k i2 (by simp) o e⟩
 item:=by
  intro X hP hw hK hc i pins s σ H E I hf st hg
  subst hP hw hK
  obtain⟨xs,ys,x,y,q1,q2,hx,hy⟩:=hg
  obtain⟨its1,rv1,p1,hz1⟩:=I.list q1
  obtain⟨its2,rv2,p2,hz2⟩:=I.list q2
  obtain⟨u1,hu1,ru1⟩:=rv1.get hx
  obtain⟨u2,hu2,ru2⟩:=rv2.get hy
  obtain⟨s1,s2,⟨a,b,s3⟩,s4,s5⟩:=st
  refine wpAny_pyNext_zip_item D s1 s2 s3 s4 s5 p1.isList p2.isList (x:=u1) (y:=u2) (by simpa using hu1) (by simpa using hu2) fun h' a1 a2 a3 a4 a5 a6 hk=>?_
  have hT:H s.heap.objs.size=none:=I.hok.fresh ‹"an"›
  have fp:∀ c∈[z,TO,i1,i2],FpOk X pins H c:=fun c hc=>hf c (by
   simp only[List.mem_cons,List.not_mem_nil,or_false]at hc ⊢
   rcases hc with rfl | rfl | rfl | rfl<;>simp)
  have out:∀ c,c∉[z,TO,i1,i2]->∀ o,s.heap.get? c=some o->h'.get? c=some o:=fun c hc o e=>hk c o (fun q=>hc (by simp[q])) (fun q=>hc (by simp[q])) (fun q=>hc (by simp[q])) (fun q=>hc (by simp[q])) e
  have trk:∀ c o,H c=some o->c∉[z,TO,i1,i2]:=fun c o e hc=>by rw[(fp c hc).1]at e;cases e
  have hok:HOk X.prog X.w (upd H s.heap.objs.size (.tup [x,y])) h':=fun c o e=>by
   by_cases hcT:c=s.heap.objs.size
   ·subst hcT
    rw[QO]at e
    cases e
    exact⟨by show 2<=sizeLine;decide,[u1,u2],.cons ru1 (.cons ru2 .nil),⟨_,a5,rfl,_,rfl⟩⟩
   ·rw[Ql hcT]at e
    refine(I.hok c o e).stay (fun b u hb q=>out b ?_ u q) (fun b q=>?_) fun b ts q=>?_
    ·rcases hb with rfl | hb
     ·exact trk b _ e
     ·exact trk b _ hb
    ·rw[Ql (QY q hT)];exact q
    ·rw[Ql (QY q hT)];exact q
  have I1:Inv X pins σ (upd H s.heap.objs.size (.tup [x,y])) { s with heap:=h',gens:=s.gens,drawn:=s.drawn,toks:=s.toks }:=I.step (ch:=[z,TO,i1,i2])
   ‹"H"› (fun c o _ _ hc e _=>out c hc o e) (fun c o _ _ hc e _=>⟨o.slots,out c hc o e⟩)
   (fun c o hc e n=>by rw[Ql (Nat.ne_of_lt (Heap.lt_size e))];exact n) (fun c o hc e=>⟨o,out c hc o e⟩)
   (fun c ts e=>by rw[Ql (QY e hT)];exact e) (fun c o u e=>by rw[Ql (QY e hT)];exact e) (fun c ts e=>⟨#[],by rw[Ql (QY e hT),e];simp⟩)
   (fun m hm=>by
    obtain⟨o,es,ep,ho,r⟩:=hm
    exact⟨o,es,ep,out _ (fun hc=>(fp _ hc).2.1 rfl) o ho,r⟩) hok I.bare
  have lt:∀{c o},s.heap.get? c=some o->s.heap.objs.size≠c:=fun e=>Nat.ne_of_gt (Heap.lt_size e)
  refine⟨_,rfl,wpAny_letOwnedTupleGo_zip a1 fun h2 hz2 hs2=>?_⟩
  obtain⟨z0,z1,z2,z3,z4,z5⟩:=hf z (by simp)
  have I2:Inv X pins σ (upd H s.heap.objs.size (.tup [x,y])) { s with heap:=h2 }:=Inv.turned (s:={ s with heap:=h',gens:=s.gens,drawn:=s.drawn,toks:=s.toks }) (t':=s.toks) (it:=z) I1 (fun b o hb e=>(hs2.2 b hb).trans e) (by rw[Ql (lt s1).symm];exact z0) z1 z3 z4 z5
  refine⟨.ref s.heap.objs.size,_,I2,rfl,⟨_,x,y,hT,rfl,rfl,fun xs' q'=>by rw[I.list_inj q' q1];exact hx,fun ys' q'=>by rw[I.list_inj q' q2];exact hy⟩,
   ⟨hz2,hs2.extBut _ _ D.TIz (out TI (by simp[D.TIz,D.TITO,D.TIi1,D.TIi2]) _ s2),⟨_,_,hs2.extBut _ _ D.TOz a2⟩,a3.extBut hs2.extBut D.i1z,a4.extBut hs2.extBut D.i2z⟩,fun c hc=>?_⟩
  have:H c=none:=(hf c hc).1
  obtain⟨oc,hoc⟩:∃ o,s.heap.get? c=some o:=by
   simp only[List.mem_cons,List.not_mem_nil,or_false]at hc
   rcases hc with rfl | rfl | rfl | rfl | rfl
   ·exact⟨_,s1⟩
   ·exact⟨_,s2⟩
   ·exact⟨_,s3⟩
   ·obtain⟨o,e,_⟩:=s4;exact⟨o,e⟩
   ·obtain⟨o,e,_⟩:=s5;exact⟨o,e⟩
  rw[Ql (lt hoc).symm];exact this
 done:=by
  intro X hP hw hK hc i pins s σ H E I hf st hg
  subst hP hw hK
  obtain⟨xs,ys,q1,q2,hend⟩:=hg
  obtain⟨its1,rv1,p1,hz1⟩:=I.list q1
  obtain⟨its2,rv2,p2,hz2⟩:=I.list q2
  have l1:=rv1.length
  have l2:=rv2.length
  obtain⟨s1,s2,⟨a,b,s3⟩,s4,s5⟩:=st
  have fp:∀ c∈[z,TO,i1,i2],FpOk X pins H c:=fun c hc=>hf c (by
   simp only[List.mem_cons,List.not_mem_nil,or_false]at hc ⊢
   rcases hc with rfl | rfl | rfl | rfl<;>simp)
  refine wpAny_pyNext_zip_end (I.ok.hd hc) D s1 s2 s3 s4 s5 p1.isList p2.isList (by simp;omega) fun h' hk=>⟨rfl,?_⟩
  have out:∀ c,c∉[z,TO,i1,i2]->∀ o,s.heap.get? c=some o->h'.get? c=some o:=fun c hc o e=>hk c o (fun q=>hc (by simp[q])) (fun q=>hc (by simp[q])) (fun q=>hc (by simp[q])) (fun q=>hc (by simp[q])) e
  have trk:∀ c o,H c=some o->c∉[z,TO,i1,i2]:=fun c o e hc=>by rw[(fp c hc).1]at e;cases e
  exact I.step (g':=s.gens) (d':=s.drawn) (t':=s.toks) (ch:=[z,TO,i1,i2]) ‹"H"› (fun c o _ _ hc e _=>out c hc o e) (fun c o _ _ hc e _=>⟨o.slots,out c hc o e⟩)
   (fun c o hc e n=>n) (fun c o hc e=>⟨o,out c hc o e⟩) (fun c ts e=>e) (fun c o u e=>e) (fun c ts e=>⟨#[],by rw[e];simp⟩)
   (fun m hm=>by
    obtain⟨o,es,ep,ho,r⟩:=hm
    exact⟨o,es,ep,out _ (fun hc=>(fp _ hc).2.1 rfl) o ho,r⟩)
   (fun c o e=>(I.hok c o e).stay (fun b u hb q=>out b (by
    rcases hb with rfl | hb
    ·exact trk b _ e
    ·exact trk b _ hb) u q) (fun b q=>q) fun b ts q=>q) I.bare
 self:=fun _ _ _ _ _ st h=>wpAny_pyIter_zip st.1 h
section
variable{X:Cx}
theorem QJ8(n l1 l2:Nat)(h1:l1<n)(h2:l2<n):ZipApart (n+4) (n+2) (n+3) n (n+1) l1 l2:=⟨(show ¬ ((n+2:Nat)=n+4) by omega),(show ¬ ((n+3:Nat)=n+4) by omega),(show ¬ ((n:Nat)=n+4) by omega),(show ¬ ((n+1:Nat)=n+4) by omega),(show ¬ ((n+2:Nat)=n+3) by omega),(show ¬ ((n+2:Nat)=n) by omega),(show ¬ ((n+2:Nat)=n+1) by omega),(show ¬ ((n+3:Nat)=n) by omega),(show ¬ ((n+3:Nat)=n+1) by omega),(show ¬ ((n:Nat)=n+1) by omega),(show ¬ ((l1:Nat)=n+4) by omega),(show ¬ ((l1:Nat)=n+3) by omega),(show ¬ ((l1:Nat)=n) by omega),(show ¬ ((l1:Nat)=n+1) by omega),(show ¬ ((l2:Nat)=n+4) by omega),(show ¬ ((l2:Nat)=n+3) by omega),(show ¬ ((l2:Nat)=n) by omega),(show ¬ ((l2:Nat)=n+1) by omega)⟩
def iZip(K:PySem.W.Frag)(ta:TA):TI:=fun σ H R=>ta σ H fun vs H1=>∃ a b,vs=[.ref a,.ref b]/\(∃ xs,SqL K H1 a xs)/\(∃ ys,SqL K H1 b ys)/\R (Itz K a b) H1
theorem QO9{elts:List Expr}{k1:Nat}{tpos:Pos}{a b:Expr}{ta:TA}{p pos:Pos}(hg:Gl X "zip")(hm:X.mg "zip"=none)(ha:PA X [a,b] ta)(hs:starEach [a,b] X.env=[(false,eval a X.env),(false,eval b X.env)]:=by rfl)(hs2:starEach [b] X.env=[(false,eval b X.env)]:=by rfl):
 PI X (.Tuple elts k1 tpos) (.Call (.Name "zip" p) [a,b] [] pos) (iZip X.K ta):=by
 intro pins s σ H R I h
 refine Call_ (QjE I hg hm PyProof.Rows.Boot.«zip» (PyProof.Rows.callWith_type1 (thn (ha pos pins s σ H _ I h) fun us s1 ⟨vs,H1,I1,r1,q1⟩=>?_) (by rw[hs,hs2]) (by rw[hs2];rfl)))
 obtain⟨l1,l2,e,⟨xs,hx⟩,⟨ys,hy⟩,q⟩:=q1
 subst e
 cases r1 with
 | cons r rr=>
  cases rr with
  | cons r' rr=>
   cases rr
   cases r
   cases r'
   obtain⟨its1,rv1,p1,hz1⟩:=I1.list hx
   obtain⟨its2,rv2,p2,hz2⟩:=I1.list hy
   have n1:l1<s1.heap.objs.size:=by obtain⟨o,n,ho,_⟩:=p1;exact Heap.lt_size ho
   have n2:l2<s1.heap.objs.size:=by obtain⟨o,n,ho,_⟩:=p2;exact Heap.lt_size ho
   refine call_zip_2 p1.isList p2.isList fun h' c1 c2 c3 c4 c5 c6 hk=>?_
   refine wpAny_pyIter_zip c1 ?_
   refine⟨_,_,_,Itz X.K l1 l2,H1,rfl,I1.kept (t':=s1.toks) fun b o e=>hk b o e,QMw (i1:=s1.heap.objs.size) (i2:=s1.heap.objs.size+1) (TI:=s1.heap.objs.size+2) (TO:=s1.heap.objs.size+3) (z:=s1.heap.objs.size+4) (l1:=l1) (l2:=l2)
    (QJ8 s1.heap.objs.size l1 l2 n1 n2),⟨c1,c2,⟨_,_,c3⟩,c4,c5⟩,fun b hb=>?_,q⟩
   have hb':s1.heap.objs.size<=b:=by
    simp only[List.mem_cons,List.not_mem_nil,or_false]at hb
    rcases hb with rfl | rfl | rfl | rfl | rfl<;>omega
   exact I1.fpOk hb' (I1.hok.fresh hb')
end
end L2
namespace DL
open PySem PySem.Spec PyProof.Rows L2
def itZ(A B:SD->Out D):SD->Out (List D):=fun ς=>A ς>>=fun x=>B ς>>=fun y=>match x,y with
 | .lst xs,.lst ys=>.ok (List.zipWith (fun a b=>.tup [a,b]) xs ys)
 | _,_=>.stuck
section
variable{C:Dc}{a b:Expr}{A B:SD->Out D}
theorem QNO{K:PySem.W.Frag}{CT:CTab}{G1:Hp}{p q:Addr}{xs ys:List D}{us vs:List V}(h1:SqL K G1 p us)(r1:RepL K CT G1 xs us)(h2:SqL K G1 q vs)(r2:RepL K CT G1 ys vs):DIt K CT G1 (Itz K p q) (List.zipWith (fun a b=>D.tup [a,b]) xs ys) where
 go:=fun G H i d s1 sH hd=>by
  rw[List.getElem?_zipWith]at hd
  cases e1:xs[i]? with
  | none=>rw[e1]at hd;cases hd
  | some x=>
   cases e2:ys[i]? with
   | none=>rw[e1,e2]at hd;cases hd
   | some y=>
    rw[e1,e2]at hd
    cases hd
    obtain⟨u,hu,ru⟩:=r1.get e1
    obtain⟨v,hv,rv⟩:=r2.get e2
    have q1:SqL K H p us:=sH.seq (s1.seq h1)
    have q2:SqL K H q vs:=sH.seq (s1.seq h2)
    refine⟨⟨us,vs,u,v,q1,q2,hu,hv⟩,fun w H' ⟨t,x',y',n,e,e',k1,k2⟩=>?_⟩
    have z1:=k1 us q1
    have z2:=k2 vs q2
    rw[hu]at z1;cases z1
    rw[hv]at z2;cases z2
    subst e e'
    have gn:G t=none:=sH.free n
    refine⟨upd G t (.tup [u,v]),QD gn,QD n,Qr2 sH,fun b g g'=>?_,t,[u,v],rfl,SqT.of QO,⟨u,_,rfl,Rep.mono (s1.trans (QD gn)) x u ru,v,_,rfl,Rep.mono (s1.trans (QD gn)) y v rv,rfl⟩⟩
    by_cases hb:b=t
    ·subst hb;exact n
    ·rw[Ql hb]at g';exact absurd g g'
 stop:=fun G H s1 sH=>by
  refine⟨us,vs,sH.seq (s1.seq h1),sH.seq (s1.seq h2),?_⟩
  have l1:=r1.length
  have l2:=r2.length
  rw[List.length_zipWith]
  omega
theorem QD8{elts:List Expr}{k1:Nat}{tpos p pos:Pos}(hgl:Gl C.X "zip")(hm:C.X.mg "zip"=none)(ha:DE C a A)(hb:DE C b B)
 (hst:starEach [a,b] C.X.env=(false,eval a C.X.env)::starEach [b] C.X.env:=by rfl) (hst2:starEach [b] C.X.env=(false,eval b C.X.env)::starEach [] C.X.env:=by rfl):DI C (.Tuple elts k1 tpos) (.Call (.Name "zip" p) [a,b] [] pos) (itZ A B):=by
 obtain⟨t0,p0,q0⟩:=ha
 obtain⟨t3,p3,q3⟩:=hb
 refine⟨_,QO9 hgl hm (QbX p0 (QbX p3 QeS hst2) hst) (by rw[hst,hst2];rfl) (by rw[hst2];rfl),fun G H σ ς R S k=>?_⟩
 unfold itZ at k
 rw[Out.post_bind]at k
 refine q0 G H σ ς _ S (Out.post_mono k fun d k v H1 G1 S1 a1 b1 r=>?_)
 rw[Out.post_bind]at k
 refine q3 G1 H1 σ ς _ S1 (Out.post_mono k fun d2 k v2 H2 G2 S2 a2 b2 r'=>?_)
 cases d with
 | lst xs=>
  cases d2 with
  | lst ys=>
   obtain⟨p1,us,rfl,h1,r1⟩:=Rep.mono b2 _ v r
   obtain⟨p2,vs,rfl,h2,r2⟩:=r'
   exact⟨p1,p2,rfl,⟨us,S2.sub.seq h1⟩,⟨vs,S2.sub.seq h2⟩,k _ H2 G2 S2 (a1.trans a2) (b1.trans b2) (QNO h1 r1 h2 r2)⟩
  | _=>exact k.elim
 | _=>exact k.elim
end
end DL
namespace DL
open PySem PySem.Spec PyProof.Rows L2
def putD(f:Str)(d:D):List (Str×D)->List (Str×D)
 | []=>[(f,d)]
 | (g,x)::r=>if g=f then(g,d)::r else(g,x)::putD f d r
section
variable{K:PySem.W.Frag}{CT:CTab}{H H':Hp}
theorem RepF.look:∀{fds:List (Str×D)}{fs:List (Str×V)}{f:Str},RepF K CT H fds fs->(∀ d,fds.lookup f=some d->∃ v,fs.lookup f=some v/\Rep K CT H d v)/\(fds.lookup f=none->fs.lookup f=none)
 | [],_,f,h=>by cases h;exact⟨fun d z=>(by cases z),fun _=>rfl⟩
 | (k,d)::fds,_,f,⟨v,r,h1,h2,h3⟩=>by
  subst h1
  have ih:=RepF.look (f:=f) h3
  rw[List.lookup_cons,List.lookup_cons]
  cases f == k with
  | true=>exact⟨fun d' z=>by cases z;exact⟨v,rfl,h2⟩,fun z=>by cases z⟩
  | false=>exact ih
theorem RepF.len:∀{fds:List (Str×D)}{fs:List (Str×V)},RepF K CT H fds fs->fds.length=fs.length
 | [],_,h=>by cases h;rfl
 | (k,d)::fds,_,⟨v,r,h1,h2,h3⟩=>by subst h1;rw[List.length_cons,List.length_cons,RepF.len h3]
theorem RepF.put{f:Str}{d:D}{v:V}(q:Rep K CT H d v):∀{fds:List (Str×D)}{fs:List (Str×V)},RepF K CT H fds fs->RepF K CT H (putD f d fds) (putF f v fs)
 | [],_,h=>by cases h;exact⟨v,[],rfl,q,rfl⟩
 | (k,x)::fds,_,⟨u,r,h1,h2,h3⟩=>by
  subst h1
  unfold putD putF
  by_cases hk:k=f
  ·rw[if_pos hk,if_pos hk];exact⟨v,r,rfl,q,h3⟩
  ·rw[if_neg hk,if_neg hk];exact⟨u,_,rfl,h2,RepF.put q h3⟩
end
def FldOk(K:PySem.W.Frag)(CT:CTab)(cs:List Str)(f:Str):Prop:=∀ c,cs.contains c=true->∀ A,CT c=some A->Cls K A/\QlL K A f
def dFld(cs:List Str)(f:Str):D->Out D
 | .ins c fs=>if cs.contains c=true then optO (fs.lookup f) else .stuck
 | _=>.stuck
section
variable{C:Dc}{e:Expr}{E:SD->Out D}{f:Str}{cs:List Str}{pos:Pos}
theorem Qpo(hF:FldOk C.X.K C.CT cs f)(h:DE C e E)(hb:attributeBase e f C.X.env (eval e C.X.env)=eval e C.X.env:=by rfl):DE C (.Attribute e f pos) (e1 (dFld cs f) E):=by
 obtain⟨t,p,q⟩:=h
 refine⟨_,QPn p hb,fun G H σ ς Q S k=>?_⟩
 unfold e1 at k
 rw[Out.post_bind]at k
 refine q G H σ ς _ S (Out.post_mono k fun d k v H1 G1 S1 a1 b1 r=>?_)
 cases d with
 | ins c fds=>
  rcases QQ k with⟨hc,k⟩ | ⟨_,k⟩
  ·obtain⟨d,e1',kd⟩:=QcW k
   obtain⟨a,A,dx,fs,rfl,h1,h2,h3⟩:=r
   obtain⟨v,e2',rv⟩:=(RepF.look h3).1 d e1'
   obtain⟨cl,na⟩:=hF c hc A h1
   exact⟨a,A,dx,fs,v,rfl,S1.sub _ _ h2,cl,na,e2',KD.now (KD.later kd a1 b1) S1 rv⟩
  ·exact k.elim
 | _=>exact k.elim
theorem StR.writeS{G H:Hp}{σ:St}{ς:SD}(S:‹"ax"›){i:Nat}{p A dx:Addr}{c:Str}{fds fds':List (Str×D)}{fs':List (Str×V)}(hi:ς[i]?=some (some (.s,.ins c fds)))(hp:σ[i]?=some (some (.ref p)))(hc:C.CT c=some A)(r:RepF C.X.K C.CT G fds' fs'):
 StR C G (upd H p (.ins A dx fs')) σ (ς.set i (some (.s,.ins c fds'))):=by
 obtain⟨p',e1,hg,h0,⟨hM,hW⟩,hB,ow⟩:=S.sf i _ hi
 rw[hp]at e1;cases e1
 have ne:∀ b o,G b=some o->b≠p:=fun b o e z=>by subst z;rw[hg]at e;cases e
 have S':StR C G (upd H p (.ins A dx fs')) (σ.set i (some (.ref p))) (ς.set i (some (.s,.ins c fds'))):={
  sub:=fun b o e=>by rw[Ql (ne b o e)];exact S.sub b o e
  g0:=S.g0
  new:=S.new
  fr:=fun b o e m=>by
   rw[Ql (by rintro rfl;exact m hM)];exact S.fr b o e m
  dom:=fun b e=>by
   by_cases hb:b=p
   ·subst hb;rw[QO]at e;cases e
   ·rw[Ql hb]at e;exact S.dom b e
  bs:=fun b o e=>by
   rw[Ql (by rintro rfl;rw[hB]at e;cases e)];exact S.bs b o e
  bh:=S.bh
  len:=by rw[List.length_set,List.length_set];exact S.len
  fz:=fun j d h=>by
   rcases QH h with⟨rfl,h2,l⟩ | ⟨hne,h2⟩
   ·cases h2
   ·rw[Qs hne];exact S.fz j d h2
  ow:=fun j d h=>by
   rcases QH h with⟨rfl,h2,l⟩ | ⟨hne,h2⟩
   ·cases h2
   ·rw[Qs hne]
    obtain⟨q,a,b,c',w⟩:=S.ow j d h2
    have qp:q≠p:=by
     rintro rfl
     exact h0 c'
    exact⟨q,a,b,c',w.mono (Same.refl G) fun o z=>by rw[Ql qp];exact z⟩
  ln:=fun j d h=>by
   rcases QH h with⟨rfl,h2,l⟩ | ⟨hne,h2⟩
   ·cases h2
   ·rw[Qs hne];exact S.ln j d h2
  inj:=fun j k d1 d2 q hjk h1 h2 h3=>by
   rcases QH h1 with⟨rfl,q1,l⟩ | ⟨n1,q1⟩
   ·cases q1
   ·rcases QH h2 with⟨rfl,q2,l⟩ | ⟨n2,q2⟩
    ·cases q2
    ·rw[Qs n1]at h3
     rw[Qs n2]
     exact S.inj j k d1 d2 q hjk q1 q2 h3
  sf:=fun j d h=>by
   rcases QH h with⟨rfl,h2,l⟩ | ⟨hne,h2⟩
   ·cases h2
    exact⟨p,Qhk (by rw[S.len];exact l),hg,h0,⟨hM,hW⟩,hB,⟨A,dx,fs',hc,QO,r⟩⟩
   ·rw[Qs hne]
    obtain⟨q,a,b,c2,m,z,w⟩:=S.sf j d h2
    have qp:q≠p:=by
     rintro rfl
     exact S.su i j _ _ q hne hi h2 hp a
    exact⟨q,a,b,c2,m,z,w.mono (Same.refl G) fun o z=>by rw[Ql qp];exact z⟩
  su:=fun j k d1 d2 q hjk h1 h2 h3=>by
   have get:∀(j:Nat) d,(ς.set i (some (.s,D.ins c fds')))[j]?=some (some (.s,d))->∃ d',ς[j]?=some (some (.s,d')):=fun j d h=>by
    rcases QH h with⟨rfl,h2,l⟩ | ⟨hne,h2⟩
    ·exact⟨_,hi⟩
    ·exact⟨_,h2⟩
   obtain⟨d1',g1⟩:=get j d1 h1
   obtain⟨d2',g2⟩:=get k d2 h2
   rw[Qip hp]at h3 ⊢
   exact S.su j k d1' d2' q hjk g1 g2 h3 }
 rw[Qip hp]at S'
 exact S'
def sFldS(cs:List Str)(f:Str)(i:Nat)(E:SD->Out D):SD->Out Fl:=fun ς=>E ς>>=fun d=>match ς[i]? with
 | some (some (.s,.ins c fds))=>if (cs.contains c&&decide (fds.length<1000))=true then .ok (.nx (ς.set i (some (.s,.ins c (putD f d fds))))) else .stuck
 | _=>.stuck
theorem Qhq(i:Nat){x:Str}{px pa:Pos}(hF:FldOk C.X.K C.CT cs f)(h:DE C e E)(hN:C.X.N[i]?=some x:=by rfl)(hv:Vis C.X.env.scope x:=by first | exact Or.inl rfl | exact Or.inr (Or.inl rfl) | exact Or.inr (Or.inr rfl))
 (hd:‹"f"›:=by decide) (hcd:‹"C"›:=by decide)
 (hs:swapsWith e (some (.Attribute (.Name x px) f pa)) pos.line C.X.env=pure false:=by rfl):DS C (.Assign [.Attribute (.Name x px) f pa] e pos) (sFldS cs f i E):=by
 obtain⟨t,p,q⟩:=h
 refine⟨_,QPU ‹"aQ"› p hs,fun G H σ ς W S k=>?_⟩
 unfold sFldS at k
 rw[Out.post_bind]at k
 refine q G H σ ς _ S (Out.post_mono k fun d k v H1 G1 S1 a1 b1 r=>?_)
 split at k
 ·rename_i c fds z
  rcases QQ k with⟨hc,k⟩ | ⟨_,k⟩
  ·rw[Bool.and_eq_true]at hc
   obtain⟨pp,e1',hg,h0,hM,hB,A,dx,fs,hA,hH,rf⟩:=S1.sf i _ z
   obtain⟨cl,na⟩:=hF c hc.1 A hA
   refine⟨_,e1',pp,A,dx,fs,rfl,hH,cl,na,by rw[← rf.len];exact of_decide_eq_true hc.2,?_⟩
   exact(show FlK C G W (.nx (ς.set i (some (.s,.ins c (putD f d fds))))) from k) σ _ G1 (S1.writeS z e1' hA (rf.put r)) b1
  ·exact k.elim
 ·exact k.elim
end
end DL
namespace L2
open PySem PySem.Spec PyProof.Rows
section
variable{X:Cx}{CX:CXT}{k:Nat}{m:Str}{dvs:List V}{E:XK}{o e:Expr}{es:List Expr}{ta:TE}{t:TA}{apos pos:Pos}{cs:Addr->Sp->Prop}
def MTab(X:Cx)(CX:CXT)(k:Nat)(m:Str)(dvs:List V)(cs:Addr->Sp->Prop):Prop:=
 ∀ C sp,cs C sp->Cls X.K C/\∃ f fd ps ds,Meth X.K C m f/\FnOk X.prog X.w X.K X.mg X.base CX k f fd ps sp/\Binds X.K fd ps ds/\Vals dvs ds
def QKN(m:Str)(dvs:List V)(cs:Addr->Sp->Prop)(E:XK)(ta:TE)(t:TA):TE:=fun σ H Q=>ta σ H fun x H1=>∃ a C dx fs sp,x=.ref a/\H1 a=some (.ins C dx fs)/\cs C sp/\fs.lookup m=none/\t σ H1 fun vs H2=>sp (x::(vs++dvs)) H2 Q E
theorem QDw{pl:Sem Bool}(he:PE X o ta)(tab:MTab X CX k m dvs cs)(hr:Room k X.A)(hx:QhG CX X E)(ha:PA X (e::es) t)
 (hst:‹"l"›:=by rfl) (hpl:(backTo pos (starEach es X.env)).any (·.1)=false:=by rfl)
 (ht:eval (.Call (.Attribute o m apos) (e::es) [] pos) X.env=(do
  let ov ← eval o X.env
  standAt apos.atName
  let (f,first) ← holding [ov] (getMethod ov m pl)
  callWith pos f first (backTo pos (starEach (e::es) X.env)) (backToKw pos (keywordEach [] X.env))):=by rfl):
 PE X (.Call (.Attribute o m apos) (e::es) [] pos) (QKN m dvs cs E ta t):=by
 intro pins s σ H Q I h
 refine PySem.W.methodCall_KW (pl:=pl) (thn (he pins s σ H _ I h) fun u s1 ⟨x,H1,I1,rx,a,C,dx,fs,sp,ex,ea,hc,l,q⟩=>?_) ht
 subst ex
 obtain rfl:u=Value.ref a:=rx
 obtain⟨c,f,fd,ps,ds,hm,F,hb,hd⟩:=tab C sp hc
 refine Qxq I1 ea c hm l ?_
 refine PySem.W.callWith_K (first:=[.ref a]) (h₀:=X.base) I.ok.mod.kin hm.kp (thn (ha pos pins s1 σ H1 _ I1 q) fun us s2 ⟨vs,H2,I2,r,q2⟩=>⟨I2.kIn,?_⟩) hst hpl
 exact QBT (us:=.ref a::us) (vs:=.ref a::vs) F hr hb hd hx I2 (.cons rfl r) q2
theorem QKC{pl:Sem Bool}(he:PE X o ta)(tab:MTab X CX k m dvs cs)(hr:Room k X.A)(hx:QhG CX X E)
 (ht:eval (.Call (.Attribute o m apos) [] [] pos) X.env=(do
  let ov ← eval o X.env
  standAt apos.atName
  let (f,first) ← holding [ov] (getMethod ov m pl)
  callWith pos f first (backTo pos (starEach [] X.env)) (backToKw pos (keywordEach [] X.env))):=by rfl):
 PE X (.Call (.Attribute o m apos) [] [] pos) (QKN m dvs cs E ta tNil):=by
 intro pins s σ H Q I h
 refine PySem.W.methodCall_KW (pl:=pl) (thn (he pins s σ H _ I h) fun u s1 ⟨x,H1,I1,rx,a,C,dx,fs,sp,ex,ea,hc,l,q⟩=>?_) ht
 subst ex
 obtain rfl:u=Value.ref a:=rx
 obtain⟨c,f,fd,ps,ds,hm,F,hb,hd⟩:=tab C sp hc
 refine Qxq I1 ea c hm l ?_
 exact PySem.W.callWith_K0 (first:=[.ref a]) I1.kIn hm.kp (QBT (us:=[.ref a]) (vs:=[.ref a]) F hr hb hd hx I1 (.cons rfl .nil) q)
end
end L2
namespace DL
open PySem PySem.Spec PyProof.Rows L2
def XDofI(CT:CTab)(E:XK)(H:Hp)(p:Addr):D->Prop:=fun d=>∃ c C,d=.err c/\CT c=some C/\∀ H',(∀ b o,H b=some o->b≠p->H' b=some o)->E (.ref C) none H'
def SpI(K:PySem.W.Frag)(CT:CTab)(m:‹"aa"›):Sp:=fun vs H Q E=>∃ p c A dx fs fds vs' ds G0,vs=.ref p::vs'/\CT c=some A/\H p=some (.ins A dx fs)/\G0 p=none/\Same G0 H/\RepF K CT G0 fds fs/\RepL K CT G0 ds vs'/\
 (m c fds ds).post (fun fds'=>∀ H' G' fs' dx',Same G0 G'->(∀ b o,H b=some o->b≠p->H' b=some o)->Same G' H'->(∀ b,G0 b=none->G' b≠none->H b=none)->H' p=some (.ins A dx' fs')->RepF K CT G' fds' fs'->Q .non H') (XDofI CT E H p)
def Qtl(c:Str)(ς:SD):Out (List (Str×D)):=match (ς[0]?:Option (Option (SM×D))) with
 | some (some (SM.s,D.ins c' fds))=>if c'=c then .ok fds else .stuck
 | _=>.stuck
def QfA(c:Str):Fl->Out (List (Str×D))
 | .nx ς=>Qtl c ς
 | _=>.stuck
def bodyI(n len:Nat)(T:SD->Out Fl):Str->List (Str×D)->List D->Out (List (Str×D)):=fun c fds ds=>
 if ds.length+1=n then T (some (.s,.ins c fds)::(ds.map (fun d=>some (.k,d))++List.replicate (len - n) none))>>=QfA c else .stuck
abbrev dcI(P:Program)(w:World)(K:PySem.W.Frag)(mg:‹"Y"›)(base:Heap)(CT:CTab)(N:List Str)(qual:Str)(sc:Scope)(f:Addr)(cdv:Value)(A:Around)(outer:List Env)(s:Shared)(H:Hp)(E:XK)(G:Hp)(p:Addr):Dc:=
 { X:=cxOf (CXR P w) P w K mg base N qual sc f cdv A outer s H E,CT:=CT,G0:=G,XD:=XDofI CT E H p,B:=fun b=>if b=p then none else H b,M:=fun b=>b=p,W:=fun _=>some p }
theorem fnI{P:Program}{w:World}{K:PySem.W.Frag}{mg:‹"Y"›}{base:Heap}{CT:CTab}{x qual:Str}{st:Stmt}{f:Addr}{fd:FuncData}{dV:Value}{N ps:List Str}{k:Nat}{T:SD->Out Fl}
 (F:FunV K x qual st f fd dV) (S:Qr N ps (Qa st))
 (hb:∀(cdv:Value)(A:Around)(outer:List Env)(s:Shared)(H:Hp)(E:XK)(G:Hp)(p:Addr),Room k ‹"ay"›->DSs (dcI P w K mg base CT N qual (Qa st) f cdv A outer s H E G p) (Qp st) T):
 FnOk P w K mg base (CXR P w) (k+1) f fd ps (SpI K CT (bodyI ps.length N.length T)):=by
 obtain⟨oc,od,kV,doc,pm,an,cdv,ct,osl,rfl,lk,hcd⟩:=F.ex
 have hpl:ps.length<=N.length:=by have:=congrArg List.length S.pre;rw[List.length_take]at this;omega
 have len:∀ vs H Q E,SpI K CT (bodyI ps.length N.length T) vs H Q E->vs.length=ps.length:=by
  intro vs H Q E ⟨p,c,A,dx,fs,fds,vs',ds,G0,e,_,_,_,_,_,r,q⟩
  unfold bodyI at q
  by_cases hl:ds.length+1=ps.length
  ·rw[e,List.length_cons, ← r.length];exact hl
  ·rw[if_neg hl]at q;exact q.elim
 refine fn_of lk hcd S len fun A outer s H vs Q E hr hsp=>?_
 have hlen:=len vs H Q E hsp
 obtain⟨p,c,Ac,dx,fs,fds,vs',ds,G0,rfl,hct,hp,hg,sub,rf,r,q⟩:=hsp
 obtain⟨t,p1,q1⟩:=hb cdv A outer s H E G0 p hr
 have hl:ds.length+1=ps.length:=by rw[r.length];exact hlen
 refine⟨t,p1,?_⟩
 unfold bodyI at q
 rw[if_pos hl,Out.post_bind]at q
 have get:∀(i:Nat) x,(some (SM.s,D.ins c fds)::(ds.map (fun d=>some (SM.k,d))++List.replicate (N.length - ps.length) none))[i]?=some (some x)->(i=0/\x=(.s,.ins c fds))∨∃ j d,i=j+1/\ds[j]?=some d/\x=(.k,d):=fun i x h=>by
  cases i with
  | zero=>exact .inl ⟨rfl,by simpa using h.symm⟩
  | succ j=>
   rw[List.getElem?_cons_succ]at h
   obtain⟨d,e1,e2⟩:=Qfw h
   exact .inr ⟨j,d,rfl,e1,e2⟩
 have S0:StR (dcI P w K mg base CT N qual (Qa st) f cdv A outer s H E G0 p) G0 H (L2.start N (.ref p::vs')) (some (.s,.ins c fds)::(ds.map (fun d=>some (.k,d))++List.replicate (N.length - ps.length) none)):={
  sub:=sub
  g0:=Same.refl _
  new:=fun b h1 h2=>absurd h1 h2
  fr:=fun b o e _=>e
  dom:=fun b e=>e
  bs:=fun b o e=>by
   have e':(if b=p then none else H b)=some o:=e
   by_cases hb:b=p
   ·rw[if_pos hb]at e';cases e'
   ·rw[if_neg hb]at e';exact e'
  bh:=fun b e=>by
   show(if b=p then none else H b)=none
   by_cases hb:b=p
   ·rw[if_pos hb]
   ·rw[if_neg hb];exact e
  len:=by unfold L2.start;simp;have:=r.length;simp at hlen;omega
  fz:=fun i d e=>by
   rcases get i _ e with⟨_,z⟩ | ⟨j,d',rfl,e1,z⟩
   ·cases z
   ·cases z
    obtain⟨v,e3,rv⟩:=r.get e1
    exact⟨v,QfC (by simpa using e3),rv⟩
  ow:=fun i d e=>by
   rcases get i _ e with⟨_,z⟩ | ⟨j,d',rfl,e1,z⟩<;>cases z
  ln:=fun i d e=>by
   rcases get i _ e with⟨_,z⟩ | ⟨j,d',rfl,e1,z⟩<;>cases z
  inj:=fun i j d e p _ h=>by
   rcases get i _ h with⟨_,z⟩ | ⟨j,d',rfl,e1,z⟩<;>cases z
  sf:=fun i d e=>by
   rcases get i _ e with⟨rfl,z⟩ | ⟨j,d',rfl,e1,z⟩
   ·cases z
    exact⟨p,QfC rfl,hg,(by show H p≠none;rw[hp];simp),⟨rfl,rfl⟩,if_pos rfl,⟨Ac,dx,fs,hct,hp,rf⟩⟩
   ·cases z
  su:=fun i j d e q hij h1 h2=>by
   rcases get i _ h1 with⟨rfl,z⟩ | ⟨j,d',rfl,e1,z⟩
   ·rcases get j _ h2 with⟨rfl,z⟩ | ⟨j,d',rfl,e1,z⟩
    ·exact absurd rfl hij
    ·cases z
   ·cases z }
 refine q1 G0 H (L2.start N (.ref p::vs')) _ _ S0 (Out.post_mono q fun fl kk=>?_)
 cases fl with
 | nx ς'=>
  intro σ' H' G' S' s'
  have kk:(Qtl c ς').post _ _:=kk
  unfold Qtl at kk
  split at kk
  ·rename_i c' fds' z
   rcases QQ kk with⟨rfl,k2⟩ | ⟨_,k2⟩
   ·obtain⟨p',e1,hg',h0,⟨hM,_⟩,hB,A',dx',fs',hA',hH',rf'⟩:=S'.sf 0 _ z
    have hM:p'=p:=hM
    subst hM
    have hA':CT c'=some A':=hA'
    rw[hct]at hA'
    cases hA'
    exact k2 H' G' fs' dx' s' (fun b o e hb=>S'.fr b o e hb) S'.sub S'.new hH' rf'
   ·exact k2.elim
  ·exact kk.elim
 | bk ς'=>exact kk.elim
 | ct ς'=>exact kk.elim
 | rt b d=>exact kk.elim
end DL
namespace DL
open PySem PySem.Spec PyProof.Rows L2
theorem Qv0{P:Program}{w:World}{K:PySem.W.Frag}{mg:‹"Y"›}{base:Heap}{CT:CTab}{N:List Str}{qual:Str}{sc:Scope}{f:Addr}{cdv:Value}{A:Around}{outer:List Env}{s:Shared}{H:Hp}{E:XK}{G:Hp}{p:Addr}:
 Rz (dcI P w K mg base CT N qual sc f cdv A outer s H E G p) E where
 pass:=passR
 xd:=fun d ⟨c,Cc,h1,h2,h3⟩=>⟨c,Cc,h1,h2,fun H' k=>h3 H' fun b o e hb=>k b o e hb⟩
 made:=fun Cc pins σ H1 s1 ea h' vs I hx hE=>QJn I rfl rfl rfl hx hE
 calm:=rfl
section
variable{C:Dc}{E:XK}{c:Str}{A f:Addr}{fd:FuncData}{ps:List Str}{ds:List Value}{dd:List D}{k:Nat}{m:Str->List (Str×D)->List D->Out (List (Str×D))}{e:Expr}{es:List Expr}{AA:SD->Out (List D)}{p pos:Pos}
def eMake(c:Str)(m:‹"aa"›)(a:‹"aq"›):SD->Out D:=fun ς=>a ς>>=fun xs=>m c [] xs>>=fun fds=>.ok (.ins c fds)
def MkOk(P:Program)(w:World)(K:PySem.W.Frag)(mg:‹"Y"›)(base:Heap)(CT:CTab)(c:Str)(k:Nat)(m:‹"aa"›):Prop:=
 ∃ A f fd ps,CT c=some A/\mg c=some (.ref A)/\Mk K A f/\FnOk P w K mg base (CXR P w) k f fd ps (SpI K CT m)/\Binds K fd ps []
theorem Qo0(rz:Rz C E)(h:MkOk C.X.prog C.X.w C.X.K C.X.mg C.X.base C.CT c k m)(hr:Room (k+1) C.X.A)(ha:DA C (e::es) AA)(hg:Gl C.X c)
 (hdb:(c == ("__debug__":Str))=false:=by decide) (he:‹"c"›:=by rfl) (hpl:(backTo pos ‹"az"›).any (·.1)=false:=by rfl):
 DF C (.Call (.Name c p) (e::es) [] pos) (eMake c m AA):=by
 obtain⟨A,f,fd,ps,hct,hm,M,F,hb⟩:=h
 obtain⟨t,p1,q1⟩:=ha
 refine⟨_,QOD M F hr hg hm hb .nil rz.pass p1 hdb he hpl,fun G H σ ς Q S q=>?_⟩
 unfold eMake at q
 rw[Out.post_bind]at q
 refine q1 G H σ ς _ S (Out.post_mono q fun xs kk vs H1 G1 S1 a1 b1 r1=>?_)
 intro x dx nx ndx ne
 rw[Out.post_bind]at kk
 have keep:∀ b o,H1 b=some o->upd (upd H1 dx (.own x)) x (.ins A dx []) b=some o:=fun b o e=>by
  rw[Ql (QY e nx),Ql (QY e ndx)];exact e
 have back:∀ b,upd (upd H1 dx (.own x)) x (.ins A dx []) b=none->H1 b=none:=fun b e=>by
  by_cases hx:b=x
  ·subst hx;exact nx
  ·rw[Ql hx]at e
   by_cases hd:b=dx
   ·subst hd;exact ndx
   ·rw[Ql hd]at e;exact e
 refine⟨x,c,A,dx,[],[],vs++[],xs,G1,rfl,hct,QO,S1.sub.free nx,fun b o e=>keep b o (S1.sub b o e),rfl,by rw[List.append_nil];exact r1,?_⟩
 cases z:m c [] xs with
 | stuck=>rw[z]at kk;exact kk.elim
 | exc y=>
  rw[z]at kk
  obtain⟨c',Cc,e1',e2',e3'⟩:=rz.xd y kk
  exact⟨c',Cc,e1',e2',fun H' s'=>e3' H' fun b o q m'=>s' b o (keep b o (S1.fr b o q m')) (QY (S1.fr b o q m') nx)⟩
 | ok fds=>
  rw[z]at kk
  intro H' G' fs' dx' g1 h1 s1 n1 hp rf
  have hh:Same H1 H':=fun b o e=>h1 b o (keep b o e) (QY e nx)
  have hgp:G' x=none:=by
   cases zz:G' x with
   | none=>rfl
   | some o=>have:=n1 x (S1.sub.free nx) (by rw[zz];simp);rw[QO]at this;cases this
  exact⟨rfl,(show KF C G H σ ς Q (.ins c fds) from kk) x H' G' (S1.grow hh g1 s1 fun b g g'=>back b (n1 b g g')) (a1.trans hh) (b1.trans g1) (a1.free nx) hgp ⟨A,dx',fs',hct,hp,rf⟩⟩
end
def MtOk(P:Program)(w:World)(K:PySem.W.Frag)(mg:‹"Y"›)(base:Heap)(CT:CTab)(CX:CXT)(name:Str)(k:Nat)(cs:List Str)(sp:Str->Sp):Prop:=
 ∀ c,cs.contains c=true->∃ A f fd ps,CT c=some A/\Cls K A/\Meth K A name f/\FnOk P w K mg base CX k f fd ps (sp c)/\Binds K fd ps []
def csOf(CT:CTab)(cs:List Str)(sp:Str->Sp):Addr->Sp->Prop:=fun A s=>∃ c,cs.contains c=true/\CT c=some A/\s=sp c
theorem mtab{X:Cx}{CT:CTab}{CX:CXT}{name:Str}{k:Nat}{cs:List Str}{sp:Str->Sp}(h:MtOk X.prog X.w X.K X.mg X.base CT CX name k cs sp):MTab X CX k name [] (csOf CT cs sp):=by
 rintro A s ⟨c,hc,hA,rfl⟩
 obtain⟨A',f,fd,ps,h1,h2,h3,h4,h5⟩:=h c hc
 rw[hA]at h1;cases h1
 exact⟨h2,f,fd,ps,[],h3,h4,h5,.nil⟩
section
variable{C:Dc}{name:Str}{k:Nat}{cs:List Str}{fr:Bool}{mt:Str->List D->Out D}{o e:Expr}{es:List Expr}{O:SD->Out D}{AA:SD->Out (List D)}{apos pos:Pos}
def eMeth(cs:List Str)(name:Str)(mt:Str->List D->Out D)(O:SD->Out D)(A:‹"aq"›):SD->Out D:=fun ς=>O ς>>=fun d=>match d with
 | .ins c fds=>if (cs.contains c&&(fds.lookup name).isNone)=true then A ς>>=fun xs=>mt c (.ins c fds::xs) else .stuck
 | _=>.stuck
theorem QHX{G H:Hp}{σ:St}{ς:SD}{Q:VK}{t:TA}{c:Str}{fds:List (Str×D)}{v1:V}{H1 G1:Hp}(S1:StR C G1 H1 σ ς)(a1:Same H H1)(b1:Same G G1)(r1:Rep C.X.K C.CT G1 (.ins c fds) v1)
 (tk:‹"ai"›) (hx:∀ x,¬ C.XD x)
 (hq:∀ G H σ ς Q,StR C G H σ ς->(AA ς).post (fun ds=>∀ vs H' G',StR C G' H' σ ς->Same H H'->Same G G'->RepL C.X.K C.CT G' ds vs->Q vs H') C.XD->t σ H Q)
 {K':D->Prop} (hK:∀ d v H2 G2 H' G',StR C G2 H2 σ ς->Same H H2->Same G G2->K' d->Same G2 G'->Same H2 H'->Same G' H'->(∀ b,G2 b=none->G' b≠none->H2 b=none)->RetG C.X.K C.CT fr H2 G' H' d v->Q v H')
 (kk:(if (cs.contains c&&(fds.lookup name).isNone)=true then AA ς>>=fun xs=>mt c (.ins c fds::xs) else .stuck).post K' C.XD):
 ∃ a Cc dx fs sp,v1=.ref a/\H1 a=some (.ins Cc dx fs)/\csOf C.CT cs (fun c=>SpD C.X.K C.CT fr (mt c)) Cc sp/\fs.lookup name=none/\t σ H1 fun vs H2=>sp (v1::(vs++[])) H2 Q E0:=by
 rcases QQ kk with⟨hc,kk⟩ | ⟨_,kk⟩
 ·rw[Bool.and_eq_true]at hc
  obtain⟨a,Cc,dx,fs,rfl,hct,hh,rf⟩:=r1
  refine⟨a,Cc,dx,fs,_,rfl,S1.sub _ _ hh,⟨c,hc.1,hct,rfl⟩,(RepF.look rf).2 (by simpa using hc.2),?_⟩
  rw[Out.post_bind]at kk
  refine hq G1 H1 σ ς _ S1 (Out.post_mono kk fun xs k2 vs H2 G2 S2 a2 b2 r2=>?_)
  refine⟨.ins c fds::xs,G2,S2.sub,⟨_,_,rfl,Rep.mono b2 (.ins c fds) (.ref a) ⟨a,Cc,dx,fs,rfl,hct,hh,rf⟩,by rw[List.append_nil];exact r2⟩,?_⟩
  cases z:mt c (.ins c fds::xs) with
  | stuck=>rw[z]at k2;exact k2.elim
  | exc y=>rw[z]at k2;exact absurd k2 (hx y)
  | ok d=>
   rw[z]at k2
   intro v H' G' g1 h1 s1 n1 ret
   exact hK d v H2 G2 H' G' S2 (a1.trans a2) (b1.trans b2) k2 g1 h1 s1 n1 ret
 ·exact kk.elim
theorem retKD{G H:Hp}{σ:St}{ς:SD}{Q:VK}:∀ d v H2 G2 H' G',StR C G2 H2 σ ς->Same H H2->Same G G2->KD C G H σ ς Q d->Same G2 G'->Same H2 H'->Same G' H'->(∀ b,G2 b=none->G' b≠none->H2 b=none)->RetG C.X.K C.CT fr H2 G' H' d v->Q v H':=by
 intro d v H2 G2 H' G' S2 a b kd g1 h1 s1 n1 ret
 unfold RetG at ret
 by_cases hc:(fr && !d.scal)=true
 ·rw[if_pos hc]at ret
  obtain⟨pp,rfl,h0,hg',ow⟩:=ret
  obtain⟨o,ho⟩:=ow.there
  have S3:=(S2.grow h1 g1 s1 n1).freeze ho hg' (S2.h0none h0) (fun i d' z1 z2=>by
   obtain⟨o',ho'⟩:=S2.own_ne z1 z2
   rw[h0]at ho';cases ho')
  exact kd _ _ _ S3 (a.trans h1) ((b.trans g1).trans (QD hg')) (ow.known hg' ho)
 ·rw[if_neg hc]at ret
  exact kd v H' G' (S2.grow h1 g1 s1 n1) (a.trans h1) (b.trans g1) ret
theorem Qy0{pl:Sem Bool}(tk:‹"ai"›)(hr:Room k C.X.A)(ho:DE C o O)(ha:DA C (e::es) AA)(hx:∀ x,¬ C.XD x:=by exact fun _ h=>h)
 (hst:‹"c"›:=by rfl) (hpl:(backTo pos ‹"az"›).any (·.1)=false:=by rfl)
 (ht:eval (.Call (.Attribute o name apos) (e::es) [] pos) C.X.env=(do
  let ov ← eval o C.X.env
  standAt apos.atName
  let (f,first) ← holding [ov] (getMethod ov name pl)
  callWith pos f first (backTo pos (starEach (e::es) C.X.env)) (backToKw pos (keywordEach [] C.X.env))):=by rfl):
 DE C (.Call (.Attribute o name apos) (e::es) [] pos) (eMeth cs name mt O AA):=by
 obtain⟨t1,p1,q1⟩:=ho
 obtain⟨t2,p2,q2⟩:=ha
 refine⟨_,QDw (pl:=pl) p1 (mtab tk) hr pass0 p2 hst hpl ht,fun G H σ ς Q S q=>?_⟩
 unfold eMeth at q
 rw[Out.post_bind]at q
 refine q1 G H σ ς _ S (Out.post_mono q fun d kk v1 H1 G1 S1 a1 b1 r1=>?_)
 cases d with
 | ins c fds=>exact QHX S1 a1 b1 r1 tk hx q2 retKD kk
 | _=>exact kk.elim
theorem QqK{pl:Sem Bool}(tk:‹"ai"›)(hr:Room k C.X.A)(ho:DE C o O)(hx:∀ x,¬ C.XD x:=by exact fun _ h=>h)
 (ht:eval (.Call (.Attribute o name apos) [] [] pos) C.X.env=(do
  let ov ← eval o C.X.env
  standAt apos.atName
  let (f,first) ← holding [ov] (getMethod ov name pl)
  callWith pos f first (backTo pos (starEach [] C.X.env)) (backToKw pos (keywordEach [] C.X.env))):=by rfl):
 DE C (.Call (.Attribute o name apos) [] [] pos) (eMeth cs name mt O aNil):=by
 obtain⟨t1,p1,q1⟩:=ho
 refine⟨_,QKC (pl:=pl) p1 (mtab tk) hr pass0 ht,fun G H σ ς Q S q=>?_⟩
 unfold eMeth at q
 rw[Out.post_bind]at q
 refine q1 G H σ ς _ S (Out.post_mono q fun d kk v1 H1 G1 S1 a1 b1 r1=>?_)
 cases d with
 | ins c fds=>exact QHX (AA:=aNil) (t:=tNil) S1 a1 b1 r1 tk hx (fun G H σ ς Q S q=>q [] H G S (Same.refl H) (Same.refl G) rfl) retKD kk
 | _=>exact kk.elim
end
end DL
namespace DL
open PySem PySem.Spec PyProof.Rows L2
section
variable{C:Dc}{name:Str}{k:Nat}{cs:List Str}{mt:Str->List D->Out D}{o e:Expr}{es:List Expr}{O:SD->Out D}{AA:SD->Out (List D)}{apos pos:Pos}
variable{E:XK}{m:Str->List (Str×D)->List D->Out (List (Str×D))}{x:Str}{px spos:Pos}
def Qjq(cs:List Str)(name:Str)(m:‹"aa"›)(i:Nat)(A:‹"aq"›):SD->Out Fl:=fun ς=>match (ς[i]?:Option (Option (SM×D))) with
 | some (some (SM.s,D.ins c fds))=>if (cs.contains c&&(fds.lookup name).isNone)=true then A ς>>=fun xs=>m c fds xs>>=fun fds'=>.ok (.nx (ς.set i (some (.s,.ins c fds')))) else .stuck
 | _=>.stuck
theorem Qra{pl:Sem Bool}(i:Nat)(rz:Rz C E)(tk:MtOk C.X.prog C.X.w C.X.K C.X.mg C.X.base C.CT (CXR C.X.prog C.X.w) name k cs (fun _=>SpI C.X.K C.CT m))(hr:Room k C.X.A)(ha:DA C (e::es) AA)
 (hN:C.X.N[i]?=some x:=by rfl) (hv:Vis C.X.env.scope x:=by first | exact Or.inl rfl | exact Or.inr (Or.inl rfl) | exact Or.inr (Or.inr rfl))
 (hd:‹"f"›:=by decide) (hcd:‹"C"›:=by decide)
 (hst:‹"c"›:=by rfl) (hpl:(backTo pos ‹"az"›).any (·.1)=false:=by rfl)
 (ht:eval (.Call (.Attribute (.Name x px) name apos) (e::es) [] pos) C.X.env=(do
  let ov ← eval (.Name x px) C.X.env
  standAt apos.atName
  let (f,first) ← holding [ov] (getMethod ov name pl)
  callWith pos f first (backTo pos (starEach (e::es) C.X.env)) (backToKw pos (keywordEach [] C.X.env))):=by rfl)
 (hsw:swapsWith (.Call (.Attribute (.Name x px) name apos) (e::es) [] pos) none spos.line C.X.env=pure false:=by rfl):
 DS C (.Expr (.Call (.Attribute (.Name x px) name apos) (e::es) [] pos) spos) (Qjq cs name m i AA):=by
 obtain⟨t2,p2,q2⟩:=ha
 refine⟨_,Qy4 (QDw (pl:=pl) ‹"aQ"› (mtab tk) hr rz.pass p2 hst hpl ht) hsw,fun G H σ ς W S kk=>?_⟩
 unfold Qjq at kk
 split at kk
 ·rename_i c fds z
  rcases QQ kk with⟨hc,kk⟩ | ⟨_,kk⟩
  ·rw[Bool.and_eq_true]at hc
   obtain⟨p,e1',hg,h0,⟨hM,_⟩,hB,A,dx,fs,hct,hh,rf⟩:=S.sf i _ z
   refine⟨_,e1',p,A,dx,fs,_,rfl,hh,⟨c,hc.1,hct,rfl⟩,(RepF.look rf).2 (by simpa using hc.2),?_⟩
   rw[Out.post_bind]at kk
   refine q2 G H σ ς _ S (Out.post_mono kk fun xs k2 vs H2 G2 S2 a2 b2 r2=>?_)
   obtain⟨p',e2',hg2,_,_,_,A2,dx2,fs2,hct2,hh2,rf2⟩:=S2.sf i _ z
   rw[e1']at e2';cases e2'
   rw[Out.post_bind]at k2
   refine⟨p,c,A2,dx2,fs2,fds,vs++[],xs,G2,rfl,hct2,hh2,hg2,S2.sub,rf2,by rw[List.append_nil];exact r2,?_⟩
   cases zz:m c fds xs with
   | stuck=>rw[zz]at k2;exact k2.elim
   | exc y=>
    rw[zz]at k2
    obtain⟨c',Cc,f1,f2,f3⟩:=rz.xd y k2
    exact⟨c',Cc,f1,f2,fun H' s'=>f3 H' fun b o q mm=>s' b o (S2.fr b o q mm) (by rintro rfl;exact mm hM)⟩
   | ok fds'=>
    rw[zz]at k2
    intro H' G' fs' dx' g1 h1 s1 n1 hp rf'
    have gp:G' p=none:=by
     cases y:G' p with
     | none=>rfl
     | some o=>have:=n1 p hg2 (by rw[y];simp);rw[hh2]at this;cases this
    have S3:StR C G' (upd H' p (.ins A2 dx2 fs2)) σ ς:=S2.grow (fun b o e=>by
     by_cases hb:b=p
     ·subst hb;rw[QO];rw[hh2]at e;exact e
     ·rw[Ql hb];exact h1 b o e hb) g1 (fun b o e=>by
     rw[Ql (by rintro rfl;rw[gp]at e;cases e)];exact s1 b o e) n1
    have S4:=S3.writeS (dx:=dx') z e1' hct2 rf'
    have eq:upd (upd H' p (.ins A2 dx2 fs2)) p (.ins A2 dx' fs')=H':=by
     rw[QNR]
     funext b
     by_cases hb:b=p
     ·subst hb;rw[QO,hp]
     ·rw[Ql hb]
    rw[eq]at S4
    exact(show FlK C G W (.nx (ς.set i (some (.s,.ins c fds')))) from k2) σ H' G' S4 (b2.trans g1)
  ·exact kk.elim
 ·exact kk.elim
end
end DL
namespace DL
open PySem PySem.Spec PyProof.Rows L2
def inCls(s:Stmt)(j:Nat):Stmt:=match s with
 | .ClassDef _ _ _ b _ _ _ _ _ _ _=>b.getD j (.Pass ⟨0,0,0,0⟩)
 | _=>.Pass ⟨0,0,0,0⟩
def KitI(K:PySem.W.Frag)(CT:CTab)(uc:Value)(tbl:List (Str×Bool)):Prop:=∀ c b,tbl.lookup c=some b->∀ A,CT c=some A->ClsD K A/\PySem.W.kitOne K (.ref A) uc=some b
theorem QqV{K:PySem.W.Frag}{CT:CTab}{uc:Value}:KitI K CT uc []:=fun _ _ h=>nomatch h
theorem Qas{K:PySem.W.Frag}{CT:CTab}{uc:Value}{c:Str}{b:Bool}{A:Addr}{tbl:List (Str×Bool)}(hc:CT c=some A)(hx:ClsD K A)(hk:PySem.W.kitOne K (.ref A) uc=some b)(r:KitI K CT uc tbl):KitI K CT uc ((c,b)::tbl):=by
 intro c' b' h A' hA
 rw[List.lookup_cons]at h
 cases e:c' == c with
 | true=>
  rw[e]at h
  cases h
  rw[beq_iff_eq.mp e,hc]at hA
  cases hA
  exact⟨hx,hk⟩
 | false=>
  rw[e]at h
  exact r c' b' h A' hA
section
variable{C:Dc}{pos p:Pos}{e cx:Expr}{E:SD->Out D}
end
def eIxO(i:Nat)(b:SD->Out D):SD->Out D:=fun ς=>match (ς[i]?:Option (Option (SM×D))) with
 | some (some (SM.o,D.lst xs))=>b ς>>=fun k=>match k with | .int k=>optO (atI xs k) | _=>.stuck
 | _=>.stuck
section
variable{C:Dc}{pos px:Pos}{b:Expr}{B:SD->Out D}{x f:Str}{cs:List Str}
theorem QPu(i:Nat)(hb:DB C b B)(hN:C.X.N[i]?=some x:=by rfl)(hv:Vis C.X.env.scope x:=by first | exact Or.inl rfl | exact Or.inr (Or.inl rfl) | exact Or.inr (Or.inr rfl))
 (hd:‹"f"›:=by decide) (hcd:‹"C"›:=by decide) (hs:QtC b:=by intro _ _;rfl):DE C (.Subscript (.Name x px) b pos) (eIxO i B):=by
 obtain⟨tb,p2,q2⟩:=hb
 refine⟨_,pe_ix QBP ‹"aQ"› p2 hs,fun G H σ ς Q S q=>?_⟩
 unfold eIxO at q
 split at q
 ·rename_i xs z
  obtain⟨p,e1',hg,h0,ow⟩:=S.ow i _ z
  rw[Out.post_bind]at q
  refine⟨_,e1',q2 G H σ ς _ S (Out.post_mono q fun y k2 v2 H2 G2 S2 a2 b2 r2=>?_)⟩
  cases y with
  | int k=>
   cases r2
   obtain⟨d,e2',kd⟩:=QcW k2
   obtain⟨p',e3',hg',h0',vs,hv1,hv2⟩:=S2.ow i _ z
   rw[e1']at e3';cases e3'
   obtain⟨v,e4',rv⟩:=Qpw hv2 e2'
   exact .inl ⟨p,vs,k,v,rfl,rfl,SqL.of hv1,e4',KD.now (KD.later kd a2 b2) S2 rv⟩
  | _=>exact k2.elim
 ·exact q.elim
end
end DL
namespace L2
open PySem PySem.Spec PyProof.Rows
def Ite(K:PySem.W.Frag)(a:Addr):It:=
 ⟨fun i H=>∃ xs x,SqL K H a xs/\xs[i]?=some x,
  fun i H v H'=>∃ p x,H p=none/\v=.ref p/\H'=upd H p (.tup [.int i,x])/\(∀ xs,SqL K H a xs->xs[i]?=some x),
  fun i H=>∃ xs,SqL K H a xs/\xs.length<=i⟩
theorem QKi{P:Program}{w:World}{K:PySem.W.Frag}{elts:List Expr}{k1:Nat}{pos:Pos}{e it l:Addr}(D1:e≠it):
 Turn P w K (.Tuple elts k1 pos) (Ite K l) [e,it] e (fun i h=>(∃ old,IsEnum h e it (i:Int) old)/\h.IsListIter it l i) where
 mem:=by simp
 obj:=fun i h st b hb=>by
  obtain⟨⟨old,s1⟩,⟨o4,e4,c4,d4⟩⟩:=st
  simp only[List.mem_cons,List.not_mem_nil,or_false]at hb
  rcases hb with rfl | rfl
  ·exact⟨_,s1,fun v q=>by cases q⟩
  ·exact⟨_,e4,fun v q=>by rw[d4]at q;cases q⟩
 keep:=fun i h h' st k=>by
  obtain⟨⟨old,s1⟩,s4⟩:=st
  exact⟨⟨old,k e (by simp) _ s1⟩,s4.at fun o q=>k it (by simp) o q⟩
 item:=by
  intro X hP hw hK hc i pins s σ H E I hf st hg
  subst hP hw hK
  obtain⟨xs,x,q1,hx⟩:=hg
  obtain⟨its1,rv1,p1,hz1⟩:=I.list q1
  obtain⟨u1,hu1,ru1⟩:=rv1.get hx
  obtain⟨⟨old,s1⟩,s4⟩:=st
  refine wpAny_pyNext_enum_item s1 s4 p1.isList (x:=u1) (by simpa using hu1) D1 fun h' a1 a3 a5 a6 hk=>?_
  have hT:H s.heap.objs.size=none:=I.hok.fresh ‹"an"›
  have fp:∀ c∈[e,it],FpOk X pins H c:=hf
  have out:∀ c,c∉[e,it]->∀ o,s.heap.get? c=some o->h'.get? c=some o:=fun c hc o q=>hk c o (fun q=>hc (by simp[q])) (fun q=>hc (by simp[q])) q
  have trk:∀ c o,H c=some o->c∉[e,it]:=fun c o q hc=>by rw[(fp c hc).1]at q;cases q
  have hok:HOk X.prog X.w (upd H s.heap.objs.size (.tup [.int i,x])) h':=fun c o q=>by
   by_cases hcT:c=s.heap.objs.size
   ·subst hcT
    rw[QO]at q
    cases q
    exact⟨by show 2<=sizeLine;decide,[.int i s.toks,u1],.cons ⟨_,rfl⟩ (.cons ru1 .nil),⟨_,a5,rfl,_,rfl⟩⟩
   ·rw[Ql hcT]at q
    refine(I.hok c o q).stay (fun b u hb q'=>out b ?_ u q') (fun b q'=>?_) fun b ts q'=>?_
    ·rcases hb with rfl | hb
     ·exact trk b _ q
     ·exact trk b _ hb
    ·rw[Ql (QY q' hT)];exact q'
    ·rw[Ql (QY q' hT)];exact q'
  have I1:Inv X pins σ (upd H s.heap.objs.size (.tup [.int i,x])) { s with heap:=h',gens:=s.gens,drawn:=s.drawn,toks:=s.toks+1 }:=I.step (ch:=[e,it])
   ‹"H"› (fun c o _ _ hc q _=>out c hc o q) (fun c o _ _ hc q _=>⟨o.slots,out c hc o q⟩)
   (fun c o hc q n=>by rw[Ql (Nat.ne_of_lt (Heap.lt_size q))];exact n) (fun c o hc q=>⟨o,out c hc o q⟩)
   (fun c ts q=>by rw[Ql (QY q hT)];exact q) (fun c o u q=>by rw[Ql (QY q hT)];exact q) (fun c ts q=>⟨#[],by rw[Ql (QY q hT),q];simp⟩)
   (fun m hm=>by
    obtain⟨o,es,ep,ho,r⟩:=hm
    exact⟨o,es,ep,out _ (fun hc=>(fp _ hc).2.1 rfl) o ho,r⟩) hok I.bare
  have lt:∀{c o},s.heap.get? c=some o->s.heap.objs.size≠c:=fun q=>Nat.ne_of_gt (Heap.lt_size q)
  refine⟨_,rfl,wpAny_letOwnedTupleGo_enum a1 fun h2 hz2 hs2=>?_⟩
  obtain⟨z0,z1,z2,z3,z4,z5⟩:=hf e (by simp)
  have I2:Inv X pins σ (upd H s.heap.objs.size (.tup [.int i,x])) { s with heap:=h2,toks:=s.toks+1 }:=Inv.turned (s:={ s with heap:=h',gens:=s.gens,drawn:=s.drawn,toks:=s.toks+1 }) (t':=s.toks+1) (it:=e) I1 (fun b o hb q=>(hs2.2 b hb).trans q) (by rw[Ql (lt s1).symm];exact z0) z1 z3 z4 z5
  refine⟨.ref s.heap.objs.size,_,I2,rfl,⟨_,x,hT,rfl,rfl,fun xs' q'=>by rw[I.list_inj q' q1];exact hx⟩,
   ⟨⟨_,by have:((i+1:Nat):Int)=(i:Int)+1:=by push_cast;rfl
          rw[this];exact hz2⟩,a3.extBut hs2.extBut D1.symm⟩,fun c hc=>?_⟩
  have:H c=none:=(hf c hc).1
  obtain⟨oc,hoc⟩:∃ o,s.heap.get? c=some o:=by
   simp only[List.mem_cons,List.not_mem_nil,or_false]at hc
   rcases hc with rfl | rfl
   ·exact⟨_,s1⟩
   ·obtain⟨o,q,_⟩:=s4;exact⟨o,q⟩
  rw[Ql (lt hoc).symm];exact this
 done:=by
  intro X hP hw hK hc i pins s σ H E I hf st hg
  subst hP hw hK
  obtain⟨xs,q1,hend⟩:=hg
  obtain⟨its1,rv1,p1,hz1⟩:=I.list q1
  have l1:=rv1.length
  obtain⟨⟨old,s1⟩,s4⟩:=st
  obtain⟨z0,z1,z2,z3,z4,z5⟩:=hf it (by simp)
  refine wpAny_pyNext_enum_end (I.ok.hd hc) s1 s4 p1.isList (by simp;omega) fun h' hk=>⟨rfl,?_⟩
  have fp:∀ c∈[it],FpOk X pins H c:=fun c hc=>hf c (by simp only[List.mem_cons,List.not_mem_nil,or_false]at hc ⊢;exact Or.inr hc)
  have out:∀ c,c∉[it]->∀ o,s.heap.get? c=some o->h'.get? c=some o:=fun c hc o q=>hk c o (fun q=>hc (by simp[q])) q
  have trk:∀ c o,H c=some o->c∉[it]:=fun c o q hc=>by rw[(fp c hc).1]at q;cases q
  exact I.step (g':=s.gens) (d':=s.drawn) (t':=s.toks) (ch:=[it]) ‹"H"› (fun c o _ _ hc q _=>out c hc o q) (fun c o _ _ hc q _=>⟨o.slots,out c hc o q⟩)
   (fun c o hc q n=>n) (fun c o hc q=>⟨o,out c hc o q⟩) (fun c ts q=>q) (fun c o u q=>q) (fun c ts q=>⟨#[],by rw[q];simp⟩)
   (fun m hm=>by
    obtain⟨o,es,ep,ho,r⟩:=hm
    exact⟨o,es,ep,out _ (fun hc=>(fp _ hc).2.1 rfl) o ho,r⟩)
   (fun c o q=>(I.hok c o q).stay (fun b u hb q'=>out b (by
    rcases hb with rfl | hb
    ·exact trk b _ q
    ·exact trk b _ hb) u q') (fun b q'=>q') fun b ts q'=>q') I.bare
 self:=fun _ _ _ _ _ st h=>wpAny_pyIter_enum st.1.choose_spec h
section
variable{X:Cx}
def iEnum(K:PySem.W.Frag)(ta:TA):TI:=fun σ H R=>ta σ H fun vs H1=>∃ a,vs=[.ref a]/\(∃ xs,SqL K H1 a xs)/\R (Ite K a) H1
theorem QNy{elts:List Expr}{k1:Nat}{tpos:Pos}{a:Expr}{ta:TA}{p pos:Pos}(hg:Gl X "enumerate")(hm:X.mg "enumerate"=none)(ha:PA X [a] ta)(hs:starEach [a] X.env=[(false,eval a X.env)]:=by rfl):
 PI X (.Tuple elts k1 tpos) (.Call (.Name "enumerate" p) [a] [] pos) (iEnum X.K ta):=by
 intro pins s σ H R I h
 refine Call_ (QjE I hg hm PyProof.Rows.Boot.«enumerate» (PyProof.Rows.callWith_type1 (thn (ha pos pins s σ H _ I h) fun us s1 ⟨vs,H1,I1,r1,q1⟩=>?_) (by rw[hs];rfl) (by rfl)))
 obtain⟨l1,e,⟨xs,hx⟩,q⟩:=q1
 subst e
 cases r1 with
 | cons r rr=>
  cases rr
  cases r
  obtain⟨its1,rv1,p1,hz1⟩:=I1.list hx
  refine call_enumerate_list p1.isList fun h' c1 c4 c6 hk=>?_
  refine wpAny_pyIter_enum c1 ?_
  refine⟨_,_,_,Ite X.K l1,H1,rfl,I1.kept (t':=s1.toks) fun b o e=>hk b o e,QKi (e:=s1.heap.objs.size+1) (it:=s1.heap.objs.size) (l:=l1) (show ¬ ((s1.heap.objs.size+1:Nat)=s1.heap.objs.size) by omega),
   ⟨⟨_,c1⟩,c4⟩,fun b hb=>?_,q⟩
  have hb':s1.heap.objs.size<=b:=by
   simp only[List.mem_cons,List.not_mem_nil,or_false]at hb
   rcases hb with rfl | rfl<;>omega
  exact I1.fpOk hb' (I1.hok.fresh hb')
end
end L2
namespace DL
open PySem PySem.Spec PyProof.Rows L2
def enumD(i:Nat):List D->List D
 | []=>[]
 | x::xs=>.tup [.int i,x]::enumD (i+1) xs
theorem QzR:∀(xs:List D)(i:Nat),(enumD i xs).length=xs.length
 | [],_=>rfl
 | x::xs,i=>by simp[enumD,QzR xs]
theorem Qr3:∀(xs:List D)(n i:Nat),(enumD n xs)[i]?=xs[i]?.map fun x=>.tup [.int (n+i:Nat),x]
 | [],_,_=>rfl
 | x::xs,n,0=>rfl
 | x::xs,n,i+1=>by
  show(enumD (n+1) xs)[i]?=_
  rw[Qr3 xs (n+1) i,show n+1+i=n+(i+1) by omega]
  rfl
def itE(A:SD->Out D):SD->Out (List D):=fun ς=>A ς>>=fun x=>match x with
 | .lst xs=>.ok (enumD 0 xs)
 | _=>.stuck
section
variable{C:Dc}{a:Expr}{A:SD->Out D}
theorem QNs{K:PySem.W.Frag}{CT:CTab}{G1:Hp}{p:Addr}{xs:List D}{us:List V}(h1:SqL K G1 p us)(r1:RepL K CT G1 xs us):DIt K CT G1 (Ite K p) (enumD 0 xs) where
 go:=fun G H i d s1 sH hd=>by
  rw[Qr3,Nat.zero_add]at hd
  cases e1':xs[i]? with
  | none=>rw[e1']at hd;cases hd
  | some x=>
   rw[e1']at hd
   cases hd
   obtain⟨u,hu,ru⟩:=r1.get e1'
   have q1:SqL K H p us:=sH.seq (s1.seq h1)
   refine⟨⟨us,u,q1,hu⟩,fun w H' ⟨t,x',n,e,e',k1⟩=>?_⟩
   have z1:=k1 us q1
   rw[hu]at z1;cases z1
   subst e e'
   have gn:G t=none:=sH.free n
   refine⟨upd G t (.tup [.int i,u]),QD gn,QD n,Qr2 sH,fun b g g'=>?_,t,[.int i,u],rfl,SqT.of QO,⟨.int i,_,rfl,rfl,u,_,rfl,Rep.mono (s1.trans (QD gn)) x u ru,rfl⟩⟩
   by_cases hb:b=t
   ·subst hb;exact n
   ·rw[Ql hb]at g';exact absurd g g'
 stop:=fun G H s1 sH=>by
  refine⟨us,sH.seq (s1.seq h1),?_⟩
  have l1:=r1.length
  rw[QzR]
  omega
theorem Qzt{elts:List Expr}{k1:Nat}{tpos p pos:Pos}(hgl:Gl C.X "enumerate")(hm:C.X.mg "enumerate"=none)(ha:DE C a A)
 (hst:starEach [a] C.X.env=(false,eval a C.X.env)::starEach [] C.X.env:=by rfl):DI C (.Tuple elts k1 tpos) (.Call (.Name "enumerate" p) [a] [] pos) (itE A):=by
 obtain⟨t0,p0,q0⟩:=ha
 refine⟨_,QNy hgl hm (QbX p0 QeS hst) (by rw[hst];rfl),fun G H σ ς R S k=>?_⟩
 unfold itE at k
 rw[Out.post_bind]at k
 refine q0 G H σ ς _ S (Out.post_mono k fun d k v H1 G1 S1 a1 b1 r=>?_)
 cases d with
 | lst xs=>
  obtain⟨p1,us,rfl,h1,r1⟩:=r
  exact⟨p1,rfl,⟨us,S1.sub.seq h1⟩,k _ H1 G1 S1 a1 b1 (QNs h1 r1)⟩
 | _=>exact k.elim
end
end DL
namespace L2
open PySem PySem.Spec PyProof.Rows
section
variable{X:Cx}
end
end L2
namespace DL
open PySem PySem.Spec PyProof.Rows L2
section
variable{C:Dc}{o e:Expr}{O E:SD->Out D}{apos cpos:Pos}
end
end DL
namespace L2
open PySem PySem.Spec PyProof.Rows
section
variable{X:Cx}{k:Nat}{f ea:Addr}{fd:FuncData}{ps:List Str}{sp:Sp}{dvs:List V}{ds:List Value}{x:Str}{p pos:Pos}{e:Expr}{es:List Expr}{t:TA}
end
end L2
namespace DL
open PySem PySem.Spec PyProof.Rows L2
section
variable{C:Dc}{ea:Addr}{x:Str}{k:Nat}{m:List D->Out D}{e:Expr}{es:List Expr}{A:SD->Out (List D)}{p pos:Pos}
end
end DL
namespace L2
open PySem PySem.Spec PyProof.Rows
section
variable{X:Cx}{tg:Expr}
end
end L2
namespace DL
open PySem PySem.Spec PyProof.Rows L2
section
variable{C:Dc}{a b c e:Expr}{es:List Expr}{A B E:SD->Out D}{AA:SD->Out (List D)}{tg:Expr}{p pos:Pos}
def frz(j:Nat)(ς:SD):SD:=match (ς[j]?:Option (Option (SM×D))) with
 | some (some (SM.o,d))=>ς.set j (some (.k,d))
 | _=>ς
theorem StR.frz{G H:Hp}{σ:L2.St}{ς:SD}(S:‹"ax"›){j:Nat}{d:D}(z:ς[j]?=some (some (.o,d))):∃ G',Same G G'/\StR C G' H σ (ς.set j (some (.k,d))):=by
 obtain⟨p,e,hg,h0,ow⟩:=S.ow j d z
 obtain⟨o,ho⟩:=ow.there
 have hj:j<ς.length:=(List.getElem?_eq_some_iff.mp z).1
 have get:∀(i:Nat) x,(ς.set j (some (.k,d)))[i]?=some (some x)->(i=j/\x=(.k,d))∨(i≠j/\ς[i]?=some (some x)):=fun i x h=>by
  rw[List.getElem?_set]at h
  by_cases q:j=i
  ·rw[if_pos q,if_pos (by omega)]at h
   cases h
   exact .inl ⟨q.symm,rfl⟩
  ·rw[if_neg q]at h
   exact .inr ⟨fun w=>q w.symm,h⟩
 refine⟨upd G p o,QD hg,?_⟩
 have hn:∀(i:Nat) d',i≠j->ς[i]?=some (some (.o,d'))->σ[i]?≠some (some (.ref p)):=fun i d' hi q w=>S.inj i j d' d p hi q z w e
 exact {
  toGH:=GH.freezeR S.toGH ho hg h0
  len:=by rw[List.length_set];exact S.len
  fz:=fun i d' q=>by
   rcases get i _ q with⟨rfl,w⟩ | ⟨_,w⟩
   ·cases w
    exact⟨_,e,ow.known hg ho⟩
   ·obtain⟨v,a,b⟩:=S.fz i d' w
    exact⟨v,a,Rep.mono (QD hg) d' v b⟩
  ow:=fun i d' q=>by
   rcases get i _ q with⟨rfl,w⟩ | ⟨hi,w⟩
   ·cases w
   ·obtain⟨r,a,b,c,w'⟩:=S.ow i d' w
    refine⟨r,a,?_,c,w'.mono (QD hg) fun _ z=>z⟩
    rw[Ql (by rintro rfl;exact hn i d' hi w a)];exact b
  ln:=fun i d' q=>by
   rcases get i _ q with⟨rfl,w⟩ | ⟨_,w⟩
   ·cases w
   ·exact S.ln i d' w
  inj:=fun i k d1 d2 q hne h1 h2=>by
   rcases get i _ h1 with⟨rfl,w⟩ | ⟨_,w⟩
   ·cases w
   ·rcases get k _ h2 with⟨rfl,w2⟩ | ⟨_,w2⟩
    ·cases w2
    ·exact S.inj i k d1 d2 q hne w w2
  sf:=fun i d' q=>by
   rcases get i _ q with⟨rfl,w⟩ | ⟨_,w⟩
   ·cases w
   ·obtain⟨r,a,b,c,m,z',w'⟩:=S.sf i d' w
    refine⟨r,a,?_,c,m,z',w'.mono (QD hg) fun _ z=>z⟩
    rw[Ql (by rintro rfl;exact c h0)];exact b
  su:=fun i k d1 d2 q hne h1 h2=>by
   rcases get i _ h1 with⟨rfl,w⟩ | ⟨_,w⟩
   ·cases w
   ·rcases get k _ h2 with⟨rfl,w2⟩ | ⟨_,w2⟩
    ·cases w2
    ·exact S.su i k d1 d2 q hne w w2 }
theorem Qtn(j:Nat){st:Stmt}{T:SD->Out Fl}(h:DS C st T):DS C st (fun ς=>T (frz j ς)):=by
 obtain⟨t,p1,q⟩:=h
 refine⟨t,p1,fun G H σ ς W S k=>?_⟩
 have k:(T (frz j ς)).post (FlK C G W) C.XD:=k
 by_cases z:∃ d,ς[j]?=some (some (SM.o,d))
 ·obtain⟨d,z⟩:=z
  have e:frz j ς=ς.set j (some (.k,d)):=by unfold frz;rw[z]
  rw[e]at k
  obtain⟨G',sG,S'⟩:=S.frz z
  exact q G' H σ _ W S' (Out.post_mono k fun f kf=>FlK.later kf sG)
 ·have e:frz j ς=ς:=by
   unfold frz
   split
   ·rename_i d w;exact absurd ⟨d,w⟩ z
   ·rfl
  rw[e]at k
  exact q G H σ ς W S k
end
end DL
namespace LS
open PySem PySem.Spec PyProof.Rows
def met(f:Nat->Str):Nat->List Str
 | 0=>[]
 | i+1=>if f i∈met f i then met f i else met f i++[f i]
theorem met_le(f:Nat->Str):∀ i,(met f i).length<=i
 | 0=>Nat.le_refl _
 | i+1=>by
  have h:=met_le f i
  show(if _ then _ else _:List Str).length<=_
  split
  ·omega
  ·rw[List.length_append,List.length_singleton];omega
abbrev isIn(f:Nat->Str)(i:Nat):Str->Bool:=fun y=>decide (y∈met f i)
theorem QKh(f:Nat->Str)(i:Nat)(y:Str):(isIn f i y||decide (y=f i))=isIn f (i+1) y:=by
 show _=decide (y∈(if _ then _ else _:List Str))
 by_cases h:f i∈met f i
 ·rw[if_pos h]
  by_cases e:y=f i
  ·subst e;simp[isIn,h]
  ·simp[isIn,e]
 ·rw[if_neg h]
  simp[isIn,Bool.decide_or]
theorem QNc(f:Nat->Str)(i:Nat):(if isIn f i (f i)=true then(met f i).length else(met f i).length+1)=(met f (i+1)).length:=by
 show _=(if _ then _ else _:List Str).length
 by_cases h:f i∈met f i
 ·rw[if_pos h,if_pos (decide_eq_true h)]
 ·rw[if_neg h,if_neg (by simpa [isIn] using h),List.length_append];rfl
section
variable{pg:Program}{wd:World}
theorem QLF{hp:Heap}{p:Addr}{f g:Str->Bool}{m n:Nat}(h:hp.SetOf (strKind pg wd) p f m)(hf:f=g)(hn:m=n):hp.SetOf (strKind pg wd) p g n:=hn ▸ hf ▸ h
variable{ar:Around}{Res:Result->Shared->Prop}{it:Addr}{ff wt:List Addr}{Gn:Array GenState->Array GenState->Prop}{n:Nat}{Pv:Nat->Value->Prop}{Sv:Nat->Shared->Prop}
theorem fill(Wk:WalksS pg wd ar.in1 it ff wt Gn n Pv Sv){p:Addr}(off:p∉ff){f:Nat->Str}(txt:∀ i v,Pv i v->∃ t,v=.str (f i) t)(few:n+1<scanBound):
 ∀(m i:Nat)(st:Shared),i+m=n->Sv i st->st.heap.SetOf (strKind pg wd) p (isIn f i) (met f i).length->
  (∀ st',Moved (p::wt) Gn st st'->st'.heap.SetOf (strKind pg wd) p (isIn f n) (met f n).length->Res (.ok (.ret .none)) st')->
  codeAny (model pg wd) ar (.builtin "set.update.loop" ⟨[.ref p,.ref it],[]⟩) Res st:=by
 have off':p∉wt:=fun z=>off (Wk.sub _ z)
 have more:∀ b,b∈wt->b∈p::wt:=fun b hb=>List.mem_cons_of_mem p hb
 have stays:∀{s s':Shared}{i:Nat},Moved wt Gn s s'->s.heap.SetOf (strKind pg wd) p (isIn f i) (met f i).length->s'.heap.SetOf (strKind pg wd) p (isIn f i) (met f i).length:=
  fun mv ⟨o,es,ep,tb,ho,rest⟩=>⟨o,es,ep,tb,mv.heap p o off' ho,rest⟩
 intro m
 induction m with
 | zero=>
  intro i st him hs hset fin
  obtain rfl:i=n:=by omega
  refine codeAny_builtin PyProof.Rows.F.entry_set_update_loop ?_
  rw[Around.under_plainId PyProof.Rows.F.plain_set_update_loop _]
  exact wpAny_bind (m:=pyNext (.ref it)) (Wk.done st _ _ hs fun st' mv=>wpAny_pure (fin st' (mv.mono more) (stays mv hset)))
 | succ m next=>
  intro i st him hs hset fin
  refine codeAny_builtin PyProof.Rows.F.entry_set_update_loop ?_
  rw[Around.under_plainId PyProof.Rows.F.plain_set_update_loop _]
  refine wpAny_bind (m:=pyNext (.ref it)) (Wk.item i st _ _ (by omega) hs fun v st' hv hs' mv=>?_)
  obtain⟨t,rfl⟩:=txt i v hv
  have key:=strKind_is pg wd (f i) t
  have hset1:=stays mv hset
  refine wpAny_bind (m:=holding [.str (f i) t] (setAdd p (.str (f i) t))) (wpAny_holding ?_)
  unfold setAdd
  refine wpAny_holding (wpAny_bind ((strKind pg wd).pyHash (k:=f i) key ?_))
  refine wpAny_setAddHashed_of (knd:=strKind pg wd) key rfl hset1 (by have:=met_le f i;omega) fun hp' same hset'=>?_
  have now:=QLF hset' (g:=isIn f (i+1)) (funext fun y=>QKh f i y) (QNc f i)
  have tt:st'.toks<=st'.toks+1:=Nat.le_succ _
  refine wpAny_pure ⟨plainId_quiet PyProof.Rows.F.plain_set_update_loop _,next (i+1) _ (by omega) (Wk.frame _ st' _ _ hs' tt fun b hb o e=>?_) now fun st2 mv2 hset2=>fin st2 (Moved.trans Wk.gtrans ((mv.mono more).then_heap tt fun b o hb e=>?_) mv2) hset2⟩
  ·rw[same.2 b fun z=>off (z ▸ hb)];exact e
  ·rw[same.2 b fun z=>hb (z ▸ List.mem_cons_self)];exact e
end
abbrev Qez(led:Bool):Obj:={ cls:=.type "set",dict:=none,data:=.set #[] 0 (.fresh 0 0 led) }
section
variable{pg:Program}{wd:World}{ar:Around}{Ex:Value->Shared->Prop}{st:Shared}
set_option maxHeartbeats 4000000 in
theorem of_list{l:Addr}{vs:Array Value}{f:Nat->Str}{Q:‹"k"›}(nh:ar.handled=none)(isl:st.heap.IsList l vs)(txt:∀ i v,vs[i]?=some v->∃ t,v=Value.str (f i) t)(few:vs.size+1<scanBound)
 (goal:∀(hp:Heap)(tk:Nat),hp.SetOf (strKind pg wd) st.heap.objs.size (isIn f vs.size) (met f vs.size).length->(∀ b o,b<st.heap.objs.size->st.heap.get? b=some o->hp.get? b=some o)->Q (.ref st.heap.objs.size) { st with heap:=hp,toks:=tk }):
 wpAny (model pg wd) ar (call (.type "set") [.ref l]) Q Ex st:=by
 have made:=PySem.F.called_set.made
 have sub:=PySem.F.called_set.sub
 have nt:=PySem.F.called_set.notType
 have cc:=PySem.F.called_set.canCreate
 have tc:=PySem.F.typeCall_set_1 (.ref l)
 obtain⟨c1,c2,mro⟩:=PySem.F.called_set.mro
 refine wpAny_call (codeAny_of_tree ?_)
 show wpAny (model pg wd) _ (callAny (.type "set") ⟨[.ref l],[]⟩) _ _ st
 refine wpAny_pure ⟨Code.quiet_builtin _ (dk),codeAny_builtin F.entry_type_call ?_⟩
 rw[Around.under_plain (weight_type_call_type "set" [.ref l] []) rfl]
 repeat (any_goals (first | assumption | wp_step))
 let mid:Shared->Prop:=fun s2=>∃ hp tk,s2={ st with heap:=hp,toks:=tk }/\hp.SetOf (strKind pg wd) st.heap.objs.size (isIn f vs.size) (met f vs.size).length/\∀ b o,b<st.heap.objs.size->st.heap.get? b=some o->hp.get? b=some o
 refine codeAny_mono (code_set_new_1 (.ref l) (E:=Ex) (Q₁:=fun v s1=>∃ led,v=.ref st.heap.objs.size/\s1={ st with heap:=st.heap.push (Qez led) }) fun led=>⟨led,rfl,rfl⟩) fun r1 s1 h1=>?_
 cases r1 with
 | error _=>exact h1
 | ok fl1=>
  cases fl1 with
  | ret v1=>
   obtain⟨led,rfl,rfl⟩:=h1
   have at1:(st.heap.push (Qez led)).get? st.heap.objs.size=some (Qez led):=Heap.get?_push_size _ rfl
   have ty1:Shared.TypeIs { st with heap:=st.heap.push (Qez led) } (.ref st.heap.objs.size) "set":=⟨_,at1,rfl⟩
   have lk:=PySem.F.called_set.init.lookup
   have bd:=PySem.F.called_set.init.bind (.ref st.heap.objs.size)
   repeat (any_goals (first | assumption | wp_step))
   refine codeAny_mono (codeAny_call_builtin (R:=wants (fun v s2=>v=.none/\mid s2) Ex) PySem.F.called_set.init.plain F.entry_set_init (check_set_init_1 ty1 ?_)) fun r2 s2 h2=>?_
   ·obtain⟨⟨oc,od,dt,os⟩,hol,e1,nl,e2⟩:=isl
    obtain rfl:oc=.type "list":=e1
    obtain rfl:dt=.seq vs nl:=e2
    have hol1:(st.heap.push (Qez led)).get? l=some ⟨.type "list",od,.seq vs nl,os⟩:=Heap.get?_push_of_some _ hol
    have isl1:(st.heap.push (Qez led)).IsList l vs:=⟨_,hol1,rfl,nl,rfl⟩
    have n1:=PySem.F.sub_list_set
    have n2:=PySem.F.sub_list_frozenset
    have n3:(Value.type "list" == Value.type "dict")=false:=by decide
    have lt : @LT.lt Nat _ l st.heap.objs.size:=Heap.lt_size hol
    have sz:=Heap.size_push st.heap (Qez led)
    unfold Builtin.«set.__init__» noKeywords Builtin.Frozenset.updateFrom
    generalize keep:pyIter=ITER
    wp_walk
    subst keep
    refine wpAny_pyIter_list isl1 (wpAny_bind (wpAny_runValue ?_))
    have off:st.heap.objs.size∉[(st.heap.push (Qez led)).objs.size,l]:=by
     rw[sz]
     intro z
     rcases List.mem_cons.mp z with z | z
     ·exact Nat.ne_of_lt (Nat.lt_succ_self _) z
     ·exact Nat.ne_of_gt lt (List.mem_singleton.mp z)
    have off2:l≠(st.heap.push (Qez led)).objs.size:=by rw[sz];exact Nat.ne_of_lt (Nat.lt_succ_of_lt lt)
    refine fill ((Walks.list (by simp[nh]) _ l off2 vs).toS) off txt few vs.size 0 _ (Nat.zero_add _) ⟨⟨_,Heap.get?_push_size _ rfl,rfl,rfl⟩,isl1.push _⟩ ?_ fun s3 mv hs3=>?_
    ·exact QLF ((setObjOf_fresh (knd:=strKind pg wd) led).setOf (Heap.get?_push_of_some _ at1) (by unfold scanBound;omega)) (funext fun y=>by simp[isIn,met]) rfl
    ·obtain⟨hp3,g3,d3,tk3,os3⟩:=s3
     obtain rfl:g3=st.gens:=mv.gens
     obtain rfl:d3=st.drawn:=mv.drawn
     obtain rfl:os3=st.os:=mv.os
     refine wpAny_pure (wpAny_pure ⟨rfl,hp3,tk3,rfl,hs3,fun b o hb e=>?_⟩)
     refine mv.heap b o (fun z=>?_) (Heap.get?_push_of_some _ (Heap.get?_push_of_some _ e))
     rw[sz]at z
     rcases List.mem_cons.mp z with z | z
     ·exact Nat.ne_of_lt hb z
     ·rcases List.mem_cons.mp z with z | z
      ·exact Nat.ne_of_lt (Nat.lt_succ_of_lt hb) z
      ·exact absurd z List.not_mem_nil
   ·cases r2 with
    | error _=>exact h2
    | ok fl2=>
     cases fl2 with
     | ret v2=>
      obtain⟨rfl,hp,tk,rfl,hs2,kp⟩:=h2
      repeat (any_goals (first | assumption | wp_step))
      exact goal hp tk hs2 kp
     | _=>exact h2.elim
  | _=>exact h1.elim
end
end LS
namespace DL
open PySem PySem.Spec PyProof.Rows L2
def dkey:D->Option Key
 | .int i=>some (.inl i)
 | .str x=>some (.inr x)
 | _=>none
def valD(kds:List (Key×D))(k:Key):Option D:=(kds.find? fun kv=>decide (kv.1=k)).map (·.2)
def putKD(kds:List (Key×D))(k:Key)(d:D):List (Key×D):=
 if (kds.any fun kv=>decide (kv.1=k))=true then kds.map (fun kv=>if kv.1=k then(kv.1,d) else kv) else kds++[(k,d)]
section
variable{K:PySem.W.Frag}{CT:CTab}{H:Hp}
theorem QvU{d:D}{v:V}{k:Key}(h:dkey d=some k)(r:Rep K CT H d v):v=kV k:=by
 cases d with
 | int i=>cases h;exact r
 | str x=>cases h;exact r
 | _=>cases h
theorem RepK.len:∀{ds:List (Key×D)}{vs:List (Key×V)},RepK K CT H ds vs->ds.length=vs.length
 | [],_,h=>by cases h;rfl
 | (k,d)::ds,_,⟨v,r,h1,h2,h3⟩=>by rw[h1,List.length_cons,List.length_cons,RepK.len h3]
theorem RepK.val(k:Key):∀{ds:List (Key×D)}{vs:List (Key×V)},RepK K CT H ds vs->(valD ds k=none/\valV vs k=none)∨∃ d v,valD ds k=some d/\valV vs k=some v/\Rep K CT H d v
 | [],_,h=>by cases h;exact .inl ⟨rfl,rfl⟩
 | (k',d)::ds,_,⟨v,r,h1,h2,h3⟩=>by
  subst h1
  by_cases e:k'=k
  ·subst e
   exact .inr ⟨d,v,by simp[valD],by simp[valV],h2⟩
  ·have a:valD ((k',d)::ds) k=valD ds k:=by simp[valD,List.find?_cons,e]
   have b:valV ((k',v)::r) k=valV r k:=by simp[valV,List.find?_cons,e]
   rw[a,b];exact RepK.val k h3
theorem RepK.any(k:Key):∀{ds:List (Key×D)}{vs:List (Key×V)},RepK K CT H ds vs->(ds.any fun kv=>decide (kv.1=k))=vs.any fun kv=>decide (kv.1=k)
 | [],_,h=>by cases h;rfl
 | (k',d)::ds,_,⟨v,r,h1,h2,h3⟩=>by
  subst h1
  rw[List.any_cons,List.any_cons,RepK.any k h3]
theorem RepK.repl(k:Key){d:D}{v:V}(hd:Rep K CT H d v):∀{ds:List (Key×D)}{vs:List (Key×V)},RepK K CT H ds vs->RepK K CT H (ds.map fun kv=>if kv.1=k then(kv.1,d) else kv) (vs.map fun kv=>if kv.1=k then(kv.1,v) else kv)
 | [],_,h=>by cases h;rfl
 | (k',d')::ds,_,⟨v',r,h1,h2,h3⟩=>by
  subst h1
  rw[List.map_cons,List.map_cons]
  by_cases e:k'=k
  ·rw[if_pos (show(k',d').1=k from e),if_pos (show(k',v').1=k from e)]
   exact⟨v,_,rfl,hd,RepK.repl k hd h3⟩
  ·rw[if_neg (show ¬ (k',d').1=k from e),if_neg (show ¬ (k',v').1=k from e)]
   exact⟨v',_,rfl,h2,RepK.repl k hd h3⟩
theorem RepK.snoc(k:Key){d:D}{v:V}(hd:Rep K CT H d v):∀{ds:List (Key×D)}{vs:List (Key×V)},RepK K CT H ds vs->RepK K CT H (ds++[(k,d)]) (vs++[(k,v)])
 | [],_,h=>by cases h;exact⟨v,[],rfl,hd,rfl⟩
 | (k',d')::ds,_,⟨v',r,h1,h2,h3⟩=>by
  subst h1
  exact⟨v',_,rfl,h2,RepK.snoc k hd h3⟩
theorem RepK.put(k:Key){d:D}{v:V}(hd:Rep K CT H d v){ds:List (Key×D)}{vs:List (Key×V)}(h:RepK K CT H ds vs):RepK K CT H (putKD ds k d) (putK vs k v):=by
 unfold putKD putK
 rw[RepK.any k h]
 split
 ·exact RepK.repl k hd h
 ·exact RepK.snoc k hd h
end
def eDix(A B:SD->Out D):SD->Out D:=fun ς=>A ς>>=fun x=>match x with
 | .dic kds=>B ς>>=fun y=>match dkey y with | some k=>optO (valD kds k) | none=>.stuck
 | _=>.stuck
def eDget(A B:SD->Out D):SD->Out D:=fun ς=>A ς>>=fun x=>match x with
 | .dic kds=>B ς>>=fun y=>match dkey y with | some k=>.ok ((valD kds k).getD .non) | none=>.stuck
 | _=>.stuck
def sPutD(i:Nat)(I E:SD->Out D):SD->Out Fl:=fun ς=>E ς>>=fun d=>match ς[i]? with
 | some (some (.o,.dic kds))=>I ς>>=fun y=>match dkey y with
  | some k=>if decide (kds.length<sizeLine)=true then .ok (.nx (ς.set i (some (.o,.dic (putKD kds k d))))) else .stuck
  | none=>.stuck
 | _=>.stuck
section
variable{C:Dc}{a b c:Expr}{A B Z:SD->Out D}{pos apos:Pos}
theorem QPV(hu:C.X.A.units+64<cLine)(ha:DE C a A)(hb:DB C b B)(hs:NoSl b:=by intro _ _;rfl):DE C (.Subscript a b pos) (eDix A B):=by
 obtain⟨ta,p1,q1⟩:=ha
 obtain⟨tb,p2,q2⟩:=hb
 refine⟨_,QOg (by omega) p1 p2 hs,fun G H σ ς Q S q=>?_⟩
 unfold eDix at q
 rw[Out.post_bind]at q
 refine q1 G H σ ς _ S (Out.post_mono q fun x k v1 H1 G1 S1 a1 b1 r1=>?_)
 cases x with
 | dic kds=>
  have k:(B ς>>=fun y=>match dkey y with | some k=>optO (valD kds k) | none=>.stuck).post (KD C G H σ ς Q) C.XD:=k
  rw[Out.post_bind]at k
  refine q2 G1 H1 σ ς _ S1 (Out.post_mono k fun y k2 v2 H2 G2 S2 a2 b2 r2=>?_)
  cases e:dkey y with
  | none=>rw[e]at k2;exact k2.elim
  | some kk=>
   rw[e]at k2
   obtain⟨d,ed,kd⟩:=QcW k2
   obtain⟨p,kvs,rfl,h2,h3⟩:=Rep.mono b2 _ v1 r1
   rcases RepK.val kk h3 with⟨n1,n2⟩ | ⟨d',v,n1,n2,r⟩
   ·rw[n1]at ed;cases ed
   ·rw[n1]at ed;cases ed
    exact⟨p,v,rfl,.inl ⟨kvs,kk,Same.rd S2.sub h2,QvU e r2,n2.symm⟩,KD.now ‹"ao"› S2 r⟩
 | _=>exact k.elim
theorem QND{K:PySem.W.Frag}{CT:CTab}{H:Hp}:Rep K CT H .non .non:=rfl
theorem QOH(hu:C.X.A.units+64<cLine)(ha:DE C a A)(hb:DB C b B)
 (hbase:attributeBase a "get" C.X.env (eval a C.X.env)=eval a C.X.env:=by rfl)
 (hfew:((backTo pos (starEach [b] C.X.env)).all (fun x => !x.1)&&(backToKw pos (keywordEach [] C.X.env)).all (fun x=>x.1.isSome)
  && decide (([b]:List Expr).length+([]:List Keyword).length+(if ([]:List Keyword).isEmpty then 0 else 1)<30))=true:=by rfl)
 (hline:(apos.endLine == pos.line)=true:=by rfl) (htr:backTo pos (starEach [b] C.X.env)=[(false,eval b C.X.env)]:=by rfl):DE C (.Call (.Attribute a "get" apos) [b] [] pos) (eDget A B):=by
 obtain⟨ta,p1,q1⟩:=ha
 obtain⟨tb,p2,q2⟩:=hb
 refine⟨_,QMJ (by omega) p1 p2 ⟨hbase,hfew,hline,htr⟩,fun G H σ ς Q S q=>?_⟩
 unfold eDget at q
 rw[Out.post_bind]at q
 refine q1 G H σ ς _ S (Out.post_mono q fun x k v1 H1 G1 S1 a1 b1 r1=>?_)
 cases x with
 | dic kds=>
  have k:(B ς>>=fun y=>match dkey y with | some k=>Out.ok ((valD kds k).getD .non) | none=>.stuck).post (KD C G H σ ς Q) C.XD:=k
  rw[Out.post_bind]at k
  obtain⟨p,kvs,rfl,h2,h3⟩:=r1
  refine⟨p,rfl,.inl ⟨kvs,Same.rd S1.sub h2⟩,q2 G1 H1 σ ς _ S1 (Out.post_mono k fun y k2 v2 H2 G2 S2 a2 b2 r2=>?_)⟩
  cases e:dkey y with
  | none=>rw[e]at k2;exact k2.elim
  | some kk=>
   rw[e]at k2
   have kd:KD C G H σ ς Q ((valD kds kk).getD .non):=k2
   refine⟨valV kvs kk,.inl ⟨kvs,kk,Same.rd (S1.sub.trans a2) h2,QvU e r2,rfl⟩,?_⟩
   rcases RepK.val kk (RepK.mono b2 kds kvs h3) with⟨n1,n2⟩ | ⟨d',v,n1,n2,r⟩
   ·rw[n1]at kd;rw[n2];exact KD.now ‹"ao"› S2 QND
   ·rw[n1]at kd;rw[n2];exact KD.now ‹"ao"› S2 r
 | _=>exact k.elim
theorem StR.writeD{G H:Hp}{σ:St}{ς:SD}(S:‹"ax"›){i:Nat}{p:Addr}{xs ys:List (Key×D)}{vs ws:List (Key×V)}(hi:ς[i]?=some (some (.o,.dic xs)))(hp:σ[i]?=some (some (.ref p)))(hH:H p=some (.dK vs))(r:RepK C.X.K C.CT G ys ws):
 StR C G (upd H p (.dK ws)) σ (ς.set i (some (.o,.dic ys))):=by
 obtain⟨p',e1,hg,h0,ow⟩:=S.ow i _ hi
 rw[hp]at e1;cases e1
 have hil:i<ς.length:=(List.getElem?_eq_some_iff.mp hi).1
 have ne:∀ b o,G b=some o->b≠p:=fun b o e z=>by subst z;rw[hg]at e;cases e
 have S':StR C G (upd H p (.dK ws)) (σ.set i (some (.ref p))) (ς.set i (some (.o,.dic ys))):={
  sub:=fun b o e=>by rw[Ql (ne b o e)];exact S.sub b o e
  g0:=S.g0
  new:=S.new
  fr:=fun b o e m=>by
   rw[Ql (by rintro rfl;rw[h0]at e;cases e)];exact S.fr b o e m
  dom:=fun b e=>by
   by_cases hb:b=p
   ·subst hb;exact h0
   ·rw[Ql hb]at e;exact S.dom b e
  bs:=fun b o e=>by
   rw[Ql (by rintro rfl;rw[S.bh _ h0]at e;cases e)];exact S.bs b o e
  bh:=S.bh
  len:=by rw[List.length_set,List.length_set];exact S.len
  fz:=fun j d h=>by
   rcases QH h with⟨rfl,h2,l⟩ | ⟨hne,h2⟩
   ·cases h2
   ·rw[Qs hne];exact S.fz j d h2
  ow:=fun j d h=>by
   rcases QH h with⟨rfl,h2,l⟩ | ⟨hne,h2⟩
   ·cases h2
    exact⟨p,Qhk (by rw[S.len];exact l),hg,h0,⟨ws,QO,r⟩⟩
   ·rw[Qs hne]
    obtain⟨q,a,b,c,w⟩:=S.ow j d h2
    have qp:q≠p:=by
     rintro rfl
     exact S.inj i j _ _ q hne hi h2 hp a
    exact⟨q,a,b,c,w.mono (Same.refl G) fun o z=>by rw[Ql qp];exact z⟩
  ln:=fun j d h=>by
   rcases QH h with⟨rfl,h2,l⟩ | ⟨hne,h2⟩
   ·cases h2
   ·rw[Qs hne];exact S.ln j d h2
  inj:=fun j k d1 d2 q hjk h1 h2 h3=>by
   have get:∀(j:Nat) d,(ς.set i (some (.o,D.dic ys)))[j]?=some (some (.o,d))->∃ d',ς[j]?=some (some (.o,d')):=fun j d h=>by
    rcases QH h with⟨rfl,h2,l⟩ | ⟨hne,h2⟩
    ·exact⟨_,hi⟩
    ·exact⟨_,h2⟩
   obtain⟨d1',g1⟩:=get j d1 h1
   obtain⟨d2',g2⟩:=get k d2 h2
   rw[Qip hp]at h3 ⊢
   exact S.inj j k d1' d2' q hjk g1 g2 h3
  sf:=fun j d h=>by
   rcases QH h with⟨rfl,h2,l⟩ | ⟨hne,h2⟩
   ·cases h2
   ·rw[Qs hne]
    obtain⟨q,a,b,c,m,z,w⟩:=S.sf j d h2
    have qp:q≠p:=by
     rintro rfl
     exact c h0
    exact⟨q,a,b,c,m,z,w.mono (Same.refl G) fun o z=>by rw[Ql qp];exact z⟩
  su:=fun j k d1 d2 q hjk h1 h2 h3=>by
   rcases QH h1 with⟨rfl,q1,l⟩ | ⟨n1,q1⟩
   ·cases q1
   ·rcases QH h2 with⟨rfl,q2,l⟩ | ⟨n2,q2⟩
    ·cases q2
    ·rw[Qs n1]at h3
     rw[Qs n2];exact S.su j k d1 d2 q hjk q1 q2 h3 }
 rw[Qip hp]at S'
 exact S'
variable{e:Expr}{E:SD->Out D}{p1 p2:Pos}{x:Str}
theorem QHH(hu:C.X.A.units+64<cLine)(i:Nat)(hi:DB C a A)(he:DE C e E)(hN:C.X.N[i]?=some x:=by rfl)(hv:Vis C.X.env.scope x:=by first | exact Or.inl rfl | exact Or.inr (Or.inl rfl) | exact Or.inr (Or.inr rfl))
 (hd:‹"f"›:=by decide) (hcd:‹"C"›:=by decide)
 (hs:swapsWith e (some (.Subscript (.Name x p1) a p2)) pos.line C.X.env=pure false:=by rfl):DS C (.Assign [.Subscript (.Name x p1) a p2] e pos) (sPutD i A E):=by
 obtain⟨t,p,q⟩:=he
 obtain⟨t2,p2',q2⟩:=hi
 refine⟨_,QOw (by omega) ‹"aQ"› p2' p hs,fun G H σ ς W S k=>?_⟩
 unfold sPutD at k
 rw[Out.post_bind]at k
 refine q G H σ ς _ S (Out.post_mono k fun d k v H1 G1 S1 a1 b1 r1=>?_)
 split at k
 ·rename_i kds z
  obtain⟨pp,e1,hg,h0,ow⟩:=S1.ow i _ z
  rw[Out.post_bind]at k
  refine⟨_,e1,q2 G1 H1 σ ς _ S1 (Out.post_mono k fun y k2 w H2 G2 S2 a2 b2 r2=>?_)⟩
  cases ey:dkey y with
  | none=>rw[ey]at k2;exact k2.elim
  | some kk=>
   rw[ey]at k2
   obtain⟨pp',e1',hg',h0',kvs,hv1,hv2⟩:=S2.ow i _ z
   rw[e1]at e1';cases e1'
   rcases QQ k2 with⟨hc,k3⟩ | ⟨_,k3⟩
   ·refine⟨pp,_,rfl,.inl ⟨kvs,kk,hv1,QvU ey r2,by rw[← hv2.len];exact of_decide_eq_true hc,rfl⟩,?_⟩
    exact k3 σ _ G2 (S2.writeD z e1 hv1 (RepK.put kk (Rep.mono b2 d v r1) hv2)) (b1.trans b2)
   ·exact k3.elim
 ·exact k.elim
end
end DL
namespace DL
open PySem PySem.Spec PyProof.Rows L2
def QeW(xs:List Str):Nat:=(LS.met (fun i=>xs.getD i "") xs.length).length
def QOL(K:PySem.W.Frag)(te:TA):TE:=fun σ H Q=>te σ H fun vs H1=>∃ p xs,vs=[V.ref p]/\SqL K H1 p (xs.map V.str)/\xs.length<4000/\Q (.int (QeW xs)) H1
section
variable{X:Cx}{e:Expr}{te:TA}{p1 p2 p3 pos:Pos}
theorem QD9:∀{xs:List Str}{us:List Value},Vals (xs.map V.str) us->∀(i:Nat) v,us[i]?=some v->∃ t,v=.str (xs.getD i "") t
 | [],_,h,i,v,hv=>by cases h;simp at hv
 | x::xs,_,h,i,v,hv=>by
  cases h with
  | cons hx hr=>
   cases i with
   | zero=>
    obtain⟨t,ht⟩:=hx
    refine⟨t,?_⟩
    simp at hv
    rw[← hv,ht];rfl
   | succ i=>
    have:=QD9 hr i v (by simpa using hv)
    simpa using this
theorem QLz(hh:X.A.handled=none)(gl:Gl X "len")(ml:X.mg "len"=none)(gs:Gl X "set")(ms:X.mg "set"=none)(he:PA X [e] te)
 (h1:starEach [e] X.env=(false,eval e X.env)::starEach [] X.env:=by rfl)
 (h2:starEach [.Call (.Name "set" p2) [e] [] p3] X.env=(false,eval (.Call (.Name "set" p2) [e] [] p3) X.env)::starEach [] X.env:=by rfl)
 (h3:backTo pos (starEach [.Call (.Name "set" p2) [e] [] p3] X.env)=[(false,eval (.Call (.Name "set" p2) [e] [] p3) X.env)]:=by rfl):
 PE X (.Call (.Name "len" p1) [.Call (.Name "set" p2) [e] [] p3] [] pos) (QOL X.K te):=by
 intro pins s σ H Q I h
 have inner:wpAny ‹"j"› X.A (eval (.Call (.Name "set" p2) [e] [] p3) X.env) (fun u s'=>∃ D H1 xs,u=.ref D/\Inv X pins σ H1 s'/\s'.heap.SetOf (strKind X.prog X.w) D (LS.isIn (fun i=>xs.getD i "") xs.length) (QeW xs)/\QeW xs<4000/\Q (.int (QeW xs)) H1) X.xe s:=by
  refine wpAny_Call_Name_kw (QjE I gs ms PyProof.Rows.Boot.«set» ?_ (by decide) (by decide))
  refine PyProof.Rows.callWith_type1 (thn (he p3 pins s σ H _ I h) fun us s1 ⟨vs,H1,I1,r1,p,xs,ev,sq,few,q⟩=>?_) h1 rfl
  ·subst ev
   obtain⟨u,rfl,rx⟩:=vals1 r1
   cases rx
   obtain⟨its,rv,pl,hz⟩:=I1.list sq
   have hl:=rv.length
   rw[List.length_map]at hl
   have le:=LS.met_le (fun i=>xs.getD i "") xs.length
   refine LS.of_list hh pl.isList (f:=fun i=>xs.getD i "") (fun i v hv=>QD9 rv i v (by simpa using hv)) (by rw[List.size_toArray, ← hl];unfold scanBound;omega) fun hp tk hs kp=>?_
   have sz:its.toArray.size=xs.length:=by rw[List.size_toArray];omega
   rw[sz]at hs
   exact⟨_,H1,xs,rfl,I1.kept fun b o eb=>kp b o (Heap.lt_size eb) eb,hs,by unfold QeW;omega,q⟩
 refine wpAny_Call_Name_kw (QjE I gl ml PySem.boot_len ?_ (by decide) (by decide))
 refine PyProof.Rows.callWith_builtin1 ?_ h2 rfl
 rw[h3]
 refine Calls.spliced_cons (thn inner fun u s1 ⟨D,H1,xs,eu,I1,hs,few,q⟩=>Calls.spliced_nil ?_)
 subst eu
 obtain⟨o,es,ep,t,ho,hex,hd,hel,hmem,hb,hf,hn⟩:=hs
 refine call_len_set ho hex hd hf (by rw[hn];omega) ?_
 rw[hn]
 exact⟨.int (QeW xs),H1,(I1.tok _).tok _,⟨_,rfl⟩,q⟩
end
def strsD:List D->Option (List Str)
 | []=>some []
 | .str x::ds=>(strsD ds).map (x :: ·)
 | _::_=>none
theorem QCn{K:PySem.W.Frag}{CT:CTab}{H:Hp}:∀{ds:List D}{vs:List V}{xs:List Str},strsD ds=some xs->RepL K CT H ds vs->vs=xs.map V.str
 | [],_,_,h,r=>by cases h;cases r;rfl
 | d::ds,_,xs,h,⟨v,r,h1,h2,h3⟩=>by
  cases d with
  | str x=>
   obtain⟨ys,hy,rfl⟩:=Option.map_eq_some_iff.mp (show(strsD ds).map (x :: ·)=some xs from h)
   rw[h1,QCn hy h3,show v=V.str x from h2];rfl
  | _=>cases h
def QyN:D->Out D
 | .lst ds=>match strsD ds with
  | some xs=>if decide (xs.length<4000)=true then .ok (.int (QeW xs)) else .stuck
  | none=>.stuck
 | _=>.stuck
section
variable{C:Dc}{a:Expr}{A:SD->Out D}{p1 p2 p3 pos:Pos}
theorem QMh(hh:C.X.A.handled=none)(gl:Gl C.X "len")(ml:C.X.mg "len"=none)(gs:Gl C.X "set")(ms:C.X.mg "set"=none)(ha:DB C a A)
 (h1:starEach [a] C.X.env=(false,eval a C.X.env)::starEach [] C.X.env:=by rfl)
 (h2:starEach [.Call (.Name "set" p2) [a] [] p3] C.X.env=(false,eval (.Call (.Name "set" p2) [a] [] p3) C.X.env)::starEach [] C.X.env:=by rfl)
 (h3:backTo pos (starEach [.Call (.Name "set" p2) [a] [] p3] C.X.env)=[(false,eval (.Call (.Name "set" p2) [a] [] p3) C.X.env)]:=by rfl):
 DE C (.Call (.Name "len" p1) [.Call (.Name "set" p2) [a] [] p3] [] pos) (e1 QyN A):=by
 obtain⟨ta,q1,q2⟩:=ha
 refine⟨_,QLz hh gl ml gs ms (QbX q1 QeS h1) h1 h2 h3,fun G H σ ς Q S q=>?_⟩
 unfold e1 at q
 rw[Out.post_bind]at q
 refine q2 G H σ ς _ S (Out.post_mono q fun x k v1 H1 G1 S1 a1 b1 r1=>?_)
 cases x with
 | lst ds=>
  obtain⟨p,vs,rfl,sq,r⟩:=r1
  have k:(match strsD ds with | some xs=>if decide (xs.length<4000)=true then Out.ok (D.int (QeW xs)) else .stuck | none=>.stuck).post (KD C G H σ ς Q) C.XD:=k
  cases es:strsD ds with
  | none=>rw[es]at k;exact k.elim
  | some xs=>
   rw[es]at k
   have ev:=QCn es r
   subst ev
   rcases QQ k with⟨hc,kd⟩ | ⟨_,kd⟩
   ·exact⟨p,xs,rfl,sq,of_decide_eq_true hc,KD.now (KD.later (show KD C G H σ ς Q (.int (QeW xs)) from kd) a1 b1) S1 rfl⟩
   ·exact kd.elim
 | _=>exact k.elim
end
end DL
namespace DL
open PySem PySem.Spec PyProof.Rows L2
def tVs(vs:List V):TA:=fun _ H Q=>Q vs H
def anyT:List (List (Str×Bool))->Str->Option Bool
 | [],_=>some false
 | t::ts,c=>match t.lookup c with
  | some true=>some true
  | some false=>anyT ts c
  | none=>none
def KitsT(K:PySem.W.Frag)(CT:CTab):List Value->List (List (Str×Bool))->Prop
 | [],[]=>True
 | u::us,t::ts=>KitI K CT u t/\KitsT K CT us ts
 | _,_=>False
theorem QEm{K:PySem.W.Frag}{CT:CTab}{c:Str}{A:Addr}(hA:CT c=some A):∀{us:List Value}{ts:List (List (Str×Bool))}{b:Bool},KitsT K CT us ts->anyT ts c=some b->PySem.W.kitAny K (.ref A) us=some b
 | [],[],b,_,h=>h
 | u::us,t::ts,b,⟨h1,h2⟩,h=>by
  unfold anyT at h
  unfold PySem.W.kitAny
  cases e:t.lookup c with
  | none=>rw[e]at h;cases h
  | some z=>
   rw[(h1 c z e A hA).2]
   rw[e]at h
   cases z with
   | true=>exact h
   | false=>exact QEm hA h2 h
theorem QMD{K:PySem.W.Frag}{CT:CTab}{c:Str}{A:Addr}(hA:CT c=some A){u:Value}{us:List Value}{t:List (Str×Bool)}{ts:List (List (Str×Bool))}{b:Bool}(h:KitsT K CT (u::us) (t::ts))(e:anyT (t::ts) c=some b):ClsD K A:=by
 unfold anyT at e
 cases q:t.lookup c with
 | none=>rw[q]at e;cases e
 | some z=>exact(h.1 c z q A hA).1
def isaTs(ts:List (List (Str×Bool))):D->Out Bool
 | .ins c _=>match anyT ts c with | some b=>.ok b | none=>.stuck
 | _=>.stuck
section
variable{C:Dc}{e:Expr}{E:SD->Out D}{p pos tp1:Pos}{cs:List Expr}
theorem QN1{X:Cx}:PA X [] (tVs []):=QeS
theorem Qq1{X:Cx}{e:Expr}{es:List Expr}{v:V}{vs:List V}(h:PE X e (tC v))(r:PA X es (tVs vs))(he:‹"l"›:=by rfl):PA X (e::es) (tVs (v::vs)):=QbX h r he
theorem QEe:∀{as:List Addr}{us:List Value},Vals (as.map V.ref) us->us=as.map Value.ref
 | [],_,h=>by cases h;rfl
 | a::as,_,h=>by
  cases h with
  | cons h1 h2=>rw[QEe h2,show _=Value.ref a from h1];rfl
theorem QOh{x1}{a:Addr}{as:List Addr}{t:List (Str×Bool)}{ts:List (List (Str×Bool))}(hc:PA C.X cs (tVs ((a::as).map V.ref)))(hk:KitsT C.X.K C.CT ((a::as).map Value.ref) (t::ts))(hz:(a::as).length<=20)(hg:Gl C.X "isinstance")(hm:C.X.mg "isinstance"=none)(h:DB C e E)
 (he:starEach (e::[.Tuple cs x1 tp1]) C.X.env=(false,eval e C.X.env)::starEach [.Tuple cs x1 tp1] C.X.env:=by rfl) (he2:starEach (.Tuple cs x1 tp1::[]) C.X.env=(false,eval (.Tuple cs x1 tp1) C.X.env)::starEach [] C.X.env:=by rfl)
 (hpl:(backTo pos (starEach [.Tuple cs x1 tp1] C.X.env)).any (·.1)=false:=by rfl):DE C (.Call (.Name "isinstance" p) [e,.Tuple cs x1 tp1] [] pos) (eIsa (isaTs (t::ts)) E):=by
 obtain⟨te,p1,q1⟩:=h
 have hR:CallR C.X (.builtin "isinstance") (fun xs H Q=>∃ c fs x tp b,xs=[x,V.ref tp]/\Rep C.X.K C.CT H (.ins c fs) x/\H tp=some (.tup ((a::as).map V.ref))/\anyT (t::ts) c=some b/\Q (.bl b) H):=by
  intro pins s σ H xs us Q I r hq
  obtain⟨c,fs,x,tp,b,rfl,h1,h2,h3,q⟩:=hq
  obtain⟨u,w,rfl,r1,r2⟩:=vals2 r
  obtain rfl:w=Value.ref tp:=r2
  obtain⟨p',A',dx,fs',rfl,g1,g2,_⟩:=h1
  obtain rfl:u=Value.ref p':=r1
  have cd:=QMD g1 hk h3
  obtain⟨mA,O,_⟩:=Qpt I.hok g2
  obtain⟨od,J,_⟩:=O.look
  obtain⟨_,its,rv,pt⟩:=(show ObjOk C.X.prog C.X.w H s.heap tp (.tup ((a::as).map V.ref)) from I.hok tp _ h2)
  obtain⟨⟨oc,odd,odt,osl⟩,ho,hcl,nn,hd⟩:=pt
  obtain rfl:oc=.type "tuple":=hcl
  obtain rfl:odt=.seq its.toArray nn:=hd
  obtain rfl:=QEe rv
  exact PySem.W.kia_tup (PySem.W.kitx_own (cd.cl.get _) cd.cl.hd cd.ha cd.hn cd.htk cd.hm) I.kIn J ho (QEm g1 hk h3) (fun z=>nomatch z) fun tk=>⟨.bl b,H,I.tok _,rfl,q⟩
 refine⟨_,Qu0 hR hg hm PyProof.Rows.Boot.«isinstance» (QbX p1 (QbX (QLQ hc) QeS he2) he) (by decide) (by decide) he hpl,fun G H σ ς Q S q=>?_⟩
 unfold eIsa at q
 rw[Out.post_bind]at q
 refine q1 G H σ ς _ S (Out.post_mono q fun d k v1 H1 G1 S1 a1 b1 r1=>?_)
 rw[Out.post_bind]at k
 cases d with
 | ins c fs=>
  cases ea:anyT (t::ts) c with
  | none=>
   have hs:isaTs (t::ts) (D.ins c fs)=.stuck:=by show(match anyT (t::ts) c with | some b=>Out.ok b | none=>Out.stuck)=_;rw[ea]
   rw[hs]at k;exact k.elim
  | some b=>
   have hs:isaTs (t::ts) (D.ins c fs)=.ok b:=by show(match anyT (t::ts) c with | some b=>Out.ok b | none=>Out.stuck)=_;rw[ea]
   rw[hs]at k
   refine⟨by rw[List.length_map];exact Nat.le_trans hz (by decide),fun tp htp=>?_⟩
   have S2:=S1.allocO (o:=.tup ((a::as).map V.ref)) htp
   exact⟨c,fs,v1,tp,b,rfl,Rep.mono (QD htp) _ v1 r1,QO,ea,KD.now (KD.later (show KD C G H σ ς Q (.bl b) from k) (a1.trans (QD htp)) b1) S2 rfl⟩
 | _=>exact k.elim
end
end DL
namespace DL
open PySem PySem.Spec PyProof.Rows L2
theorem QB6{K:PySem.W.Frag}{CT:CTab}{H:Hp}{d:D}{v:V}(h:d.scal=true)(r:Rep K CT H d v):v=toV d:=by
 cases d with
 | non=>exact r
 | bl b=>exact r
 | int i=>exact r
 | str x=>exact r
 | _=>cases h
theorem QzY{K:PySem.W.Frag}{CT:CTab}{H:Hp}:∀{ds:List D}{vs:List V},ds.all D.scal=true->RepL K CT H ds vs->vs=ds.map toV
 | [],_,_,r=>by cases r;rfl
 | d::ds,_,h,⟨v,r,h1,h2,h3⟩=>by
  rw[List.all_cons,Bool.and_eq_true]at h
  rw[h1,QB6 h.1 h2,QzY h.2 h3];rfl
theorem QzF{d:D}(h:d.scal=true):flatV (toV d)=true:=by
 cases d with
 | non=>rfl
 | bl b=>rfl
 | int i=>rfl
 | str x=>rfl
 | _=>cases h
theorem Qv1:∀{ds:List D},ds.all D.scal=true->(ds.map toV).all flatV=true
 | [],_=>rfl
 | d::ds,h=>by
  rw[List.all_cons,Bool.and_eq_true]at h
  rw[List.map_cons,List.all_cons,QzF h.1,Qv1 h.2];rfl
def dInL:D->D->Out D
 | x,.lst ds=>if (x.scal&&ds.all D.scal)=true then .ok (.bl (inV (toV x) (ds.map toV))) else .stuck
 | _,_=>.stuck
section
variable{C:Dc}{a b:Expr}{A B:SD->Out D}{pos:Pos}
theorem QNW:DRS C (rIn C.X.K false) dInL:=by
 intro G H σ ς Q x y vx vy S hx hy q
 cases y with
 | lst ds=>
  have q:(if (x.scal&&ds.all D.scal)=true then Out.ok (D.bl (inV (toV x) (ds.map toV))) else .stuck).post _ _:=q
  rcases QQ q with⟨hc,q⟩ | ⟨_,q⟩
  ·rw[Bool.and_eq_true]at hc
   obtain⟨p,vs,rfl,h2,h3⟩:=hy
   have e1:=QB6 hc.1 hx
   have e2:=QzY hc.2 h3
   subst e1;subst e2
   exact⟨p,_,rfl,.inl h2,QzF hc.1,Qv1 hc.2,q.2⟩
  ·exact q.elim
 | _=>exact q.elim
theorem QNm:scal2 dInL:=fun x y=>by
 cases y with
 | lst ds=>
  show match (if (x.scal&&ds.all D.scal)=true then Out.ok (D.bl (inV (toV x) (ds.map toV))) else .stuck) with | .ok d=>d.scal=true | .exc _=>False | .stuck=>True
  split<;>rename_i h<;>(split at h<;>cases h)<;>first | rfl | trivial
 | _=>exact True.intro
theorem QJ6(ha:DB C a A)(hb:DB C b B)(hm:behindInMarks .In b=false:=by rfl):DE C (.Compare a [.In] [b] pos) (e2 dInL A B):=QDZ QLs QNW QNm ha hb hm
end
end DL
namespace DL
open PySem PySem.Spec PyProof.Rows L2
section
variable{C:Dc}{a b:Expr}{A B:SD->Out D}{pos:Pos}
end
end DL
namespace DL
open PySem PySem.Spec PyProof.Rows L2
section
variable{C:Dc}{e:Expr}{E:SD->Out D}{pos p1 p2 p3:Pos}{x:Str}
end
end DL
namespace DL
open PySem PySem.Spec PyProof.Rows L2
section
variable{K:PySem.W.Frag}{CT:CTab}{G H:Hp}
end
section
variable{C:Dc}{a b:Expr}{A B:SD->Out D}{pos:Pos}
end
end DL
namespace DL
open PySem PySem.Spec PyProof.Rows L2
def frzs:List Nat->SD->SD
 | [],ς=>ς
 | i::is,ς=>frzs is (frz i ς)
theorem QxK{C:Dc}{st:Stmt}:∀(is:List Nat){T:SD->Out Fl},DS C st T->DS C st (fun ς=>T (frzs is ς))
 | [],_,h=>h
 | i::is,_,h=>Qtn i (QxK is h)
section
variable{X:Cx}{e:Expr}{te:TA}{p1 p2 p3 pos:Pos}
end
section
variable{C:Dc}{e:Expr}{A:SD->Out (List D)}{p1 p2 p3 pos:Pos}
end
end DL
namespace DL
open PySem PySem.Spec PyProof.Rows L2
section
variable{C:Dc}{e:Expr}{E:SD->Out D}{pos:Pos}
end
end DL
namespace DL
open PySem PySem.Spec PyProof.Rows L2
section
variable{C:Dc}{o e:Expr}{es:List Expr}{O:SD->Out D}{A:SD->Out (List D)}{apos cpos:Pos}{m:Str}{id:String}{r:V->List V->Hp->VK->Prop}{f:D->List D->Out D}
end
end DL
namespace L2
open PySem PySem.Spec PyProof.Rows
section
variable{X:Cx}
end
end L2
namespace DL
open PySem PySem.Spec PyProof.Rows L2
section
variable{C:Dc}{a:Expr}{A:SD->Out D}
end
end DL
namespace DL
open PySem PySem.Spec PyProof.Rows L2
section
variable{C:Dc}{G G' H H':Hp}{σ:St}{ς ς':SD}
theorem StR.swap(S:‹"ax"›)(P:Addr->Prop)(hl:ς'.length=ς.length)(g1:Same G G')(h1:∀ b o,H b=some o->¬ P b->H' b=some o)(s1:Same G' H')(n1:∀ b,G b=none->G' b≠none->H b=none)
 (hP:∀ b,P b->H' b≠none/\((C.X.H₀ b=none)∨(C.M b/\C.B b=none)))
 (hs:∀(i:Nat) m d',ς'[i]?=some (some (m,d'))->(ς[i]?=some (some (m,d'))/\∀ b,(m=.o∨m=.s)->σ[i]?=some (some (.ref b))->¬ P b)∨
  ((m=.o∨m=.s)/\∃ d b,ς[i]?=some (some (m,d))/\σ[i]?=some (some (.ref b))/\Own C.X.K C.CT G' H' b d')):StR C G' H' σ ς':=by
 have gn:∀ b,G b=none->(∃ o,H b=some o)->G' b=none:=fun b hb ⟨o,ho⟩=>by
  cases q:G' b with
  | none=>rfl
  | some u=>have:=n1 b hb (by rw[q];simp);rw[ho]at this;cases this
 have back:∀(i:Nat) m d',(m=.o∨m=.s)->ς'[i]?=some (some (m,d'))->∃ d,ς[i]?=some (some (m,d)):=fun i m d' hm h=>by
  rcases hs i m d' h with⟨e,_⟩ | ⟨_,d,b,e,_⟩
  ·exact⟨_,e⟩
  ·exact⟨_,e⟩
 exact {
  sub:=s1
  g0:=S.g0.trans g1
  new:=fun b h0 hn=>by
   cases q:G b with
   | none=>exact S.h0none (n1 b q hn)
   | some o=>exact S.new b h0 (by rw[q];simp)
  fr:=fun b o e m=>h1 b o (S.fr b o e m) fun p=>by
   rcases(hP b p).2 with z | z
   ·rw[z]at e;cases e
   ·exact m z.1
  dom:=fun b e=>by
   cases q:H b with
   | none=>exact S.dom b q
   | some o=>
    by_cases p:P b
    ·exact absurd e (hP b p).1
    ·rw[h1 b o q p]at e;cases e
  bs:=fun b o e=>h1 b o (S.bs b o e) fun p=>by
   rcases(hP b p).2 with z | z
   ·rw[S.bh b z]at e;cases e
   ·rw[z.2]at e;cases e
  bh:=S.bh
  len:=by rw[hl];exact S.len
  fz:=fun i d h=>by
   rcases hs i _ d h with⟨e,_⟩ | ⟨z | z,_⟩
   ·obtain⟨v,a,b⟩:=S.fz i d e
    exact⟨v,a,Rep.mono g1 d v b⟩
   ·cases z
   ·cases z
  ow:=fun i d h=>by
   rcases hs i _ d h with⟨e,np⟩ | ⟨_,d0,b,e,eb,w⟩
   ·obtain⟨p,a,hg,h0,w⟩:=S.ow i d e
    exact⟨p,a,gn p hg w.there,h0,w.mono g1 fun o z=>h1 p o z (np p (.inl rfl) a)⟩
   ·obtain⟨p,a,hg,h0,w0⟩:=S.ow i d0 e
    rw[eb]at a;cases a
    exact⟨b,eb,gn b hg w0.there,h0,w⟩
  ln:=fun i d h=>by
   rcases hs i _ d h with⟨e,_⟩ | ⟨z | z,_⟩
   ·exact S.ln i d e
   ·cases z
   ·cases z
  inj:=fun i j d e p n h1 h2=>by
   obtain⟨d1,q1⟩:=back i _ d (.inl rfl) h1
   obtain⟨d2,q2⟩:=back j _ e (.inl rfl) h2
   exact S.inj i j d1 d2 p n q1 q2
  sf:=fun i d h=>by
   rcases hs i _ d h with⟨e,np⟩ | ⟨_,d0,b,e,eb,w⟩
   ·obtain⟨p,a,hg,h0,m,z,w⟩:=S.sf i d e
    exact⟨p,a,gn p hg w.there,h0,m,z,w.mono g1 fun o z=>h1 p o z (np p (.inr rfl) a)⟩
   ·obtain⟨p,a,hg,h0,m,z,w0⟩:=S.sf i d0 e
    rw[eb]at a;cases a
    exact⟨b,eb,gn b hg w0.there,h0,m,z,w⟩
  su:=fun i j d e p n h1 h2=>by
   obtain⟨d1,q1⟩:=back i _ d (.inr rfl) h1
   obtain⟨d2,q2⟩:=back j _ e (.inr rfl) h2
   exact S.su i j d1 d2 p n q1 q2 }
theorem StR.wslot(S:‹"ax"›){i:Nat}{m:SM}{d:D}(hm:m=.o∨m=.s)(h:ς[i]?=some (some (m,d))):∃ p,σ[i]?=some (some (.ref p))/\G p=none/\(C.X.H₀ p=none∨(C.M p/\C.B p=none))/\Own C.X.K C.CT G H p d/\
 ∀(j:Nat) m' d',j≠i->(m'=.o∨m'=.s)->ς[j]?=some (some (m',d'))->σ[j]?≠some (some (.ref p)):=by
 rcases hm with rfl | rfl
 ·obtain⟨p,a,hg,h0,w⟩:=S.ow i d h
  refine⟨p,a,hg,.inl h0,w,fun j m' d' hj hm' h2 z=>?_⟩
  rcases hm' with rfl | rfl
  ·exact S.inj i j d d' p (Ne.symm hj) h h2 a z
  ·obtain⟨q,a2,_,hq,_⟩:=S.sf j d' h2
   rw[z]at a2;cases a2
   exact hq h0
 ·obtain⟨p,a,hg,h0,m,z,w⟩:=S.sf i d h
  refine⟨p,a,hg,.inr ⟨m.1,z⟩,w,fun j m' d' hj hm' h2 z=>?_⟩
  rcases hm' with rfl | rfl
  ·obtain⟨q,a2,_,hq,_⟩:=S.ow j d' h2
   rw[z]at a2;cases a2
   exact h0 hq
  ·exact S.su i j d d' p (Ne.symm hj) h h2 a z
theorem StR.writeW(S:‹"ax"›){i:Nat}{m:SM}{p:Addr}{xs ys:List D}{ws:List V}(hm:m=.o∨m=.s)(hi:ς[i]?=some (some (m,.lst xs)))(hp:σ[i]?=some (some (.ref p)))(r:RepL C.X.K C.CT G ys ws):
 StR C G (upd H p (.lst ws)) σ (ς.set i (some (m,.lst ys))):=by
 obtain⟨p',a,hg,h0,w,hne⟩:=S.wslot hm hi
 rw[hp]at a;cases a
 refine S.swap (fun b=>b=p) (List.length_set ..) (Same.refl G) (fun b o e n=>by rw[Ql n];exact e) (fun b o e=>by rw[Ql (by rintro rfl;rw[hg]at e;cases e)];exact S.sub b o e) (fun b e n=>absurd e n)
  (fun b e=>by subst e;exact⟨by rw[QO];simp,h0⟩) fun j m' d' h=>?_
 rcases QH h with⟨rfl,h2,l⟩ | ⟨ne,h2⟩
 ·cases h2
  exact .inr ⟨hm,_,p,hi,hp,ws,QO,r⟩
 ·exact .inl ⟨h2,fun b hm' e z=>by subst z;exact hne j m' d' (Ne.symm ne) hm' h2 e⟩
end
end DL
namespace DL
open PySem PySem.Spec PyProof.Rows L2
def wr:SM->Bool
 | .o=>true
 | .s=>true
 | _=>false
theorem wr_of{m:SM}(h:wr m=true):m=.o∨m=.s:=by cases m<;>first | exact .inl rfl | exact .inr rfl | cases h
def sPutW(i:Nat)(A E:SD->Out D):SD->Out Fl:=fun ς=>E ς>>=fun d=>match (ς[i]?:Option (Option (SM×D))) with
 | some (some (m,.lst xs))=>if wr m=true then A ς>>=fun y=>match y with
  | .int j=>optO (ixN xs.length j)>>=fun j=>.ok (.nx (ς.set i (some (m,.lst (xs.set j d)))))
  | _=>.stuck else .stuck
 | _=>.stuck
section
variable{C:Dc}{a e:Expr}{A E:SD->Out D}{pos p1 p2:Pos}{x:Str}
theorem Qtx(i:Nat)(hi:DB C a A)(he:DE C e E)(hN:C.X.N[i]?=some x:=by rfl)(hv:Vis C.X.env.scope x:=by first | exact Or.inl rfl | exact Or.inr (Or.inl rfl) | exact Or.inr (Or.inr rfl))
 (hd:‹"f"›:=by decide) (hcd:‹"C"›:=by decide)
 (hst:∀ v,assign (.Subscript (.Name x p1) a p2) C.X.env v=(do
  let ov ← holding [v] (eval (.Name x p1) C.X.env)
  let iv ← holding [v,ov] (eval a C.X.env)
  standAt p2
  holding [v,ov,iv] (setItem ov iv v)
  release [v,ov,iv] []):=by intro _;rfl)
 (hs:swapsWithSole [.Subscript (.Name x p1) a p2] e pos.line C.X.env=pure false:=by rfl) (hw:swappedStores [.Subscript (.Name x p1) a p2] e C.X.env=pure none:=by rfl)
 (h1:(assignEach [.Subscript (.Name x p1) a p2] C.X.env).map (·.2)=[assign (.Subscript (.Name x p1) a p2) C.X.env]:=by rfl):DS C (.Assign [.Subscript (.Name x p1) a p2] e pos) (sPutW i A E):=by
 obtain⟨t,p,q⟩:=he
 obtain⟨t2,p2,q2⟩:=hi
 refine⟨_,QDW p (QLH ‹"aQ"› p2 QEQ hst) hs hw h1,fun G H σ ς W S k=>?_⟩
 unfold sPutW at k
 rw[Out.post_bind]at k
 refine q G H σ ς _ S (Out.post_mono k fun d k v H1 G1 S1 a1 b1 r1=>?_)
 split at k
 ·rename_i m xs z
  rcases QQ k with⟨hc,k⟩ | ⟨_,k⟩
  ·obtain⟨pp,e1,hg,h0,ow,_⟩:=S1.wslot (wr_of hc) z
   obtain⟨vs,hv1,hv2⟩:=ow
   rw[Out.post_bind]at k
   refine⟨_,e1,q2 G1 H1 σ ς _ S1 (Out.post_mono k fun y k2 w H2 G2 S2 a2 b2 r2=>?_)⟩
   cases y with
   | int j=>
    cases r2
    have k2':(optO (ixN xs.length j)>>=fun j=>Out.ok (Fl.nx (ς.set i (some (m,D.lst (xs.set j d)))))).post (FlK C G W) C.XD:=k2
    rw[Out.post_bind]at k2'
    obtain⟨jj,ej,k3⟩:=QcW k2'
    refine⟨pp,vs,j,jj,rfl,rfl,a2 _ _ hv1,by rw[← hv2.length];exact ej,?_⟩
    exact k3 σ _ G2 (S2.writeW (wr_of hc) z e1 ((RepL.mono b2 xs vs hv2).set (Rep.mono b2 d v r1) jj)) (b1.trans b2)
   | _=>exact k2.elim
  ·exact k.elim
 ·exact k.elim
end
def ArgW(K:PySem.W.Frag)(CT:CTab)(G H:Hp):List Bool->List D->List V->List Addr->Prop
 | [],[],[],ps=>ps=[]
 | true::bs,d::ds,v::vs,ps=>∃ p ps',v=.ref p/\ps=p::ps'/\p∉ps'/\G p=none/\Own K CT G H p d/\ArgW K CT G H bs ds vs ps'
 | false::bs,d::ds,v::vs,ps=>Rep K CT G d v/\ArgW K CT G H bs ds vs ps
 | _,_,_,_=>False
def OwnL(K:PySem.W.Frag)(CT:CTab)(G H:Hp):List D->List Addr->Prop
 | [],[]=>True
 | d::ds,p::ps=>Own K CT G H p d/\OwnL K CT G H ds ps
 | _,_=>False
section
variable{K:PySem.W.Frag}{CT:CTab}{G H:Hp}
theorem ArgW.len:∀{bs:List Bool}{ds:List D}{vs:List V}{ps:List Addr},ArgW K CT G H bs ds vs ps->bs.length=vs.length/\ds.length=vs.length
 | [],[],[],_,_=>⟨rfl,rfl⟩
 | true::bs,d::ds,v::vs,ps,⟨_,_,_,_,_,_,_,h⟩=>by have:=ArgW.len h;simp[this.1,this.2]
 | false::bs,d::ds,v::vs,ps,⟨_,h⟩=>by have:=ArgW.len h;simp[this.1,this.2]
theorem ArgW.mem:∀{bs:List Bool}{ds:List D}{vs:List V}{ps:List Addr}{i:Nat}{v:V},ArgW K CT G H bs ds vs ps->bs[i]?=some true->vs[i]?=some v->∃ p,v=.ref p/\p∈ps
 | true::bs,d::ds,v::vs,ps,0,w,⟨p,ps',e,e2,_,_,_,_⟩,_,h=>by
  cases h;exact⟨p,e,by rw[e2];exact List.mem_cons_self ..⟩
 | true::bs,d::ds,v::vs,ps,i+1,w,⟨p,ps',e,e2,_,_,_,hh⟩,h1,h2=>by
  obtain⟨q,a,b⟩:=ArgW.mem (i:=i) hh (by simpa using h1) (by simpa using h2)
  exact⟨q,a,by rw[e2];exact List.mem_cons_of_mem _ b⟩
 | false::bs,d::ds,v::vs,ps,0,w,_,h,_=>by cases h
 | false::bs,d::ds,v::vs,ps,i+1,w,⟨_,hh⟩,h1,h2=>ArgW.mem (i:=i) hh (by simpa using h1) (by simpa using h2)
theorem ArgW.get:∀{bs:List Bool}{ds:List D}{vs:List V}{ps:List Addr}{i:Nat}{b:Bool}{d:D},ArgW K CT G H bs ds vs ps->bs[i]?=some b->ds[i]?=some d->∃ v,vs[i]?=some v/\(b=false->Rep K CT G d v)/\(b=true->∃ p,v=.ref p/\p∈ps/\G p=none/\Own K CT G H p d)
 | true::bs,d::ds,v::vs,ps,0,b,d',⟨p,ps',e,e2,_,g,o,_⟩,h1,h2=>by
  cases h1;cases h2;exact⟨v,rfl,fun z=>(nomatch z),fun _=>⟨p,e,by rw[e2];exact List.mem_cons_self ..,g,o⟩⟩
 | true::bs,d::ds,v::vs,ps,i+1,b,d',⟨p,ps',e,e2,_,_,_,hh⟩,h1,h2=>by
  obtain⟨w,a,a1,a2⟩:=ArgW.get (i:=i) hh (by simpa using h1) (by simpa using h2)
  exact⟨w,by simpa using a,a1,fun z=>let ⟨q,c1,c2,c3⟩:=a2 z;⟨q,c1,by rw[e2];exact List.mem_cons_of_mem _ c2,c3⟩⟩
 | false::bs,d::ds,v::vs,ps,0,b,d',⟨r,_⟩,h1,h2=>by
  cases h1;cases h2;exact⟨v,rfl,fun _=>r,fun z=>by cases z⟩
 | false::bs,d::ds,v::vs,ps,i+1,b,d',⟨_,hh⟩,h1,h2=>by
  obtain⟨w,a,a1,a2⟩:=ArgW.get (i:=i) hh (by simpa using h1) (by simpa using h2)
  exact⟨w,by simpa using a,a1,a2⟩
theorem ArgW.ne:∀{bs:List Bool}{ds:List D}{vs:List V}{ps:List Addr}{i j:Nat}{p:Addr},ArgW K CT G H bs ds vs ps->i<j->bs[i]?=some true->bs[j]?=some true->vs[i]?=some (.ref p)->vs[j]?≠some (.ref p)
 | true::bs,d::ds,v::vs,ps,0,j+1,p,⟨q,ps',e,_,n,_,_,hh⟩,_,_,hb,h1,h2=>by
  cases h1;cases e
  obtain⟨q',a,b⟩:=ArgW.mem (i:=j) hh (by simpa using hb) (by simpa using h2)
  cases a;exact n b
 | true::bs,d::ds,v::vs,ps,i+1,j+1,p,⟨q,ps',_,_,_,_,_,hh⟩,hl,ha,hb,h1,h2=>ArgW.ne (i:=i) (j:=j) hh (by omega) (by simpa using ha) (by simpa using hb) (by simpa using h1) (by simpa using h2)
 | false::bs,d::ds,v::vs,ps,0,j,p,_,_,h,_,_,_=>by cases h
 | false::bs,d::ds,v::vs,ps,i+1,j+1,p,⟨_,hh⟩,hl,ha,hb,h1,h2=>ArgW.ne (i:=i) (j:=j) hh (by omega) (by simpa using ha) (by simpa using hb) (by simpa using h1) (by simpa using h2)
end
def finW:List Bool->SD->Out (List D)
 | [],_=>.ok []
 | true::bs,some (.s,d)::ς=>finW bs ς>>=fun ws=>.ok (d::ws)
 | false::bs,_::ς=>finW bs ς
 | _,_=>.stuck
theorem Qyr{K:PySem.W.Frag}{CT:CTab}{G H G' H':Hp}:∀{bs:List Bool}{ds:List D}{vs:List V}{ps:List Addr}{ς:SD}{k:List D->Prop}{X:D->Prop},ArgW K CT G H bs ds vs ps->
 (∀(i:Nat) d v,bs[i]?=some true->ς[i]?=some (some (.s,d))->vs[i]?=some v->∃ p,v=.ref p/\Own K CT G' H' p d)->(finW bs ς).post k X->∃ ws,k ws/\OwnL K CT G' H' ws ps
 | [],[],[],ps,ς,k,X,h,_,q=>⟨[],q,by have h:ps=[]:=h;rw[h];trivial⟩
 | true::bs,d::ds,v::vs,ps,some (.s,d')::ς,k,X,⟨p,ps',e,e2,_,_,_,hh⟩,f,q=>by
  have q:(finW bs ς>>=fun ws=>.ok (d'::ws)).post k X:=q
  rw[Out.post_bind]at q
  obtain⟨ws,kw,ow⟩:=Qyr hh (fun i d v a b c=>f (i+1) d v (by simpa using a) (by simpa using b) (by simpa using c)) q
  obtain⟨p',e3,o⟩:=f 0 d' v rfl rfl rfl
  rw[e]at e3;cases e3
  exact⟨d'::ws,kw,by rw[e2];exact⟨o,ow⟩⟩
 | false::bs,d::ds,v::vs,ps,x::ς,k,X,⟨_,hh⟩,f,q=>Qyr (ς:=ς) hh (fun i d v a b c=>f (i+1) d v (by simpa using a) (by simpa using b) (by simpa using c)) q
 | true::bs,d::ds,v::vs,ps,[],k,X,_,_,q=>q.elim
 | true::bs,d::ds,v::vs,ps,none::ς,k,X,_,_,q=>q.elim
 | true::bs,d::ds,v::vs,ps,some (.k,_)::ς,k,X,_,_,q=>q.elim
 | true::bs,d::ds,v::vs,ps,some (.o,_)::ς,k,X,_,_,q=>q.elim
 | true::bs,d::ds,v::vs,ps,some (.l,_)::ς,k,X,_,_,q=>q.elim
 | false::bs,d::ds,v::vs,ps,[],k,X,_,_,q=>q.elim
end DL
namespace DL
open PySem PySem.Spec PyProof.Rows L2
def Qlv:List Bool->List D->SD
 | b::bs,d::ds=>some (if b=true then SM.s else SM.k,d)::Qlv bs ds
 | _,_=>[]
theorem QwQ:∀{bs:List Bool}{ds:List D},bs.length=ds.length->(Qlv bs ds).length=bs.length
 | [],[],_=>rfl
 | _::bs,_::ds,h=>by
  show(Qlv bs ds).length+1=_
  rw[QwQ (by simpa using h)];rfl
theorem Qee:∀{bs:List Bool}{ds:List D}{i:Nat}{x:SM×D}{n:Nat},(Qlv bs ds++List.replicate n none)[i]?=some (some x)->∃ b d,bs[i]?=some b/\ds[i]?=some d/\x=(if b=true then SM.s else SM.k,d)
 | b::bs,d::ds,0,x,n,h=>by
  have h:some (some (if b=true then SM.s else SM.k,d))=some (some x):=h
  cases h;exact⟨b,d,rfl,rfl,rfl⟩
 | b::bs,d::ds,i+1,x,n,h=>by
  have h:(Qlv bs ds++List.replicate n none)[i]?=some (some x):=h
  obtain⟨b',d',h1,h2,h3⟩:=Qee h
  exact⟨b',d',by simpa using h1,by simpa using h2,h3⟩
 | [],_,i,x,n,h=>by
  have h:([]++List.replicate n (none:Option (SM×D)))[i]?=some (some x):=h
  rw[List.nil_append,List.getElem?_replicate]at h
  split at h<;>cases h
 | b::bs,[],i,x,n,h=>by
  have h:([]++List.replicate n (none:Option (SM×D)))[i]?=some (some x):=h
  rw[List.nil_append,List.getElem?_replicate]at h
  split at h<;>cases h
def retW(fr:Bool)(bs:List Bool):Fl->Out (D×Option (List D))
 | .nx ς=>finW bs ς>>=fun ws=>.ok (.non,some ws)
 | .rt b d=>if (!fr||b||d.scal)=true then .ok (d,none) else .stuck
 | _=>.stuck
def bodyW(fr:Bool)(bs:List Bool)(len:Nat)(T:SD->Out Fl):List D->Out (D×Option (List D)):=fun ds=>
 if ds.length=bs.length then T (Qlv bs ds++List.replicate (len - bs.length) none)>>=retW fr bs else .stuck
def SpW(K:PySem.W.Frag)(CT:CTab)(fr:Bool)(bs:List Bool)(m:List D->Out (D×Option (List D))):Sp:=fun vs H Q _=>∃ ds ps G0,Same G0 H/\ArgW K CT G0 H bs ds vs ps/\
 (m ds).post (fun r=>∀ v H' G',Same G0 G'->(∀ b o,H b=some o->b∉ps->H' b=some o)->Same G' H'->(∀ b,G0 b=none->G' b≠none->H b=none)->(∀ b,H' b=none->H b=none)->(∀ ws,r.2=some ws->OwnL K CT G' H' ws ps)->RetG K CT fr H G' H' r.1 v->Q v H') (fun _=>False)
abbrev dcW(P:Program)(w:World)(K:PySem.W.Frag)(mg:‹"Y"›)(base:Heap)(CT:CTab)(N:List Str)(qual:Str)(sc:Scope)(f:Addr)(cdv:Value)(A:Around)(outer:List Env)(s:Shared)(H:Hp)(E:XK)(G:Hp)(ps:List Addr)(vs:List V):Dc:=
 { X:=(cxOf CX0 P w K mg base N qual sc f cdv A outer s H E).nox,CT:=CT,G0:=G,XD:=fun _=>False,B:=fun b=>if b∈ps then none else H b,M:=fun b=>b∈ps,W:=fun i=>match vs[i]? with | some (.ref p)=>some p | _=>none }
theorem fnW{P:Program}{w:World}{K:PySem.W.Frag}{mg:‹"Y"›}{base:Heap}{CT:CTab}{fr:Bool}{x qual:Str}{st:Stmt}{f:Addr}{fd:FuncData}{dV:Value}{N pn:List Str}{k:Nat}{T:SD->Out Fl}{bs:List Bool}(hbs:bs.length=pn.length)
 (F:FunV K x qual st f fd dV) (S:Qr N pn (Qa st))
 (hb:∀(cdv:Value)(A:Around)(outer:List Env)(s:Shared)(H:Hp)(E:XK)(G:Hp)(ps:List Addr)(vs:List V),Room k ‹"ay"›->DSs (dcW P w K mg base CT N qual (Qa st) f cdv A outer s H E G ps vs) (Qp st) T):
 FnOk P w K mg base CX0 (k+1) f fd pn (SpW K CT fr bs (bodyW fr bs N.length T)):=by
 obtain⟨oc,od,kV,doc,pm,an,cdv,ct,osl,rfl,lk,hcd⟩:=F.ex
 have hpl:pn.length<=N.length:=by have:=congrArg List.length S.pre;rw[List.length_take]at this;omega
 have len:∀ vs H Q E,SpW K CT fr bs (bodyW fr bs N.length T) vs H Q E->vs.length=pn.length:=by
  intro vs H Q E ⟨ds,ps,G0,sub,r,q⟩
  rw[← hbs,r.len.1]
 refine fn_of lk hcd S len fun A outer s H vs Q E hr hsp=>?_
 obtain⟨ds,ps,G0,sub,r,q⟩:=hsp
 obtain⟨t,p1,q1⟩:=hb cdv A outer s H E G0 ps vs hr
 have hl:=r.len
 refine⟨t,p1.nox,?_⟩
 unfold bodyW at q
 rw[if_pos (by rw[hl.1,hl.2]),Out.post_bind]at q
 have S0:StR (dcW P w K mg base CT N qual (Qa st) f cdv A outer s H E G0 ps vs) G0 H (L2.start N vs) (Qlv bs ds++List.replicate (N.length - bs.length) none):={
  sub:=sub
  g0:=Same.refl _
  new:=fun b h1 h2=>absurd h1 h2
  fr:=fun b o e _=>e
  dom:=fun b e=>e
  bs:=fun b o e=>by
   have e':(if b∈ps then none else H b)=some o:=e
   by_cases hb:b∈ps
   ·rw[if_pos hb]at e';cases e'
   ·rw[if_neg hb]at e';exact e'
  bh:=fun b e=>by
   show(if b∈ps then none else H b)=none
   by_cases hb:b∈ps
   ·rw[if_pos hb]
   ·rw[if_neg hb];exact e
  len:=by unfold L2.start;rw[List.length_append,List.length_append,QwQ (by rw[hl.1,hl.2]),List.length_map,List.length_replicate,List.length_replicate];omega
  fz:=fun i d e=>by
   obtain⟨b,d',h1,h2,h3⟩:=Qee e
   cases b with
   | true=>cases h3
   | false=>
    cases h3
    obtain⟨v,a,a1,_⟩:=r.get h1 h2
    exact⟨v,QfC a,a1 rfl⟩
  ow:=fun i d e=>by
   obtain⟨b,d',h1,h2,h3⟩:=Qee e
   cases b<;>cases h3
  ln:=fun i d e=>by
   obtain⟨b,d',h1,h2,h3⟩:=Qee e
   cases b<;>cases h3
  inj:=fun i j d e p _ h=>by
   obtain⟨b,d',h1,h2,h3⟩:=Qee h
   cases b<;>cases h3
  sf:=fun i d e=>by
   obtain⟨b,d',h1,h2,h3⟩:=Qee e
   cases b with
   | false=>cases h3
   | true=>
    cases h3
    obtain⟨v,a,_,a2⟩:=r.get h1 h2
    obtain⟨p,rfl,hm,hg,o⟩:=a2 rfl
    obtain⟨u,hu⟩:=o.there
    refine⟨p,QfC a,hg,(by show H p≠none;rw[hu];simp),⟨hm,?_⟩,if_pos hm,o⟩
    show(match vs[i]? with | some (.ref p)=>some p | _=>none)=some p
    rw[a]
  su:=fun i j d e p hij h1 h2 g1 g2=>by
   obtain⟨b,d1,c1,c2,c3⟩:=Qee h1
   obtain⟨b',d2,c4,c5,c6⟩:=Qee h2
   cases b with
   | false=>cases c3
   | true=>
    cases b' with
    | false=>cases c6
    | true=>
     obtain⟨v1,a1,_⟩:=r.get c1 c2
     obtain⟨v2,a2,_⟩:=r.get c4 c5
     rw[QfC a1]at g1;cases g1
     rw[QfC a2]at g2;cases g2
     rcases Nat.lt_or_gt_of_ne hij with l | l
     ·exact r.ne l c1 c4 a1 a2
     ·exact r.ne l c4 c1 a2 a1 }
 refine q1 G0 H (L2.start N vs) _ _ S0 (Out.post_mono q fun fl kk=>?_)
 cases fl with
 | nx ς'=>
  intro σ' H' G' S' s'
  have kk:(finW bs ς'>>=fun ws=>Out.ok (D.non,some ws)).post _ _:=kk
  rw[Out.post_bind]at kk
  obtain⟨ws,kw,ow⟩:=Qyr (G':=G') (H':=H') r (fun i d v b1 b2 b3=>by
   obtain⟨p,a,_,_,⟨_,hW⟩,_,o⟩:=S'.sf i d b2
   have hW:(match vs[i]? with | some (.ref p)=>some p | _=>none)=some p:=hW
   obtain⟨p',e,_⟩:=r.mem b1 b3
   subst e
   rw[b3]at hW
   cases hW
   exact⟨_,rfl,o⟩) kk
  exact kw .non H' G' s' (fun b o e hb=>S'.fr b o e hb) S'.sub S'.new S'.dom (fun ws' e=>by cases e;exact ow) (by
   show RetG K CT fr H G' H' D.non V.non
   unfold RetG;rw[if_neg (by cases fr<;>decide)];rfl)
 | bk ς'=>exact fun σ' H' G' S' s'=>kk.elim
 | ct ς'=>exact fun σ' H' G' S' s'=>kk.elim
 | rt b d=>
  intro v H' G' S' s' ret
  rcases QQ (show(if (!fr||b||d.scal)=true then Out.ok (d,none) else Out.stuck).post _ _ from kk) with⟨hc,k2⟩ | ⟨_,k2⟩
  ·cases b with
   | false=>
    refine k2 v H' G' s' (fun b o e hb=>S'.fr b o e hb) S'.sub S'.new S'.dom (fun ws' e=>by cases e) ?_
    unfold RetG
    have hn:¬ (fr && !d.scal)=true:=by revert hc;cases fr<;>cases d.scal<;>simp
    rw[if_neg hn]
    exact ret
   | true=>
    obtain⟨p,rfl,h0,hg,ow⟩:=(show ∃ p,v=.ref p/\H p=none/\G' p=none/\Own K CT G' H' p d from ret)
    cases fr with
    | true=>
     refine k2 _ H' G' s' (fun b o e hb=>S'.fr b o e hb) S'.sub S'.new S'.dom (fun ws' e=>by cases e) ?_
     have hs:d.scal=false:=by cases d<;>first | rfl | exact ow.elim
     unfold RetG
     rw[if_pos (by rw[hs];rfl)]
     exact⟨p,rfl,h0,hg,ow⟩
    | false=>
     obtain⟨o,ho⟩:=ow.there
     have S2:=GH.freezeR S' ho hg h0
     refine k2 _ H' _ (s'.trans (QD hg)) (fun b o e hb=>S2.fr b o e hb) S2.sub S2.new S2.dom (fun ws' e=>by cases e) ?_
     unfold RetG
     rw[if_neg (by simp)]
     exact ow.known hg ho
  ·exact k2.elim
end DL
namespace DL
open PySem PySem.Spec PyProof.Rows L2
def eVarW(i:Nat):SD->Out D:=fun ς=>match (ς[i]?:Option (Option (SM×D))) with
 | some (some (m,d))=>if wr m=true then .ok d else .stuck
 | _=>.stuck
def RepA(K:PySem.W.Frag)(CT:CTab)(G:Hp)(σ:St)(ς:SD):List (Option Nat)->List D->List V->Prop
 | [],[],[]=>True
 | some s::ms,d::ds,v::vs=>(∃ m,wr m=true/\ς[s]?=some (some (m,d)))/\σ[s]?=some (some v)/\RepA K CT G σ ς ms ds vs
 | none::ms,d::ds,v::vs=>Rep K CT G d v/\RepA K CT G σ ς ms ds vs
 | _,_,_=>False
def DAW(C:Dc)(es:List Expr)(ms:‹"K"›)(A:‹"aq"›):Prop:=∃ t,PA C.X es t/\∀ G H σ ς Q,StR C G H σ ς->
 (A ς).post (fun ds=>∀ vs H' G',StR C G' H' σ ς->Same H H'->Same G G'->RepA C.X.K C.CT G' σ ς ms ds vs->Q vs H') C.XD->t σ H Q
def QfY(s:Nat)(w:D)(ς:SD):SD:=match (ς[s]?:Option (Option (SM×D))) with
 | some (some (m,_))=>ς.set s (some (m,w))
 | _=>ς
def setW:List (Option Nat)->List D->SD->SD
 | some s::ms,w::ws,ς=>setW ms ws (QfY s w ς)
 | none::ms,ws,ς=>setW ms ws ς
 | _,_,ς=>ς
section
variable{C:Dc}{e:Expr}{es:List Expr}{E:SD->Out D}{A:SD->Out (List D)}{ms:List (Option Nat)}
theorem QHB:DAW C [] [] aNil:=⟨_,QeS,fun G H σ ς Q S q=>q [] H G S (Same.refl H) (Same.refl G) trivial⟩
theorem daw_k(ha:DE C e E)(hr:DAW C es ms A)(hs:‹"c"›:=by rfl):DAW C (e::es) (none::ms) (aCons E A):=by
 obtain⟨t1,p1,q1⟩:=ha
 obtain⟨t2,p2,q2⟩:=hr
 refine⟨_,QbX p1 p2 hs,fun G H σ ς Q S q=>?_⟩
 unfold aCons at q
 rw[Out.post_bind]at q
 refine q1 G H σ ς _ S (Out.post_mono q fun x k v1 H1 G1 S1 a1 b1 r1=>?_)
 rw[Out.post_bind]at k
 refine q2 G1 H1 σ ς _ S1 (Out.post_mono k fun xs k2 vs H2 G2 S2 a2 b2 r2=>?_)
 exact k2 (v1::vs) H2 G2 S2 (a1.trans a2) (b1.trans b2) ⟨Rep.mono b2 x v1 r1,r2⟩
theorem daw_w(i:Nat){x:Str}{px:Pos}(hr:DAW C es ms A)(hN:C.X.N[i]?=some x:=by rfl)(hv:Vis C.X.env.scope x:=by first | exact Or.inl rfl | exact Or.inr (Or.inl rfl) | exact Or.inr (Or.inr rfl))
 (hd:‹"f"›:=by decide) (hcd:‹"C"›:=by decide) (hs:starEach (.Name x px::es) C.X.env=(false,eval (.Name x px) C.X.env)::starEach es C.X.env:=by rfl):
 DAW C (.Name x px::es) (some i::ms) (aCons (eVarW i) A):=by
 obtain⟨t2,p2,q2⟩:=hr
 refine⟨_,QbX ‹"aQ"› p2 hs,fun G H σ ς Q S q=>?_⟩
 unfold aCons eVarW at q
 rw[Out.post_bind]at q
 split at q
 ·rename_i m d z
  rcases QQ q with⟨hc,k⟩ | ⟨_,k⟩
  ·obtain⟨p,a,_⟩:=S.wslot (wr_of hc) z
   have k:(A ς>>=fun xs=>Out.ok (d::xs)).post (fun ds=>∀ vs H' G',StR C G' H' σ ς->Same H H'->Same G G'->RepA C.X.K C.CT G' σ ς (some i::ms) ds vs->Q vs H') C.XD:=k
   rw[Out.post_bind]at k
   refine⟨_,a,q2 G H σ ς _ S (Out.post_mono k fun xs k2 vs H2 G2 S2 a2 b2 r2=>?_)⟩
   exact k2 (.ref p::vs) H2 G2 S2 a2 b2 ⟨⟨m,hc,z⟩,a,r2⟩
  ·exact k.elim
 ·exact q.elim
theorem QoZ{G H:Hp}{σ:St}{ς:SD}(S:‹"ax"›):∀{ms:‹"K"›}{ds:List D}{vs:List V},(ms.filterMap id).Nodup->RepA C.X.K C.CT G σ ς ms ds vs->
 ∃ ps,ArgW C.X.K C.CT G H (ms.map Option.isSome) ds vs ps/\∀ p,p∈ps↔∃ s,some s∈ms/\σ[s]?=some (some (.ref p))
 | [],[],[],_,_=>⟨[],rfl,fun p=>⟨fun h=>(nomatch h),fun⟨s,h,_⟩=>(nomatch h)⟩⟩
 | some s::ms,d::ds,v::vs,nd,⟨⟨m,hm,z⟩,e,r⟩=>by
  have nd:(s::ms.filterMap id).Nodup:=nd
  rw[List.nodup_cons]at nd
  obtain⟨ps,h1,h2⟩:=QoZ S nd.2 r
  obtain⟨p,a,hg,h0,o,ne⟩:=S.wslot (wr_of hm) z
  rw[e]at a;cases a
  refine⟨p::ps,⟨p,ps,rfl,rfl,fun hp=>?_,hg,o,h1⟩,fun q=>?_⟩
  ·obtain⟨s',m1,m2⟩:=(h2 p).1 hp
   have hs:s'≠s:=by rintro rfl;exact nd.1 (List.mem_filterMap.mpr ⟨_,m1,rfl⟩)
   have:∃ m' d',wr m'=true/\ς[s']?=some (some (m',d')):=rep_slot r m1
   obtain⟨m',d',w',z'⟩:=this
   exact ne s' m' d' hs (wr_of w') z' m2
  ·rw[List.mem_cons,h2]
   constructor
   ·rintro (rfl | ⟨s',m1,m2⟩)
    ·exact⟨s,List.mem_cons_self ..,e⟩
    ·exact⟨s',List.mem_cons_of_mem _ m1,m2⟩
   ·rintro ⟨s',m1,m2⟩
    rcases List.mem_cons.mp m1 with q1 | q1
    ·cases q1
     rw[e]at m2;cases m2;exact .inl rfl
    ·exact .inr ⟨s',q1,m2⟩
 | none::ms,d::ds,v::vs,nd,⟨rr,r⟩=>by
  obtain⟨ps,h1,h2⟩:=QoZ S (show(ms.filterMap id).Nodup from nd) r
  refine⟨ps,⟨rr,h1⟩,fun p=>?_⟩
  rw[h2]
  constructor
  ·rintro ⟨s',m1,m2⟩;exact⟨s',List.mem_cons_of_mem _ m1,m2⟩
  ·rintro ⟨s',m1,m2⟩
   rcases List.mem_cons.mp m1 with q1 | q1
   ·cases q1
   ·exact⟨s',q1,m2⟩
where rep_slot {G:Hp} {σ:St} {ς:SD}:∀{ms:‹"K"›}{ds:List D}{vs:List V}{s:Nat},RepA C.X.K C.CT G σ ς ms ds vs->some s∈ms->∃ m d,wr m=true/\ς[s]?=some (some (m,d))
 | [],[],[],_,_,h=>(nomatch h)
 | some s'::ms,d::ds,v::vs,s,⟨⟨m,hm,z⟩,_,r⟩,h=>by
  rcases List.mem_cons.mp h with q | q
  ·cases q;exact⟨m,d,hm,z⟩
  ·exact rep_slot r q
 | none::ms,d::ds,v::vs,s,⟨_,r⟩,h=>by
  rcases List.mem_cons.mp h with q | q
  ·cases q
  ·exact rep_slot r q
theorem QF3(s:Nat)(w:D)(ς:SD):(QfY s w ς).length=ς.length:=by
 unfold QfY;split<;>simp
theorem Qu2:∀(ms:‹"K"›)(ws:List D)(ς:SD),(setW ms ws ς).length=ς.length
 | some s::ms,w::ws,ς=>by show(setW ms ws (QfY s w ς)).length=_;rw[Qu2 ms ws,QF3]
 | none::ms,ws,ς=>Qu2 ms ws ς
 | [],ws,ς=>rfl
 | some s::ms,[],ς=>rfl
theorem Qzv{K:PySem.W.Frag}{CT:CTab}{G H G' H':Hp}{σ:St}{ς:SD}:∀{ms:‹"K"›}{ds:List D}{vs:List V}{ws:List D}{ps:List Addr}{τ:SD},RepA K CT G σ ς ms ds vs->ArgW K CT G H (ms.map Option.isSome) ds vs ps->OwnL K CT G' H' ws ps->
 (∀(i:Nat) m d,some i∈ms->ς[i]?=some (some (m,d))->∃ d',τ[i]?=some (some (m,d')))->
 ∀(i:Nat) m d',(setW ms ws τ)[i]?=some (some (m,d'))->(τ[i]?=some (some (m,d'))/\some i∉ms)∨(wr m=true/\∃ d b,τ[i]?=some (some (m,d))/\σ[i]?=some (some (.ref b))/\Own K CT G' H' b d')
 | [],[],[],ws,ps,τ,_,_,_,_,i,m,d',h=>.inl ⟨h,fun z=>(nomatch z)⟩
 | none::ms,d::ds,v::vs,ws,ps,τ,⟨_,r⟩,⟨_,a⟩,o,f,i,m,d',h=>by
  rcases Qzv (τ:=τ) r a o (fun i m d hi=>f i m d (List.mem_cons_of_mem _ hi)) i m d' h with⟨e,n⟩ | e
  ·exact .inl ⟨e,fun z=>by
    rcases List.mem_cons.mp z with q | q
    ·cases q
    ·exact n q⟩
  ·exact .inr e
 | some s::ms,d::ds,v::vs,[],ps,τ,_,⟨p,ps',e1,e2,_⟩,o,_,i,m,d',h=>by rw[e2]at o;exact o.elim
 | some s::ms,d::ds,v::vs,w::ws,ps,τ,⟨⟨m0,hm0,z⟩,e,r⟩,⟨p,ps',e1,e2,_,_,_,a⟩,o,f,i,m,d',h=>by
  rw[e2]at o
  obtain⟨o1,o2⟩:=o
  obtain⟨d0,t0⟩:=f s m0 d (List.mem_cons_self ..) z
  have es:QfY s w τ=τ.set s (some (m0,w)):=by unfold QfY;rw[t0]
  have h:(setW ms ws (QfY s w τ))[i]?=some (some (m,d')):=h
  have back:∀(j:Nat) m1 d1,(QfY s w τ)[j]?=some (some (m1,d1))->(j=s/\m1=m0/\d1=w)∨(j≠s/\τ[j]?=some (some (m1,d1))):=fun j m1 d1 hj=>by
   rw[es]at hj
   rcases QH hj with⟨rfl,h2,l⟩ | ⟨ne,h2⟩
   ·cases h2;exact .inl ⟨rfl,rfl,rfl⟩
   ·exact .inr ⟨Ne.symm ne,h2⟩
  have fwd:∀(j:Nat) m1 d1,some j∈ms->ς[j]?=some (some (m1,d1))->∃ d2,(QfY s w τ)[j]?=some (some (m1,d2)):=fun j m1 d1 hj hz=>by
   rw[es]
   by_cases hjs:j=s
   ·subst hjs
    rw[z]at hz;cases hz
    exact⟨w,Qhk (List.getElem?_eq_some_iff.mp t0).1⟩
   ·obtain⟨d2,q⟩:=f j m1 d1 (List.mem_cons_of_mem _ hj) hz
    exact⟨d2,by rw[Qs (Ne.symm hjs)];exact q⟩
  rcases Qzv r a o2 fwd i m d' h with⟨q,n⟩ | ⟨hw,d1,b,q1,q2,q3⟩
  ·rcases back i m d' q with⟨rfl,rfl,rfl⟩ | ⟨ne,q⟩
   ·exact .inr ⟨hm0,d0,p,t0,by rw[e,e1],o1⟩
   ·exact .inl ⟨q,fun zz=>by
     rcases List.mem_cons.mp zz with y | y
     ·cases y;exact ne rfl
     ·exact n y⟩
  ·rcases back i m d1 q1 with⟨rfl,rfl,rfl⟩ | ⟨ne,q⟩
   ·exact .inr ⟨hw,d0,b,t0,q2,q3⟩
   ·exact .inr ⟨hw,d1,b,q,q2,q3⟩
def DefW(P:Program)(w:World)(K:PySem.W.Frag)(mg:‹"Y"›)(base:Heap)(CT:CTab)(x:Str)(k:Nat)(fr:Bool)(bs:List Bool)(m:List D->Out (D×Option (List D))):Prop:=
 ∃ f fd ps,FnOk P w K mg base CX0 k f fd ps (SpW K CT fr bs m)/\mg x=some (.ref f)/\PySem.W.keepIn K (.ref f)=true/\Binds K fd ps []
def Qo4(ms:‹"K"›)(m:List D->Out (D×Option (List D)))(A:‹"aq"›):SD->Out Fl:=fun ς=>A ς>>=fun ds=>m ds>>=fun r=>match r.2 with
 | some ws=>.ok (.nx (setW ms ws ς))
 | none=>.stuck
theorem QD3{x:Str}{k:Nat}{fr:Bool}{bs:List Bool}{m:List D->Out (D×Option (List D))}{p pos spos:Pos}(h:DefW C.X.prog C.X.w C.X.K C.X.mg C.X.base C.CT x k fr bs m)(hr:Room k C.X.A)(ha:DAW C (e::es) ms A)(hg:Gl C.X x)
 (hbs:bs=ms.map Option.isSome:=by rfl) (nd:(ms.filterMap id).Nodup:=by decide) (hx:∀ x,¬ C.XD x:=by exact fun _ h=>h)
 (hdb:‹"f"›:=by decide) (he:‹"c"›:=by rfl) (hpl:(backTo pos ‹"az"›).any (·.1)=false:=by rfl)
 (hsw:swapsWith ‹"F"› none spos.line C.X.env=pure false:=by rfl):
 DS C (.Expr ‹"F"› spos) (Qo4 ms m A):=by
 obtain⟨f,fd,pn,F,hm,hk,hb⟩:=h
 obtain⟨t,p1,q1⟩:=ha
 subst hbs
 refine⟨_,Qy4 (QtR F hr hg hm hk hb .nil pass0 p1 hdb he hpl) hsw,fun G H σ ς W S q=>?_⟩
 unfold Qo4 at q
 rw[Out.post_bind]at q
 refine q1 G H σ ς _ S (Out.post_mono q fun ds kk vs H1 G1 S1 a1 b1 r1=>?_)
 obtain⟨ps,hA,hps⟩:=QoZ S1 nd r1
 refine⟨ds,ps,G1,S1.sub,by rw[List.append_nil];exact hA,?_⟩
 rw[Out.post_bind]at kk
 cases z:m ds with
 | stuck=>rw[z]at kk;exact kk.elim
 | exc y=>rw[z]at kk;exact absurd kk (hx y)
 | ok r=>
  rw[z]at kk
  intro v H' G' g1 h1 s1 n1 d1 ow ret
  obtain⟨rv,rw'⟩:=r
  cases rw' with
  | none=>exact kk.elim
  | some ws=>
   have ow:=ow ws rfl
   refine(show FlK C G W (.nx (setW ms ws ς)) from kk) σ H' G' ?_ (b1.trans g1)
   refine S1.swap (fun b=>b∈ps) (Qu2 ms ws ς) g1 h1 s1 n1 (fun b hb=>?_) fun i mm d' hi=>?_
   ·obtain⟨s',m1,m2⟩:=(hps b).1 hb
    obtain⟨m',dd,w',z'⟩:=QoZ.rep_slot r1 m1
    obtain⟨p',a,_,h0,o,_⟩:=S1.wslot (wr_of w') z'
    rw[m2]at a;cases a
    obtain⟨u,hu⟩:=o.there
    exact⟨fun y=>(by rw[d1 b y]at hu;cases hu),h0⟩
   ·rcases Qzv (τ:=ς) r1 hA ow (fun i m d _ y=>⟨d,y⟩) i mm d' hi with⟨e1,e2⟩ | ⟨hw,d,b,e1,e2,e3⟩
    ·refine .inl ⟨e1,fun b hmm eb hb=>?_⟩
     obtain⟨s',m1,m2⟩:=(hps b).1 hb
     obtain⟨m',dd,w',z'⟩:=QoZ.rep_slot r1 m1
     obtain⟨p',a,_,_,_,ne⟩:=S1.wslot (wr_of w') z'
     rw[m2]at a;cases a
     exact ne i mm d' (by rintro rfl;exact e2 m1) hmm e1 eb
    ·exact .inr ⟨wr_of hw,d,b,e1,e2,e3⟩
end
end DL
namespace DL
open PySem PySem.Spec PyProof.Rows L2
def flatL(o:Out D):Out D:=o>>=fun d=>match d with
 | .lst xs=>if xs.all D.scal=true then .ok (.lst xs) else .stuck
 | _=>.stuck
section
variable{C:Dc}{e:Expr}{es:List Expr}{E:SD->Out D}{A:SD->Out (List D)}{bs:List Bool}
end
end DL
namespace L2
open PySem PySem.Spec PyProof.Rows
section
variable{X:Cx}
end
end L2
namespace DL
open PySem PySem.Spec PyProof.Rows L2
section
variable{C:Dc}{e:Expr}{es:List Expr}{AA:SD->Out (List D)}{p pos:Pos}
end
end DL
namespace DL
open PySem PySem.Spec PyProof.Rows L2
section
variable{C:Dc}{x:Str}{k:Nat}{dd:List D}{m:List D->Out D}{e:Expr}{es:List Expr}{A:SD->Out (List D)}{p pos:Pos}
theorem df_fB(h:DefOk C.X.prog C.X.w C.X.K C.X.mg C.X.base C.CT x k true dd m)(hr:Room k C.X.A)(ha:DAB C (e::es) A)(hg:Gl C.X x)(hs:dd.all D.scal=true:=by rfl)(hx:∀ x,¬ C.XD x:=by exact fun _ h=>h)
 (hdb:‹"f"›:=by decide) (he:‹"c"›:=by rfl) (hpl:(backTo pos ‹"az"›).any (·.1)=false:=by rfl):
 DF C ‹"F"› (fun ς=>flatL (eA (fun xs=>m (xs++dd)) A ς)):=by
 obtain⟨f,fd,ps,ds,F,hm,hk,hb,hd⟩:=h
 obtain⟨t,p1,q1⟩:=ha
 refine⟨_,QtR F hr hg hm hk hb hd pass0 p1 hdb he hpl,fun G H σ ς Q S q=>?_⟩
 unfold flatL eA at q
 rw[Out.post_bind,Out.post_bind]at q
 refine q1 G H σ ς _ S (Out.post_mono q fun xs kk vs H1 G1 S1 a1 b1 r1=>⟨xs++dd,H1,Same.refl _,r1.append (QqI hs),?_⟩)
 cases z:m (xs++dd) with
 | stuck=>rw[z]at kk;exact kk.elim
 | exc y=>rw[z]at kk;exact absurd kk (hx y)
 | ok d=>
  rw[z]at kk
  intro v H' G' g1 h1 s1 n1 ret
  have S2:StR C G1 H' σ ς:=S1.grow h1 (Same.refl _) (S1.sub.trans h1) fun b g n=>absurd g n
  cases d with
  | lst ys=>
   rcases QQ kk with⟨hc,kk⟩ | ⟨_,kk⟩
   ·unfold RetG at ret
    rw[if_pos (show(true && !(D.lst ys).scal)=true from rfl)]at ret
    obtain⟨pp,rfl,h0,hg',us,hu,ru⟩:=ret
    exact(show KF C G H σ ς Q (.lst ys) from kk) pp H' G1 S2 (a1.trans h1) b1 (a1.free h0) (S1.gnone h0) ⟨us,hu,ru.flat hc⟩
   ·exact kk.elim
  | _=>exact kk.elim
end
end DL
namespace DL
open PySem PySem.Spec PyProof.Rows L2
theorem QT{i j:Int}(h:0<j):dMod (.int i) (.int j)=.ok (.int (i % j)):=by
 show(if decide (j≠0)=true then Out.ok (D.int (i.fmod j)) else Out.stuck)=_
 rw[if_pos (decide_eq_true (by omega)),Int.fmod_eq_emod_of_nonneg i (by omega)]
theorem QNi{i j:Int}(h:j≠0)(hb:big j=true):dFdiv (.int i) (.int j)=.ok (.int (i.fdiv j)):=by
 show(if (decide (j≠0)&&big j)=true then Out.ok (D.int (i.fdiv j)) else Out.stuck)=_
 rw[if_pos (by rw[hb,decide_eq_true h];rfl)]
theorem Qnf{i j:Int}(h:0<j)(hb:big j=true):dFdiv (.int i) (.int j)=.ok (.int (i / j)):=by
 rw[QNi (by omega) hb,Int.fdiv_eq_ediv_of_nonneg i (by omega)]
theorem Qlk{i:Int}{n:Nat}(h:i.natAbs<2 ^ n):bitsI i<=n:=PySem.intBits_le_iff.mpr h
theorem Qpl{i:Int}{n:Nat}(h:bitsI i<=n):i.natAbs<2 ^ n:=PySem.intBits_le_iff.mp h
theorem QN5{i j:Int}(h:bitsI i+bitsI j<=134217728):dMul (.int i) (.int j)=.ok (.int (i * j)):=by
 show(if decide (bitsI i+bitsI j<=134217728)=true then Out.ok (D.int (i * j)) else Out.stuck)=_
 rw[if_pos (decide_eq_true h)]
theorem QOo{i j:Int}{m n:Nat}(hi:bitsI i<=m)(hj:bitsI j<=n)(h:m+n<=134217728):dMul (.int i) (.int j)=.ok (.int (i * j)):=QN5 (by omega)
theorem Qad(i j:Int):dAdd (.int i) (.int j)=.ok (.int (i+j)):=rfl
theorem Qc5(i j:Int):dSub (.int i) (.int j)=.ok (.int (i - j)):=rfl
theorem Qel(i:Int):dNeg (.int i)=.ok (.int (-i)):=rfl
theorem QiF(i:Int):dAbs (.int i)=.ok (.int (i.natAbs:Int)):=by
 show Out.ok (D.int (if i<0 then -i else i))=_
 congr 2;split<;>omega
theorem Qbc(i j:Int):dLt (.int i) (.int j)=.ok (.bl (decide (i<j))):=rfl
theorem QfV(i j:Int):dLe (.int i) (.int j)=.ok (.bl (decide (i<=j))):=rfl
theorem Qe4(i j:Int):dGt (.int i) (.int j)=.ok (.bl (decide (j<i))):=rfl
theorem Qlm(i j:Int):dGe (.int i) (.int j)=.ok (.bl (decide (j<=i))):=rfl
theorem QHP{i j:Int}(h:(decide (0<=j)&&decide (j<=1000000)&&decide (i.natAbs<2 ^ 64))=true):dPow (.int i) (.int j)=.ok (.int (i ^ j.toNat)):=by
 show(if _=true then Out.ok (D.int (i ^ j.toNat)) else Out.stuck)=_
 rw[if_pos h]
mutual
def layD:D->Bool
 | .non=>true
 | .bl _=>true
 | .int _=>true
 | .str x=>PyData.strOk x
 | .lst xs=>layDs xs
 | .tup xs=>layDs xs
 | _=>false
def layDs:List D->Bool
 | []=>true
 | x::xs=>layD x&&layDs xs
end
mutual
def dep:D->Nat
 | .lst xs=>deps xs+1
 | .tup xs=>deps xs+1
 | _=>0
def deps:List D->Nat
 | []=>0
 | x::xs=>max (dep x) (deps xs)
end
mutual
theorem QKO:∀ d:D,layD d=true->d.py.canLay0=true
 | .non,_=>rfl
 | .bl _,_=>rfl
 | .int _,_=>rfl
 | .str x,h=>h
 | .lst xs,h=>QyE xs h
 | .tup xs,h=>QyE xs h
theorem QyE:∀ ds:List D,layDs ds=true->PyData.canLayAll0 (D.pys ds)=true
 | [],_=>rfl
 | x::xs,h=>by
  rw[layDs,Bool.and_eq_true]at h
  rw[D.pys,PyData.canLayAll0,Bool.and_eq_true]
  exact⟨QKO x h.1,QyE xs h.2⟩
end
mutual
theorem QKe:∀ d:D,layD d=true->d.py.depth=dep d
 | .non,_=>rfl
 | .bl _,_=>rfl
 | .int _,_=>rfl
 | .str x,h=>rfl
 | .lst xs,h=>by rw[D.py,PyData.depth,dep,Qzu xs h]
 | .tup xs,h=>by rw[D.py,PyData.depth,dep,Qzu xs h]
theorem Qzu:∀ ds:List D,layDs ds=true->PyData.depthAll (D.pys ds)=deps ds
 | [],_=>rfl
 | x::xs,h=>by
  rw[layDs,Bool.and_eq_true]at h
  rw[D.pys,PyData.depthAll,deps,QKe x h.1,Qzu xs h.2]
end
theorem QEF{d:D}(h:layD d=true)(hd:dep d<=64):shp d=true:=by
 unfold shp SeqAt.shaped
 rw[QKO d h,QKe d h]
 simpa using hd
theorem QtM(i:Int):shp (.int i)=true:=QEF rfl (Nat.zero_le _)
theorem QLx(b:Bool):shp (.bl b)=true:=QEF rfl (Nat.zero_le _)
theorem QLr{x y:D}(hx:shp x=true)(hy:shp y=true):dEq x y=.ok (.bl (PyData.eqv x.py y.py)):=by
 unfold dEq;rw[hx,hy];rfl
theorem Qw7{x y:D}(hx:shp x=true)(hy:shp y=true):dNe x y=.ok (.bl (!PyData.eqv x.py y.py)):=by
 unfold dNe;rw[hx,hy];rfl
theorem QHY(i j:Int):(i == j)=decide (i=j):=by
 by_cases h:i=j
 ·subst h;simp
 ·simp[h]
theorem Qam(i j:Int):dEq (.int i) (.int j)=.ok (.bl (decide (i=j))):=by
 rw[QLr (QtM i) (QtM j), ← QHY]
 rfl
theorem Qhr(i j:Int):dNe (.int i) (.int j)=.ok (.bl (!decide (i=j))):=by
 rw[Qw7 (QtM i) (QtM j), ← QHY]
 rfl
theorem Qdo{n:Nat}(h:n<=1000:=by decide):fits n=true:=decide_eq_true (Nat.le_trans h (by decide))
theorem ixT{xs:List D}{x:D}(k:Nat)(h:xs[k]?=some x):dIx (.tup xs) (.int (k:Int))=.ok x:=by
 show optO (atI xs (k:Int))=_
 rw[Qyx h];rfl
theorem ixL{xs:List D}{x:D}(k:Nat)(h:xs[k]?=some x):dIx (.lst xs) (.int (k:Int))=.ok x:=by
 show optO (atI xs (k:Int))=_
 rw[Qyx h];rfl
theorem QPc{α:Type}(xs:List α)(i k:Nat):cutD xs (some (i:Int)) (some (k:Int))=(xs.drop i).take (k - i):=by
 unfold cutD
 rw[HT.sIx_nat,HT.sIx_nat]
 by_cases h:i<=xs.length
 ·rw[Nat.min_eq_left h]
  by_cases h2:k<=xs.length
  ·rw[Nat.min_eq_left h2]
  ·rw[Nat.min_eq_right (by omega),List.take_of_length_le (by rw[List.length_drop];exact Nat.le_refl _),List.take_of_length_le (by rw[List.length_drop];omega)]
 ·rw[show min i xs.length=xs.length by omega,List.drop_length,List.drop_eq_nil_of_le (by omega:xs.length<=i)];simp
theorem QOn{xs ys:List D}(h:xs.length+ys.length<=1000):dCat (.lst xs) (.lst ys)=.ok (.lst (xs++ys)):=by
 show(if fits _=true then _ else _)=_
 rw[if_pos (Qdo h)]
theorem QcP{g:D->SD->Out SD}{its:‹"aq"›}{T:SD->Out Fl}{ς:SD}{xs:List D}{r:Out Fl}(h:its ς=.ok xs)(hL:loopD ‹"af"› xs ς=r):sFor g its T ς=r:=by
 unfold sFor
 rw[h];exact hL
theorem Qb7{A:SD->Out D}{ς:SD}(m:Nat)(h:A ς=.ok (.int (m:Int)))(hm:m<=1000000):itR1 A ς=.ok (Qcm 0 m):=by
 have hs:Qpq (m:Int)=true:=by
  unfold Qpq
  rw[Bool.and_eq_true]
  exact⟨decide_eq_true (by omega),decide_eq_true (by omega)⟩
 unfold itR1
 rw[h,Out.bind_ok]
 simp only[hs,if_true,Int.toNat_natCast]
end DL
namespace DL
open PySem PySem.Spec PyProof.Rows L2
theorem QdM{body:D->SD->Out Fl}{P:Nat->SD->Prop}{n:Nat}(h:∀ k:Nat,k<n->∀ ς,P k ς->∃ ς',body (.int (k:Int)) ς=.ok (.nx ς')/\P (k+1) ς'):∀ ς,P 0 ς->∃ ς',loopD body (Qcm 0 n) ς=.ok (.nx ς')/\P n ς':=by
 have key:∀(j:Nat)(k:Nat),k+j=n->∀ ς,P k ς->∃ ς',loopD body ((List.range' k j).map fun(i:Nat)=>D.int ((0:Int)+i)) ς=.ok (.nx ς')/\P n ς':=by
  intro j
  induction j with
  | zero=>
   intro k hk ς p
   have:k=n:=by omega
   subst this
   exact⟨ς,rfl,p⟩
  | succ j ih=>
   intro k hk ς p
   obtain⟨ς1,e1,p1⟩:=h k (by omega) ς p
   obtain⟨ς2,e2,p2⟩:=ih (k+1) (by omega) ς1 p1
   refine⟨ς2,?_,p2⟩
   rw[List.range'_succ,List.map_cons,loopD,Int.zero_add,e1]
   exact e2
 intro ς p
 have:=key n 0 (by omega) ς p
 unfold Qcm
 rw[List.range_eq_range']
 exact this
theorem QvR{f:D->Out (Option D)}{h:D->Option D}:∀{xs:List D},(∀ x∈xs,f x=.ok (h x))->compM f xs=.ok (xs.filterMap h)
 | [],_=>rfl
 | x::xs,hf=>by
  rw[compM,hf x List.mem_cons_self,Out.bind_ok,QvR (xs:=xs) (fun y hy=>hf y (List.mem_cons_of_mem _ hy)),Out.bind_ok,List.filterMap_cons]
  cases h x<;>rfl
theorem Qsl{α:Type}(f:α->Bool):∀ xs:List α,blsOf (xs.map fun x=>D.bl (f x))=some (xs.map f)
 | []=>rfl
 | x::xs=>by rw[List.map_cons,blsOf,Qsl f xs];rfl
theorem QiI{α:Type}(f:α->Bool)(xs:List α):fAll (.lst (xs.map fun x=>D.bl (f x)))=.ok (.bl (xs.all f)):=by
 rw[fAll,Qsl]
 show Out.ok (D.bl ((xs.map f).all id))=_
 rw[List.all_map];rfl
theorem QM4{α:Type}(f:α->Bool)(xs:List α):fAny (.lst (xs.map fun x=>D.bl (f x)))=.ok (.bl (xs.any f)):=by
 rw[fAny,Qsl]
 show Out.ok (D.bl ((xs.map f).any id))=_
 rw[List.any_map];rfl
theorem QfX{n:Nat}(h:n<=1000):fits n=true:=Qdo h
theorem QOk(z:Str):z.cps.toList.length=z.length:=by simp[Str.length]
theorem QPP(a b:Bool):dNe (.bl a) (.bl b)=.ok (.bl (!(a == b))):=by
 rw[Qw7 (QLx a) (QLx b)]
 cases a<;>cases b<;>rfl
end DL
namespace DL
open PySem PySem.Spec L2
section
variable{i j:Nat}{d x y:D}{m:SM}{ς ς' ς1:SD}{E A B:SD->Out D}{AA:SD->Out (List D)}{f:D->Out D}{g:D->D->Out D}{h:List D->Out D}{r:Out D}{xs ys:List D}{T U:SD->Out Fl}{P Q:SD->Out Bool}{b c:Bool}{fl:Fl}{rf:Out Fl}{rb:Out Bool}
theorem r_var(e:ς[i]?=some (some (.k,d))):eVar i ς=.ok d:=by unfold eVar;rw[e]
theorem Qck(e:ς[i]?=some (some (m,d))):eVarB i ς=.ok d:=by unfold eVarB;rw[e]
theorem r_C:eC d ς=.ok d:=rfl
theorem r_e1(a:A ς=.ok x)(k:f x=r):e1 f A ς=r:=by unfold e1;rw[a];exact k
theorem r_e2(a:A ς=.ok x)(a':B ς=.ok y)(k:g x y=r):e2 g A B ς=r:=by unfold e2;rw[a,Out.bind_ok,a'];exact k
theorem r_eA(a:AA ς=.ok xs)(k:h xs=r):eA h AA ς=r:=by unfold eA;rw[a];exact k
theorem Q7{dd:List D}(a:AA ς=.ok xs)(e:xs++dd=ys)(k:h ys=r):eA (fun xs=>h (xs++dd)) AA ς=r:=by unfold eA;rw[a];show h (xs++dd)=r;rw[e];exact k
theorem r_nil:aNil ς=.ok []:=rfl
theorem Qe(a:A ς=.ok x)(k:AA ς=.ok xs):aCons A AA ς=.ok (x::xs):=by unfold aCons;rw[a,Out.bind_ok,k];rfl
theorem r_tup(a:AA ς=.ok xs)(k:xs.length<=1000):eTup AA ς=.ok (.tup xs):=by unfold eTup;rw[a,Out.bind_ok,if_pos (QfX k)]
theorem r_lst(a:AA ς=.ok xs)(k:xs.length<=1000):eLst AA ς=.ok (.lst xs):=by unfold eLst;rw[a,Out.bind_ok,if_pos (QfX k)]
theorem Q9(a:A ς=.ok (.bl b)):tVal A ς=.ok b:=by unfold tVal;rw[a];rfl
theorem QDz(a:P ς=.ok b):tNot' P ς=.ok (!b):=by unfold tNot';rw[a];rfl
theorem r_or'(a:P ς=.ok b)(k:(if b=true then .ok true else Q ς)=rb):tOr' P Q ς=rb:=by unfold tOr';rw[a];exact k
theorem QeT(a:P ς=.ok b)(k:(if b=true then Q ς else .ok false)=rb):tAnd' P Q ς=rb:=by unfold tAnd';rw[a];exact k
theorem QL6(a:A ς=.ok (.bl b))(k:(if b=true then B ς else .ok (.bl false))=r):eAnd A B ς=r:=by unfold eAnd;rw[a];cases b<;>exact k
theorem r_eIf(a:P ς=.ok b)(k:(if b=true then A ς else B ς)=r):eIf P A B ς=r:=by unfold eIf;rw[a];exact k
theorem r_isa{F:D->Out Bool}(a:A ς=.ok x)(k:F x=.ok b):eIsa F A ς=.ok (.bl b):=by unfold eIsa;rw[a,Out.bind_ok,k];rfl
theorem QOv{g':D->D->Out D}{E':SD->Out D}(a:A ς=.ok x)(a':B ς=.ok y)(k:g x y=.ok (.bl b))(k':(if b=true then E' ς>>=fun w=>g' y w else .ok (.bl false))=r):Qdq g g' A B E' ς=r:=by unfold Qdq;rw[a,Out.bind_ok,a',Out.bind_ok,k];cases b<;>exact k'
theorem QPt{z:D}(a:E ς=.ok z)(k:f z=r):(E ς>>=fun w=>f w)=r:=by rw[a];exact k
theorem r_set(a:E ς=.ok d)(k:ς.set i (some (.k,d))=ς'):sSet i E ς=.ok (.nx ς'):=by unfold sSet;rw[a,Out.bind_ok,k]
theorem Qdp(a:E ς=.ok d)(k:ς.set i (some (.o,d))=ς'):sSetO i E ς=.ok (.nx ς'):=by unfold sSetO;rw[a,Out.bind_ok,k]
theorem r_seq(a:T ς=.ok fl)(k:thenF U fl=rf):sSeq T U ς=rf:=by unfold sSeq;rw[a];exact k
theorem r_okR{α:Type}{a:α}:(Out.ok a)=Out.ok a:=rfl
theorem Qk(k:U ς=rf):thenF U (.nx ς)=rf:=k
theorem Qo8{z:Bool}:thenF U (.rt z d)=.ok (.rt z d):=rfl
theorem r_if(a:P ς=.ok b)(k:(if b=true then T ς else U ς)=rf):sIf P T U ς=rf:=by unfold sIf;rw[a];exact k
theorem QgD{α:Type}{u v w:α}(a:b=true)(k:u=w):(if b=true then u else v)=w:=by rw[if_pos a];exact k
theorem Qfx{α:Type}{u v w:α}(a:b=false)(k:v=w):(if b=true then u else v)=w:=by subst a;exact k
theorem r_ret(a:E ς=.ok d):sRet E ς=.ok (.rt false d):=by unfold sRet;rw[a];rfl
theorem Qpm(a:E ς=.ok d):sRetF E ς=.ok (.rt true d):=by unfold sRetF;rw[a];rfl
theorem QCN(e:ς[i]?=some (some (.o,d))):sRetO i ς=.ok (.rt true d):=by unfold sRetO;rw[e]
theorem Qdg:sNil ς=.ok (.nx ς):=rfl
theorem QHC{n:Nat}(k:n<=1000):decide (n<sizeLine)=true:=decide_eq_true (Nat.lt_of_le_of_lt k (by decide))
theorem r_app(e:ς[i]?=some (some (.o,.lst xs)))(a:E ς=.ok d)(k:xs.length<=1000)(l:ς.set i (some (.o,.lst (xs++[d])))=ς'):Qcb i E ς=.ok (.nx ς'):=by
 unfold Qcb;rw[e];show(E ς>>=fun d=>if decide (xs.length<sizeLine)=true then _ else _)=_;rw[a,Out.bind_ok,if_pos (QHC k),l]
theorem r_put{I:SD->Out D}{k:Int}(a:E ς=.ok d)(e:ς[i]?=some (some (.o,.lst xs)))(a':I ς=.ok (.int k))(q:ixN xs.length k=some j)(l:ς.set i (some (.o,.lst (xs.set j d)))=ς'):sPutO i I E ς=.ok (.nx ς'):=by
 unfold sPutO;rw[a,Out.bind_ok,e]
 show(I ς>>=_)=_
 rw[a',Out.bind_ok]
 show(optO (ixN xs.length k)>>=_)=_
 rw[q]
 show Out.ok (Fl.nx (ς.set i (some (.o,.lst (xs.set j d)))))=_
 rw[l]
theorem QEl{o:Out D}(a:o=.ok d)(k:d.scal=true):QpD o=.ok d:=by unfold QpD;rw[a,Out.bind_ok,if_pos k]
theorem QzQ{o:Out D}(a:o=.ok d)(k:d.scal=false):Qpd o=.ok d:=by unfold Qpd;rw[a,Out.bind_ok,k];rfl
theorem r_noX{α:Type}{o:Out α}{a:α}(k:o=.ok a):noX o=.ok a:=by rw[k];rfl
theorem r_sl{l u:SD->Out (Option Int)}{p q:Option Int}(a:A ς=.ok (.lst xs))(k1:l ς=.ok p)(k2:u ς=.ok q)(e:cutD xs p q=ys):eSl A l u ς=.ok (.lst ys):=by unfold eSl;rw[a,Out.bind_ok,k1,Out.bind_ok,k2,Out.bind_ok];show Out.ok (D.lst _)=_;rw[e]
theorem QxL{k:Int}(a:E ς=.ok (.int k)):oSome E ς=.ok (some k):=by unfold oSome;rw[a];rfl
theorem QzZ:Qaz [] [] ς=.ok ς:=rfl
theorem Qz1{is:List Nat}{rs:Out SD}(a:ς.set i (some (.k,d))=ς1)(k:Qaz is ys ς1=rs):Qaz (i::is) (d::ys) ς=rs:=by show Qaz is ys (ς.set i (some (.k,d)))=rs;rw[a];exact k
theorem r_unp{is:List Nat}(a:E ς=.ok (.tup ys))(k:Qaz is ys ς=.ok ς'):sUnp is E ς=.ok (.nx ς'):=by unfold sUnp;rw[a,Out.bind_ok];show(Qaz is ys ς>>=_)=_;rw[k];rfl
theorem Qbh{fr:Bool}(a:T ς=.ok fl)(k:retF fr fl=r):(T ς>>=retF fr)=r:=by rw[a];exact k
theorem r_rt{z:Bool}:retF false (.rt z d)=.ok d:=by unfold retF;simp
theorem r_rtT:retF true (.rt true d)=.ok d:=by unfold retF;simp
theorem r_gN{L:SD->Out Fl}(a:ς.set i (some (.k,d))=ς1)(k:L ς1=rf):(gN i d ς>>=fun ς'=>L ς')=rf:=by unfold gN;rw[a];exact k
theorem r_gT{L:SD->Out Fl}{is:List Nat}(a:Qaz is ys ς=.ok ς1)(k:L ς1=rf):(gT is (.tup ys) ς>>=fun ς'=>L ς')=rf:=by unfold gT;show(Qaz is ys ς>>=fun ς'=>L ς')=rf;rw[a];exact k
theorem QMf{cl:Str}{fds:List (Str×D)}{mk:‹"aa"›}(a:AA ς=.ok xs)(k:mk cl [] xs=.ok fds):eMake cl mk AA ς=.ok (.ins cl fds):=by unfold eMake;rw[a,Out.bind_ok,k];rfl
theorem QNT{cs:List Str}{n cl:Str}{fds fds':List (Str×D)}{mk:‹"aa"›}(e:ς[i]?=some (some (.s,.ins cl fds)))(k1:cs.contains cl=true)(k2:fds.lookup n=none)(a:AA ς=.ok xs)(k:mk cl fds xs=.ok fds')(l:ς.set i (some (.s,.ins cl fds'))=ς'):Qjq cs n mk i AA ς=.ok (.nx ς'):=by
 unfold Qjq;rw[e]
 show(if (cs.contains cl&&(fds.lookup n).isNone)=true then _ else _)=_
 rw[k1,k2]
 show(AA ς>>=_)=_
 rw[a,Out.bind_ok,k,Out.bind_ok,l]
theorem r_itL(a:E ς=.ok (.lst xs)):itL E ς=.ok xs:=by unfold itL;rw[a];rfl
theorem r_itE(a:E ς=.ok (.lst xs)):itE E ς=.ok (enumD 0 xs):=by unfold itE;rw[a];rfl
theorem r_itZ(a:A ς=.ok (.lst xs))(a':B ς=.ok (.lst ys)):itZ A B ς=.ok (List.zipWith (fun a b=>.tup [a,b]) xs ys):=by unfold itZ;rw[a,Out.bind_ok,a'];rfl
end
theorem QPG{T:SD->Out Fl}{ς τ:SD}{c:Str}{fds:List (Str×D)}(a:T ς=.ok (.nx (some (.s,.ins c fds)::τ))):(T ς>>=QfA c)=.ok fds:=by
 rw[a];simp[QfA,Qtl]
theorem c_nil{ς:SD}:captD [] ς=[]:=rfl
theorem Qfy{ς τ:SD}{js:‹"K"›}(k:captD js ς=τ):captD (none::js) ς=none::τ:=by rw[← k];rfl
theorem c_k{ς τ:SD}{js:‹"K"›}{j:Nat}{d:D}(e:ς[j]?=some (some (.k,d)))(k:captD js ς=τ):captD (some j::js) ς=some (.k,d)::τ:=by
 rw[← k];show captS ς j::_=_;unfold captS;rw[e];rfl
theorem Qaj{js:‹"K"›}{i:Nat}{e:SD->Out D}{ς τ0 τ:SD}{x d:D}(c:captD js ς=τ0)(a:τ0.set i (some (.k,x))=τ)(k:e τ=.ok d):turnC js (gN i) cTrue e ς x=.ok (some d):=by
 unfold turnC gN cTrue
 rw[c,a,Out.bind_ok,Out.bind_ok,if_pos rfl,k];rfl
theorem QHA{js:‹"K"›}{is:List Nat}{e:SD->Out D}{ς τ0 τ:SD}{xs:List D}{d:D}(c:captD js ς=τ0)(a:Qaz is xs τ0=.ok τ)(k:e τ=.ok d):turnC js (gT is) cTrue e ς (.tup xs)=.ok (some d):=by
 unfold turnC gT cTrue
 show((Qaz is xs (captD js ς))>>=_)=_
 rw[c,a,Out.bind_ok,Out.bind_ok,if_pos rfl,k];rfl
theorem QH0{js:‹"K"›}{i:Nat}{q:SD->Out Bool}{e:SD->Out D}{ς τ0 τ:SD}{x d:D}{b:Bool}(c:captD js ς=τ0)(a:τ0.set i (some (.k,x))=τ)(h:q τ=.ok b)(k:e τ=.ok d):turnC js (gN i) q e ς x=.ok (if b=true then some d else none):=by
 unfold turnC gN
 rw[c,a,Out.bind_ok,h,Out.bind_ok,k];cases b<;>rfl
theorem QMk{js:‹"K"›}{is:List Nat}{q:SD->Out Bool}{e:SD->Out D}{ς τ0 τ:SD}{xs:List D}{d:D}{b:Bool}(c:captD js ς=τ0)(a:Qaz is xs τ0=.ok τ)(h:q τ=.ok b)(k:e τ=.ok d):turnC js (gT is) q e ς (.tup xs)=.ok (if b=true then some d else none):=by
 unfold turnC gT
 show((Qaz is xs (captD js ς))>>=_)=_
 rw[c,a,Out.bind_ok,h,Out.bind_ok,k];cases b<;>rfl
theorem Qat{α:Type}{js:‹"K"›}{its:‹"aq"›}{g:D->SD->Out SD}{e:SD->Out D}{ς:SD}{l:List α}(f:α->D)(h:α->D)(hi:its ς=.ok (l.map f))(ht:∀ x∈l,turnC js g cTrue e ς (f x)=.ok (some (h x)))(hl:l.length<=1000):
 eComp js its g cTrue e ς=.ok (.lst (l.map h)):=by
 have go:∀ l:List α,(∀ x∈l,turnC js g cTrue e ς (f x)=.ok (some (h x)))->compM (turnC js g cTrue e ς) (l.map f)=.ok (l.map h):=by
  intro l
  induction l with
  | nil=>intro _;rfl
  | cons x xs ih=>
   intro H
   have h1:=H x (List.mem_cons_self ..)
   have h2:=ih fun y hy=>H y (List.mem_cons_of_mem _ hy)
   show compM (turnC js g cTrue e ς) (f x::xs.map f)=_
   unfold compM
   rw[h1,Out.bind_ok,h2];rfl
 unfold eComp
 rw[hi,Out.bind_ok,go l ht,Out.bind_ok,if_pos (QfX (by rw[List.length_map];exact hl))]
theorem Qg8{js:‹"K"›}{its:‹"aq"›}{g:D->SD->Out SD}{e:SD->Out D}{ς:SD}{n:Nat}(h:Nat->D)(hi:its ς=.ok (Qcm 0 n))(ht:∀ k:Nat,k<n->turnC js g cTrue e ς (.int (k:Int))=.ok (some (h k)))(hl:n<=1000):
 eComp js its g cTrue e ς=.ok (.lst ((List.range n).map h)):=by
 refine Qat (fun i:Nat=>D.int (0+(i:Int))) h hi (fun k hk=>?_) (by rw[List.length_range];exact hl)
 show turnC js g cTrue e ς (.int (0+(k:Int)))=_
 rw[Int.zero_add]
 exact ht k (List.mem_range.mp hk)
theorem r_get{ς:SD}{i:Nat}{m:SM}{d:D}(h:ς[i]?=some (some (m,d))):ς[i]?=some (some (m,d)):=h
theorem r_len{n:Nat}(h:n<=1000):n<=1000:=h
theorem QPQ{i:Int}{n:Nat}(h:bitsI i<=n):bitsI i<=n:=h
theorem r_dec{m n:Nat}(h:decide (m<=n)=true):decide (m<=n)=true:=h
theorem r_id{α:Type}{a b:α}(h:a=b):a=b:=h
theorem QN3{n:Str}:List.lookup n ([]:List (Str×D))=none:=rfl
theorem QPO{α:Type}{x:α}{xs:List α}:(x::xs)[0]?=some x:=rfl
theorem QO1{α:Type}{x:α}{xs:List α}{n:Nat}{r:Option α}(h:xs[n]?=r):(x::xs)[n+1]?=r:=by rw[List.getElem?_cons_succ];exact h
theorem QK2{α:Type}{x y:α}{xs:List α}:(x::xs).set 0 y=y::xs:=rfl
theorem QLd{α:Type}{x y:α}{xs ys:List α}{n:Nat}(h:xs.set n y=ys):(x::xs).set (n+1) y=x::ys:=by rw[List.set_cons_succ,h]
theorem QQa{α:Type}{ys:List α}:[]++ys=ys:=rfl
theorem QPa{α:Type}{x:α}{xs ys zs:List α}(h:xs++ys=zs):x::xs++ys=x::zs:=by rw[List.cons_append,h]
theorem QKM{i:Int}(h:decide (i.natAbs<2 ^ 300)=true):bitsI i<=300:=Qlk (of_decide_eq_true h)
theorem QPg{i j:Int}{m n:Nat}(a:bitsI i<=m)(b:bitsI j<=n):bitsI (i+j)<=m+n+1:=by
 have a:=Qpl a
 have b:=Qpl b
 refine Qlk ?_
 have c1:2 ^ m<=2 ^ (m+n):=Nat.pow_le_pow_right (by decide) (by omega)
 have c2:2 ^ n<=2 ^ (m+n):=Nat.pow_le_pow_right (by decide) (by omega)
 rw[Nat.pow_succ]
 omega
theorem QPj{i j:Int}{m n:Nat}(a:bitsI i<=m)(b:bitsI j<=n):bitsI (i * j)<=m+n:=by
 have a:=Qpl a
 have b:=Qpl b
 refine Qlk ?_
 rw[Int.natAbs_mul,Nat.pow_add]
 exact Nat.mul_lt_mul'' a b
theorem QPh{i j:Int}{n:Nat}(h:0<j)(b:bitsI j<=n):bitsI (i % j)<=n:=by
 have b:=Qpl b
 have h1:=Int.emod_nonneg i (show j≠0 by omega)
 have h2:=Int.emod_lt_of_pos i h
 exact Qlk (by omega)
theorem QLw{n m:Nat}(h:n<2 ^ m):bitsI (n:Int)<=m:=Qlk (by simpa using h)
theorem bd_in{i:Int}{n:Nat}(h0:0<=i)(h:i<2 ^ n):bitsI i<=n:=Qlk (by
 have:((2 ^ n:Nat):Int)=2 ^ n:=by simp
 omega)
theorem r_mul{i j:Int}{m n:Nat}(hi:bitsI i<=m)(hj:bitsI j<=n)(h:decide (m+n<=134217728)=true):dMul (.int i) (.int j)=.ok (.int (i * j)):=QOo hi hj (of_decide_eq_true h)
end DL
namespace Abl
def sm:Nat->(Nat->Int)->Int
 | 0,_=>0
 | n+1,f=>sm n f+f n
theorem QtF{f g:Nat->Int}:∀{n:Nat},(∀ k,k<n->f k<=g k)->sm n f<=sm n g
 | 0,_=>Int.le_refl _
 | n+1,h=>Int.add_le_add (QtF fun k hk=>h k (Nat.lt_succ_of_lt hk)) (h n (Nat.lt_succ_self n))
theorem QEq{f g:Nat->Int}{n:Nat}(h:∀ k,k<n->f k=g k):sm n f=sm n g:=
 Int.le_antisymm (QtF fun k hk=>by rw[h k hk];exact Int.le_refl _) (QtF fun k hk=>by rw[h k hk];exact Int.le_refl _)
theorem QHy:∀ n:Nat,sm n (fun _=>0)=0
 | 0=>rfl
 | n+1=>by show sm n (fun _=>0)+0=0;rw[QHy n];rfl
theorem sm_up{f g:Nat->Int}{j:Nat}{d:Int}(hd:g j=f j+d)(h:∀ k,k≠j->g k=f k):∀{n:Nat},j<n->sm n g=sm n f+d
 | 0,hj=>absurd hj (Nat.not_lt_zero _)
 | n+1,hj=>by
  show sm n g+g n=sm n f+f n+d
  by_cases e:j=n
  ·subst e
   rw[hd,QEq (f:=g) (g:=f) fun k hk=>h k (Nat.ne_of_lt hk)]
   omega
  ·rw[sm_up hd h (show j<n by omega),h n (fun z=>e z.symm)]
   omega
def inc(c:Nat->Nat)(j k:Nat):Nat:=if k=j then c k+1 else c k
variable{n:Nat}{K:Nat->Int}{w:Nat->Nat->Int->Int}
def sn(w:Nat->Nat->Int->Int)(k:Nat):Nat->Int->Int
 | 0,_=>0
 | c+1,x=>sn w k c x+w k c x
def all(n:Nat)(w:Nat->Nat->Int->Int)(c:Nat->Nat)(x:Int):Int:=sm n fun k=>sn w k (c k) x
def desk(n:Nat)(K:Nat->Int)(w:Nat->Nat->Int->Int)(c:Nat->Nat)(x:Nat):Int:=K x+all n w c (x:Int) - (c x:Int)
theorem QHN(hw:∀ k c x,0<=w k c x)(k:Nat)(x:Int){a:Nat}:∀{b:Nat},a<=b->sn w k a x<=sn w k b x
 | 0,h=>by rw[Nat.le_zero.mp h];exact Int.le_refl _
 | b+1,h=>by
  by_cases e:a=b+1
  ·rw[e];exact Int.le_refl _
  ·have:=QHN hw k x (show a<=b by omega)
   have:=hw k b x
   show sn w k a x<=sn w k b x+w k b x
   omega
theorem QNb(hw:∀ k c x,0<=w k c x){c d:Nat->Nat}(h:∀ k,k<n->c k<=d k)(x:Int):all n w c x<=all n w d x:=QtF fun k hk=>QHN hw k x (h k hk)
theorem all_congr{c d:Nat->Nat}(h:∀ k,k<n->c k=d k)(x:Int):all n w c x=all n w d x:=QEq fun k hk=>by rw[h k hk]
theorem all_inc{c:Nat->Nat}{j:Nat}(hj:j<n)(x:Int):all n w (inc c j) x=all n w c x+w j (c j) x:=by
 refine sm_up (j:=j) ?_ (fun k hk=>?_) hj
 ·show sn w j (inc c j j) x=_
  unfold inc
  rw[if_pos rfl];rfl
 ·show sn w k (inc c j k) x=_
  unfold inc
  rw[if_neg hk]
theorem all_zero(x:Int):all n w (fun _=>0) x=0:=QHy n
theorem desk_inc{c:Nat->Nat}{j:Nat}(hj:j<n)(x:Nat):desk n K w (inc c j) x=(if x=j then desk n K w c j - 1 else desk n K w c x)+w j (c j) (x:Int):=by
 unfold desk
 rw[all_inc hj]
 unfold inc
 by_cases e:x=j
 ·subst e
  rw[if_pos rfl,if_pos rfl];omega
 ·rw[if_neg e,if_neg e];omega
inductive Leg(n:Nat)(K:Nat->Int)(w:Nat->Nat->Int->Int):(Nat->Nat)->Prop where
 | zero:Leg n K w (fun _=>0)
 | step {c:Nat->Nat} {k:Nat}:Leg n K w c->k<n->0<desk n K w c k->Leg n K w (inc c k)
def Rest(n:Nat)(K:Nat->Int)(w:Nat->Nat->Int->Int)(c:Nat->Nat):Prop:=∀ x,x<n->desk n K w c x<=0
theorem QK7(hw:∀ k c x,0<=w k c x){c R:Nat->Nat}(h:Leg n K w c)(hR:Rest n K w R):∀ k,k<n->c k<=R k:=by
 induction h with
 | zero=>intro k _;exact Nat.zero_le _
 | @step c k _ hk hp ih=>
  intro j hj
  unfold inc
  by_cases e:j=k
  ·subst e
   rw[if_pos rfl]
   have h1:=ih j hj
   by_cases e:c j=R j
   ·have h2:=QNb hw ih (j:Int)
    have h3:=hR j hj
    unfold desk at hp h3
    omega
   ·omega
  ·rw[if_neg e];exact ih j hj
theorem leg_pos(hw:∀ k c x,0<=w k c x)(hK:∀ x,x<n->0<=K x){c:Nat->Nat}(h:Leg n K w c):∀ x,x<n->0<=desk n K w c x:=by
 induction h with
 | zero=>intro x hx;unfold desk;rw[all_zero];have:=hK x hx;show 0<=K x+0 - ((0:Nat):Int);omega
 | @step c k _ hk hp ih=>
  intro x hx
  rw[desk_inc hk]
  have h1:=hw k (c k) (x:Int)
  have h2:=ih x hx
  split
  ·omega
  ·omega
def tot:Nat->(Nat->Nat)->Nat
 | 0,_=>0
 | n+1,c=>tot n c+c n
theorem QLb{c d:Nat->Nat}:∀{n:Nat},(∀ k,k<n->c k<=d k)->tot n c<=tot n d
 | 0,_=>Nat.le_refl _
 | n+1,h=>Nat.add_le_add (QLb fun k hk=>h k (Nat.lt_succ_of_lt hk)) (h n (Nat.lt_succ_self n))
theorem QKx{c d:Nat->Nat}:∀{n:Nat},(∀ k,k<n->c k<=d k)->tot n d<=tot n c->∀ k,k<n->c k=d k
 | 0,_,_=>fun k hk=>absurd hk (Nat.not_lt_zero _)
 | n+1,h,ht=>fun k hk=>by
  have h1:tot n c<=tot n d:=QLb fun k hk=>h k (Nat.lt_succ_of_lt hk)
  have h2:=h n (Nat.lt_succ_self n)
  have ht:tot n d+d n<=tot n c+c n:=ht
  by_cases e:k=n
  ·subst e;omega
  ·exact QKx (fun k hk=>h k (Nat.lt_succ_of_lt hk)) (by omega) k (by omega)
theorem tot_inc{c:Nat->Nat}{j:Nat}:∀{n:Nat},j<n->tot n (inc c j)=tot n c+1
 | 0,h=>absurd h (Nat.not_lt_zero _)
 | n+1,h=>by
  show tot n (inc c j)+inc c j n=tot n c+c n+1
  by_cases e:j=n
  ·subst e
   have:∀ m,m<=j->tot m (inc c j)=tot m c:=by
    intro m
    induction m with
    | zero=>intro _;rfl
    | succ m ih=>
     intro hm
     show tot m (inc c j)+inc c j m=tot m c+c m
     rw[ih (by omega)]
     unfold inc
     rw[if_neg (by omega)]
   rw[this j ‹"an"›]
   unfold inc
   rw[if_pos rfl];omega
  ·rw[tot_inc (show j<n by omega)]
   unfold inc
   rw[if_neg (fun z=>e z.symm)];omega
theorem QJk{c d:Nat->Nat}(h:∀ k,k<n->c k=d k)(x:Nat)(hx:x<n):desk n K w c x=desk n K w d x:=by
 unfold desk
 rw[all_congr h,h x hx]
theorem same_end(hw:∀ k c x,0<=w k c x){c R:Nat->Nat}{M:Nat}(hc:Leg n K w c)(hR:Leg n K w R)(rR:Rest n K w R)(tR:tot n R<=M)(h:Rest n K w c∨tot n c=M):Rest n K w c/\∀ k,k<n->c k=R k:=by
 have h1:=QK7 hw hc rR
 rcases h with h | h
 ·have h2:=QK7 hw hR h
  exact⟨h,fun k hk=>Nat.le_antisymm (h1 k hk) (h2 k hk)⟩
 ·have e:=QKx h1 (by omega)
  refine⟨fun x hx=>?_,e⟩
  rw[QJk e x hx]
  exact rR x hx
end Abl
set_option maxHeartbeats 4000000
namespace My
open PySem PySem.Spec L2 DL
def top(i:Nat):Stmt:=PySem.Challenge.pw_dockethall_k35_whole_any_order.main.body.getD i (.Pass ⟨0,0,0,0⟩)
def Qm:List Str:=["Deal","Bundle","Copy","Rows","Office"]
def Qg:List Str:=["Deal","Bundle","Copy","Rows"]
def QX:List Str:=["Office"]
abbrev Qcf:Stmt:=top 50
theorem QGh:Qr ["_law_script","_law_k"] ["_law_script","_law_k"] (Qa Qcf):=⟨rfl,rfl,rfl,dk,rfl,dk,dk⟩
noncomputable section
abbrev Lo(s:Stmt)(n:String):Prop:=(Qa s).names.lookup (n:Str)=some NameKind.local
abbrev Gl(s:Stmt)(n:String):Prop:=(Qa s).names.lookup (n:Str)=some NameKind.globalImplicit
variable{P:Program}{w:World}{K:PySem.W.Frag}{mg:Str->Option Value}{base:Heap}{CT:CTab}{f:Addr}{fd:FuncData}{dV:Value}
theorem QkN:Lo Qcf "_law_k":=dk
theorem Qgz:Lo Qcf "_law_script":=dk
theorem Qyi:Gl Qcf "len":=dk
def Qii:SD->Out Fl:=(sSeq (sIf (tVal (e2 dLt (eVar 1) ‹"N"›)) (sRet (e2 dIx (eVar 0) (eVar 1))) sNil) (sRet (eC (.int 0))))
def QZ:List D->Out D:=bodyF false 2 2 Qii
theorem QwF(d0 d1:D):QZ [d0,d1]=(Qii ‹"G"›>>=retF false):=rfl
theorem QJH(F:FunV K "_law_cell" "_law_cell" Qcf f fd dV)(z_len:mg "len"=none):FnOk P w K mg base CX0 1 f fd ["_law_script","_law_k"] (SpD K CT false QZ):=
 @fnV P w K mg base CT false "_law_cell" "_law_cell" Qcf f fd dV ["_law_script","_law_k"] ["_law_script","_law_k"] 0 Qii F QGh fun cdv A outer s H E G hr=>
  (Qf (ds_if (dt_lt (DE.db (Qb 1 rfl (oi QkN))) (DE.db (Q3 Qyi z_len (Qu (DE.db (Qb 0 rfl (oi Qgz))) Qz)))) (Qi (QI (de_ix (Qb 0 rfl (oi Qgz)) (DE.db (Qb 1 rfl (oi QkN)))))) Q1) (Qi (QI Qd)))
abbrev QbM:Stmt:=top 51
theorem Qib:Qr ["_law_cell_here","_law_k","_law_number"] ["_law_cell_here","_law_k"] (Qa QbM):=⟨rfl,rfl,rfl,dk,rfl,dk,dk⟩
theorem QjW:Lo QbM "_law_cell_here":=dk
theorem QbA:Lo QbM "_law_k":=dk
theorem Qaf:Lo QbM "_law_number":=dk
def QiW:SD->Out Fl:=(sSeq (sSet 2 ‹"P"›) (sSeq (sSet 2 (e2 dMod (eVar 2) (eC (.int 2305843009213693951)))) (sSeq (sSet 2 ‹"at"›) (sRet (e2 dMod (e2 dMul (eVar 2) (eVar 2)) (eC (.int 2305843009213693951)))))))
def Qa2:List D->Out D:=bodyF false 2 3 QiW
theorem QHn(d0 d1:D):Qa2 [d0,d1]=(QiW [some (.k,d0),some (.k,d1),none]>>=retF false):=rfl
theorem QFf(F:FunV K "_law_mixed" "_law_mixed" QbM f fd dV)  : FnOk P w K mg base CX0 1 f fd ["_law_cell_here","_law_k"] (SpD K CT false Qa2):=
 @fnV P w K mg base CT false "_law_mixed" "_law_mixed" QbM f fd dV ["_law_cell_here","_law_k","_law_number"] ["_law_cell_here","_law_k"] 0 QiW F Qib fun cdv A outer s H E G hr=>
  (Qf (QG (i:=2) Qib.nd rfl (oi Qaf) (QaE (DE.db (QaE (DE.db (Qjr (DE.db (QaE (DE.db (Q4 (DE.db (Qb 0 rfl (oi QjW))) (DE.db Qd))) (DE.db Qd))) (DE.db Qd))) (DE.db (Qjr (DE.db (Qjr (DE.db Qd) (DE.db (Qb 1 rfl (oi QbA))))) (DE.db (Qb 1 rfl (oi QbA))))))) (DE.db (Qjr (DE.db Qd) (DE.db (Qb 1 rfl (oi QbA))))))) (Qf (QG (i:=2) Qib.nd rfl (oi Qaf) (Q4 (DE.db (Qb 2 rfl (oi Qaf))) (DE.db Qd))) (Qf (QG (i:=2) Qib.nd rfl (oi Qaf) (Q4 (DE.db (QaE (DE.db (QaE (DE.db (Qjr (DE.db (Qb 2 rfl (oi Qaf))) (DE.db (Qb 2 rfl (oi Qaf))))) (DE.db (Qjr (DE.db (Qjr (DE.db Qd) (DE.db (Qb 1 rfl (oi QbA))))) (DE.db (Qb 1 rfl (oi QbA))))))) (DE.db (Qb 1 rfl (oi QbA))))) (DE.db Qd))) (Qi (QI (Q4 (DE.db (Qjr (DE.db (Qb 2 rfl (oi Qaf))) (DE.db (Qb 2 rfl (oi Qaf))))) (DE.db Qd)))))))
abbrev Qax:Stmt:=top 52
theorem QeX:Qr ["_law_cell_here","_law_many","_law_found","_law_number","_law_k"] ["_law_cell_here","_law_many"] (Qa Qax):=⟨rfl,rfl,rfl,dk,rfl,dk,dk⟩
theorem Qb4:Lo Qax "_law_found":=dk
theorem Qcp:Lo Qax "_law_cell_here":=dk
theorem QbR:Lo Qax "_law_number":=dk
theorem QnW:Lo Qax "_law_many":=dk
theorem Qtr:Gl Qax "range":=dk
theorem Qim:Lo Qax "_law_k":=dk
theorem Qmt:Gl Qax "_law_mixed":=dk
def Qd5:SD->Out Fl:=(sIf (tVal (e2 dEq (e2 dMod (eVar 0) (eC (.int 2))) (eC (.int 0)))) (sSeq (Qcb 2 (e2 dMod (eVar 3) (e2 dPow (eC (.int 10)) (eC (.int 6))))) (sSet 3 (e2 dFdiv (eVar 3) (e2 dPow (eC (.int 10)) (eC (.int 6)))))) (Qcb 2 (e2 dMod (eA (fun xs=>Qa2 (xs++[])) (aCons (eVar 0) (aCons (eVar 4) aNil))) (e2 dPow (eC (.int 10)) (eC (.int 6))))))
def QhV:SD->Out Fl:=(sSeq (sSetO 2 (eLst aNil)) (sSeq (sSet 3 (e2 dFdiv (eVar 0) (eC (.int 2)))) (sSeq (sFor (gN 4) (itR1 (eVar 1)) Qd5) (sRetO 2))))
def Qah:List D->Out D:=bodyF true 2 5 QhV
theorem QDC(d0 d1:D):Qah [d0,d1]=(QhV [some (.k,d0),some (.k,d1),none,none,none]>>=retF true):=rfl
theorem QDh(F:FunV K "_law_digits" "_law_digits" Qax f fd dV)(Qi4:DefOk P w K mg base CT "_law_mixed" 1 false [] Qa2)(z_range:mg "range"=none):FnOk P w K mg base CX0 2 f fd ["_law_cell_here","_law_many"] (SpD K CT true Qah):=
 @fnV P w K mg base CT true "_law_digits" "_law_digits" Qax f fd dV ["_law_cell_here","_law_many","_law_found","_law_number","_law_k"] ["_law_cell_here","_law_many"] 1 QhV F QeX fun cdv A outer s H E G hr=>
  (Qf (QbY (i:=2) QeX.nd rfl (oi Qb4) (Qap Qj)) (Qf (QG (i:=3) QeX.nd rfl (oi QbR) (QtL (DE.db (Qb 0 rfl (oi Qcp))) (DE.db Qd))) (Qf (QcS PassesOwn.never rfl (QaA Qtr z_range (DE.db (Qb 1 rfl (oi QnW)))) (QA (i:=4) QeX.nd rfl (oi Qim)) (Qw _) (Qi (ds_if (dt_eq hr.units (DE.db (Q4 (DE.db (Qb 0 rfl (oi Qcp))) (DE.db Qd))) (DE.db Qd)) (Qf (QcM 2 (Q4 (DE.db (Qb 3 rfl (oi QbR))) (DE.db (QrY (DE.db Qd) (DE.db Qd)))) rfl (oi Qb4)) (Qi (QG (i:=3) QeX.nd rfl (oi QbR) (QtL (DE.db (Qb 3 rfl (oi QbR))) (DE.db (QrY (DE.db Qd) (DE.db Qd))))))) (Qi (QcM 2 (Q4 (DE.db (de_f Qi4 (hr.mono (by decide)) (Qc (Qb 0 rfl (oi Qcp)) (Qc (Qb 4 rfl (oi Qim)) Qj)) Qmt)) (DE.db (QrY (DE.db Qd) (DE.db Qd)))) rfl (oi Qb4)))))) (Qi (Qo2 2 rfl (oi Qb4))))))
abbrev QaD:Stmt:=top 53
theorem Qg0:Qr ["_law_digit","_law_many","_law_tame","_law_found","_law_k"] ["_law_digit","_law_many","_law_tame"] (Qa QaD):=⟨rfl,rfl,rfl,dk,rfl,dk,dk⟩
theorem Qdb:Lo QaD "_law_found":=dk
theorem QnQ:Lo QaD "_law_many":=dk
theorem QsE:Gl QaD "range":=dk
theorem QrG:Lo QaD "_law_k":=dk
theorem Qb5:Lo QaD "_law_digit":=dk
theorem QoA:Lo QaD "_law_tame":=dk
def QdT:SD->Out Fl:=(sSeq (Qcb 3 (e2 dIx (eLst (aCons (e2 dMod (eVar 0) (eC (.int 10))) (aCons (e2 dIx (eLst (aCons (eC (.int 0)) (aCons (eC (.int 1)) (aCons (eC (.int 0)) (aCons (eC (.int 2)) (aCons (eC (.int 1)) (aCons (eC (.int 0)) (aCons (eC (.int 1)) (aCons (eC (.int 0)) (aCons (eC (.int 0)) (aCons (eC (.int 1)) aNil))))))))))) (e2 dMod (eVar 0) (eC (.int 10)))) aNil))) (eVar 2))) (sSet 0 (e2 dFdiv (eVar 0) (eC (.int 10)))))
def Qig:SD->Out Fl:=(sSeq (sSetO 3 (eLst aNil)) (sSeq (sFor (gN 4) (itR1 (eVar 1)) QdT) (sRetO 3)))
def Qcl:List D->Out D:=bodyF true 3 5 Qig
theorem QEv(d0 d1 d2:D):Qcl [d0,d1,d2]=(Qig [some (.k,d0),some (.k,d1),some (.k,d2),none,none]>>=retF true):=rfl
theorem QB7(F:FunV K "_law_counts" "_law_counts" QaD f fd dV)(z_range:mg "range"=none):FnOk P w K mg base CX0 1 f fd ["_law_digit","_law_many","_law_tame"] (SpD K CT true Qcl):=
 @fnV P w K mg base CT true "_law_counts" "_law_counts" QaD f fd dV ["_law_digit","_law_many","_law_tame","_law_found","_law_k"] ["_law_digit","_law_many","_law_tame"] 0 Qig F Qg0 fun cdv A outer s H E G hr=>
  (Qf (QbY (i:=3) Qg0.nd rfl (oi Qdb) (Qap Qj)) (Qf (QcS PassesOwn.never rfl (QaA QsE z_range (DE.db (Qb 1 rfl (oi QnQ)))) (QA (i:=4) Qg0.nd rfl (oi QrG)) (Qw _) (Qf (QcM 3 (de_ix (DF.de (Qap (Qc (Q4 (DE.db (Qb 0 rfl (oi Qb5))) (DE.db Qd)) (Qc (de_ix (DF.de (Qap (Qc Qd (Qc Qd (Qc Qd (Qc Qd (Qc Qd (Qc Qd (Qc Qd (Qc Qd (Qc Qd (Qc Qd Qj)))))))))))) (DE.db (Q4 (DE.db (Qb 0 rfl (oi Qb5))) (DE.db Qd)))) Qj)))) (DE.db (Qb 2 rfl (oi QoA)))) rfl (oi Qdb)) (Qi (QG (i:=0) Qg0.nd rfl (oi Qb5) (QtL (DE.db (Qb 0 rfl (oi Qb5))) (DE.db Qd)))))) (Qi (Qo2 3 rfl (oi Qdb)))))
abbrev QB:Stmt:=top 54
theorem Qe3:Qr ["_law_digits_here","_law_tame","_law_kind","_law_size","_law_outs"] ["_law_digits_here","_law_tame"] (Qa QB):=⟨rfl,rfl,rfl,dk,rfl,dk,dk⟩
theorem Qbk:(Qa QB).names.lookup ("_law_digits_here":Str)=some NameKind.cell:=dk
theorem QaK:Lo QB "_law_kind":=dk
theorem QeE:(Qa QB).names.lookup ("_law_tame":Str)=some NameKind.cell:=dk
theorem Qa5:(Qa QB).names.lookup ("_law_size":Str)=some NameKind.cell:=dk
theorem Qg9:Gl QB "range":=dk
abbrev Qb1:PySem.Scope:={ kind:=PySem.ScopeKind.function,names:=[ (PySem.Str.ofString ".0",PySem.NameKind.local),(PySem.Str.ofString "_law_s",PySem.NameKind.cell),(PySem.Str.ofString "range",PySem.NameKind.globalImplicit),(PySem.Str.ofString "_law_size",PySem.NameKind.free)],isGenerator:=false,isCoroutine:=false,more:=[]:PySem.Scope }
theorem QsQ:QC ["_law_s","_law_size"] [none,some 3] Qb1 (Qa QB) ["_law_digits_here","_law_tame","_law_kind","_law_size","_law_outs"]:=⟨rfl,dk,dk,rfl,dk,dk⟩
theorem QqN:(Qh Qb1 (Qa QB)).names.lookup ("_law_s":Str)=some NameKind.cell:=dk
theorem Qmv:(Qh Qb1 (Qa QB)).names.lookup ("_law_size":Str)=some NameKind.cell:=dk
theorem QrI:(Qh Qb1 (Qa QB)).names.lookup ("range":Str)=some NameKind.globalImplicit:=dk
abbrev QgM:PySem.Scope:={ kind:=PySem.ScopeKind.function,names:=[ (PySem.Str.ofString ".0",PySem.NameKind.local),(PySem.Str.ofString "_law_o",PySem.NameKind.local),(PySem.Str.ofString "int",PySem.NameKind.globalImplicit),(PySem.Str.ofString "_law_s",PySem.NameKind.free)],isGenerator:=false,isCoroutine:=false,more:=[]:PySem.Scope }
theorem Qsi:QC ["_law_o","_law_s"] [none,some 0] QgM (Qh Qb1 (Qa QB)) ["_law_s","_law_size"]:=⟨rfl,dk,dk,rfl,dk,dk⟩
theorem QeG:(Qh QgM (Qh Qb1 (Qa QB))).names.lookup ("_law_o":Str)=some NameKind.local:=dk
theorem Qqh:(Qh QgM (Qh Qb1 (Qa QB))).names.lookup ("_law_s":Str)=some NameKind.cell:=dk
theorem Qt4:(Qh QgM (Qh Qb1 (Qa QB))).names.lookup ("int":Str)=some NameKind.globalImplicit:=dk
def Qta:SD->Out D:=(eA (f1 dInt) (aCons (e2 dEq (eVar 0) (eVar 1)) aNil))
def Qmc:SD->Out D:=(eComp [none,some 0] (itR1 (eVar 1)) (gN 0) cTrue Qta)
abbrev QgT:PySem.Scope:={ kind:=PySem.ScopeKind.function,names:=[ (PySem.Str.ofString ".0",PySem.NameKind.local),(PySem.Str.ofString "_law_s",PySem.NameKind.local),(PySem.Str.ofString "int",PySem.NameKind.globalImplicit),(PySem.Str.ofString "_law_size",PySem.NameKind.free)],isGenerator:=false,isCoroutine:=false,more:=[]:PySem.Scope }
theorem Qtv:QC ["_law_s","_law_size"] [none,some 3] QgT (Qa QB) ["_law_digits_here","_law_tame","_law_kind","_law_size","_law_outs"]:=⟨rfl,dk,dk,rfl,dk,dk⟩
theorem Qeu:(Qh QgT (Qa QB)).names.lookup ("_law_s":Str)=some NameKind.local:=dk
theorem QmG:(Qh QgT (Qa QB)).names.lookup ("_law_size":Str)=some NameKind.cell:=dk
theorem Qt8:(Qh QgT (Qa QB)).names.lookup ("int":Str)=some NameKind.globalImplicit:=dk
def Ql7:SD->Out D:=(eLst (aCons (eA (f1 dInt) (aCons (e2 dEq (eVar 0) (e2 dSub (eVar 1) (eC (.int 1)))) aNil)) aNil))
theorem QpS:(Qa QB).names.lookup ("_law_outs":Str)=some NameKind.cell:=dk
abbrev Qde:PySem.Scope:={ kind:=PySem.ScopeKind.function,names:=[ (PySem.Str.ofString ".0",PySem.NameKind.local),(PySem.Str.ofString "_law_s",PySem.NameKind.local),(PySem.Str.ofString "_law_counts",PySem.NameKind.globalImplicit),(PySem.Str.ofString "_law_digits_here",PySem.NameKind.free),(PySem.Str.ofString "_law_outs",PySem.NameKind.free),(PySem.Str.ofString "_law_tame",PySem.NameKind.free)],isGenerator:=false,isCoroutine:=false,more:=[]:PySem.Scope }
theorem QsZ:QC ["_law_s","_law_digits_here","_law_outs","_law_tame"] [none,some 0,some 4,some 1] Qde (Qa QB) ["_law_digits_here","_law_tame","_law_kind","_law_size","_law_outs"]:=⟨rfl,dk,dk,rfl,dk,dk⟩
theorem QeC:(Qh Qde (Qa QB)).names.lookup ("_law_s":Str)=some NameKind.local:=dk
theorem Qh6:(Qh Qde (Qa QB)).names.lookup ("_law_digits_here":Str)=some NameKind.cell:=dk
theorem Qmu:(Qh Qde (Qa QB)).names.lookup ("_law_outs":Str)=some NameKind.cell:=dk
theorem Qmz:(Qh Qde (Qa QB)).names.lookup ("_law_tame":Str)=some NameKind.cell:=dk
theorem Qlg:(Qh Qde (Qa QB)).names.lookup ("_law_counts":Str)=some NameKind.globalImplicit:=dk
def QhZ:SD->Out D:=(eA (fun xs=>Qcl (xs++[])) (aCons (e2 dIx (eVar 1) (e2 dAdd (eC (.int 10)) (eVar 0))) (aCons (eVar 2) (aCons (eVar 3) aNil))))
def QeJ:SD->Out Fl:=(sSeq (sSet 2 (e2 dMod ‹"I"› (eC (.int 4)))) (sSeq (sSet 3 (e2 dAdd (eC (.int 1)) (e2 dMod ‹"x"› (e2 dIx (eLst (aCons (eC (.int 12)) (aCons (eC (.int 4)) aNil))) (eVar 1))))) (sSeq (sIf (tVal (e2 dEq (eVar 2) (eC (.int 0)))) (sSeq (sSet 3 (e2 dAdd (eC (.int 1)) (e2 dMod ‹"x"› (e2 dIx (eLst (aCons (eC (.int 6)) (aCons (eC (.int 4)) aNil))) (eVar 1))))) (sRet (eTup (aCons (eVar 2) (aCons (eComp [none,some 3] (itR1 (eVar 3)) (gN 0) cTrue Qmc) aNil))))) sNil) (sSeq (sIf (tVal (e2 dEq (eVar 2) (eC (.int 1)))) (sRet (eTup (aCons (eVar 2) (aCons (eComp [none,some 3] (itR1 (eVar 3)) (gN 0) cTrue Ql7) aNil)))) sNil) (sSeq (sIf (tVal (e2 dEq (eVar 2) (eC (.int 2)))) (sSet 3 (eC (.int 1))) sNil) (sSeq (sSet 4 (e2 dMod (e2 dIx (eVar 0) (eC (.int 2))) (e2 dIx (eLst (aCons (eC (.int 7)) (aCons (eC (.int 4)) aNil))) (eVar 1)))) (sRet (eTup (aCons (eVar 2) (aCons (eComp [none,some 0,some 4,some 1] (itR1 (eVar 3)) (gN 0) cTrue QhZ) aNil))))))))))
def Qev:List D->Out D:=bodyF false 2 5 QeJ
theorem QkQ(d0 d1:D):Qev [d0,d1]=(QeJ [some (.k,d0),some (.k,d1),none,none,none]>>=retF false):=rfl
theorem QJx(F:FunV K "_law_rows" "_law_rows" QB f fd dV)(QEL:DefOk P w K mg base CT "_law_counts" 1 true [] Qcl)(z_range:mg "range"=none)(z_int:mg "int"=none):FnOk P w K mg base CX0 2 f fd ["_law_digits_here","_law_tame"] (SpD K CT false Qev):=
 @fnV P w K mg base CT false "_law_rows" "_law_rows" QB f fd dV ["_law_digits_here","_law_tame","_law_kind","_law_size","_law_outs"] ["_law_digits_here","_law_tame"] 1 QeJ F Qe3 fun cdv A outer s H E G hr=>
  (Qf (QG (i:=2) Qe3.nd rfl (oi QaK) (Q4 (DE.db (de_ix (Qb 0 rfl (Or.inr (oi Qbk))) (DE.db Qd))) (DE.db Qd))) (Qf (QG (i:=3) Qe3.nd rfl (Or.inr Qa5) (QaE (DE.db Qd) (DE.db ‹"y"›))) (Qf (ds_if (dt_eq hr.units (DE.db (Qb 2 rfl (oi QaK))) (DE.db Qd)) (Qf (QG (i:=3) Qe3.nd rfl (Or.inr Qa5) (QaE (DE.db Qd) (DE.db ‹"y"›))) (Qi (QI (QfE (Qc (Qb 2 rfl (oi QaK)) (Qc (DF.de (QV rfl QsQ (DI.b (QaA Qg9 z_range (DE.db (Qb 3 rfl (Or.inr (oi Qa5)))))) ‹"g"› (Qw _) (fun fp s H G p=>⟨(QA (i:=0) QsQ.nd rfl (Or.inr QqN) (hf:=Or.inl rfl)),QM,(DF.de (QV rfl Qsi (DI.b (QaA QrI z_range (DE.db (Qb 1 rfl (Or.inr (oi Qmv)))))) ‹"g"› (Qw _) (fun fp s H G p=>⟨(QA (i:=0) Qsi.nd rfl (oi QeG) (hf:=Or.inr QeG)),QM,(QHI Qt4 z_int (Qu (DE.db (de_eq hr.units (DE.db (Qb 0 rfl (oi QeG))) (DE.db (Qb 1 rfl (Or.inr (oi Qqh)))))) Qz))⟩)))⟩))) Qj)))))) Q1) (Qf (ds_if (dt_eq hr.units (DE.db (Qb 2 rfl (oi QaK))) (DE.db Qd)) (Qi (QI (QfE (Qc (Qb 2 rfl (oi QaK)) (Qc (DF.de (QV rfl Qtv (DI.b (QaA Qg9 z_range (DE.db (Qb 3 rfl (Or.inr (oi Qa5)))))) ‹"g"› (Qw _) (fun fp s H G p=>⟨(QA (i:=0) Qtv.nd rfl (oi Qeu) (hf:=Or.inr Qeu)),QM,(DF.de (Qap (Qc (QHI Qt8 z_int (Qu (DE.db (de_eq hr.units (DE.db (Qb 0 rfl (oi Qeu))) (DE.db (Qdl (DE.db (Qb 1 rfl (Or.inr (oi QmG)))) (DE.db Qd))))) Qz)) Qj)))⟩))) Qj))))) Q1) (Qf (ds_if (dt_eq hr.units (DE.db (Qb 2 rfl (oi QaK))) (DE.db Qd)) (Qi (QG (i:=3) Qe3.nd rfl (Or.inr Qa5) Qd)) Q1) (Qf (QG (i:=4) Qe3.nd rfl (Or.inr QpS) ‹"y"›) (Qi (QI (QfE (Qc (Qb 2 rfl (oi QaK)) (Qc (DF.de (QV rfl QsZ (DI.b (QaA Qg9 z_range (DE.db (Qb 3 rfl (Or.inr (oi Qa5)))))) ‹"g"› (Qw _) (fun fp s H G p=>⟨(QA (i:=0) QsZ.nd rfl (oi QeC) (hf:=Or.inr QeC)),QM,(de_f QEL (hr.mono (by decide)) (Qc (de_ix (Qb 1 rfl (Or.inr (oi Qh6))) (DE.db (QaE (DE.db Qd) (DE.db (Qb 0 rfl (oi QeC)))))) (Qc (Qb 2 rfl (Or.inr (oi Qmu))) (Qc (Qb 3 rfl (Or.inr (oi Qmz))) Qj))) Qlg)⟩))) Qj)))))))))))
abbrev QaI:Stmt:=top 55
theorem QfB:Qr ["_law_first","_law_digit","_law_longer","_law_letters","_law_name","_law_j"] ["_law_first","_law_digit","_law_longer"] (Qa QaI):=⟨rfl,rfl,rfl,dk,rfl,dk,dk⟩
theorem QcZ:Lo QaI "_law_letters":=dk
theorem Qol:Lo QaI "_law_first":=dk
theorem Qcv:Lo QaI "_law_name":=dk
theorem QnK:Lo QaI "_law_digit":=dk
theorem QtV:Gl QaI "range":=dk
theorem QjH:Lo QaI "_law_j":=dk
theorem Qms:Lo QaI "_law_longer":=dk
def QgS:SD->Out Fl:=(sSet 4 (e2 dAdd (eVar 4) (e2 dIx (eVar 3) (e2 dMod (e2 dFdiv (eVar 2) (e2 dIx (eLst (aCons (eC (.int 1)) (aCons (eC (.int 26)) (aCons (eC (.int 676)) (aCons (eC (.int 17576)) (aCons (eC (.int 7)) aNil)))))) (eVar 5))) (eC (.int 26))))))
def Qjj:SD->Out Fl:=(sSeq (sSet 3 (eC (.str "abcdefghijklmnopqrstuvwxyz"))) (sSeq (sSet 4 (e2 dIx (eVar 3) (eVar 0))) (sSeq (sFor (gN 5) (itR1 (e2 dMod (eVar 1) (eC (.int 6)))) QgS) (sRet (eVar 4)))))
def QaO:List D->Out D:=bodyF false 3 6 Qjj
theorem QE2(d0 d1 d2:D):QaO [d0,d1,d2]=(Qjj [some (.k,d0),some (.k,d1),some (.k,d2),none,none,none]>>=retF false):=rfl
theorem QGf(F:FunV K "_law_named" "_law_named" QaI f fd dV)(z_range:mg "range"=none):FnOk P w K mg base CX0 1 f fd ["_law_first","_law_digit","_law_longer"] (SpD K CT false QaO):=
 @fnV P w K mg base CT false "_law_named" "_law_named" QaI f fd dV ["_law_first","_law_digit","_law_longer","_law_letters","_law_name","_law_j"] ["_law_first","_law_digit","_law_longer"] 0 Qjj F QfB fun cdv A outer s H E G hr=>
  (Qf (QG (i:=3) QfB.nd rfl (oi QcZ) QLh) (Qf (QG (i:=4) QfB.nd rfl (oi Qcv) (de_ix (Qb 3 rfl (oi QcZ)) (DE.db (Qb 0 rfl (oi Qol))))) (Qf (QcS PassesOwn.never rfl (QaA QtV z_range (DE.db (Q4 (DE.db (Qb 1 rfl (oi QnK))) (DE.db Qd)))) (QA (i:=5) QfB.nd rfl (oi QjH)) (Qw _) (Qi (QG (i:=4) QfB.nd rfl (oi Qcv) (QaE (DE.db (Qb 4 rfl (oi Qcv))) (DE.db (de_ix (Qb 3 rfl (oi QcZ)) (DE.db (Q4 (DE.db (QtL (DE.db (Qb 2 rfl (oi Qms))) (DE.db (de_ix (DF.de (Qap (Qc Qd (Qc Qd (Qc Qd (Qc Qd (Qc Qd Qj))))))) (DE.db (Qb 5 rfl (oi QjH))))))) (DE.db Qd))))))))) (Qi (QI (Qb 4 rfl (oi Qcv)))))))
abbrev QS:Stmt:=top 56
theorem QcJ:Qr ["_law_cell_here","_law_k","_law_many","_law_doors","_law_ring","_law_digits_here","_law_kind","_law_rows_here","_law_leads","_law_o","_law_to"] ["_law_cell_here","_law_k","_law_many","_law_doors","_law_ring"] (Qa QS):=⟨rfl,rfl,rfl,dk,rfl,dk,dk⟩
theorem Qfm:Lo QS "_law_cell_here":=dk
theorem Qnw:Gl QS "_law_digits":=dk
theorem Qau:Lo QS "_law_digits_here":=dk
theorem Qqu:Gl QS "_law_rows":=dk
theorem QbK:Lo QS "_law_rows_here":=dk
theorem QhU:Lo QS "_law_kind":=dk
theorem QdS:Lo QS "_law_leads":=dk
theorem Qpb:Gl QS "len":=dk
theorem Qu8:Gl QS "range":=dk
theorem QkM:Lo QS "_law_o":=dk
theorem QcC:Lo QS "_law_many":=dk
theorem Qhn:Lo QS "_law_doors":=dk
theorem QaY:Lo QS "_law_to":=dk
theorem QpY:Lo QS "_law_ring":=dk
theorem QkL:Lo QS "_law_k":=dk
def QhA:SD->Out Fl:=(sSeq (sSet 10 (e2 dMod (e2 dIx (eVar 5) (e2 dAdd (eC (.int 4)) (eVar 9))) (e2 dAdd (eVar 2) (eVar 3)))) (sSeq (sIf (tAnd' (tNot' (tVal (eVar 4))) (tVal (e2 dLe (eVar 10) (eVar 1)))) (sSet 10 (e2 dAdd (eVar 2) (e2 dMod (eVar 10) (eVar 3)))) sNil) (Qcb 8 (eIf (tVal (e2 dLt (eVar 10) (eVar 2))) (eVar 10) (e2 dSub (e2 dSub (eVar 2) (eC (.int 1))) (eVar 10))))))
theorem QoP:Gl QS "_law_named":=dk
def Qld:SD->Out Fl:=(sSeq (sSet 5 (eA (fun xs=>Qah (xs++[])) (aCons (eVar 0) (aCons (eC (.int 26)) aNil)))) (sSeq (sUnp [6,7] (eA (fun xs=>Qev (xs++[])) (aCons (eVar 5) (aCons (e2 dMod (eVar 0) (eC (.int 2))) aNil)))) (sSeq (sSetO 8 (eLst aNil)) (sSeq (sFor (gN 9) (itR1 (eA fLen (aCons (e2 dIx (eVar 7) (eC (.int 0))) aNil))) QhA) (fun ς=>(sRet ‹"e"›) (frz 8 ς))))))
def Qem:List D->Out D:=bodyF false 5 11 Qld
theorem QIl(d0 d1 d2 d3 d4:D):Qem [d0,d1,d2,d3,d4]=(Qld [some (.k,d0),some (.k,d1),some (.k,d2),some (.k,d3),some (.k,d4),none,none,none,none,none,none]>>=retF false):=rfl
theorem QIA(F:FunV K "_law_seat" "_law_seat" QS f fd dV)(QcY:‹"aM"›)(QJQ:DefOk P w K mg base CT "_law_rows" 2 false [] Qev)(Qn6:DefOk P w K mg base CT "_law_named" 1 false [] QaO)(z_range:mg "range"=none)(z_len:mg "len"=none):FnOk P w K mg base CX0 3 f fd ["_law_cell_here","_law_k","_law_many","_law_doors","_law_ring"] (SpD K CT false Qem):=
 @fnV P w K mg base CT false "_law_seat" "_law_seat" QS f fd dV ["_law_cell_here","_law_k","_law_many","_law_doors","_law_ring","_law_digits_here","_law_kind","_law_rows_here","_law_leads","_law_o","_law_to"] ["_law_cell_here","_law_k","_law_many","_law_doors","_law_ring"] 2 Qld F QcJ fun cdv A outer s H E G hr=>
  (Qf (QG (i:=5) QcJ.nd rfl (oi Qau) (de_f QcY (hr.mono (by decide)) (Qc (Qb 0 rfl (oi Qfm)) (Qc Qd Qj)) Qnw)) (Qf (QEO rfl (de_f QJQ (hr.mono (by decide)) (Qc (Qb 5 rfl (oi Qau)) (Qc (Q4 (DE.db (Qb 0 rfl (oi Qfm))) (DE.db Qd)) Qj)) Qqu) (Qai (i:=6) QcJ.nd rfl (oi QhU) (Qai (i:=7) QcJ.nd rfl (oi QbK) Qe1))) (Qf (QbY (i:=8) QcJ.nd rfl (oi QdS) (Qap Qj)) (Qf (QcS PassesOwn.never rfl (QaA Qu8 z_range (DE.db (Q3 Qpb z_len (Qu (DE.db (de_ix (Qb 7 rfl (oi QbK)) (DE.db Qd))) Qz)))) (QA (i:=9) QcJ.nd rfl (oi QkM)) (Qw _) (Qf (QG (i:=10) QcJ.nd rfl (oi QaY) (Q4 (DE.db (de_ix (Qb 5 rfl (oi Qau)) (DE.db (QaE (DE.db Qd) (DE.db (Qb 9 rfl (oi QkM))))))) (DE.db (QaE (DE.db (Qb 2 rfl (oi QcC))) (DE.db (Qb 3 rfl (oi Qhn))))))) (Qf (ds_if (DW.dt (Qwt (QaX (Qbf (Qb 4 rfl (oi QpY)))) (QtA (dt_le (DE.db (Qb 10 rfl (oi QaY))) (DE.db (Qb 1 rfl (oi QkL))))))) (Qi (QG (i:=10) QcJ.nd rfl (oi QaY) (QaE (DE.db (Qb 2 rfl (oi QcC))) (DE.db (Q4 (DE.db (Qb 10 rfl (oi QaY))) (DE.db (Qb 3 rfl (oi Qhn)))))))) Q1) (Qi (QcM 8 (de_if (dt_lt (DE.db (Qb 10 rfl (oi QaY))) (DE.db (Qb 2 rfl (oi QcC)))) (Qb 10 rfl (oi QaY)) (Qdl (DE.db (Qdl (DE.db (Qb 2 rfl (oi QcC))) (DE.db Qd))) (DE.db (Qb 10 rfl (oi QaY))))) rfl (oi QdS)))))) (Qi (Qtn 8 (QI (QfE (Qc (Qb 6 rfl (oi QhU)) (Qc (Qb 7 rfl (oi QbK)) (Qc (Qb 8 rfl (oi QdS)) (Qc (Q4 (DE.db (de_ix (Qb 5 rfl (oi Qau)) (DE.db Qd))) (DE.db (Q3 Qpb z_len (Qu (DE.db (Qb 7 rfl (oi QbK))) Qz)))) (Qc (de_f Qn6 (hr.mono (by decide)) (Qc (Qb 1 rfl (oi QkL)) (Qc (de_ix (Qb 5 rfl (oi Qau)) (DE.db Qd)) (Qc (de_ix (Qb 5 rfl (oi Qau)) (DE.db Qd)) Qj))) QoP) Qj)))))))))))))
abbrev Qaa:Stmt:=top 57
theorem QcL:Qr ["_law_script","_law_most","_law_cell_here","_law_first","_law_many","_law_doors","_law_ring","_law_plan_here","_law_k"] ["_law_script","_law_most"] (Qa Qaa):=⟨rfl,rfl,rfl,dk,rfl,dk,dk⟩
theorem QgG:Lo Qaa "_law_script":=dk
theorem Qh7:Gl Qaa "_law_cell":=dk
theorem QbJ:Lo Qaa "_law_cell_here":=dk
theorem Qn8:Gl Qaa "_law_digits":=dk
theorem Qcr:Lo Qaa "_law_first":=dk
theorem QqB:Lo Qaa "_law_most":=dk
theorem QeN:Lo Qaa "_law_many":=dk
theorem Qd7:Lo Qaa "_law_doors":=dk
theorem QhY:Lo Qaa "_law_ring":=dk
theorem QcE:Lo Qaa "_law_plan_here":=dk
theorem Qvs:Gl Qaa "range":=dk
theorem Qgk:Lo Qaa "_law_k":=dk
theorem QpX:Gl Qaa "_law_seat":=dk
def QhR:SD->Out Fl:=(Qcb 7 (eA (fun xs=>Qem (xs++[])) (aCons (eA (fun xs=>QZ (xs++[])) (aCons (eVar 0) (aCons (e2 dAdd (eC (.int 1)) (eVar 8)) aNil))) (aCons (eVar 8) (aCons (eVar 4) (aCons (eVar 5) (aCons (eVar 6) aNil)))))))
def Qlj:SD->Out Fl:=(sSeq (sSet 2 ‹"ac"›) (sSeq (sSet 3 (eA (fun xs=>Qah (xs++[])) (aCons (eVar 2) (aCons (eC (.int 6)) aNil)))) (sSeq (sSet 4 (e2 dAdd (eC (.int 1)) (e2 dMod (e2 dIx (eVar 3) (eC (.int 0))) (e2 dIx (eLst (aCons (eVar 1) (aCons (eC (.int 5)) aNil))) (e2 dMod (eVar 2) (eC (.int 2))))))) (sSeq (sSet 5 (e2 dAdd (eC (.int 1)) (e2 dMod (e2 dIx (eVar 3) (eC (.int 1))) (e2 dIx (eLst (aCons (eC (.int 6)) (aCons (eC (.int 3)) aNil))) (e2 dMod (eVar 2) (eC (.int 2))))))) (sSeq (sSet 6 (e2 dEq (e2 dMod (e2 dIx (eVar 3) (eC (.int 2))) (eC (.int 2))) (eC (.int 1)))) (sSeq (sSetO 7 (eLst aNil)) (sSeq (sFor (gN 8) (itR1 (eVar 4)) QhR) (fun ς=>(sRet (eTup (aCons (eVar 7) (aCons (eVar 5) aNil)))) (frz 7 ς)))))))))
def Qdn:List D->Out D:=bodyF false 2 9 Qlj
theorem QID(d0 d1:D):Qdn [d0,d1]=(Qlj [some (.k,d0),some (.k,d1),none,none,none,none,none,none,none]>>=retF false):=rfl
theorem QJz(F:FunV K "_law_plan" "_law_plan" Qaa f fd dV)(Qdh:‹"aV"›)(QcY:‹"aM"›)(QJD:DefOk P w K mg base CT "_law_seat" 3 false [] Qem)(z_range:mg "range"=none):FnOk P w K mg base CX0 4 f fd ["_law_script","_law_most"] (SpD K CT false Qdn):=
 @fnV P w K mg base CT false "_law_plan" "_law_plan" Qaa f fd dV ["_law_script","_law_most","_law_cell_here","_law_first","_law_many","_law_doors","_law_ring","_law_plan_here","_law_k"] ["_law_script","_law_most"] 3 Qlj F QcL fun cdv A outer s H E G hr=>
  (Qf (QG (i:=2) QcL.nd rfl (oi QbJ) (de_f Qdh (hr.mono (by decide)) (Qc (Qb 0 rfl (oi QgG)) (Qc Qd Qj)) Qh7)) (Qf (QG (i:=3) QcL.nd rfl (oi Qcr) (de_f QcY (hr.mono (by decide)) (Qc (Qb 2 rfl (oi QbJ)) (Qc Qd Qj)) Qn8)) (Qf (QG (i:=4) QcL.nd rfl (oi QeN) (QaE (DE.db Qd) (DE.db (Q4 (DE.db (de_ix (Qb 3 rfl (oi Qcr)) (DE.db Qd))) (DE.db (de_ix (DF.de (Qap (Qc (Qb 1 rfl (oi QqB)) (Qc Qd Qj)))) (DE.db (Q4 (DE.db (Qb 2 rfl (oi QbJ))) (DE.db Qd))))))))) (Qf (QG (i:=5) QcL.nd rfl (oi Qd7) (QaE (DE.db Qd) (DE.db (Q4 (DE.db (de_ix (Qb 3 rfl (oi Qcr)) (DE.db Qd))) (DE.db (de_ix (DF.de (Qap (Qc Qd (Qc Qd Qj)))) (DE.db (Q4 (DE.db (Qb 2 rfl (oi QbJ))) (DE.db Qd))))))))) (Qf (QG (i:=6) QcL.nd rfl (oi QhY) (de_eq hr.units (DE.db (Q4 (DE.db (de_ix (Qb 3 rfl (oi Qcr)) (DE.db Qd))) (DE.db Qd))) (DE.db Qd))) (Qf (QbY (i:=7) QcL.nd rfl (oi QcE) (Qap Qj)) (Qf (QcS PassesOwn.never rfl (QaA Qvs z_range (DE.db (Qb 4 rfl (oi QeN)))) (QA (i:=8) QcL.nd rfl (oi Qgk)) (Qw _) (Qi (QcM 7 (de_f QJD (hr.mono (by decide)) (Qc (de_f Qdh (hr.mono (by decide)) (Qc (Qb 0 rfl (oi QgG)) (Qc (QaE (DE.db Qd) (DE.db (Qb 8 rfl (oi Qgk)))) Qj)) Qh7) (Qc (Qb 8 rfl (oi Qgk)) (Qc (Qb 4 rfl (oi QeN)) (Qc (Qb 5 rfl (oi Qd7)) (Qc (Qb 6 rfl (oi QhY)) Qj))))) QpX) rfl (oi QcE)))) (Qi (Qtn 7 (QI (QfE (Qc (Qb 7 rfl (oi QcE)) (Qc (Qb 5 rfl (oi Qd7)) Qj)))))))))))))
abbrev QaC:Stmt:=top 46
theorem Qd0:Qr ["names","doors","places","k","name","d","door"] ["names","doors"] (Qa QaC):=⟨rfl,rfl,rfl,dk,rfl,dk,dk⟩
theorem Qdi:Lo QaC "places":=dk
theorem Quf:Lo QaC "names":=dk
theorem Qho:Gl QaC "enumerate":=dk
theorem QlM:Lo QaC "name":=dk
theorem Qrz:Lo QaC "k":=dk
def QgX:SD->Out Fl:=(sPutD 2 (eVar 4) (eVar 3))
theorem Qui:Lo QaC "doors":=dk
theorem Qmk:Lo QaC "door":=dk
theorem Qry:Lo QaC "d":=dk
def QgR:SD->Out Fl:=(sPutD 2 (eVar 6) (e2 dSub ‹"aD"› (eVar 5)))
def Qjg:SD->Out Fl:=(sSeq (sSetO 2 eDic0) (sSeq (sFor (gT [3,4]) (itE (eVar 0)) QgX) (sSeq (sFor (gT [5,6]) (itE (eVar 1)) QgR) (sRetO 2))))
def Qdw:List D->Out D:=bodyF true 2 7 Qjg
theorem QGB(d0 d1:D):Qdw [d0,d1]=(Qjg [some (.k,d0),some (.k,d1),none,none,none,none,none]>>=retF true):=rfl
theorem QEZ(F:FunV K "places_of" "places_of" QaC f fd dV)(z_enumerate:mg "enumerate"=none):FnOk P w K mg base CX0 1 f fd ["names","doors"] (SpD K CT true Qdw):=
 @fnV P w K mg base CT true "places_of" "places_of" QaC f fd dV ["names","doors","places","k","name","d","door"] ["names","doors"] 0 Qjg F Qd0 fun cdv A outer s H E G hr=>
  (Qf (QbY (i:=2) Qd0.nd rfl (oi Qdi) QN7) (Qf (QcS PassesOwn.never rfl (Qzt Qho z_enumerate (Qb 0 rfl (oi Quf))) (Qmj rfl (Qai (i:=3) Qd0.nd rfl (oi Qrz) (Qai (i:=4) Qd0.nd rfl (oi QlM) Qe1))) (Qhe _) (Qi (QHH hr.units 2 (DE.db (Qb 4 rfl (oi QlM))) (Qb 3 rfl (oi Qrz)) rfl (oi Qdi)))) (Qf (QcS PassesOwn.never rfl (Qzt Qho z_enumerate (Qb 1 rfl (oi Qui))) (Qmj rfl (Qai (i:=5) Qd0.nd rfl (oi Qry) (Qai (i:=6) Qd0.nd rfl (oi Qmk) Qe1))) (Qhe _) (Qi (QHH hr.units 2 (DE.db (Qb 6 rfl (oi Qmk))) (Qdl (DE.db (Qmd (DE.db Qd))) (DE.db (Qb 5 rfl (oi Qry)))) rfl (oi Qdi)))) (Qi (Qo2 2 rfl (oi Qdi))))))
abbrev Qb2:Stmt:=top 38
theorem QJS:Qr ["thing","most"] ["thing","most"] (Qa Qb2):=⟨rfl,rfl,rfl,dk,rfl,dk,dk⟩
theorem Qm9:Lo Qb2 "thing":=dk
theorem QyD:Gl Qb2 "list":=dk
theorem QpJ:Gl Qb2 "isinstance":=dk
theorem QBB:Gl Qb2 "len":=dk
theorem QxW:Lo Qb2 "most":=dk
def Qnj:SD->Out Fl:=(sRet (eAnd (eIsa (isaT "list") (eVar 0)) (Qdq dLe dLe (eC (.int 1)) ‹"N"› (eVar 1))))
def Qb0:List D->Out D:=bodyF false 2 2 Qnj
theorem QKR(d0 d1:D):Qb0 [d0,d1]=(Qnj ‹"G"›>>=retF false):=rfl
theorem QLB(F:FunV K "is_list" "is_list" Qb2 f fd dV)(z_isinstance:mg "isinstance"=none)(z_list:mg "list"=none)(z_len:mg "len"=none):FnOk P w K mg base CX0 1 f fd ["thing","most"] (SpD K CT false Qb0):=
 @fnV P w K mg base CT false "is_list" "is_list" Qb2 f fd dV ["thing","most"] ["thing","most"] 0 Qnj F QJS fun cdv A outer s H E G hr=>
  (Qi (QI (Qfz (Qe0 "list" QpP QyD z_list PyProof.Rows.Boot.«list» QpJ z_isinstance (DE.db (Qb 0 rfl (oi Qm9)))) (Qjx (QD2 op_le QcO (Qb8 fun _ _=>rfl) op_le QcO (Qb8 fun _ _=>rfl) (DE.db Qd) (DE.db (Q3 QBB z_len (Qu (DE.db (Qb 0 rfl (oi Qm9))) Qz))) (DE.db (Qb 1 rfl (oi QxW))))))))
abbrev Qbm:Stmt:=top 39
theorem QBf:Qr ["names"] ["names"] (Qa Qbm):=⟨rfl,rfl,rfl,dk,rfl,dk,dk⟩
theorem Qjy:Lo Qbm "names":=dk
theorem QlC:Gl Qbm "len":=dk
theorem Qvg:Gl Qbm "set":=dk
def Qhz:SD->Out Fl:=(sRet (e2 dEq (e1 QyN (eVar 0)) ‹"N"›))
def Qaq:List D->Out D:=bodyF false 1 1 Qhz
theorem QD5(d0:D):Qaq [d0]=(Qhz [some (.k,d0)]>>=retF false):=rfl
theorem QB9(F:FunV K "all_unlike" "all_unlike" Qbm f fd dV)(z_len:mg "len"=none)(z_set:mg "set"=none):FnOk P w K mg base CX0 1 f fd ["names"] (SpD K CT false Qaq):=
 @fnV P w K mg base CT false "all_unlike" "all_unlike" Qbm f fd dV ["names"] ["names"] 0 Qhz F QBf fun cdv A outer s H E G hr=>
  (Qi (QI (de_eq hr.units (DE.db (QMh hr.hd QlC z_len Qvg z_set (DE.db (Qb 0 rfl (oi Qjy))))) (DE.db (Q3 QlC z_len (Qu (DE.db (Qb 0 rfl (oi Qjy))) Qz))))))
abbrev QaT:Stmt:=top 37
theorem QIQ:Qr ["thing"] ["thing"] (Qa QaT):=⟨rfl,rfl,rfl,dk,rfl,dk,dk⟩
theorem QhT:Lo QaT "thing":=dk
theorem QBk:Gl QaT "str":=dk
theorem QpU:Gl QaT "isinstance":=dk
theorem QBl:Gl QaT "len":=dk
theorem Qq5:Gl QaT "MOST_SIGNS":=dk
abbrev Qlq:PySem.Scope:={ kind:=PySem.ScopeKind.function,names:=[ (PySem.Str.ofString ".0",PySem.NameKind.local),(PySem.Str.ofString "sign",PySem.NameKind.local),(PySem.Str.ofString "LETTERS",PySem.NameKind.globalImplicit)],isGenerator:=false,isCoroutine:=false,more:=[]:PySem.Scope }
theorem QuM:QC ["sign"] [none] Qlq (Qa QaT) ["thing"]:=⟨rfl,dk,dk,rfl,dk,dk⟩
theorem Qgs:(Qh Qlq (Qa QaT)).names.lookup ("sign":Str)=some NameKind.local:=dk
theorem QqW:(Qh Qlq (Qa QaT)).names.lookup ("LETTERS":Str)=some NameKind.globalImplicit:=dk
def QnG:SD->Out D:=(e2 dIn (eVar 0) (eC (.str "abcdefghijklmnopqrstuvwxyz")))
theorem QAA:Gl QaT "all":=dk
def Qni:SD->Out Fl:=(sSeq (sIf (tOr' (tNot' (tVal (eIsa (isaT "str") (eVar 0)))) (tNot' (tVal (Qdq dLe dLe (eC (.int 1)) ‹"N"› (eC (.int 6)))))) ‹"aC"› sNil) (sRet (eA (f1 fAll) (aCons (eComp [none] (itS (eVar 0)) (gN 0) cTrue QnG) aNil))))
def QaQ:List D->Out D:=bodyF false 1 1 Qni
theorem QLc(d0:D):QaQ [d0]=(Qni [some (.k,d0)]>>=retF false):=rfl
theorem QKb{u_MOST_SIGNS:Value}{u_LETTERS:Value}(F:FunV K "is_name" "is_name" QaT f fd dV)(z_isinstance:mg "isinstance"=none)(z_str:mg "str"=none)(z_len:mg "len"=none)(z_all:mg "all"=none)(c_MOST_SIGNS:mg "MOST_SIGNS"=some u_MOST_SIGNS)(r_MOST_SIGNS:RelV (toV (.int 6)) u_MOST_SIGNS)(c_LETTERS:mg "LETTERS"=some u_LETTERS)(r_LETTERS:RelV (toV (.str "abcdefghijklmnopqrstuvwxyz")) u_LETTERS):FnOk P w K mg base CX0 1 f fd ["thing"] (SpD K CT false QaQ):=
 @fnV P w K mg base CT false "is_name" "is_name" QaT f fd dV ["thing"] ["thing"] 0 Qni F QIQ fun cdv A outer s H E G hr=>
  (Qf (ds_if (DW.dt (dw_or (QaX (Qbf (Qe0 "str" QHU QBk z_str PyProof.Rows.Boot.«str» QpU z_isinstance (DE.db (Qb 0 rfl (oi QhT)))))) (Qft (QaX (QDM op_le QcO (Qb8 fun _ _=>rfl) op_le QcO (Qb8 fun _ _=>rfl) (DE.db Qd) (DE.db (Q3 QBl z_len (Qu (DE.db (Qb 0 rfl (oi QhT))) Qz))) (DE.db (Qe5 (d:=(.int 6)) Qq5 c_MOST_SIGNS rfl r_MOST_SIGNS))))))) (Qi (QI de_bl)) Q1) (Qi (QI (QjA rfl QAA z_all (Qu (DE.db (DF.de (QV rfl QuM (DI.b (QPK (DE.db (Qb 0 rfl (oi QhT))))) ‹"g"› (Qw _) (fun fp s H G p=>⟨(QA (i:=0) QuM.nd rfl (oi Qgs) (hf:=Or.inr Qgs)),QM,(de_in (DE.db (Qb 0 rfl (oi Qgs))) (DE.db (Qe5 (d:=(.str "abcdefghijklmnopqrstuvwxyz")) QqW c_LETTERS rfl r_LETTERS)))⟩)))) Qz)))))
abbrev QaB:Stmt:=top 40
theorem QCJ:Qr ["thing","most"] ["thing","most"] (Qa QaB):=⟨rfl,rfl,rfl,dk,rfl,dk,dk⟩
theorem Qgi:Lo QaB "thing":=dk
theorem Qvl:Lo QaB "most":=dk
theorem QrJ:Gl QaB "is_list":=dk
abbrev QiJ:PySem.Scope:={ kind:=PySem.ScopeKind.function,names:=[ (PySem.Str.ofString ".0",PySem.NameKind.local),(PySem.Str.ofString "name",PySem.NameKind.local),(PySem.Str.ofString "is_name",PySem.NameKind.globalImplicit)],isGenerator:=false,isCoroutine:=false,more:=[]:PySem.Scope }
theorem Qrl:QC ["name"] [none] QiJ (Qa QaB) ["thing","most"]:=⟨rfl,dk,dk,rfl,dk,dk⟩
theorem Qfa:(Qh QiJ (Qa QaB)).names.lookup ("name":Str)=some NameKind.local:=dk
theorem QoK:(Qh QiJ (Qa QaB)).names.lookup ("is_name":Str)=some NameKind.globalImplicit:=dk
def QjL:SD->Out D:=(eA (fun xs=>QaQ (xs++[])) (aCons (eVar 0) aNil))
theorem Qxi:Gl QaB "all":=dk
theorem QoG:Gl QaB "all_unlike":=dk
def Qi1:SD->Out Fl:=(sRet (eAnd (eA (fun xs=>Qb0 (xs++[])) (aCons (eVar 0) ‹"U"›)) (eAnd (eA (f1 fAll) (aCons (eComp [none] (itL (eVar 0)) (gN 0) cTrue QjL) aNil)) (eA (fun xs=>Qaq (xs++[])) (aCons (eVar 0) aNil)))))
def QdH:List D->Out D:=bodyF false 2 2 Qi1
theorem QFi(d0 d1:D):QdH [d0,d1]=(Qi1 ‹"G"›>>=retF false):=rfl
theorem QHv(F:FunV K "are_names" "are_names" QaB f fd dV)(Qjs:DefOk P w K mg base CT "is_list" 1 false [] Qb0)(Qhs:DefOk P w K mg base CT "is_name" 1 false [] QaQ)(QfK:DefOk P w K mg base CT "all_unlike" 1 false [] Qaq)(z_all:mg "all"=none):FnOk P w K mg base CX0 2 f fd ["thing","most"] (SpD K CT false QdH):=
 @fnV P w K mg base CT false "are_names" "are_names" QaB f fd dV ["thing","most"] ["thing","most"] 1 Qi1 F QCJ fun cdv A outer s H E G hr=>
  (Qi (QI (Qfz (de_f Qjs (hr.mono (by decide)) (Qc (Qb 0 rfl (oi Qgi)) (Qc (Qb 1 rfl (oi Qvl)) Qj)) QrJ) (Qfz (QjA rfl Qxi z_all (Qu (DE.db (DF.de (QV rfl Qrl (DI.b (Qan (Qb 0 rfl (oi Qgi)))) ‹"g"› (Qw _) (fun fp s H G p=>⟨(QA (i:=0) Qrl.nd rfl (oi Qfa) (hf:=Or.inr Qfa)),QM,(de_f Qhs (hr.mono (by decide)) (Qc (Qb 0 rfl (oi Qfa)) Qj) QoK)⟩)))) Qz)) (Qjx (de_f QfK (hr.mono (by decide)) (Qc (Qb 0 rfl (oi Qgi)) Qj) QoG))))))
abbrev Qal:Stmt:=top 41
theorem QBU:Qr ["thing","many"] ["thing","many"] (Qa Qal):=⟨rfl,rfl,rfl,dk,rfl,dk,dk⟩
theorem Qgl:Lo Qal "thing":=dk
theorem Qva:Gl Qal "list":=dk
theorem QnA:Gl Qal "isinstance":=dk
theorem Qwr:Gl Qal "len":=dk
theorem Qvi:Lo Qal "many":=dk
abbrev Qf4:PySem.Scope:={ kind:=PySem.ScopeKind.function,names:=[ (PySem.Str.ofString ".0",PySem.NameKind.local),(PySem.Str.ofString "text",PySem.NameKind.local),(PySem.Str.ofString "isinstance",PySem.NameKind.globalImplicit),(PySem.Str.ofString "str",PySem.NameKind.globalImplicit)],isGenerator:=false,isCoroutine:=false,more:=[]:PySem.Scope }
theorem Qrk:QC ["text"] [none] Qf4 (Qa Qal) ["thing","many"]:=⟨rfl,dk,dk,rfl,dk,dk⟩
theorem Qfh:(Qh Qf4 (Qa Qal)).names.lookup ("text":Str)=some NameKind.local:=dk
theorem Qsx:(Qh Qf4 (Qa Qal)).names.lookup ("str":Str)=some NameKind.globalImplicit:=dk
theorem Qk2:(Qh Qf4 (Qa Qal)).names.lookup ("isinstance":Str)=some NameKind.globalImplicit:=dk
def Qkc:SD->Out D:=(eIsa (isaT "str") (eVar 0))
theorem Qwk:Gl Qal "all":=dk
def Qi7:SD->Out Fl:=(sRet (eAnd (eIsa (isaT "list") (eVar 0)) (eAnd (e2 dEq ‹"N"› (eVar 1)) (eA (f1 fAll) (aCons (eComp [none] (itL (eVar 0)) (gN 0) cTrue Qkc) aNil)))))
def QdC:List D->Out D:=bodyF false 2 2 Qi7
theorem QG8(d0 d1:D):QdC [d0,d1]=(Qi7 ‹"G"›>>=retF false):=rfl
theorem QE1(F:FunV K "are_texts" "are_texts" Qal f fd dV)(z_isinstance:mg "isinstance"=none)(z_list:mg "list"=none)(z_len:mg "len"=none)(z_all:mg "all"=none)(z_str:mg "str"=none):FnOk P w K mg base CX0 1 f fd ["thing","many"] (SpD K CT false QdC):=
 @fnV P w K mg base CT false "are_texts" "are_texts" Qal f fd dV ["thing","many"] ["thing","many"] 0 Qi7 F QBU fun cdv A outer s H E G hr=>
  (Qi (QI (Qfz (Qe0 "list" QpP Qva z_list PyProof.Rows.Boot.«list» QnA z_isinstance (DE.db (Qb 0 rfl (oi Qgl)))) (Qfz (de_eq hr.units (DE.db (Q3 Qwr z_len (Qu (DE.db (Qb 0 rfl (oi Qgl))) Qz))) (DE.db (Qb 1 rfl (oi Qvi)))) (Qjx (QjA rfl Qwk z_all (Qu (DE.db (DF.de (QV rfl Qrk (DI.b (Qan (Qb 0 rfl (oi Qgl)))) ‹"g"› (Qw _) (fun fp s H G p=>⟨(QA (i:=0) Qrk.nd rfl (oi Qfh) (hf:=Or.inr Qfh)),QM,(Qe0 "str" QHU Qsx z_str PyProof.Rows.Boot.«str» Qk2 z_isinstance (DE.db (Qb 0 rfl (oi Qfh))))⟩)))) Qz)))))))
abbrev QbQ:Stmt:=top 6
theorem QFW:Qr ["thing"] ["thing"] (Qa QbQ):=⟨rfl,rfl,rfl,dk,rfl,dk,dk⟩
theorem QlH:Lo QbQ "thing":=dk
theorem Qzi:Gl QbQ "int":=dk
theorem Qht:Gl QbQ "isinstance":=dk
theorem Qwp:Gl QbQ "bool":=dk
def Qk3:SD->Out Fl:=(sRet (eAnd (eIsa (isaT "int") (eVar 0)) (eNot (eIsa (isaT "bool") (eVar 0)))))
def Qen:List D->Out D:=bodyF false 1 1 Qk3
theorem QIk(d0:D):Qen [d0]=(Qk3 [some (.k,d0)]>>=retF false):=rfl
theorem QJu(F:FunV K "is_whole" "is_whole" QbQ f fd dV)(z_isinstance:mg "isinstance"=none)(z_int:mg "int"=none)(z_bool:mg "bool"=none):FnOk P w K mg base CX0 1 f fd ["thing"] (SpD K CT false Qen):=
 @fnV P w K mg base CT false "is_whole" "is_whole" QbQ f fd dV ["thing"] ["thing"] 0 Qk3 F QFW fun cdv A outer s H E G hr=>
  (Qi (QI (Qfz (Qe0 "int" QOB Qzi z_int PyProof.Rows.Boot.«int» Qht z_isinstance (DE.db (Qb 0 rfl (oi QlH)))) (Qjx (QPA (Qe0 "bool" QMS Qwp z_bool PyProof.Rows.Boot.«bool» Qht z_isinstance (DE.db (Qb 0 rfl (oi QlH)))))))))
abbrev Qbn:Stmt:=top 7
theorem QEJ:Qr ["thing","least","most"] ["thing","least","most"] (Qa Qbn):=⟨rfl,rfl,rfl,dk,rfl,dk,dk⟩
theorem QkF:Lo Qbn "thing":=dk
theorem Qp3:Gl Qbn "is_whole":=dk
theorem Qt6:Lo Qbn "least":=dk
theorem Qvf:Lo Qbn "most":=dk
def Qjd:SD->Out Fl:=(sRet (eAnd (eA (fun xs=>Qen (xs++[])) (aCons (eVar 0) aNil)) (Qdq dLe dLe (eVar 1) (eVar 0) (eVar 2))))
def QaN:List D->Out D:=bodyF false 3 3 Qjd
theorem QFJ(d0 d1 d2:D):QaN [d0,d1,d2]=(Qjd [some (.k,d0),some (.k,d1),some (.k,d2)]>>=retF false):=rfl
theorem QGE(F:FunV K "is_within" "is_within" Qbn f fd dV)(QJa:DefOk P w K mg base CT "is_whole" 1 false [] Qen):FnOk P w K mg base CX0 2 f fd ["thing","least","most"] (SpD K CT false QaN):=
 @fnV P w K mg base CT false "is_within" "is_within" Qbn f fd dV ["thing","least","most"] ["thing","least","most"] 1 Qjd F QEJ fun cdv A outer s H E G hr=>
  (Qi (QI (Qfz (de_f QJa (hr.mono (by decide)) (Qc (Qb 0 rfl (oi QkF)) Qj) Qp3) (Qjx (QD2 op_le QcO (Qb8 fun _ _=>rfl) op_le QcO (Qb8 fun _ _=>rfl) (DE.db (Qb 1 rfl (oi Qt6))) (DE.db (Qb 0 rfl (oi QkF))) (DE.db (Qb 2 rfl (oi Qvf))))))))
abbrev Qbe:Stmt:=top 29
theorem QGe:Qr ["thing"] ["thing"] (Qa Qbe):=⟨rfl,rfl,rfl,dk,rfl,dk,dk⟩
theorem Qvx:Lo Qbe "thing":=dk
theorem Qwu:Gl Qbe "Rows":=dk
theorem Qwe:Gl Qbe "Copy":=dk
theorem QtU:Gl Qbe "Bundle":=dk
theorem QwR:Gl Qbe "Deal":=dk
theorem Qo9:Gl Qbe "isinstance":=dk
def Qlh:SD->Out Fl:=(sRet (eIsa (isaTs [[("Deal",true),("Bundle",false),("Copy",false),("Rows",false),("Office",false)],[("Deal",false),("Bundle",true),("Copy",false),("Rows",false),("Office",false)],[("Deal",false),("Bundle",false),("Copy",true),("Rows",false),("Office",false)],[("Deal",false),("Bundle",false),("Copy",false),("Rows",true),("Office",false)]]) (eVar 0)))
def QeD:List D->Out D:=bodyF false 1 1 Qlh
theorem QIM(d0:D):QeD [d0]=(Qlh [some (.k,d0)]>>=retF false):=rfl
theorem QIK{QL:Addr}{Qy:Addr}{QK:Addr}{QJ:Addr}(F:FunV K "is_clerk" "is_clerk" Qbe f fd dV)(z_isinstance:mg "isinstance"=none)(QPr:mg "Deal"=some (.ref QL))(QMB:mg "Bundle"=some (.ref Qy))(QPp:mg "Copy"=some (.ref QK))(QOR:mg "Rows"=some (.ref QJ))(Qze:KitI K CT (.ref QL) [("Deal",true),("Bundle",false),("Copy",false),("Rows",false),("Office",false)])(QsN:KitI K CT (.ref Qy) [("Deal",false),("Bundle",true),("Copy",false),("Rows",false),("Office",false)])(Qx9:KitI K CT (.ref QK) [("Deal",false),("Bundle",false),("Copy",true),("Rows",false),("Office",false)])(Qyt:KitI K CT (.ref QJ) [("Deal",false),("Bundle",false),("Copy",false),("Rows",true),("Office",false)]):FnOk P w K mg base CX0 1 f fd ["thing"] (SpD K CT false QeD):=
 @fnV P w K mg base CT false "is_clerk" "is_clerk" Qbe f fd dV ["thing"] ["thing"] 0 Qlh F QGe fun cdv A outer s H E G hr=>
  (Qi (QI (QOh (a:=QL) (as:=[Qy,QK,QJ]) (Qq1 (QoT (v:=.ref QL) QwR QPr rfl) (Qq1 (QoT (v:=.ref Qy) QtU QMB rfl) (Qq1 (QoT (v:=.ref QK) Qwe QPp rfl) (Qq1 (QoT (v:=.ref QJ) Qwu QOR rfl) QN1)))) ⟨Qze,QsN,Qx9,Qyt,True.intro⟩ (by simp) Qo9 z_isinstance (DE.db (Qb 0 rfl (oi Qvx))))))
abbrev QbU:Stmt:=inCls (top 21) 3
theorem QBe:Qr ["self"] ["self"] (Qa QbU):=⟨rfl,rfl,rfl,dk,rfl,dk,dk⟩
theorem Qud:Lo QbU "self":=dk
theorem QvE:Gl QbU "len":=dk
def QhM:SD->Out Fl:=(sRet (eA fLen (aCons (e2 dIx (e1 (dFld Qm "table") (eVar 0)) (eC (.int 0))) aNil)))
def Qcq:List D->Out D:=bodyF false 1 1 QhM
theorem QEf(d0:D):Qcq [d0]=(QhM [some (.k,d0)]>>=retF false):=rfl
theorem QEd(F:FunV K "outs" "Clerk.outs" QbU f fd dV)(z_len:mg "len"=none)(fo_table:FldOk K CT Qm "table"):FnOk P w K mg base CX0 1 f fd ["self"] (SpD K CT false Qcq):=
 @fnV P w K mg base CT false "outs" "Clerk.outs" QbU f fd dV ["self"] ["self"] 0 QhM F QBe fun cdv A outer s H E G hr=>
  (Qi (QI (Q3 QvE z_len (Qu (DE.db (de_ix (Qpo fo_table (Qb 0 rfl (oi Qud))) (DE.db Qd))) Qz))))
abbrev Qba:Stmt:=inCls (top 21) 2
theorem Qwj:Qr ["self"] ["self"] (Qa Qba):=⟨rfl,rfl,rfl,dk,rfl,dk,dk⟩
theorem QrF:Lo Qba "self":=dk
theorem Qr6:Gl Qba "len":=dk
def Qf7:SD->Out Fl:=(sRet (eA fLen (aCons (e1 (dFld Qm "table") (eVar 0)) aNil)))
def QaH:List D->Out D:=bodyF false 1 1 Qf7
theorem Qym(d0:D):QaH [d0]=(Qf7 [some (.k,d0)]>>=retF false):=rfl
theorem QxF(F:FunV K "period" "Clerk.period" Qba f fd dV)(z_len:mg "len"=none)(fo_table:FldOk K CT Qm "table"):FnOk P w K mg base CX0 1 f fd ["self"] (SpD K CT false QaH):=
 @fnV P w K mg base CT false "period" "Clerk.period" Qba f fd dV ["self"] ["self"] 0 Qf7 F Qwj fun cdv A outer s H E G hr=>
  (Qi (QI (Q3 Qr6 z_len (Qu (DE.db (Qpo fo_table (Qb 0 rfl (oi QrF)))) Qz))))
abbrev QaV:Stmt:=top 42
theorem QIa:Qr ["thing"] ["thing"] (Qa QaV):=⟨rfl,rfl,rfl,dk,rfl,dk,dk⟩
theorem Qbl:Lo QaV "thing":=dk
theorem Qv8:Gl QaV "tuple":=dk
theorem Qqr:Gl QaV "isinstance":=dk
theorem QAr:Gl QaV "len":=dk
theorem Quj:Gl QaV "is_name":=dk
theorem Qst:Gl QaV "is_clerk":=dk
theorem QrL:Gl QaV "are_texts":=dk
theorem QrE:Gl QaV "is_within":=dk
def Qm5:SD->Out Fl:=(sSeq (sIf (tOr' (tNot' (tVal (eIsa (isaT "tuple") (eVar 0)))) (tVal (e2 dNe ‹"N"› (eC (.int 4))))) ‹"aC"› sNil) (sSeq (sIf (tOr' (tNot' (tVal (eA (fun xs=>QaQ (xs++[])) (aCons ‹"I"› aNil)))) (tNot' (tVal (eA (fun xs=>QeD (xs++[])) (aCons ‹"x"› aNil))))) ‹"aC"› sNil) (sRet (eAnd (eA (fun xs=>QdC (xs++[])) (aCons (e2 dIx (eVar 0) (eC (.int 2))) (aCons (eMeth Qg "outs" (fun _=>Qcq) ‹"x"› aNil) aNil))) (eA (fun xs=>QaN (xs++[])) (aCons (e2 dIx (eVar 0) (eC (.int 3))) (aCons (eC (.int 0)) (aCons (e2 dSub (eMeth Qg "period" (fun _=>QaH) ‹"x"› aNil) (eC (.int 1))) aNil))))))))
def Qfv:List D->Out D:=bodyF false 1 1 Qm5
theorem QKF(d0:D):Qfv [d0]=(Qm5 [some (.k,d0)]>>=retF false):=rfl
theorem QL2(F:FunV K "is_seat" "is_seat" QaV f fd dV)(Qhs:DefOk P w K mg base CT "is_name" 1 false [] QaQ)(QIv:DefOk P w K mg base CT "is_clerk" 1 false [] QeD)(QE4:DefOk P w K mg base CT "are_texts" 1 false [] QdC)(QdA:‹"aS"›)(z_isinstance:mg "isinstance"=none)(z_tuple:mg "tuple"=none)(z_len:mg "len"=none)(mt_outs:MtOk P w K mg base CT CX0 "outs" 1 Qg (fun c=>SpD K CT false ((fun _=>Qcq) c)))(mt_period:MtOk P w K mg base CT CX0 "period" 1 Qg (fun c=>SpD K CT false ((fun _=>QaH) c))):FnOk P w K mg base CX0 3 f fd ["thing"] (SpD K CT false Qfv):=
 @fnV P w K mg base CT false "is_seat" "is_seat" QaV f fd dV ["thing"] ["thing"] 2 Qm5 F QIa fun cdv A outer s H E G hr=>
  (Qf (ds_if (DW.dt (dw_or (QaX (Qbf (Qe0 "tuple" Qzx Qv8 z_tuple PyProof.Rows.Boot.«tuple» Qqr z_isinstance (DE.db (Qb 0 rfl (oi Qbl)))))) (Qft (dt_ne hr.units (DE.db (Q3 QAr z_len (Qu (DE.db (Qb 0 rfl (oi Qbl))) Qz))) (DE.db Qd))))) (Qi (QI de_bl)) Q1) (Qf (ds_if (DW.dt (dw_or (QaX (Qbf (de_f Qhs (hr.mono (by decide)) (Qc ‹"av"› Qj) Quj))) (Qft (QaX (Qbf (de_f QIv (hr.mono (by decide)) (Qc ‹"av"› Qj) Qst)))))) (Qi (QI de_bl)) Q1) (Qi (QI (Qfz (de_f QE4 (hr.mono (by decide)) (Qc ‹"av"› (Qc (QqK mt_outs (hr.mono (by decide)) ‹"av"›) Qj)) QrL) (Qjx (de_f QdA (hr.mono (by decide)) (Qc ‹"av"› (Qc Qd (Qc (Qdl (DE.db (QqK mt_period (hr.mono (by decide)) ‹"av"›)) (DE.db Qd)) Qj))) QrE)))))))
abbrev Qab:Stmt:=top 43
theorem QDI:Qr ["thing","doors"] ["thing","doors"] (Qa Qab):=⟨rfl,rfl,rfl,dk,rfl,dk,dk⟩
theorem Qgj:Lo Qab "thing":=dk
theorem QmL:Gl Qab "MOST_CLERKS":=dk
theorem QrH:Gl Qab "is_list":=dk
abbrev QiP:PySem.Scope:={ kind:=PySem.ScopeKind.function,names:=[ (PySem.Str.ofString ".0",PySem.NameKind.local),(PySem.Str.ofString "seat",PySem.NameKind.local),(PySem.Str.ofString "is_seat",PySem.NameKind.globalImplicit)],isGenerator:=false,isCoroutine:=false,more:=[]:PySem.Scope }
theorem Qrm:QC ["seat"] [none] QiP (Qa Qab) ["thing","doors"]:=⟨rfl,dk,dk,rfl,dk,dk⟩
theorem Qfj:(Qh QiP (Qa Qab)).names.lookup ("seat":Str)=some NameKind.local:=dk
theorem Qnr:(Qh QiP (Qa Qab)).names.lookup ("is_seat":Str)=some NameKind.globalImplicit:=dk
def Qj8:SD->Out D:=(eA (fun xs=>Qfv (xs++[])) (aCons (eVar 0) aNil))
theorem QwA:Gl Qab "all":=dk
abbrev QoV:PySem.Scope:={ kind:=PySem.ScopeKind.function,names:=[(PySem.Str.ofString ".0",PySem.NameKind.local),(PySem.Str.ofString "seat",PySem.NameKind.local)],isGenerator:=false,isCoroutine:=false,more:=[]:PySem.Scope }
theorem Qrs:QC ["seat"] [none] QoV (Qa Qab) ["thing","doors"]:=⟨rfl,dk,dk,rfl,dk,dk⟩
theorem Qfc:(Qh QoV (Qa Qab)).names.lookup ("seat":Str)=some NameKind.local:=dk
def QjX:SD->Out D:=‹"I"›
theorem Qt5:Lo Qab "doors":=dk
theorem Qn9:Gl Qab "all_unlike":=dk
def Qjk:SD->Out Fl:=(sSeq (sIf (tOr' (tNot' (tVal (eA (fun xs=>Qb0 (xs++[])) (aCons (eVar 0) (aCons (eC (.int 60)) aNil))))) (tNot' (tVal (eA (f1 fAll) (aCons (eComp [none] (itL (eVar 0)) (gN 0) cTrue Qj8) aNil))))) ‹"aC"› sNil) (sRet (eA (fun xs=>Qaq (xs++[])) (aCons (e2 dCat (eComp [none] (itL (eVar 0)) (gN 0) cTrue QjX) (eVar 1)) aNil))))
def QdL:List D->Out D:=bodyF false 2 2 Qjk
theorem QFy(d0 d1:D):QdL [d0,d1]=(Qjk ‹"G"›>>=retF false):=rfl
theorem QF8{u_MOST_CLERKS:Value}(F:FunV K "are_seats" "are_seats" Qab f fd dV)(Qjs:DefOk P w K mg base CT "is_list" 1 false [] Qb0)(QLE:DefOk P w K mg base CT "is_seat" 3 false [] Qfv)(QfK:DefOk P w K mg base CT "all_unlike" 1 false [] Qaq)(z_all:mg "all"=none)(c_MOST_CLERKS:mg "MOST_CLERKS"=some u_MOST_CLERKS)(r_MOST_CLERKS:RelV (toV (.int 60)) u_MOST_CLERKS):FnOk P w K mg base CX0 4 f fd ["thing","doors"] (SpD K CT false QdL):=
 @fnV P w K mg base CT false "are_seats" "are_seats" Qab f fd dV ["thing","doors"] ["thing","doors"] 3 Qjk F QDI fun cdv A outer s H E G hr=>
  (Qf (ds_if (DW.dt (dw_or (QaX (Qbf (de_f Qjs (hr.mono (by decide)) (Qc (Qb 0 rfl (oi Qgj)) (Qc (Qe5 (d:=(.int 60)) QmL c_MOST_CLERKS rfl r_MOST_CLERKS) Qj)) QrH))) (Qft (QaX (Qbf (QjA rfl QwA z_all (Qu (DE.db (DF.de (QV rfl Qrm (DI.b (Qan (Qb 0 rfl (oi Qgj)))) ‹"g"› (Qw _) (fun fp s H G p=>⟨(QA (i:=0) Qrm.nd rfl (oi Qfj) (hf:=Or.inr Qfj)),QM,(de_f QLE (hr.mono (by decide)) (Qc (Qb 0 rfl (oi Qfj)) Qj) Qnr)⟩)))) Qz))))))) (Qi (QI de_bl)) Q1) (Qi (QI (de_f QfK (hr.mono (by decide)) (Qc (DF.de (QPv (DF.de (QV rfl Qrs (DI.b (Qan (Qb 0 rfl (oi Qgj)))) ‹"g"› (Qw _) (fun fp s H G p=>⟨(QA (i:=0) Qrs.nd rfl (oi Qfc) (hf:=Or.inr Qfc)),QM,(de_ix (Qb 0 rfl (oi Qfc)) (DE.db Qd))⟩))) (Qb 1 rfl (oi Qt5)))) Qj) Qn9))))
abbrev Qa4:Stmt:=top 44
theorem QG4:Qr ["thing","names"] ["thing","names"] (Qa Qa4):=⟨rfl,rfl,rfl,dk,rfl,dk,dk⟩
theorem QcV:Lo Qa4 "thing":=dk
theorem QvH:Gl Qa4 "tuple":=dk
theorem QoW:Gl Qa4 "isinstance":=dk
theorem QxV:Gl Qa4 "len":=dk
theorem QjB:Gl Qa4 "is_name":=dk
theorem Qvb:Lo Qa4 "names":=dk
def Qk6:SD->Out Fl:=(sSeq (sIf (tOr' (tNot' (tVal (eIsa (isaT "tuple") (eVar 0)))) (tVal (e2 dNe ‹"N"› (eC (.int 2))))) ‹"aC"› sNil) (sRet (eAnd (eA (fun xs=>QaQ (xs++[])) (aCons ‹"I"› aNil)) (eAnd (eA (fun xs=>QaQ (xs++[])) (aCons ‹"x"› aNil)) (e2 dInL ‹"x"› (eVar 1))))))
def Qes:List D->Out D:=bodyF false 2 2 Qk6
theorem QJq(d0 d1:D):Qes [d0,d1]=(Qk6 ‹"G"›>>=retF false):=rfl
theorem QIm(F:FunV K "is_entry" "is_entry" Qa4 f fd dV)(Qhs:DefOk P w K mg base CT "is_name" 1 false [] QaQ)(z_isinstance:mg "isinstance"=none)(z_tuple:mg "tuple"=none)(z_len:mg "len"=none):FnOk P w K mg base CX0 2 f fd ["thing","names"] (SpD K CT false Qes):=
 @fnV P w K mg base CT false "is_entry" "is_entry" Qa4 f fd dV ["thing","names"] ["thing","names"] 1 Qk6 F QG4 fun cdv A outer s H E G hr=>
  (Qf (ds_if (DW.dt (dw_or (QaX (Qbf (Qe0 "tuple" Qzx QvH z_tuple PyProof.Rows.Boot.«tuple» QoW z_isinstance (DE.db (Qb 0 rfl (oi QcV)))))) (Qft (dt_ne hr.units (DE.db (Q3 QxV z_len (Qu (DE.db (Qb 0 rfl (oi QcV))) Qz))) (DE.db Qd))))) (Qi (QI de_bl)) Q1) (Qi (QI (Qfz (de_f Qhs (hr.mono (by decide)) (Qc (de_ix (Qb 0 rfl (oi QcV)) (DE.db Qd)) Qj) QjB) (Qfz (de_f Qhs (hr.mono (by decide)) (Qc (de_ix (Qb 0 rfl (oi QcV)) (DE.db Qd)) Qj) QjB) (Qjx (QJ6 (DE.db (de_ix (Qb 0 rfl (oi QcV)) (DE.db Qd))) (DE.db (Qb 1 rfl (oi Qvb))))))))))
abbrev QR:Stmt:=top 45
theorem Qyw:Qr ["thing","names"] ["thing","names"] (Qa QR):=⟨rfl,rfl,rfl,dk,rfl,dk,dk⟩
theorem Qfb:Lo QR "thing":=dk
theorem QjT:Gl QR "MOST_ENTRIES":=dk
theorem Qpc:Gl QR "is_list":=dk
abbrev QeQ:PySem.Scope:={ kind:=PySem.ScopeKind.function,names:=[ (PySem.Str.ofString ".0",PySem.NameKind.local),(PySem.Str.ofString "entry",PySem.NameKind.local),(PySem.Str.ofString "is_entry",PySem.NameKind.globalImplicit),(PySem.Str.ofString "names",PySem.NameKind.free)],isGenerator:=false,isCoroutine:=false,more:=[]:PySem.Scope }
theorem QmX:QC ["entry","names"] [none,some 1] QeQ (Qa QR) ["thing","names"]:=⟨rfl,dk,dk,rfl,dk,dk⟩
theorem Qds:(Qh QeQ (Qa QR)).names.lookup ("entry":Str)=some NameKind.local:=dk
theorem QnN:(Qh QeQ (Qa QR)).names.lookup ("names":Str)=some NameKind.cell:=dk
theorem Qk5:(Qh QeQ (Qa QR)).names.lookup ("is_entry":Str)=some NameKind.globalImplicit:=dk
def Qhw:SD->Out D:=(eA (fun xs=>Qes (xs++[])) (aCons (eVar 0) ‹"U"›))
theorem QtZ:Gl QR "all":=dk
abbrev Qls:PySem.Scope:={ kind:=PySem.ScopeKind.function,names:=[(PySem.Str.ofString ".0",PySem.NameKind.local),(PySem.Str.ofString "entry",PySem.NameKind.local)],isGenerator:=false,isCoroutine:=false,more:=[]:PySem.Scope }
theorem QmW:QC ["entry"] [none] Qls (Qa QR) ["thing","names"]:=⟨rfl,dk,dk,rfl,dk,dk⟩
theorem Qdr:(Qh Qls (Qa QR)).names.lookup ("entry":Str)=some NameKind.local:=dk
def QhO:SD->Out D:=‹"I"›
theorem Qln:Gl QR "all_unlike":=dk
def QgU:SD->Out Fl:=(sSeq (sIf (tOr' (tNot' (tVal (eA (fun xs=>Qb0 (xs++[])) (aCons (eVar 0) (aCons (eC (.int 6)) aNil))))) (tNot' (tVal (eA (f1 fAll) (aCons (eComp [none,some 1] (itL (eVar 0)) (gN 0) cTrue Qhw) aNil))))) ‹"aC"› sNil) (sRet (eA (fun xs=>Qaq (xs++[])) (aCons (eComp [none] (itL (eVar 0)) (gN 0) cTrue QhO) aNil))))
def Qcw:List D->Out D:=bodyF false 2 2 QgU
theorem QAk(d0 d1:D):Qcw [d0,d1]=(QgU ‹"G"›>>=retF false):=rfl
theorem QBg{u_MOST_ENTRIES:Value}(F:FunV K "are_entries" "are_entries" QR f fd dV)(Qjs:DefOk P w K mg base CT "is_list" 1 false [] Qb0)(QIH:DefOk P w K mg base CT "is_entry" 2 false [] Qes)(QfK:DefOk P w K mg base CT "all_unlike" 1 false [] Qaq)(z_all:mg "all"=none)(c_MOST_ENTRIES:mg "MOST_ENTRIES"=some u_MOST_ENTRIES)(r_MOST_ENTRIES:RelV (toV (.int 6)) u_MOST_ENTRIES):FnOk P w K mg base CX0 3 f fd ["thing","names"] (SpD K CT false Qcw):=
 @fnV P w K mg base CT false "are_entries" "are_entries" QR f fd dV ["thing","names"] ["thing","names"] 2 QgU F Qyw fun cdv A outer s H E G hr=>
  (Qf (ds_if (DW.dt (dw_or (QaX (Qbf (de_f Qjs (hr.mono (by decide)) (Qc (Qb 0 rfl (oi Qfb)) (Qc (Qe5 (d:=(.int 6)) QjT c_MOST_ENTRIES rfl r_MOST_ENTRIES) Qj)) Qpc))) (Qft (QaX (Qbf (QjA rfl QtZ z_all (Qu (DE.db (DF.de (QV rfl QmX (DI.b (Qan (Qb 0 rfl (oi Qfb)))) ‹"g"› (Qw _) (fun fp s H G p=>⟨(QA (i:=0) QmX.nd rfl (oi Qds) (hf:=Or.inr Qds)),QM,(de_f QIH (hr.mono (by decide)) (Qc (Qb 0 rfl (oi Qds)) (Qc (Qb 1 rfl (Or.inr (oi QnN))) Qj)) Qk5)⟩)))) Qz))))))) (Qi (QI de_bl)) Q1) (Qi (QI (de_f QfK (hr.mono (by decide)) (Qc (DF.de (QV rfl QmW (DI.b (Qan (Qb 0 rfl (oi Qfb)))) ‹"g"› (Qw _) (fun fp s H G p=>⟨(QA (i:=0) QmW.nd rfl (oi Qdr) (hf:=Or.inr Qdr)),QM,(de_ix (Qb 0 rfl (oi Qdr)) (DE.db Qd))⟩))) Qj) Qln))))
abbrev QbV:Stmt:=top 47
theorem QF2:Qr ["seat","places"] ["seat","places"] (Qa QbV):=⟨rfl,rfl,rfl,dk,rfl,dk,dk⟩
theorem Qxk:Lo QbV "seat":=dk
abbrev QkB:PySem.Scope:={ kind:=PySem.ScopeKind.function,names:=[ (PySem.Str.ofString ".0",PySem.NameKind.local),(PySem.Str.ofString "text",PySem.NameKind.local),(PySem.Str.ofString "places",PySem.NameKind.free)],isGenerator:=false,isCoroutine:=false,more:=[]:PySem.Scope }
theorem Qsz:QC ["text","places"] [none,some 1] QkB (Qa QbV) ["seat","places"]:=⟨rfl,dk,dk,rfl,dk,dk⟩
theorem QfO:(Qh QkB (Qa QbV)).names.lookup ("text":Str)=some NameKind.local:=dk
theorem Qq0:(Qh QkB (Qa QbV)).names.lookup ("places":Str)=some NameKind.cell:=dk
def QlG:SD->Out D:=(eDget (eVar 1) (eVar 0))
def Qlf:SD->Out Fl:=(sRetF (eComp [none,some 1] (itL (e2 dIx (eVar 0) (eC (.int 2)))) (gN 0) cTrue QlG))
def QeM:List D->Out D:=bodyF true 2 2 Qlf
theorem QJp(d0 d1:D):QeM [d0,d1]=(Qlf ‹"G"›>>=retF true):=rfl
theorem QJC(F:FunV K "leads_to" "leads_to" QbV f fd dV)  : FnOk P w K mg base CX0 1 f fd ["seat","places"] (SpD K CT true QeM):=
 @fnV P w K mg base CT true "leads_to" "leads_to" QbV f fd dV ["seat","places"] ["seat","places"] 0 Qlf F QF2 fun cdv A outer s H E G hr=>
  (Qi (Qcu (QV rfl Qsz (DI.b (Qan (de_ix (Qb 0 rfl (oi Qxk)) (DE.db Qd)))) ‹"g"› (Qw _) (fun fp s H G p=>⟨(QA (i:=0) Qsz.nd rfl (oi QfO) (hf:=Or.inr QfO)),QM,(QOH hr.units (Qb 1 rfl (Or.inr (oi Qq0))) (DE.db (Qb 0 rfl (oi QfO))))⟩))))
abbrev Qo:Stmt:=inCls (top 48) 0
theorem QfR:Qr ["self","clerks","entries","doors","names","places","ways"] ["self","clerks","entries","doors"] (Qa Qo):=⟨rfl,rfl,rfl,dk,rfl,dk,dk⟩
theorem Qc8:Lo Qo "doors":=dk
theorem Qlo:Gl Qo "MOST_DOORS":=dk
theorem QmI:Gl Qo "are_names":=dk
theorem QbS:Lo Qo "clerks":=dk
theorem QmB:Gl Qo "are_seats":=dk
abbrev Qlp:PySem.Scope:={ kind:=PySem.ScopeKind.function,names:=[(PySem.Str.ofString ".0",PySem.NameKind.local),(PySem.Str.ofString "seat",PySem.NameKind.local)],isGenerator:=false,isCoroutine:=false,more:=[]:PySem.Scope }
theorem QmO:QC ["seat"] [none] Qlp (Qa Qo) ["self","clerks","entries","doors","names","places","ways"]:=⟨rfl,dk,dk,rfl,dk,dk⟩
theorem Qd4:(Qh Qlp (Qa Qo)).names.lookup ("seat":Str)=some NameKind.local:=dk
def Qhv:SD->Out D:=‹"I"›
theorem Qc9:Lo Qo "names":=dk
theorem Qhj:Lo Qo "entries":=dk
theorem QkY:Gl Qo "are_entries":=dk
theorem QmE:Gl Qo "places_of":=dk
theorem QqQ:(Qa Qo).names.lookup ("places":Str)=some NameKind.cell:=dk
abbrev QeK:PySem.Scope:={ kind:=PySem.ScopeKind.function,names:=[ (PySem.Str.ofString ".0",PySem.NameKind.local),(PySem.Str.ofString "seat",PySem.NameKind.local),(PySem.Str.ofString "leads_to",PySem.NameKind.globalImplicit),(PySem.Str.ofString "places",PySem.NameKind.free)],isGenerator:=false,isCoroutine:=false,more:=[]:PySem.Scope }
theorem Qng:QC ["seat","places"] [none,some 5] QeK (Qa Qo) ["self","clerks","entries","doors","names","places","ways"]:=⟨rfl,dk,dk,rfl,dk,dk⟩
theorem Qd2:(Qh QeK (Qa Qo)).names.lookup ("seat":Str)=some NameKind.local:=dk
theorem QmK:(Qh QeK (Qa Qo)).names.lookup ("places":Str)=some NameKind.cell:=dk
theorem Qk4:(Qh QeK (Qa Qo)).names.lookup ("leads_to":Str)=some NameKind.globalImplicit:=dk
def Qh4:SD->Out D:=(eA (fun xs=>QeM (xs++[])) (aCons (eVar 0) ‹"U"›))
theorem QfQ:Lo Qo "ways":=dk
abbrev QlU:PySem.Scope:={ kind:=PySem.ScopeKind.function,names:=[(PySem.Str.ofString ".0",PySem.NameKind.local),(PySem.Str.ofString "way",PySem.NameKind.local)],isGenerator:=false,isCoroutine:=false,more:=[]:PySem.Scope }
theorem Qnl:QC ["way"] [none] QlU (Qa Qo) ["self","clerks","entries","doors","names","places","ways"]:=⟨rfl,dk,dk,rfl,dk,dk⟩
theorem Qeo:(Qh QlU (Qa Qo)).names.lookup ("way":Str)=some NameKind.local:=dk
def QhL:SD->Out D:=(e2 dInL (eC .non) (eVar 0))
theorem Qt0:Gl Qo "any":=dk
theorem QbB:Lo Qo "self":=dk
theorem Qtq:Gl Qo "list":=dk
abbrev Qhh:PySem.Scope:={ kind:=PySem.ScopeKind.function,names:=[ (PySem.Str.ofString ".0",PySem.NameKind.local),(PySem.Str.ofString "entry",PySem.NameKind.local),(PySem.Str.ofString "places",PySem.NameKind.free)],isGenerator:=false,isCoroutine:=false,more:=[]:PySem.Scope }
theorem QmP:QC ["entry","places"] [none,some 5] Qhh (Qa Qo) ["self","clerks","entries","doors","names","places","ways"]:=⟨rfl,dk,dk,rfl,dk,dk⟩
theorem Qcg:(Qh Qhh (Qa Qo)).names.lookup ("entry":Str)=some NameKind.local:=dk
theorem Qmx:(Qh Qhh (Qa Qo)).names.lookup ("places":Str)=some NameKind.cell:=dk
def Qfr:SD->Out D:=(eTup (aCons ‹"I"› (aCons (eDix (eVar 1) ‹"x"›) aNil)))
abbrev Qmb:PySem.Scope:={ kind:=PySem.ScopeKind.function,names:=[(PySem.Str.ofString ".0",PySem.NameKind.local),(PySem.Str.ofString "seat",PySem.NameKind.local)],isGenerator:=false,isCoroutine:=false,more:=[]:PySem.Scope }
theorem Qna:QC ["seat"] [none] Qmb (Qa Qo) ["self","clerks","entries","doors","names","places","ways"]:=⟨rfl,dk,dk,rfl,dk,dk⟩
theorem Qd6:(Qh Qmb (Qa Qo)).names.lookup ("seat":Str)=some NameKind.local:=dk
def Qfq:SD->Out D:=‹"x"›
abbrev QlS:PySem.Scope:={ kind:=PySem.ScopeKind.function,names:=[(PySem.Str.ofString ".0",PySem.NameKind.local),(PySem.Str.ofString "seat",PySem.NameKind.local)],isGenerator:=false,isCoroutine:=false,more:=[]:PySem.Scope }
theorem Qnd:QC ["seat"] [none] QlS (Qa Qo) ["self","clerks","entries","doors","names","places","ways"]:=⟨rfl,dk,dk,rfl,dk,dk⟩
theorem QdV:(Qh QlS (Qa Qo)).names.lookup ("seat":Str)=some NameKind.local:=dk
def Qfl:SD->Out D:=(e2 dIx (eVar 0) (eC (.int 3)))
def QgO:SD->Out Fl:=(sSeq (fun ς=>noX ((sIf (tNot' (tVal (eA (fun xs=>QdH (xs++[])) (aCons (eVar 3) (aCons (eC (.int 6)) aNil))))) QhD sNil) ς)) (sSeq (fun ς=>noX ((sIf (tNot' (tVal (eA (fun xs=>QdL (xs++[])) (aCons (eVar 1) (aCons (eVar 3) aNil))))) QhD sNil) ς)) (sSeq (fun ς=>noX ((sSet 4 (eComp [none] (itL (eVar 1)) (gN 0) cTrue Qhv)) ς)) (sSeq (fun ς=>noX ((sIf (tNot' (tVal (eA (fun xs=>Qcw (xs++[])) (aCons (eVar 2) (aCons (eVar 4) aNil))))) QhD sNil) ς)) (sSeq (fun ς=>noX ((sSet 5 (eA (fun xs=>Qdw (xs++[])) (aCons (eVar 4) (aCons (eVar 3) aNil)))) ς)) (sSeq (fun ς=>noX ((sSet 6 (eComp [none,some 5] (itL (eVar 1)) (gN 0) cTrue Qh4)) ς)) (sSeq (fun ς=>noX ((sIf (tVal (eA (f1 fAny) (aCons (eComp [none] (itL (eVar 6)) (gN 0) cTrue QhL) aNil))) QhD sNil) ς)) (sSeq (fun ς=>noX (sFldS Qm "clerk_names" 0 (eVar 4) ς)) (sSeq (fun ς=>noX (sFldS Qm "door_names" 0 (e1 dList (eVar 3)) ς)) (sSeq (fun ς=>noX (sFldS Qm "entry_places" 0 (eComp [none,some 5] (itL (eVar 2)) (gN 0) cTrue Qfr) ς)) (sSeq (fun ς=>noX (sFldS Qm "staff" 0 (eComp [none] (itL (eVar 1)) (gN 0) cTrue Qfq) ς)) (sSeq (fun ς=>noX (sFldS Qm "first_states" 0 (eComp [none] (itL (eVar 1)) (gN 0) cTrue Qfl) ς)) (fun ς=>noX (sFldS Qm "ways" 0 (eVar 6) ς))))))))))))))
def Qbt:Str->List (Str×D)->List D->Out (List (Str×D)):=bodyI 4 7 QgO
theorem QBv(c:Str)(fds:List (Str×D))(d1 d2 d3:D):Qbt c fds [d1,d2,d3]=(QgO [some (.s,.ins c fds),some (.k,d1),some (.k,d2),some (.k,d3),none,none,none]>>=QfA c):=rfl
theorem QAx{u_MOST_DOORS:Value}(F:FunV K "__init__" "Office.__init__" Qo f fd dV)(QHb:DefOk P w K mg base CT "are_names" 2 false [] QdH)(QHu:DefOk P w K mg base CT "are_seats" 4 false [] QdL)(QAY:DefOk P w K mg base CT "are_entries" 3 false [] Qcw)(QFo:DefOk P w K mg base CT "places_of" 1 true [] Qdw)(QJr:DefOk P w K mg base CT "leads_to" 1 true [] QeM)(z_any:mg "any"=none)(z_list:mg "list"=none)(c_MOST_DOORS:mg "MOST_DOORS"=some u_MOST_DOORS)(r_MOST_DOORS:RelV (toV (.int 6)) u_MOST_DOORS)(fo_clerk_names:FldOk K CT Qm "clerk_names")(fo_door_names:FldOk K CT Qm "door_names")(fo_entry_places:FldOk K CT Qm "entry_places")(fo_staff:FldOk K CT Qm "staff")(fo_first_states:FldOk K CT Qm "first_states")(fo_ways:FldOk K CT Qm "ways"):FnOk P w K mg base (CXR P w) 5 f fd ["self","clerks","entries","doors"] (SpI K CT Qbt):=
 @fnI P w K mg base CT "__init__" "Office.__init__" Qo f fd dV ["self","clerks","entries","doors","names","places","ways"] ["self","clerks","entries","doors"] 4 QgO F QfR fun cdv A outer s H E G p hr=>
  (Qf (DS.lift (ds_if (QaX (Qbf (de_f QHb (hr.mono (by decide)) (Qc (Qb 3 rfl (oi Qc8)) (Qc (Qe5 (d:=(.int 6)) Qlo c_MOST_DOORS rfl r_MOST_DOORS) Qj)) QmI))) (Qi QfH) Q1)) (Qf (DS.lift (ds_if (QaX (Qbf (de_f QHu (hr.mono (by decide)) (Qc (Qb 1 rfl (oi QbS)) (Qc (Qb 3 rfl (oi Qc8)) Qj)) QmB))) (Qi QfH) Q1)) (Qf (DS.lift (Qhm (i:=4) rfl QmO (DI.b (Qan (Qb 1 rfl (oi QbS)))) ‹"g"› (Qw _) (fun fp s H G p=>⟨(QA (i:=0) QmO.nd rfl (oi Qd4) (hf:=Or.inr Qd4)),QM,(de_ix (Qb 0 rfl (oi Qd4)) (DE.db Qd))⟩) QfR.nd rfl (oi Qc9))) (Qf (DS.lift (ds_if (QaX (Qbf (de_f QAY (hr.mono (by decide)) (Qc (Qb 2 rfl (oi Qhj)) (Qc (Qb 4 rfl (oi Qc9)) Qj)) QkY))) (Qi QfH) Q1)) (Qf (DS.lift (QG (i:=5) QfR.nd rfl (Or.inr QqQ) (de_f QFo (hr.mono (by decide)) (Qc (Qb 4 rfl (oi Qc9)) (Qc (Qb 3 rfl (oi Qc8)) Qj)) QmE))) (Qf (DS.lift (Qhm (i:=6) rfl Qng (DI.b (Qan (Qb 1 rfl (oi QbS)))) ‹"g"› (Qw _) (fun fp s H G p=>⟨(QA (i:=0) Qng.nd rfl (oi Qd2) (hf:=Or.inr Qd2)),QM,(de_f QJr (hr.mono (by decide)) (Qc (Qb 0 rfl (oi Qd2)) (Qc (Qb 1 rfl (Or.inr (oi QmK))) Qj)) Qk4)⟩) QfR.nd rfl (oi QfQ))) (Qf (DS.lift (ds_if (Qbf (QP1 rfl Qt0 z_any (Qu (DE.db (DF.de (QV rfl Qnl (DI.b (Qan (Qb 6 rfl (oi QfQ)))) ‹"g"› (Qw _) (fun fp s H G p=>⟨(QA (i:=0) Qnl.nd rfl (oi Qeo) (hf:=Or.inr Qeo)),QM,(QJ6 (DE.db QKn) (DE.db (Qb 0 rfl (oi Qeo))))⟩)))) Qz))) (Qi QfH) Q1)) (Qf (DS.lift (Qhq 0 fo_clerk_names (Qb 4 rfl (oi Qc9)) rfl (oi QbB))) (Qf (DS.lift (Qhq 0 fo_door_names (DF.de (Qea Qtq z_list (Qb 3 rfl (oi Qc8)))) rfl (oi QbB))) (Qf (DS.lift (Qhq 0 fo_entry_places (DF.de (QV rfl QmP (DI.b (Qan (Qb 2 rfl (oi Qhj)))) ‹"g"› (Qw _) (fun fp s H G p=>⟨(QA (i:=0) QmP.nd rfl (oi Qcg) (hf:=Or.inr Qcg)),QM,(QfE (Qc (de_ix (Qb 0 rfl (oi Qcg)) (DE.db Qd)) (Qc (QPV hr.units (Qb 1 rfl (Or.inr (oi Qmx))) (DE.db (de_ix (Qb 0 rfl (oi Qcg)) (DE.db Qd)))) Qj)))⟩))) rfl (oi QbB))) (Qf (DS.lift (Qhq 0 fo_staff (DF.de (QV rfl Qna (DI.b (Qan (Qb 1 rfl (oi QbS)))) ‹"g"› (Qw _) (fun fp s H G p=>⟨(QA (i:=0) Qna.nd rfl (oi Qd6) (hf:=Or.inr Qd6)),QM,(de_ix (Qb 0 rfl (oi Qd6)) (DE.db Qd))⟩))) rfl (oi QbB))) (Qf (DS.lift (Qhq 0 fo_first_states (DF.de (QV rfl Qnd (DI.b (Qan (Qb 1 rfl (oi QbS)))) ‹"g"› (Qw _) (fun fp s H G p=>⟨(QA (i:=0) Qnd.nd rfl (oi QdV) (hf:=Or.inr QdV)),QM,(de_ix (Qb 0 rfl (oi QdV)) (DE.db Qd))⟩))) rfl (oi QbB))) (Qi (DS.lift (Qhq 0 fo_ways (Qb 6 rfl (oi QfQ)) rfl (oi QbB))))))))))))))))
abbrev Qbx:Stmt:=top 19
theorem QIT:Qr ["one","other"] ["one","other"] (Qa Qbx):=⟨rfl,rfl,rfl,dk,rfl,dk,dk⟩
theorem QBo:Lo Qbx "one":=dk
theorem Qw5:Lo Qbx "other":=dk
theorem QAB:Gl Qbx "zip":=dk
abbrev Qmo:PySem.Scope:={ kind:=PySem.ScopeKind.function,names:=[ (PySem.Str.ofString ".0",PySem.NameKind.local),(PySem.Str.ofString "each",PySem.NameKind.local),(PySem.Str.ofString "more",PySem.NameKind.local)],isGenerator:=false,isCoroutine:=false,more:=[]:PySem.Scope }
theorem Qn3:QC ["each","more"] [none,none] Qmo (Qa Qbx) ["one","other"]:=⟨rfl,dk,dk,rfl,dk,dk⟩
theorem Qgn:(Qh Qmo (Qa Qbx)).names.lookup ("more":Str)=some NameKind.local:=dk
theorem Qgt:(Qh Qmo (Qa Qbx)).names.lookup ("each":Str)=some NameKind.local:=dk
def QuO:SD->Out D:=(e2 dAdd (eVar 0) (eVar 1))
def Qnh:SD->Out Fl:=(sRetF (eComp [none,none] (itZ (eVar 0) (eVar 1)) (gT [0,1]) cTrue QuO))
def Qeb:List D->Out D:=bodyF true 2 2 Qnh
theorem QK1(d0 d1:D):Qeb [d0,d1]=(Qnh ‹"G"›>>=retF true):=rfl
theorem QKV(F:FunV K "sums_of" "sums_of" Qbx f fd dV)(z_zip:mg "zip"=none):FnOk P w K mg base CX0 1 f fd ["one","other"] (SpD K CT true Qeb):=
 @fnV P w K mg base CT true "sums_of" "sums_of" Qbx f fd dV ["one","other"] ["one","other"] 0 Qnh F QIT fun cdv A outer s H E G hr=>
  (Qi (Qcu (QV rfl Qn3 (DI.b (QD8 QAB z_zip (Qb 0 rfl (oi QBo)) (Qb 1 rfl (oi Qw5)))) (fun ς=>QuV (fun i hi=>Qt (by revert hi;revert i;decide) ς)) (Qhe _) (fun fp s H G p=>⟨(Qmj rfl (Qai (i:=0) Qn3.nd rfl (oi Qgt) (Qai (i:=1) Qn3.nd rfl (oi Qgn) Qe1 (hf:=Or.inr Qgn)) (hf:=Or.inr Qgt))),QM,(QaE (DE.db (Qb 0 rfl (oi Qgt))) (DE.db (Qb 1 rfl (oi Qgn))))⟩))))
abbrev Qao:Stmt:=top 20
theorem Qh1:Qr ["rows","sums","row"] ["rows"] (Qa Qao):=⟨rfl,rfl,rfl,dk,rfl,dk,dk⟩
theorem Qik:Lo Qao "rows":=dk
abbrev QkJ:PySem.Scope:={ kind:=PySem.ScopeKind.function,names:=[(PySem.Str.ofString ".0",PySem.NameKind.local),(PySem.Str.ofString "each",PySem.NameKind.local)],isGenerator:=false,isCoroutine:=false,more:=[]:PySem.Scope }
theorem QlW:QC ["each"] [none] QkJ (Qa Qao) ["rows","sums","row"]:=⟨rfl,dk,dk,rfl,dk,dk⟩
theorem QgH:(Qh QkJ (Qa Qao)).names.lookup ("each":Str)=some NameKind.local:=dk
def Qg5:SD->Out D:=(eC (.int 0))
theorem Qc6:Lo Qao "sums":=dk
theorem Qju:Lo Qao "row":=dk
theorem Qoe:Gl Qao "sums_of":=dk
def Qc1:SD->Out Fl:=(Qcb 1 (eA (fun xs=>Qeb (xs++[])) (aCons (eIxO 1 ‹"aD"›) (aCons (eVar 2) aNil))))
def Qge:SD->Out Fl:=(sSeq (sSetO 1 (eLst (aCons (eComp [none] (itL ‹"I"›) (gN 0) cTrue Qg5) aNil))) (sSeq (sFor (gN 2) (itL (eVar 0)) Qc1) (sRetO 1)))
def Qa8:List D->Out D:=bodyF true 1 3 Qge
theorem QyR(d0:D):Qa8 [d0]=(Qge [some (.k,d0),none,none]>>=retF true):=rfl
theorem QyU(F:FunV K "running_sums" "running_sums" Qao f fd dV)(QKP:DefOk P w K mg base CT "sums_of" 1 true [] Qeb):FnOk P w K mg base CX0 2 f fd ["rows"] (SpD K CT true Qa8):=
 @fnV P w K mg base CT true "running_sums" "running_sums" Qao f fd dV ["rows","sums","row"] ["rows"] 1 Qge F Qh1 fun cdv A outer s H E G hr=>
  (Qf (QbY (i:=1) Qh1.nd rfl (oi Qc6) (Qap (Qc (DF.de (QV rfl QlW (DI.b (Qan (de_ix (Qb 0 rfl (oi Qik)) (DE.db Qd)))) ‹"g"› (Qw _) (fun fp s H G p=>⟨(QA (i:=0) QlW.nd rfl (oi QgH) (hf:=Or.inr QgH)),QM,Qd⟩))) Qj))) (Qf (QcS PassesOwn.never rfl (Qan (Qb 0 rfl (oi Qik))) (QA (i:=2) Qh1.nd rfl (oi Qju)) (Qw _) (Qi (QcM 1 (de_f QKP (hr.mono (by decide)) (Qc (QPu 1 (DE.db (Qmd (DE.db Qd))) rfl (oi Qc6)) (Qc (Qb 2 rfl (oi Qju)) Qj)) Qoe) rfl (oi Qc6)))) (Qi (Qo2 1 rfl (oi Qc6)))))
abbrev QU:Stmt:=inCls (top 21) 1
theorem QsL:Qr ["self","rows"] ["self","rows"] (Qa QU):=⟨rfl,rfl,rfl,dk,rfl,dk,dk⟩
theorem QgB:Lo QU "rows":=dk
abbrev Qej:PySem.Scope:={ kind:=PySem.ScopeKind.function,names:=[ (PySem.Str.ofString ".0",PySem.NameKind.local),(PySem.Str.ofString "row",PySem.NameKind.local),(PySem.Str.ofString "list",PySem.NameKind.globalImplicit)],isGenerator:=false,isCoroutine:=false,more:=[]:PySem.Scope }
theorem Qil:QC ["row"] [none] Qej (Qa QU) ["self","rows"]:=⟨rfl,dk,dk,rfl,dk,dk⟩
theorem Qc3:(Qh Qej (Qa QU)).names.lookup ("row":Str)=some NameKind.local:=dk
theorem Qk8:(Qh Qej (Qa QU)).names.lookup ("list":Str)=some NameKind.globalImplicit:=dk
def Qe8:SD->Out D:=(e1 dList (eVar 0))
theorem QgE:Lo QU "self":=dk
theorem Qh8:Gl QU "running_sums":=dk
def QdQ:SD->Out Fl:=(sSeq (fun ς=>noX (sFldS Qm "table" 0 (eComp [none] (itL (eVar 1)) (gN 0) cTrue Qe8) ς)) (fun ς=>noX (sFldS Qm "heads" 0 (eA (fun xs=>Qa8 (xs++[])) ‹"U"›) ς)))
def QP:Str->List (Str×D)->List D->Out (List (Str×D)):=bodyI 2 2 QdQ
theorem Qt1(c:Str)(fds:List (Str×D))(d1:D):QP c fds [d1]=(QdQ [some (.s,.ins c fds),some (.k,d1)]>>=QfA c):=rfl
theorem Qt3(F:FunV K "keep_rows" "Clerk.keep_rows" QU f fd dV)(QxP:DefOk P w K mg base CT "running_sums" 2 true [] Qa8)(z_list:mg "list"=none)(fo_table:FldOk K CT Qm "table")(fo_heads:FldOk K CT Qm "heads"):FnOk P w K mg base (CXR P w) 3 f fd ["self","rows"] (SpI K CT QP):=
 @fnI P w K mg base CT "keep_rows" "Clerk.keep_rows" QU f fd dV ["self","rows"] ["self","rows"] 2 QdQ F QsL fun cdv A outer s H E G p hr=>
  (Qf (DS.lift (Qhq 0 fo_table (DF.de (QV rfl Qil (DI.b (Qan (Qb 1 rfl (oi QgB)))) ‹"g"› (Qw _) (fun fp s H G p=>⟨(QA (i:=0) Qil.nd rfl (oi Qc3) (hf:=Or.inr Qc3)),QM,(DF.de (Qea Qk8 z_list (Qb 0 rfl (oi Qc3))))⟩))) rfl (oi QgE))) (Qi (DS.lift (Qhq 0 fo_heads (de_f QxP (hr.mono (by decide)) (Qc (Qb 1 rfl (oi QgB)) Qj) Qh8) rfl (oi QgE)))))
abbrev QaU:Stmt:=top 27
theorem QLN:Qr ["thing"] ["thing"] (Qa QaU):=⟨rfl,rfl,rfl,dk,rfl,dk,dk⟩
theorem Qis:Lo QaU "thing":=dk
theorem QBh:Gl QaU "list":=dk
theorem QrA:Gl QaU "isinstance":=dk
theorem QCv:Gl QaU "len":=dk
theorem Qs3:Gl QaU "MOST_OUTS":=dk
abbrev Qjh:PySem.Scope:={ kind:=PySem.ScopeKind.function,names:=[ (PySem.Str.ofString ".0",PySem.NameKind.local),(PySem.Str.ofString "count",PySem.NameKind.local),(PySem.Str.ofString "is_within",PySem.NameKind.globalImplicit),(PySem.Str.ofString "MOST_SENT",PySem.NameKind.globalImplicit)],isGenerator:=false,isCoroutine:=false,more:=[]:PySem.Scope }
theorem Qxm:QC ["count"] [none] Qjh (Qa QaU) ["thing"]:=⟨rfl,dk,dk,rfl,dk,dk⟩
theorem Qgu:(Qh Qjh (Qa QaU)).names.lookup ("count":Str)=some NameKind.local:=dk
theorem Qpe:(Qh Qjh (Qa QaU)).names.lookup ("MOST_SENT":Str)=some NameKind.globalImplicit:=dk
theorem Qpy:(Qh Qjh (Qa QaU)).names.lookup ("is_within":Str)=some NameKind.globalImplicit:=dk
def QqG:SD->Out D:=(eA (fun xs=>QaN (xs++[])) (aCons (eVar 0) (aCons (eC (.int 0)) (aCons (eC (.int 9)) aNil))))
theorem QCt:Gl QaU "all":=dk
def QpE:SD->Out Fl:=(sSeq (sIf (tOr' (tNot' (tVal (eIsa (isaT "list") (eVar 0)))) (tVal (e2 dGt ‹"N"› (eC (.int 6))))) ‹"aC"› sNil) (sRet (eA (f1 fAll) (aCons (eComp [none] (itL (eVar 0)) (gN 0) cTrue QqG) aNil))))
def Qep:List D->Out D:=bodyF false 1 1 QpE
theorem QM8(d0:D):Qep [d0]=(QpE [some (.k,d0)]>>=retF false):=rfl
theorem QNr{u_MOST_OUTS:Value}{u_MOST_SENT:Value}(F:FunV K "is_row" "is_row" QaU f fd dV)(QdA:‹"aS"›)(z_isinstance:mg "isinstance"=none)(z_list:mg "list"=none)(z_len:mg "len"=none)(z_all:mg "all"=none)(c_MOST_OUTS:mg "MOST_OUTS"=some u_MOST_OUTS)(r_MOST_OUTS:RelV (toV (.int 6)) u_MOST_OUTS)(c_MOST_SENT:mg "MOST_SENT"=some u_MOST_SENT)(r_MOST_SENT:RelV (toV (.int 9)) u_MOST_SENT):FnOk P w K mg base CX0 3 f fd ["thing"] (SpD K CT false Qep):=
 @fnV P w K mg base CT false "is_row" "is_row" QaU f fd dV ["thing"] ["thing"] 2 QpE F QLN fun cdv A outer s H E G hr=>
  (Qf (ds_if (DW.dt (dw_or (QaX (Qbf (Qe0 "list" QpP QBh z_list PyProof.Rows.Boot.«list» QrA z_isinstance (DE.db (Qb 0 rfl (oi Qis)))))) (Qft (dt_gt (DE.db (Q3 QCv z_len (Qu (DE.db (Qb 0 rfl (oi Qis))) Qz))) (DE.db (Qe5 (d:=(.int 6)) Qs3 c_MOST_OUTS rfl r_MOST_OUTS)))))) (Qi (QI de_bl)) Q1) (Qi (QI (QjA rfl QCt z_all (Qu (DE.db (DF.de (QV rfl Qxm (DI.b (Qan (Qb 0 rfl (oi Qis)))) ‹"g"› (Qw _) (fun fp s H G p=>⟨(QA (i:=0) Qxm.nd rfl (oi Qgu) (hf:=Or.inr Qgu)),QM,(de_f QdA (hr.mono (by decide)) (Qc (Qb 0 rfl (oi Qgu)) (Qc Qd (Qc (Qe5 (d:=(.int 9)) Qpe c_MOST_SENT rfl r_MOST_SENT) Qj))) Qpy)⟩)))) Qz)))))
abbrev Q8:Stmt:=top 28
theorem QFR:Qr ["thing"] ["thing"] (Qa Q8):=⟨rfl,rfl,rfl,dk,rfl,dk,dk⟩
theorem Qeq:(Qa Q8).names.lookup ("thing":Str)=some NameKind.cell:=dk
theorem Qxa:Gl Q8 "list":=dk
theorem QpA:Gl Q8 "isinstance":=dk
theorem QyO:Gl Q8 "len":=dk
theorem Qqq:Gl Q8 "MOST_ROWS":=dk
abbrev QjP:PySem.Scope:={ kind:=PySem.ScopeKind.function,names:=[ (PySem.Str.ofString ".0",PySem.NameKind.local),(PySem.Str.ofString "row",PySem.NameKind.local),(PySem.Str.ofString "is_row",PySem.NameKind.globalImplicit)],isGenerator:=false,isCoroutine:=false,more:=[]:PySem.Scope }
theorem Qte:QC ["row"] [none] QjP (Qa Q8) ["thing"]:=⟨rfl,dk,dk,rfl,dk,dk⟩
theorem Qgm:(Qh QjP (Qa Q8)).names.lookup ("row":Str)=some NameKind.local:=dk
theorem Qp1:(Qh QjP (Qa Q8)).names.lookup ("is_row":Str)=some NameKind.globalImplicit:=dk
def Qma:SD->Out D:=(eA (fun xs=>Qep (xs++[])) (aCons (eVar 0) aNil))
theorem QoS:Gl Q8 "all":=dk
abbrev QgL:PySem.Scope:={ kind:=PySem.ScopeKind.function,names:=[ (PySem.Str.ofString ".0",PySem.NameKind.local),(PySem.Str.ofString "row",PySem.NameKind.local),(PySem.Str.ofString "len",PySem.NameKind.globalImplicit),(PySem.Str.ofString "thing",PySem.NameKind.free)],isGenerator:=false,isCoroutine:=false,more:=[]:PySem.Scope }
theorem QsD:QC ["row","thing"] [none,some 0] QgL (Qa Q8) ["thing"]:=⟨rfl,dk,dk,rfl,dk,dk⟩
theorem Qgq:(Qh QgL (Qa Q8)).names.lookup ("row":Str)=some NameKind.local:=dk
theorem QkG:(Qh QgL (Qa Q8)).names.lookup ("len":Str)=some NameKind.globalImplicit:=dk
theorem QrQ:(Qh QgL (Qa Q8)).names.lookup ("thing":Str)=some NameKind.cell:=dk
def Qmg:SD->Out D:=(e2 dEq ‹"N"› (eA fLen (aCons (e2 dIx (eVar 1) (eC (.int 0))) aNil)))
def Qk0:SD->Out Fl:=(sSeq (sIf (tOr' (tNot' (tVal (eIsa (isaT "list") (eVar 0)))) (tNot' (tVal (Qdq dLe dLe (eC (.int 1)) ‹"N"› (eC (.int 12)))))) ‹"aC"› sNil) (sSeq (sIf (tNot' (tVal (eA (f1 fAll) (aCons (eComp [none] (itL (eVar 0)) (gN 0) cTrue Qma) aNil)))) ‹"aC"› sNil) (sRet (eA (f1 fAll) (aCons (eComp [none,some 0] (itL (eVar 0)) (gN 0) cTrue Qmg) aNil)))))
def QeL:List D->Out D:=bodyF false 1 1 Qk0
theorem QIC(d0:D):QeL [d0]=(Qk0 [some (.k,d0)]>>=retF false):=rfl
theorem QIq{u_MOST_ROWS:Value}(F:FunV K "is_table" "is_table" Q8 f fd dV)(QuQ:DefOk P w K mg base CT "is_row" 3 false [] Qep)(z_isinstance:mg "isinstance"=none)(z_list:mg "list"=none)(z_len:mg "len"=none)(z_all:mg "all"=none)(c_MOST_ROWS:mg "MOST_ROWS"=some u_MOST_ROWS)(r_MOST_ROWS:RelV (toV (.int 12)) u_MOST_ROWS):FnOk P w K mg base CX0 4 f fd ["thing"] (SpD K CT false QeL):=
 @fnV P w K mg base CT false "is_table" "is_table" Q8 f fd dV ["thing"] ["thing"] 3 Qk0 F QFR fun cdv A outer s H E G hr=>
  (Qf (ds_if (DW.dt (dw_or (QaX (Qbf (Qe0 "list" QpP Qxa z_list PyProof.Rows.Boot.«list» QpA z_isinstance (DE.db (Qb 0 rfl (Or.inr (oi Qeq))))))) (Qft (QaX (QDM op_le QcO (Qb8 fun _ _=>rfl) op_le QcO (Qb8 fun _ _=>rfl) (DE.db Qd) (DE.db (Q3 QyO z_len (Qu (DE.db (Qb 0 rfl (Or.inr (oi Qeq)))) Qz))) (DE.db (Qe5 (d:=(.int 12)) Qqq c_MOST_ROWS rfl r_MOST_ROWS))))))) (Qi (QI de_bl)) Q1) (Qf (ds_if (QaX (Qbf (QjA rfl QoS z_all (Qu (DE.db (DF.de (QV rfl Qte (DI.b (Qan (Qb 0 rfl (Or.inr (oi Qeq))))) ‹"g"› (Qw _) (fun fp s H G p=>⟨(QA (i:=0) Qte.nd rfl (oi Qgm) (hf:=Or.inr Qgm)),QM,(de_f QuQ (hr.mono (by decide)) (Qc (Qb 0 rfl (oi Qgm)) Qj) Qp1)⟩)))) Qz)))) (Qi (QI de_bl)) Q1) (Qi (QI (QjA rfl QoS z_all (Qu (DE.db (DF.de (QV rfl QsD (DI.b (Qan (Qb 0 rfl (Or.inr (oi Qeq))))) ‹"g"› (Qw _) (fun fp s H G p=>⟨(QA (i:=0) QsD.nd rfl (oi Qgq) (hf:=Or.inr Qgq)),QM,(de_eq hr.units (DE.db (Q3 QkG z_len (Qu (DE.db (Qb 0 rfl (oi Qgq))) Qz))) (DE.db (Q3 QkG z_len (Qu (DE.db (de_ix (Qb 1 rfl (Or.inr (oi QrQ))) (DE.db Qd))) Qz))))⟩)))) Qz))))))
abbrev QbP:Stmt:=inCls (top 25) 0
theorem QDG:Qr ["self","rows"] ["self","rows"] (Qa QbP):=⟨rfl,rfl,rfl,dk,rfl,dk,dk⟩
theorem Qmf:Lo QbP "rows":=dk
theorem QqD:Gl QbP "is_table":=dk
theorem QvD:Lo QbP "self":=dk
def Qjl:SD->Out Fl:=(sSeq (fun ς=>noX ((sIf (tNot' (tVal (eA (fun xs=>QeL (xs++[])) ‹"U"›))) QhD sNil) ς)) (Qjq Qg "keep_rows" QP 0 (fun ς=>noX (‹"U"› ς))))
def QdG:Str->List (Str×D)->List D->Out (List (Str×D)):=bodyI 2 2 Qjl
theorem QFl(c:Str)(fds:List (Str×D))(d1:D):QdG c fds [d1]=(Qjl [some (.s,.ins c fds),some (.k,d1)]>>=QfA c):=rfl
theorem QFP(F:FunV K "__init__" "Rows.__init__" QbP f fd dV)(QId:DefOk P w K mg base CT "is_table" 4 false [] QeL)(ms_keep_rows:‹"ad"›):FnOk P w K mg base (CXR P w) 5 f fd ["self","rows"] (SpI K CT QdG):=
 @fnI P w K mg base CT "__init__" "Rows.__init__" QbP f fd dV ["self","rows"] ["self","rows"] 4 Qjl F QDG fun cdv A outer s H E G p hr=>
  (Qf (DS.lift (ds_if (QaX (Qbf (de_f QId (hr.mono (by decide)) (Qc (Qb 1 rfl (oi Qmf)) Qj) QqD))) (Qi QfH) Q1)) (Qi (Qra 0 Qv0 ms_keep_rows (hr.mono (by decide)) (DA.lift (Qc (Qb 1 rfl (oi Qmf)) Qj)) rfl (oi QvD))))
abbrev QaM:Stmt:=top 26
theorem QAV:Qr ["many","place"] ["many","place"] (Qa QaM):=⟨rfl,rfl,rfl,dk,rfl,dk,dk⟩
theorem Quh:Lo QaM "many":=dk
theorem Qr7:Gl QaM "range":=dk
abbrev QhW:PySem.Scope:={ kind:=PySem.ScopeKind.function,names:=[ (PySem.Str.ofString ".0",PySem.NameKind.local),(PySem.Str.ofString "out",PySem.NameKind.local),(PySem.Str.ofString "place",PySem.NameKind.free)],isGenerator:=false,isCoroutine:=false,more:=[]:PySem.Scope }
theorem Qo6:QC ["out","place"] [none,some 1] QhW (Qa QaM) ["many","place"]:=⟨rfl,dk,dk,rfl,dk,dk⟩
theorem Qff:(Qh QhW (Qa QaM)).names.lookup ("out":Str)=some NameKind.local:=dk
theorem QoN:(Qh QhW (Qa QaM)).names.lookup ("place":Str)=some NameKind.cell:=dk
def QiH:SD->Out D:=(eIf (tVal (e2 dEq (eVar 0) (eVar 1))) (eC (.int 1)) (eC (.int 0)))
def QhI:SD->Out Fl:=(sRetF (eComp [none,some 1] (itR1 (eVar 0)) (gN 0) cTrue QiH))
def QcU:List D->Out D:=bodyF true 2 2 QhI
theorem QEy(d0 d1:D):QcU [d0,d1]=(QhI ‹"G"›>>=retF true):=rfl
theorem QDa(F:FunV K "single_row" "single_row" QaM f fd dV)(z_range:mg "range"=none):FnOk P w K mg base CX0 1 f fd ["many","place"] (SpD K CT true QcU):=
 @fnV P w K mg base CT true "single_row" "single_row" QaM f fd dV ["many","place"] ["many","place"] 0 QhI F QAV fun cdv A outer s H E G hr=>
  (Qi (Qcu (QV rfl Qo6 (DI.b (QaA Qr7 z_range (DE.db (Qb 0 rfl (oi Quh))))) ‹"g"› (Qw _) (fun fp s H G p=>⟨(QA (i:=0) Qo6.nd rfl (oi Qff) (hf:=Or.inr Qff)),QM,(de_if (dt_eq hr.units (DE.db (Qb 0 rfl (oi Qff))) (DE.db (Qb 1 rfl (Or.inr (oi QoN))))) Qd Qd)⟩))))
abbrev Qaw:Stmt:=inCls (top 22) 0
theorem QDb:Qr ["self","many"] ["self","many"] (Qa Qaw):=⟨rfl,rfl,rfl,dk,rfl,dk,dk⟩
theorem QlJ:(Qa Qaw).names.lookup ("many":Str)=some NameKind.cell:=dk
theorem Qo5:Gl Qaw "MOST_OUTS":=dk
theorem QpB:Gl Qaw "is_within":=dk
theorem Que:Gl Qaw "range":=dk
abbrev Qf1:PySem.Scope:={ kind:=PySem.ScopeKind.function,names:=[ (PySem.Str.ofString ".0",PySem.NameKind.local),(PySem.Str.ofString "state",PySem.NameKind.local),(PySem.Str.ofString "single_row",PySem.NameKind.globalImplicit),(PySem.Str.ofString "many",PySem.NameKind.free)],isGenerator:=false,isCoroutine:=false,more:=[]:PySem.Scope }
theorem Qrh:QC ["state","many"] [none,some 1] Qf1 (Qa Qaw) ["self","many"]:=⟨rfl,dk,dk,rfl,dk,dk⟩
theorem QeP:(Qh Qf1 (Qa Qaw)).names.lookup ("state":Str)=some NameKind.local:=dk
theorem QrS:(Qh Qf1 (Qa Qaw)).names.lookup ("many":Str)=some NameKind.cell:=dk
theorem QkT:(Qh Qf1 (Qa Qaw)).names.lookup ("single_row":Str)=some NameKind.globalImplicit:=dk
def Qky:SD->Out D:=(eA (fun xs=>QcU (xs++[])) (aCons (eVar 1) (aCons (eVar 0) aNil)))
theorem Qvn:Lo Qaw "self":=dk
def Qji:SD->Out Fl:=(sSeq (fun ς=>noX ((sIf (tNot' (tVal (eA (fun xs=>QaN (xs++[])) (aCons (eVar 1) (aCons (eC (.int 1)) (aCons (eC (.int 6)) aNil)))))) QhD sNil) ς)) (Qjq Qg "keep_rows" QP 0 (fun ς=>noX ((aCons (eComp [none,some 1] (itR1 (eVar 1)) (gN 0) cTrue Qky) aNil) ς))))
def QdE:Str->List (Str×D)->List D->Out (List (Str×D)):=bodyI 2 2 Qji
theorem QFh(c:Str)(fds:List (Str×D))(d1:D):QdE c fds [d1]=(Qji [some (.s,.ins c fds),some (.k,d1)]>>=QfA c):=rfl
theorem QGY{u_MOST_OUTS:Value}(F:FunV K "__init__" "Deal.__init__" Qaw f fd dV)(QdA:‹"aS"›)(QD7:DefOk P w K mg base CT "single_row" 1 true [] QcU)(z_range:mg "range"=none)(c_MOST_OUTS:mg "MOST_OUTS"=some u_MOST_OUTS)(r_MOST_OUTS:RelV (toV (.int 6)) u_MOST_OUTS)(ms_keep_rows:‹"ad"›):FnOk P w K mg base (CXR P w) 4 f fd ["self","many"] (SpI K CT QdE):=
 @fnI P w K mg base CT "__init__" "Deal.__init__" Qaw f fd dV ["self","many"] ["self","many"] 3 Qji F QDb fun cdv A outer s H E G p hr=>
  (Qf (DS.lift (ds_if (QaX (Qbf (de_f QdA (hr.mono (by decide)) (Qc (Qb 1 rfl (Or.inr (oi QlJ))) (Qc Qd (Qc (Qe5 (d:=(.int 6)) Qo5 c_MOST_OUTS rfl r_MOST_OUTS) Qj))) QpB))) (Qi QfH) Q1)) (Qi (Qra 0 Qv0 ms_keep_rows (hr.mono (by decide)) (DA.lift (Qc (DF.de (QV rfl Qrh (DI.b (QaA Que z_range (DE.db (Qb 1 rfl (Or.inr (oi QlJ)))))) ‹"g"› (Qw _) (fun fp s H G p=>⟨(QA (i:=0) Qrh.nd rfl (oi QeP) (hf:=Or.inr QeP)),QM,(de_f QD7 (hr.mono (by decide)) (Qc (Qb 1 rfl (Or.inr (oi QrS))) (Qc (Qb 0 rfl (oi QeP)) Qj)) QkT)⟩))) Qj)) rfl (oi Qvn))))
abbrev Qae:Stmt:=inCls (top 23) 0
theorem Qzh:Qr ["self","size"] ["self","size"] (Qa Qae):=⟨rfl,rfl,rfl,dk,rfl,dk,dk⟩
theorem QjD:(Qa Qae).names.lookup ("size":Str)=some NameKind.cell:=dk
theorem QmA:Gl Qae "MOST_ROWS":=dk
theorem QmC:Gl Qae "is_within":=dk
theorem QrP:Gl Qae "range":=dk
abbrev Qg3:PySem.Scope:={ kind:=PySem.ScopeKind.function,names:=[ (PySem.Str.ofString ".0",PySem.NameKind.local),(PySem.Str.ofString "state",PySem.NameKind.local),(PySem.Str.ofString "size",PySem.NameKind.free)],isGenerator:=false,isCoroutine:=false,more:=[]:PySem.Scope }
theorem Qnb:QC ["state","size"] [none,some 1] Qg3 (Qa Qae) ["self","size"]:=⟨rfl,dk,dk,rfl,dk,dk⟩
theorem QdK:(Qh Qg3 (Qa Qae)).names.lookup ("state":Str)=some NameKind.local:=dk
theorem Qpz:(Qh Qg3 (Qa Qae)).names.lookup ("size":Str)=some NameKind.cell:=dk
def QhE:SD->Out D:=(eLst (aCons (eIf (tVal (e2 dEq (eVar 0) (e2 dSub (eVar 1) (eC (.int 1))))) (eC (.int 1)) (eC (.int 0))) aNil))
theorem Qss:Lo Qae "self":=dk
def QgQ:SD->Out Fl:=(sSeq (fun ς=>noX ((sIf (tNot' (tVal (eA (fun xs=>QaN (xs++[])) (aCons (eVar 1) (aCons (eC (.int 1)) (aCons (eC (.int 12)) aNil)))))) QhD sNil) ς)) (Qjq Qg "keep_rows" QP 0 (fun ς=>noX ((aCons (eComp [none,some 1] (itR1 (eVar 1)) (gN 0) cTrue QhE) aNil) ς))))
def Qcy:Str->List (Str×D)->List D->Out (List (Str×D)):=bodyI 2 2 QgQ
theorem QBj(c:Str)(fds:List (Str×D))(d1:D):Qcy c fds [d1]=(QgQ [some (.s,.ins c fds),some (.k,d1)]>>=QfA c):=rfl
theorem QAu{u_MOST_ROWS:Value}(F:FunV K "__init__" "Bundle.__init__" Qae f fd dV)(QdA:‹"aS"›)(z_range:mg "range"=none)(c_MOST_ROWS:mg "MOST_ROWS"=some u_MOST_ROWS)(r_MOST_ROWS:RelV (toV (.int 12)) u_MOST_ROWS)(ms_keep_rows:‹"ad"›):FnOk P w K mg base (CXR P w) 4 f fd ["self","size"] (SpI K CT Qcy):=
 @fnI P w K mg base CT "__init__" "Bundle.__init__" Qae f fd dV ["self","size"] ["self","size"] 3 QgQ F Qzh fun cdv A outer s H E G p hr=>
  (Qf (DS.lift (ds_if (QaX (Qbf (de_f QdA (hr.mono (by decide)) (Qc (Qb 1 rfl (Or.inr (oi QjD))) (Qc Qd (Qc (Qe5 (d:=(.int 12)) QmA c_MOST_ROWS rfl r_MOST_ROWS) Qj))) QmC))) (Qi QfH) Q1)) (Qi (Qra 0 Qv0 ms_keep_rows (hr.mono (by decide)) (DA.lift (Qc (DF.de (QV rfl Qnb (DI.b (QaA QrP z_range (DE.db (Qb 1 rfl (Or.inr (oi QjD)))))) ‹"g"› (Qw _) (fun fp s H G p=>⟨(QA (i:=0) Qnb.nd rfl (oi QdK) (hf:=Or.inr QdK)),QM,(DF.de (Qap (Qc (de_if (dt_eq hr.units (DE.db (Qb 0 rfl (oi QdK))) (DE.db (Qdl (DE.db (Qb 1 rfl (Or.inr (oi Qpz)))) (DE.db Qd)))) Qd Qd) Qj)))⟩))) Qj)) rfl (oi Qss))))
abbrev QbN:Stmt:=inCls (top 24) 0
theorem QCy:Qr ["self","counts"] ["self","counts"] (Qa QbN):=⟨rfl,rfl,rfl,dk,rfl,dk,dk⟩
theorem Qjn:Lo QbN "counts":=dk
theorem Qtt:Gl QbN "is_row":=dk
theorem QuT:Lo QbN "self":=dk
def QiZ:SD->Out Fl:=(sSeq (fun ς=>noX ((sIf (tNot' (tVal (eA (fun xs=>Qep (xs++[])) ‹"U"›))) QhD sNil) ς)) (Qjq Qg "keep_rows" QP 0 (fun ς=>noX ((aCons (eLst ‹"U"›) aNil) ς))))
def QdJ:Str->List (Str×D)->List D->Out (List (Str×D)):=bodyI 2 2 QiZ
theorem QF7(c:Str)(fds:List (Str×D))(d1:D):QdJ c fds [d1]=(QiZ [some (.s,.ins c fds),some (.k,d1)]>>=QfA c):=rfl
theorem QGd(F:FunV K "__init__" "Copy.__init__" QbN f fd dV)(QuQ:DefOk P w K mg base CT "is_row" 3 false [] Qep)(ms_keep_rows:‹"ad"›):FnOk P w K mg base (CXR P w) 4 f fd ["self","counts"] (SpI K CT QdJ):=
 @fnI P w K mg base CT "__init__" "Copy.__init__" QbN f fd dV ["self","counts"] ["self","counts"] 3 QiZ F QCy fun cdv A outer s H E G p hr=>
  (Qf (DS.lift (ds_if (QaX (Qbf (de_f QuQ (hr.mono (by decide)) (Qc (Qb 1 rfl (oi Qjn)) Qj) Qtt))) (Qi QfH) Q1)) (Qi (Qra 0 Qv0 ms_keep_rows (hr.mono (by decide)) (DA.lift (Qc (DF.de (Qap (Qc (Qb 1 rfl (oi Qjn)) Qj))) Qj)) rfl (oi QuT))))
abbrev Qac:Stmt:=top 58
theorem QDx:Qr ["_law_kind","_law_rows_here"] ["_law_kind","_law_rows_here"] (Qa Qac):=⟨rfl,rfl,rfl,dk,rfl,dk,dk⟩
theorem Qd8:Lo Qac "_law_kind":=dk
theorem Qbq:Lo Qac "_law_rows_here":=dk
theorem QmV:Gl Qac "len":=dk
theorem QuX:Gl Qac "Deal":=dk
theorem Qs6:Gl Qac "Bundle":=dk
theorem QvV:Gl Qac "list":=dk
theorem QvA:Gl Qac "Copy":=dk
abbrev QiL:PySem.Scope:={ kind:=PySem.ScopeKind.function,names:=[ (PySem.Str.ofString ".0",PySem.NameKind.local),(PySem.Str.ofString "_law_row",PySem.NameKind.local),(PySem.Str.ofString "list",PySem.NameKind.globalImplicit)],isGenerator:=false,isCoroutine:=false,more:=[]:PySem.Scope }
theorem Qri:QC ["_law_row"] [none] QiL (Qa Qac) ["_law_kind","_law_rows_here"]:=⟨rfl,dk,dk,rfl,dk,dk⟩
theorem Qda:(Qh QiL (Qa Qac)).names.lookup ("_law_row":Str)=some NameKind.local:=dk
theorem QrO:(Qh QiL (Qa Qac)).names.lookup ("list":Str)=some NameKind.globalImplicit:=dk
def Qrj:SD->Out D:=(e1 dList (eVar 0))
theorem QvO:Gl Qac "Rows":=dk
def QdF:SD->Out Fl:=(sSeq (sIf (tVal (e2 dEq (eVar 0) (eC (.int 0)))) (sRetF (eMake "Deal" QdE (aCons (eA fLen ‹"U"›) aNil))) sNil) (sSeq (sIf (tVal (e2 dEq (eVar 0) (eC (.int 1)))) (sRetF (eMake "Bundle" Qcy (aCons (eA fLen ‹"U"›) aNil))) sNil) (sSeq (sIf (tVal (e2 dEq (eVar 0) (eC (.int 2)))) (sRetF (eMake "Copy" QdJ (aCons (e1 dList (e2 dIx (eVar 1) (eC (.int 0)))) aNil))) sNil) (sRetF (eMake "Rows" QdG (aCons (eComp [none] (itL (eVar 1)) (gN 0) cTrue Qrj) aNil))))))
def Qch:List D->Out D:=bodyF true 2 2 QdF
theorem Qi5(d0 d1:D):Qch [d0,d1]=(QdF ‹"G"›>>=retF true):=rfl
theorem QFp(F:FunV K "_law_clerk" "_law_clerk" Qac f fd dV)(z_len:mg "len"=none)(z_list:mg "list"=none)(QyF:MkOk P w K mg base CT "Deal" 4 QdE)(Qsv:MkOk P w K mg base CT "Bundle" 4 Qcy)(Qzf:MkOk P w K mg base CT "Copy" 4 QdJ)(Qyv:MkOk P w K mg base CT "Rows" 5 QdG):FnOk P w K mg base CX0 7 f fd ["_law_kind","_law_rows_here"] (SpD K CT true Qch):=
 @fnV P w K mg base CT true "_law_clerk" "_law_clerk" Qac f fd dV ["_law_kind","_law_rows_here"] ["_law_kind","_law_rows_here"] 6 QdF F QDx fun cdv A outer s H E G hr=>
  (Qf (ds_if (dt_eq hr.units (DE.db (Qb 0 rfl (oi Qd8))) (DE.db Qd)) (Qi (Qcu (Qo0 rz0 QyF (hr.mono (by decide)) (Qc (Q3 QmV z_len (Qu (DE.db (Qb 1 rfl (oi Qbq))) Qz)) Qj) QuX))) Q1) (Qf (ds_if (dt_eq hr.units (DE.db (Qb 0 rfl (oi Qd8))) (DE.db Qd)) (Qi (Qcu (Qo0 rz0 Qsv (hr.mono (by decide)) (Qc (Q3 QmV z_len (Qu (DE.db (Qb 1 rfl (oi Qbq))) Qz)) Qj) Qs6))) Q1) (Qf (ds_if (dt_eq hr.units (DE.db (Qb 0 rfl (oi Qd8))) (DE.db Qd)) (Qi (Qcu (Qo0 rz0 Qzf (hr.mono (by decide)) (Qc (DF.de (Qea QvV z_list (de_ix (Qb 1 rfl (oi Qbq)) (DE.db Qd)))) Qj) QvA))) Q1) (Qi (Qcu (Qo0 rz0 Qyv (hr.mono (by decide)) (Qc (DF.de (QV rfl Qri (DI.b (Qan (Qb 1 rfl (oi Qbq)))) ‹"g"› (Qw _) (fun fp s H G p=>⟨(QA (i:=0) Qri.nd rfl (oi Qda) (hf:=Or.inr Qda)),QM,(DF.de (Qea QrO z_list (Qb 0 rfl (oi Qda))))⟩))) Qj) QvO))))))
abbrev Qv:Stmt:=top 59
theorem Qa1:Qr ["_law_script","_law_plan_here","_law_doors","_law_first","_law_ends","_law_clerks","_law_kind","_law_rows_here","_law_leads","_law_state","_law_name","_law_names"] ["_law_script","_law_plan_here","_law_doors"] (Qa Qv):=⟨rfl,rfl,rfl,dk,rfl,dk,dk⟩
theorem Qlu:Lo Qv "_law_script":=dk
theorem Qoo:Gl Qv "_law_cell":=dk
theorem QlA:Gl Qv "_law_digits":=dk
theorem QmD:(Qa Qv).names.lookup ("_law_first":Str)=some NameKind.cell:=dk
theorem Qmy:Lo Qv "_law_doors":=dk
theorem Qr8:Gl Qv "range":=dk
abbrev Qfp:PySem.Scope:={ kind:=PySem.ScopeKind.function,names:=[ (PySem.Str.ofString ".0",PySem.NameKind.local),(PySem.Str.ofString "_law_d",PySem.NameKind.local),(PySem.Str.ofString "_law_named",PySem.NameKind.globalImplicit),(PySem.Str.ofString "_law_first",PySem.NameKind.free)],isGenerator:=false,isCoroutine:=false,more:=[]:PySem.Scope }
theorem Qpj:QC ["_law_d","_law_first"] [none,some 3] Qfp (Qa Qv) ["_law_script","_law_plan_here","_law_doors","_law_first","_law_ends","_law_clerks","_law_kind","_law_rows_here","_law_leads","_law_state","_law_name","_law_names"]:=⟨rfl,dk,dk,rfl,dk,dk⟩
theorem Qdv:(Qh Qfp (Qa Qv)).names.lookup ("_law_d":Str)=some NameKind.local:=dk
theorem QeU:(Qh Qfp (Qa Qv)).names.lookup ("_law_first":Str)=some NameKind.cell:=dk
theorem QjN:(Qh Qfp (Qa Qv)).names.lookup ("_law_named":Str)=some NameKind.globalImplicit:=dk
def QiC:SD->Out D:=(eA (fun xs=>QaO (xs++[])) (aCons (e2 dAdd (eC (.int 12)) (eVar 0)) (aCons (e2 dIx (eVar 1) (eC (.int 3))) (aCons (e2 dIx (eVar 1) (eC (.int 4))) aNil))))
theorem Qgw:(Qa Qv).names.lookup ("_law_ends":Str)=some NameKind.cell:=dk
theorem Qc0:Lo Qv "_law_clerks":=dk
theorem Qed:(Qa Qv).names.lookup ("_law_plan_here":Str)=some NameKind.cell:=dk
theorem QgK:Lo Qv "_law_name":=dk
theorem Qgg:Lo Qv "_law_state":=dk
theorem Qgh:Lo Qv "_law_leads":=dk
theorem Qeg:Lo Qv "_law_rows_here":=dk
theorem QgI:Lo Qv "_law_kind":=dk
abbrev Qfo:PySem.Scope:={ kind:=PySem.ScopeKind.function,names:=[ (PySem.Str.ofString ".0",PySem.NameKind.local),(PySem.Str.ofString "_law_to",PySem.NameKind.local),(PySem.Str.ofString "_law_ends",PySem.NameKind.free),(PySem.Str.ofString "_law_plan_here",PySem.NameKind.free)],isGenerator:=false,isCoroutine:=false,more:=[]:PySem.Scope }
theorem QoM:QC ["_law_to","_law_ends","_law_plan_here"] [none,some 4,some 1] Qfo (Qa Qv) ["_law_script","_law_plan_here","_law_doors","_law_first","_law_ends","_law_clerks","_law_kind","_law_rows_here","_law_leads","_law_state","_law_name","_law_names"]:=⟨rfl,dk,dk,rfl,dk,dk⟩
theorem Qbg:(Qh Qfo (Qa Qv)).names.lookup ("_law_to":Str)=some NameKind.local:=dk
theorem Qk9:(Qh Qfo (Qa Qv)).names.lookup ("_law_ends":Str)=some NameKind.cell:=dk
theorem QhS:(Qh Qfo (Qa Qv)).names.lookup ("_law_plan_here":Str)=some NameKind.cell:=dk
def Qiz:SD->Out D:=(eIf (tVal (e2 dLt (eVar 0) (eC (.int 0)))) (e2 dIx (eVar 1) (e2 dSub ‹"aD"› (eVar 0))) (e2 dIx (e2 dIx (eVar 2) (eVar 0)) (eC (.int 4))))
theorem Qgf:Lo Qv "_law_names":=dk
theorem QmF:Gl Qv "_law_clerk":=dk
def Qgd:SD->Out Fl:=(sSeq (sSet 11 (eComp [none,some 4,some 1] (itL (eVar 8)) (gN 0) cTrue Qiz)) (Qcb 5 (eTup (aCons (eVar 10) (aCons (eA (fun xs=>Qch (xs++[])) (aCons (eVar 6) (aCons (eVar 7) aNil))) (aCons (eVar 11) (aCons (eVar 9) aNil)))))))
theorem QrD:Gl Qv "Office":=dk
def Qhx:SD->Out Fl:=(sSeq (sSet 3 (eA (fun xs=>Qah (xs++[])) (aCons ‹"ac"› (aCons (eC (.int 6)) aNil)))) (sSeq (sSet 4 (eComp [none,some 3] (itR1 (eVar 2)) (gN 0) cTrue QiC)) (sSeq (sSetO 5 (eLst aNil)) (sSeq (sFor (gT [6,7,8,9,10]) (itL (eVar 1)) Qgd) (fun ς=>(sRetF ‹"n"›) (frz 5 ς))))))
def Qco:List D->Out D:=bodyF true 3 12 Qhx
theorem QC3(d0 d1 d2:D):Qco [d0,d1,d2]=(Qhx [some (.k,d0),some (.k,d1),some (.k,d2),none,none,none,none,none,none,none,none,none]>>=retF true):=rfl
theorem QEh(F:FunV K "_law_office" "_law_office" Qv f fd dV)(QcY:‹"aM"›)(Qdh:‹"aV"›)(Qn6:DefOk P w K mg base CT "_law_named" 1 false [] QaO)(QFx:DefOk P w K mg base CT "_law_clerk" 7 true [] Qch)(z_range:mg "range"=none)(QsU:MkOk P w K mg base CT "Office" 5 Qbt):FnOk P w K mg base CX0 8 f fd ["_law_script","_law_plan_here","_law_doors"] (SpD K CT true Qco):=
 @fnV P w K mg base CT true "_law_office" "_law_office" Qv f fd dV ["_law_script","_law_plan_here","_law_doors","_law_first","_law_ends","_law_clerks","_law_kind","_law_rows_here","_law_leads","_law_state","_law_name","_law_names"] ["_law_script","_law_plan_here","_law_doors"] 7 Qhx F Qa1 fun cdv A outer s H E G hr=>
  (Qf (QG (i:=3) Qa1.nd rfl (Or.inr QmD) (de_f QcY (hr.mono (by decide)) (Qc (de_f Qdh (hr.mono (by decide)) (Qc (Qb 0 rfl (oi Qlu)) (Qc Qd Qj)) Qoo) (Qc Qd Qj)) QlA)) (Qf (QG (i:=4) Qa1.nd rfl (Or.inr Qgw) (DF.de (QV rfl Qpj (DI.b (QaA Qr8 z_range (DE.db (Qb 2 rfl (oi Qmy))))) ‹"g"› (Qw _) (fun fp s H G p=>⟨(QA (i:=0) Qpj.nd rfl (oi Qdv) (hf:=Or.inr Qdv)),QM,(de_f Qn6 (hr.mono (by decide)) (Qc (QaE (DE.db Qd) (DE.db (Qb 0 rfl (oi Qdv)))) (Qc (de_ix (Qb 1 rfl (Or.inr (oi QeU))) (DE.db Qd)) (Qc (de_ix (Qb 1 rfl (Or.inr (oi QeU))) (DE.db Qd)) Qj))) QjN)⟩)))) (Qf (QbY (i:=5) Qa1.nd rfl (oi Qc0) (Qap Qj)) (Qf (QcS PassesOwn.never rfl (Qan (Qb 1 rfl (Or.inr (oi Qed)))) (Qmj rfl (Qai (i:=6) Qa1.nd rfl (oi QgI) (Qai (i:=7) Qa1.nd rfl (oi Qeg) (Qai (i:=8) Qa1.nd rfl (oi Qgh) (Qai (i:=9) Qa1.nd rfl (oi Qgg) (Qai (i:=10) Qa1.nd rfl (oi QgK) Qe1)))))) (Qhe _) (Qf (Qhm (i:=11) rfl QoM (DI.b (Qan (Qb 8 rfl (oi Qgh)))) ‹"g"› (Qw _) (fun fp s H G p=>⟨(QA (i:=0) QoM.nd rfl (oi Qbg) (hf:=Or.inr Qbg)),QM,(de_if (dt_lt (DE.db (Qb 0 rfl (oi Qbg))) (DE.db Qd)) (de_ix (Qb 1 rfl (Or.inr (oi Qk9))) (DE.db (Qdl (DE.db (Qmd (DE.db Qd))) (DE.db (Qb 0 rfl (oi Qbg)))))) (de_ix (de_ix (Qb 2 rfl (Or.inr (oi QhS))) (DE.db (Qb 0 rfl (oi Qbg)))) (DE.db Qd)))⟩) Qa1.nd rfl (oi Qgf)) (Qi (QcM 5 (QfE (Qc (Qb 10 rfl (oi QgK)) (Qc (de_f QFx (hr.mono (by decide)) (Qc (Qb 6 rfl (oi QgI)) (Qc (Qb 7 rfl (oi Qeg)) Qj)) QmF) (Qc (Qb 11 rfl (oi Qgf)) (Qc (Qb 9 rfl (oi Qgg)) Qj))))) rfl (oi Qc0))))) (Qi (Qtn 5 (Qcu (Qo0 rz0 QsU (hr.mono (by decide)) (Qc (Qb 5 rfl (oi Qc0)) (Qc (DF.de (Qap (Qc (QfE (Qc QLh (Qc (de_ix (de_ix (Qb 1 rfl (Or.inr (oi Qed))) (DE.db Qd)) (DE.db Qd)) Qj))) Qj))) (Qc (Qb 4 rfl (Or.inr (oi Qgw))) Qj))) QrD))))))))
abbrev Qak:Stmt:=top 60
theorem QcX:Qr ["_law_script","_law_many","_law_desks_here","_law_k","_law_cell_here","_law_digits_here","_law_some"] ["_law_script","_law_many"] (Qa Qak):=⟨rfl,rfl,rfl,dk,rfl,dk,dk⟩
theorem Qcn:Lo Qak "_law_desks_here":=dk
theorem Qpx:Lo Qak "_law_many":=dk
theorem Quc:Gl Qak "range":=dk
theorem Qjt:Lo Qak "_law_k":=dk
theorem Qmr:Lo Qak "_law_script":=dk
theorem QoX:Gl Qak "_law_cell":=dk
theorem Qbu:Lo Qak "_law_cell_here":=dk
theorem Qmq:Gl Qak "_law_digits":=dk
theorem Qa9:Lo Qak "_law_digits_here":=dk
theorem Qcs:Lo Qak "_law_some":=dk
def QgW:SD->Out Fl:=(sSeq (sSet 4 (eA (fun xs=>QZ (xs++[])) (aCons (eVar 0) (aCons (e2 dAdd (eC (.int 1)) (eVar 3)) aNil)))) (sSeq (sSet 5 (eA (fun xs=>Qah (xs++[])) (aCons (eVar 4) (aCons (eC (.int 26)) aNil)))) (sSeq (sSet 6 (e2 dMod (e2 dIx (eVar 5) (eC (.int 24))) (eC (.int 6)))) (sSeq (sIf ‹"ar"› (sSet 6 (e2 dIx (eVar 5) (eC (.int 24)))) sNil) (Qcb 2 (e2 dIx (eLst (aCons (eVar 6) (aCons (e2 dIx (eLst (aCons (eC (.int 0)) (aCons (eC (.int 1)) (aCons (eC (.int 2)) (aCons (eC (.int 3)) (aCons (eC (.int 0)) (aCons (eC (.int 5)) aNil))))))) (e2 dMod (eVar 6) (eC (.int 6)))) aNil))) (e2 dMod (eVar 4) (eC (.int 2)))))))))
def Qjc:SD->Out Fl:=(sSeq (sSetO 2 (eLst aNil)) (sSeq (sFor (gN 3) (itR1 (eVar 1)) QgW) (sRetO 2)))
def QcH:List D->Out D:=bodyF true 2 7 Qjc
theorem QGs(d0 d1:D):QcH [d0,d1]=(Qjc [some (.k,d0),some (.k,d1),none,none,none,none,none]>>=retF true):=rfl
theorem QE6(F:FunV K "_law_desks" "_law_desks" Qak f fd dV)(Qdh:‹"aV"›)(QcY:‹"aM"›)(z_range:mg "range"=none):FnOk P w K mg base CX0 3 f fd ["_law_script","_law_many"] (SpD K CT true QcH):=
 @fnV P w K mg base CT true "_law_desks" "_law_desks" Qak f fd dV ["_law_script","_law_many","_law_desks_here","_law_k","_law_cell_here","_law_digits_here","_law_some"] ["_law_script","_law_many"] 2 Qjc F QcX fun cdv A outer s H E G hr=>
  (Qf (QbY (i:=2) QcX.nd rfl (oi Qcn) (Qap Qj)) (Qf (QcS PassesOwn.never rfl (QaA Quc z_range (DE.db (Qb 1 rfl (oi Qpx)))) (QA (i:=3) QcX.nd rfl (oi Qjt)) (Qw _) (Qf (QG (i:=4) QcX.nd rfl (oi Qbu) (de_f Qdh (hr.mono (by decide)) (Qc (Qb 0 rfl (oi Qmr)) (Qc (QaE (DE.db Qd) (DE.db (Qb 3 rfl (oi Qjt)))) Qj)) QoX)) (Qf (QG (i:=5) QcX.nd rfl (oi Qa9) (de_f QcY (hr.mono (by decide)) (Qc (Qb 4 rfl (oi Qbu)) (Qc Qd Qj)) Qmq)) (Qf (QG (i:=6) QcX.nd rfl (oi Qcs) (Q4 (DE.db (de_ix (Qb 5 rfl (oi Qa9)) (DE.db Qd))) (DE.db Qd))) (Qf (ds_if (DW.dt (Qwt (dt_eq hr.units (DE.db (Q4 (DE.db (Qb 4 rfl (oi Qbu))) (DE.db Qd))) (DE.db Qd)) (QtA (dt_eq hr.units (DE.db (Q4 (DE.db (de_ix (Qb 5 rfl (oi Qa9)) (DE.db Qd))) (DE.db Qd))) (DE.db Qd))))) (Qi (QG (i:=6) QcX.nd rfl (oi Qcs) (de_ix (Qb 5 rfl (oi Qa9)) (DE.db Qd)))) Q1) (Qi (QcM 2 (de_ix (DF.de (Qap (Qc (Qb 6 rfl (oi Qcs)) (Qc (de_ix (DF.de (Qap (Qc Qd (Qc Qd (Qc Qd (Qc Qd (Qc Qd (Qc Qd Qj)))))))) (DE.db (Q4 (DE.db (Qb 6 rfl (oi Qcs))) (DE.db Qd)))) Qj)))) (DE.db (Q4 (DE.db (Qb 4 rfl (oi Qbu))) (DE.db Qd)))) rfl (oi Qcn)))))))) (Qi (Qo2 2 rfl (oi Qcn)))))
abbrev Qbd:Stmt:=inCls (top 48) 2
theorem Qwd:Qr ["self"] ["self"] (Qa Qbd):=⟨rfl,rfl,rfl,dk,rfl,dk,dk⟩
theorem QrR:Lo Qbd "self":=dk
theorem QrT:Gl Qbd "list":=dk
def QfS:SD->Out Fl:=(sRetF (e1 dList (e1 (dFld Qm "door_names") (eVar 0))))
def Qa6:List D->Out D:=bodyF true 1 1 QfS
theorem Qy9(d0:D):Qa6 [d0]=(QfS [some (.k,d0)]>>=retF true):=rfl
theorem Qzd(F:FunV K "doors" "Office.doors" Qbd f fd dV)(z_list:mg "list"=none)(fo_door_names:FldOk K CT Qm "door_names"):FnOk P w K mg base CX0 1 f fd ["self"] (SpD K CT true Qa6):=
 @fnV P w K mg base CT true "doors" "Office.doors" Qbd f fd dV ["self"] ["self"] 0 QfS F Qwd fun cdv A outer s H E G hr=>
  (Qi (Qcu (Qea QrT z_list (Qpo fo_door_names (Qb 0 rfl (oi QrR))))))
abbrev Qa3:Stmt:=top 10
theorem QyM:Qr ["office"] ["office"] (Qa Qa3):=⟨rfl,rfl,rfl,dk,rfl,dk,dk⟩
theorem QpT:Lo Qa3 "office":=dk
abbrev Qmm:PySem.Scope:={ kind:=PySem.ScopeKind.function,names:=[(PySem.Str.ofString ".0",PySem.NameKind.local),(PySem.Str.ofString "door",PySem.NameKind.local)],isGenerator:=false,isCoroutine:=false,more:=[]:PySem.Scope }
theorem Qm4:QC ["door"] [none] Qmm (Qa Qa3) ["office"]:=⟨rfl,dk,dk,rfl,dk,dk⟩
theorem Qhp:(Qh Qmm (Qa Qa3)).names.lookup ("door":Str)=some NameKind.local:=dk
def Qh9:SD->Out D:=(eC (.int 0))
def QgP:SD->Out Fl:=(sRetF (eComp [none] (itL (eMeth QX "doors" (fun _=>Qa6) (eVar 0) aNil)) (gN 0) cTrue Qh9))
def Qcx:List D->Out D:=bodyF true 1 1 QgP
theorem QAG(d0:D):Qcx [d0]=(QgP [some (.k,d0)]>>=retF true):=rfl
theorem QAN(F:FunV K "nothing_out" "nothing_out" Qa3 f fd dV)(mt_doors:MtOk P w K mg base CT CX0 "doors" 1 QX (fun c=>SpD K CT true ((fun _=>Qa6) c))):FnOk P w K mg base CX0 2 f fd ["office"] (SpD K CT true Qcx):=
 @fnV P w K mg base CT true "nothing_out" "nothing_out" Qa3 f fd dV ["office"] ["office"] 1 QgP F QyM fun cdv A outer s H E G hr=>
  (Qi (Qcu (QV rfl Qm4 (DI.b (Qan (QqK mt_doors (hr.mono (by decide)) (Qb 0 rfl (oi QpT))))) ‹"g"› (Qw _) (fun fp s H G p=>⟨(QA (i:=0) Qm4.nd rfl (oi Qhp) (hf:=Or.inr Qhp)),QM,Qd⟩))))
abbrev QeZ:Stmt:=top 9
theorem QOy:Qr ["desks"] ["desks"] (Qa QeZ):=⟨rfl,rfl,rfl,dk,rfl,dk,dk⟩
theorem QD4:Lo QeZ "desks":=dk
theorem Qvh:Gl QeZ "enumerate":=dk
abbrev Qsk:PySem.Scope:={ kind:=PySem.ScopeKind.function,names:=[ (PySem.Str.ofString ".0",PySem.NameKind.local),(PySem.Str.ofString "k",PySem.NameKind.local),(PySem.Str.ofString "dockets",PySem.NameKind.local)],isGenerator:=false,isCoroutine:=false,more:=[]:PySem.Scope }
theorem QuR:QC ["k","dockets"] [none,none] Qsk (Qa QeZ) ["desks"]:=⟨rfl,dk,dk,rfl,dk,dk⟩
theorem Qgr:(Qh Qsk (Qa QeZ)).names.lookup ("dockets":Str)=some NameKind.local:=dk
theorem QnZ:(Qh Qsk (Qa QeZ)).names.lookup ("k":Str)=some NameKind.local:=dk
def Qvq:SD->Out Bool:=(tVal (e2 dGt (eVar 1) (eC (.int 0))))
def QvW:SD->Out D:=(eVar 0)
def Qv7:SD->Out Fl:=(sRetF (eComp [none,none] (itE (eVar 0)) (gT [0,1]) Qvq QvW))
def Qb6:List D->Out D:=bodyF true 1 1 Qv7
theorem QPT(d0:D):Qb6 [d0]=(Qv7 [some (.k,d0)]>>=retF true):=rfl
theorem QPC(F:FunV K "able" "able" QeZ f fd dV)(z_enumerate:mg "enumerate"=none):FnOk P w K mg base CX0 1 f fd ["desks"] (SpD K CT true Qb6):=
 @fnV P w K mg base CT true "able" "able" QeZ f fd dV ["desks"] ["desks"] 0 Qv7 F QOy fun cdv A outer s H E G hr=>
  (Qi (Qcu (QV rfl QuR (DI.b (Qzt Qvh z_enumerate (Qb 0 rfl (oi QD4)))) (fun ς=>QuV (fun i hi=>Qt (by revert hi;revert i;decide) ς)) (Qhe _) (fun fp s H G p=>⟨(Qmj rfl (Qai (i:=0) QuR.nd rfl (oi QnZ) (Qai (i:=1) QuR.nd rfl (oi Qgr) Qe1 (hf:=Or.inr Qgr)) (hf:=Or.inr QnZ))),(QtG (dt_gt (DE.db (Qb 1 rfl (oi Qgr))) (DE.db Qd))),(Qb 0 rfl (oi QnZ))⟩))))
abbrev Qcz:Stmt:=top 13
theorem QzA:Qr ["ready","picks","number","pick"] ["ready","picks","number"] (Qa Qcz):=⟨rfl,rfl,rfl,dk,rfl,dk,dk⟩
theorem QfT:Lo Qcz "picks":=dk
theorem QlF:Gl Qcz "len":=dk
theorem Qit:Lo Qcz "ready":=dk
theorem QwH:Lo Qcz "number":=dk
theorem Qrx:Lo Qcz "pick":=dk
def Ql5:SD->Out Fl:=(sSeq (sIf (tOr' (tVal (e2 dIs (eVar 1) (eC .non))) (tVal (e2 dEq (eA fLen ‹"U"›) (eC (.int 0))))) (sRet ‹"I"›) sNil) (sSeq (sSet 3 (e2 dIx (eVar 1) (e2 dMod (eVar 2) (eA fLen ‹"U"›)))) (sRet (e2 dIx (eVar 0) (e2 dMod (eVar 3) ‹"N"›)))))
def Qhb:List D->Out D:=bodyF false 3 4 Ql5
theorem QCT(d0 d1 d2:D):Qhb [d0,d1,d2]=(Ql5 [some (.k,d0),some (.k,d1),some (.k,d2),none]>>=retF false):=rfl
theorem QNu(F:FunV K "picked" "picked" Qcz f fd dV)(z_len:mg "len"=none):FnOk P w K mg base CX0 1 f fd ["ready","picks","number"] (SpD K CT false Qhb):=
 @fnV P w K mg base CT false "picked" "picked" Qcz f fd dV ["ready","picks","number","pick"] ["ready","picks","number"] 0 Ql5 F QzA fun cdv A outer s H E G hr=>
  (Qf (ds_if (DW.dt (dw_or (dt_is (DE.db (Qb 1 rfl (oi QfT))) (DE.db QKn)) (Qft (dt_eq hr.units (DE.db (Q3 QlF z_len (Qu (DE.db (Qb 1 rfl (oi QfT))) Qz))) (DE.db Qd))))) (Qi (QI (de_ix (Qb 0 rfl (oi Qit)) (DE.db Qd)))) Q1) (Qf (QG (i:=3) QzA.nd rfl (oi Qrx) (de_ix (Qb 1 rfl (oi QfT)) (DE.db (Q4 (DE.db (Qb 2 rfl (oi QwH))) (DE.db (Q3 QlF z_len (Qu (DE.db (Qb 1 rfl (oi QfT))) Qz))))))) (Qi (QI (de_ix (Qb 0 rfl (oi Qit)) (DE.db (Q4 (DE.db (Qb 3 rfl (oi Qrx))) (DE.db (Q3 QlF z_len (Qu (DE.db (Qb 0 rfl (oi Qit))) Qz))))))))))
abbrev Qbb:Stmt:=inCls (top 48) 5
theorem Qxt:Qr ["self","k"] ["self","k"] (Qa Qbb):=⟨rfl,rfl,rfl,dk,rfl,dk,dk⟩
theorem QrB:Lo Qbb "self":=dk
theorem QuY:Lo Qbb "k":=dk
def Qf6:SD->Out Fl:=(sRet (e2 dIx (e1 (dFld Qm "staff") (eVar 0)) (eVar 1)))
def QbD:List D->Out D:=bodyF false 2 2 Qf6
theorem Qy5(d0 d1:D):QbD [d0,d1]=(Qf6 ‹"G"›>>=retF false):=rfl
theorem Qyy(F:FunV K "clerk" "Office.clerk" Qbb f fd dV)(fo_staff:FldOk K CT Qm "staff"):FnOk P w K mg base CX0 1 f fd ["self","k"] (SpD K CT false QbD):=
 @fnV P w K mg base CT false "clerk" "Office.clerk" Qbb f fd dV ["self","k"] ["self","k"] 0 Qf6 F Qxt fun cdv A outer s H E G hr=>
  (Qi (QI (de_ix (Qpo fo_staff (Qb 0 rfl (oi QrB))) (DE.db (Qb 1 rfl (oi QuY))))))
abbrev Qfn:Stmt:=top 11
theorem QC6:Qr ["desks","out","leads","dockets","lead","count"] ["desks","out","leads","dockets"] (Qa Qfn):=⟨rfl,rfl,rfl,dk,rfl,dk,dk⟩
theorem QGZ:Lo Qfn "leads":=dk
theorem QBs:Lo Qfn "dockets":=dk
theorem QKs:Gl Qfn "zip":=dk
theorem Qoc:Lo Qfn "count":=dk
theorem Qf0:Lo Qfn "lead":=dk
theorem Quv:Lo Qfn "desks":=dk
theorem QzL:Lo Qfn "out":=dk
def QtN:SD->Out Fl:=(sIf (tVal (e2 dGe (eVar 4) (eC (.int 0)))) (sPutW 0 (eVar 4) (e2 dAdd (e2 dIx (eVarB 0) (eVar 4)) (eVar 5))) (sPutW 1 (e2 dSub ‹"aD"› (eVar 4)) (e2 dAdd (e2 dIx (eVarB 1) (e2 dSub ‹"aD"› (eVar 4))) (eVar 5))))
def QBE:SD->Out Fl:=(sFor (gT [4,5]) (itZ (eVar 2) (eVar 3)) QtN)
def Qqt:List D->Out (D×Option (List D)):=bodyW false [true,true,false,false] 6 QBE
theorem QQi(d0 d1 d2 d3:D):Qqt [d0,d1,d2,d3]=(QBE [some (.s,d0),some (.s,d1),some (.k,d2),some (.k,d3),none,none]>>=retW false [true,true,false,false]):=rfl
theorem QQm(F:FunV K "lay" "lay" Qfn f fd dV)(z_zip:mg "zip"=none):FnOk P w K mg base CX0 1 f fd ["desks","out","leads","dockets"] (SpW K CT false [true,true,false,false] Qqt):=
 @fnW P w K mg base CT false "lay" "lay" Qfn f fd dV ["desks","out","leads","dockets","lead","count"] ["desks","out","leads","dockets"] 0 QBE [true,true,false,false] rfl F QC6 fun cdv A outer s H E G ps vs hr=>
  (Qi (QcS PassesOwn.never rfl (QD8 QKs z_zip (Qb 2 rfl (oi QGZ)) (Qb 3 rfl (oi QBs))) (Qmj rfl (Qai (i:=4) QC6.nd rfl (oi Qf0) (Qai (i:=5) QC6.nd rfl (oi Qoc) Qe1))) (Qhe _) (Qi (ds_if (dt_ge (DE.db (Qb 4 rfl (oi Qf0))) (DE.db Qd)) (Qi (Qtx 0 (DE.db (Qb 4 rfl (oi Qf0))) (QaE (db_ix (QdR 0 rfl (oi Quv)) (DE.db (Qb 4 rfl (oi Qf0)))) (DE.db (Qb 5 rfl (oi Qoc)))) rfl (oi Quv))) (Qi (Qtx 1 (DE.db (Qdl (DE.db (Qmd (DE.db Qd))) (DE.db (Qb 4 rfl (oi Qf0))))) (QaE (db_ix (QdR 1 rfl (oi QzL)) (DE.db (Qdl (DE.db (Qmd (DE.db Qd))) (DE.db (Qb 4 rfl (oi Qf0)))))) (DE.db (Qb 5 rfl (oi Qoc)))) rfl (oi QzL)))))))
abbrev QaP:Stmt:=inCls (top 48) 7
theorem Qv3:Qr ["self","k"] ["self","k"] (Qa QaP):=⟨rfl,rfl,rfl,dk,rfl,dk,dk⟩
theorem QrC:Lo QaP "self":=dk
theorem Qvw:Lo QaP "k":=dk
theorem QrM:Gl QaP "list":=dk
def Qgc:SD->Out Fl:=(sRetF (e1 dList (e2 dIx (e1 (dFld Qm "ways") (eVar 0)) (eVar 1))))
def QbC:List D->Out D:=bodyF true 2 2 Qgc
theorem QyS(d0 d1:D):QbC [d0,d1]=(Qgc ‹"G"›>>=retF true):=rfl
theorem Qyf(F:FunV K "leads" "Office.leads" QaP f fd dV)(z_list:mg "list"=none)(fo_ways:FldOk K CT Qm "ways"):FnOk P w K mg base CX0 1 f fd ["self","k"] (SpD K CT true QbC):=
 @fnV P w K mg base CT true "leads" "Office.leads" QaP f fd dV ["self","k"] ["self","k"] 0 Qgc F Qv3 fun cdv A outer s H E G hr=>
  (Qi (Qcu (Qea QrM z_list (de_ix (Qpo fo_ways (Qb 0 rfl (oi QrC))) (DE.db (Qb 1 rfl (oi Qvw)))))))
abbrev QbO:Stmt:=inCls (top 21) 4
theorem QDc:Qr ["self","state"] ["self","state"] (Qa QbO):=⟨rfl,rfl,rfl,dk,rfl,dk,dk⟩
theorem Qu6:Lo QbO "self":=dk
theorem QtT:Lo QbO "state":=dk
theorem Qvc:Gl QbO "list":=dk
def Qi8:SD->Out Fl:=(sRetF (e1 dList (e2 dIx (e1 (dFld Qm "table") (eVar 0)) (eVar 1))))
def QcK:List D->Out D:=bodyF true 2 2 Qi8
theorem QGR(d0 d1:D):QcK [d0,d1]=(Qi8 ‹"G"›>>=retF true):=rfl
theorem QHl(F:FunV K "row" "Clerk.row" QbO f fd dV)(z_list:mg "list"=none)(fo_table:FldOk K CT Qm "table"):FnOk P w K mg base CX0 1 f fd ["self","state"] (SpD K CT true QcK):=
 @fnV P w K mg base CT true "row" "Clerk.row" QbO f fd dV ["self","state"] ["self","state"] 0 Qi8 F QDc fun cdv A outer s H E G hr=>
  (Qi (Qcu (Qea Qvc z_list (de_ix (Qpo fo_table (Qb 0 rfl (oi Qu6))) (DE.db (Qb 1 rfl (oi QtT)))))))
abbrev QbT:Stmt:=top 12
theorem QzB:Qr ["office","states","desks","out","k","clerk"] ["office","states","desks","out","k"] (Qa QbT):=⟨rfl,rfl,rfl,dk,rfl,dk,dk⟩
theorem Qm3:Lo QbT "office":=dk
theorem QeA:Lo QbT "k":=dk
theorem QiU:Lo QbT "clerk":=dk
theorem Qiu:Lo QbT "desks":=dk
theorem QDl:Lo QbT "out":=dk
theorem QhQ:Lo QbT "states":=dk
theorem QDX:Gl QbT "lay":=dk
def Ql6:SD->Out Fl:=(sSeq (sSet 5 (eMeth QX "clerk" (fun _=>QbD) (eVar 0) (aCons (eVar 4) aNil))) (sSeq (sPutW 2 (eVar 4) (e2 dSub (e2 dIx (eVarB 2) (eVar 4)) (eC (.int 1)))) (sSeq (Qo4 [some 2,some 3,none,none] Qqt (aCons (eVarW 2) (aCons (eVarW 3) (aCons (eMeth QX "leads" (fun _=>QbC) (eVar 0) (aCons (eVar 4) aNil)) (aCons (eMeth Qg "row" (fun _=>QcK) (eVar 5) (aCons (fun ς=>QpD ((e2 dIx (eVarB 1) (eVar 4)) ς)) aNil)) aNil))))) (sPutW 1 (eVar 4) (e2 dMod (e2 dAdd (e2 dIx (eVarB 1) (eVar 4)) (eC (.int 1))) (eMeth Qg "period" (fun _=>QaH) (eVar 5) aNil))))))
def Qg7:List D->Out (D×Option (List D)):=bodyW false [false,true,true,true,false] 6 Ql6
theorem QMG(d0 d1 d2 d3 d4:D):Qg7 [d0,d1,d2,d3,d4]=(Ql6 [some (.k,d0),some (.s,d1),some (.s,d2),some (.s,d3),some (.k,d4),none]>>=retW false [false,true,true,true,false]):=rfl
theorem QM2(F:FunV K "handle" "handle" QbT f fd dV)(QQh:DefW P w K mg base CT "lay" 1 false [true,true,false,false] Qqt)(mt_clerk:MtOk P w K mg base CT CX0 "clerk" 1 QX (fun c=>SpD K CT false ((fun _=>QbD) c)))(mt_leads:MtOk P w K mg base CT CX0 "leads" 1 QX (fun c=>SpD K CT true ((fun _=>QbC) c)))(mt_row:MtOk P w K mg base CT CX0 "row" 1 Qg (fun c=>SpD K CT true ((fun _=>QcK) c)))(mt_period:MtOk P w K mg base CT CX0 "period" 1 Qg (fun c=>SpD K CT false ((fun _=>QaH) c))):FnOk P w K mg base CX0 2 f fd ["office","states","desks","out","k"] (SpW K CT false [false,true,true,true,false] Qg7):=
 @fnW P w K mg base CT false "handle" "handle" QbT f fd dV ["office","states","desks","out","k","clerk"] ["office","states","desks","out","k"] 1 Ql6 [false,true,true,true,false] rfl F QzB fun cdv A outer s H E G ps vs hr=>
  (Qf (QG (i:=5) QzB.nd rfl (oi QiU) (Qy0 mt_clerk (hr.mono (by decide)) (Qb 0 rfl (oi Qm3)) (Qc (Qb 4 rfl (oi QeA)) Qj))) (Qf (Qtx 2 (DE.db (Qb 4 rfl (oi QeA))) (Qdl (db_ix (QdR 2 rfl (oi Qiu)) (DE.db (Qb 4 rfl (oi QeA)))) (DE.db Qd)) rfl (oi Qiu)) (Qf (QD3 (ms:=[some 2,some 3,none,none]) QQh (hr.mono (by decide)) (daw_w 2 (daw_w 3 (daw_k (Qy0 mt_leads (hr.mono (by decide)) (Qb 0 rfl (oi Qm3)) (Qc (Qb 4 rfl (oi QeA)) Qj)) (daw_k (Qy0 mt_row (hr.mono (by decide)) (Qb 5 rfl (oi QiU)) (Qc (DB.de (db_ix (QdR 1 rfl (oi QhQ)) (DE.db (Qb 4 rfl (oi QeA))))) Qj)) QHB)) rfl (oi QDl)) rfl (oi Qiu)) QDX) (Qi (Qtx 1 (DE.db (Qb 4 rfl (oi QeA))) (Q4 (DE.db (QaE (db_ix (QdR 1 rfl (oi QhQ)) (DE.db (Qb 4 rfl (oi QeA)))) (DE.db Qd))) (DE.db (QqK mt_period (hr.mono (by decide)) (Qb 5 rfl (oi QiU))))) rfl (oi QhQ))))))
abbrev Q0:Stmt:=top 14
theorem Qec:Qr ["office","states","desks","picks","most","states_now","desks_now","out","log","ready","k"] ["office","states","desks","picks","most"] (Qa Q0):=⟨rfl,rfl,rfl,dk,rfl,dk,dk⟩
theorem Qxv:Lo Q0 "states":=dk
theorem Qre:Gl Q0 "list":=dk
theorem Qfe:Lo Q0 "states_now":=dk
theorem Qx1:Lo Q0 "desks":=dk
theorem Qcj:Lo Q0 "desks_now":=dk
theorem QmM:Lo Q0 "office":=dk
theorem Qqc:Gl Q0 "nothing_out":=dk
theorem QlZ:Lo Q0 "out":=dk
theorem QfL:Lo Q0 "log":=dk
theorem Qrp:Gl Q0 "able":=dk
theorem QfU:Lo Q0 "ready":=dk
theorem Qmi:Gl Q0 "len":=dk
theorem QAv:Lo Q0 "most":=dk
theorem Qyu:Lo Q0 "picks":=dk
theorem Qxs:Gl Q0 "picked":=dk
theorem QpK:Lo Q0 "k":=dk
theorem QwW:Gl Q0 "handle":=dk
def QhK:SD->Out Bool:=(tAnd' (tVal (e2 dGt (eA fLen (aCons (eVar 9) aNil)) (eC (.int 0)))) (tVal ‹"aP"›))
def Qp6:SD->Out Fl:=(sSeq (sSet 10 (eA (fun xs=>Qhb (xs++[])) (aCons (eVar 9) (aCons (eVar 3) (aCons (eA fLen (aCons (eVarB 8) aNil)) aNil))))) (sSeq (Qo4 [none,some 5,some 6,some 7,none] Qg7 (aCons (eVar 0) (aCons (eVarW 5) (aCons (eVarW 6) (aCons (eVarW 7) (aCons (eVar 10) aNil)))))) (sSeq (Qcb 8 (eVar 10)) (sSet 9 (fun ς=>flatL ((eA (fun xs=>Qb6 (xs++[])) (aCons (eVarB 6) aNil)) ς))))))
def Qqb:SD->Out Fl:=(sSeq (sSetO 5 (e1 dList (eVar 1))) (sSeq (sSetO 6 (e1 dList (eVar 2))) (sSeq (sSetO 7 (fun ς=>Qpd ((eA (fun xs=>Qcx (xs++[])) (aCons (eVar 0) aNil)) ς))) (sSeq (sSetO 8 (eLst aNil)) (sSeq (sSet 9 (fun ς=>flatL ((eA (fun xs=>Qb6 (xs++[])) (aCons (eVarB 6) aNil)) ς))) (sSeq (QbE QhK Qp6) (fun ς=>(sRet (eTup (aCons (eVar 5) (aCons (eVar 6) (aCons (eVar 7) (aCons (eVar 8) aNil)))))) (frzs [5,6,7,8] ς))))))))
def QdD:List D->Out D:=bodyF false 5 11 Qqb
theorem QNn(d0 d1 d2 d3 d4:D):QdD [d0,d1,d2,d3,d4]=(Qqb [some (.k,d0),some (.k,d1),some (.k,d2),some (.k,d3),some (.k,d4),none,none,none,none,none,none]>>=retF false):=rfl
theorem QMN(F:FunV K "served" "served" Q0 f fd dV)(QA6:DefOk P w K mg base CT "nothing_out" 2 true [] Qcx)(QpC:DefOk P w K mg base CT "able" 1 true [] Qb6)(QM7:DefOk P w K mg base CT "picked" 1 false [] Qhb)(QMO:DefW P w K mg base CT "handle" 2 false [false,true,true,true,false] Qg7)(z_list:mg "list"=none)(z_len:mg "len"=none):FnOk P w K mg base CX0 3 f fd ["office","states","desks","picks","most"] (SpD K CT false QdD):=
 @fnV P w K mg base CT false "served" "served" Q0 f fd dV ["office","states","desks","picks","most","states_now","desks_now","out","log","ready","k"] ["office","states","desks","picks","most"] 2 Qqb F Qec fun cdv A outer s H E G hr=>
  (Qf (QbY (i:=5) Qec.nd rfl (oi Qfe) (Qea Qre z_list (Qb 1 rfl (oi Qxv)))) (Qf (QbY (i:=6) Qec.nd rfl (oi Qcj) (Qea Qre z_list (Qb 2 rfl (oi Qx1)))) (Qf (QbY (i:=7) Qec.nd rfl (oi QlZ) (df_f QA6 (hr.mono (by decide)) (Qc (Qb 0 rfl (oi QmM)) Qj) Qqc)) (Qf (QbY (i:=8) Qec.nd rfl (oi QfL) (Qap Qj)) (Qf (QG (i:=9) Qec.nd rfl (oi QfU) (DF.de (df_fB QpC (hr.mono (by decide)) (Qu (QdR 6 rfl (oi Qcj)) Qz) Qrp))) (Qf (QzG PassesOwn.never (DW.dt (Qwt (dt_gt (DE.db (Q3 Qmi z_len (Qu (DE.db (Qb 9 rfl (oi QfU))) Qz))) (DE.db Qd)) (QtA (dt_lt (DE.db (Q3 Qmi z_len (Qu (QdR 8 rfl (oi QfL)) Qz))) (DE.db (Qb 4 rfl (oi QAv))))))) (Qf (QG (i:=10) Qec.nd rfl (oi QpK) (de_f QM7 (hr.mono (by decide)) (Qc (Qb 9 rfl (oi QfU)) (Qc (Qb 3 rfl (oi Qyu)) (Qc (Q3 Qmi z_len (Qu (QdR 8 rfl (oi QfL)) Qz)) Qj))) Qxs)) (Qf (QD3 (ms:=[none,some 5,some 6,some 7,none]) QMO (hr.mono (by decide)) (daw_k (Qb 0 rfl (oi QmM)) (daw_w 5 (daw_w 6 (daw_w 7 (daw_k (Qb 10 rfl (oi QpK)) QHB) rfl (oi QlZ)) rfl (oi Qcj)) rfl (oi Qfe))) QwW) (Qf (QcM 8 (Qb 10 rfl (oi QpK)) rfl (oi QfL)) (Qi (QG (i:=9) Qec.nd rfl (oi QfU) (DF.de (df_fB QpC (hr.mono (by decide)) (Qu (QdR 6 rfl (oi Qcj)) Qz) Qrp)))))))) (Qi (QxK [5,6,7,8] (QI (QfE (Qc (Qb 5 rfl (oi Qfe)) (Qc (Qb 6 rfl (oi Qcj)) (Qc (Qb 7 rfl (oi QlZ)) (Qc (Qb 8 rfl (oi QfL)) Qj))))))))))))))
abbrev QW:Stmt:=top 61
theorem QcI:Qr ["_law_plan_here","_law_doors","_law_states","_law_desks_here","_law_k","_law_rows_here","_law_leads","_law_row","_law_later","_law_left","_law_out","_law_o"] ["_law_plan_here","_law_doors","_law_states","_law_desks_here","_law_k"] (Qa QW):=⟨rfl,rfl,rfl,dk,rfl,dk,dk⟩
theorem Qfs:Lo QW "_law_plan_here":=dk
theorem Qbj:Lo QW "_law_k":=dk
theorem QcF:Lo QW "_law_rows_here":=dk
theorem QaG:Lo QW "_law_leads":=dk
theorem Qdx:Lo QW "_law_states":=dk
theorem Qe9:Lo QW "_law_row":=dk
theorem QmZ:Gl QW "list":=dk
theorem QdY:Lo QW "_law_later":=dk
theorem Qpg:Gl QW "len":=dk
theorem Qkj:Lo QW "_law_desks_here":=dk
theorem Qa7:Lo QW "_law_left":=dk
theorem Qph:Lo QW "_law_doors":=dk
theorem Qc7:Lo QW "_law_out":=dk
theorem Qvr:Gl QW "range":=dk
theorem QaS:Lo QW "_law_o":=dk
def Qie:SD->Out Fl:=(sIf (tVal (e2 dLt (e2 dIx (eVar 6) (eVar 11)) (eC (.int 0)))) (sPutO 10 (e2 dSub ‹"aD"› (e2 dIx (eVar 6) (eVar 11))) (e2 dAdd (e2 dIx (eVarB 10) (e2 dSub ‹"aD"› (e2 dIx (eVar 6) (eVar 11)))) (e2 dIx (eVar 7) (eVar 11)))) (sPutO 9 (e2 dIx (eVar 6) (eVar 11)) (e2 dAdd (e2 dIx (eVarB 9) (e2 dIx (eVar 6) (eVar 11))) (e2 dIx (eVar 7) (eVar 11)))))
def QkR:SD->Out Fl:=(sSeq (sSet 5 (e2 dIx (e2 dIx (eVar 0) (eVar 4)) (eC (.int 1)))) (sSeq (sSet 6 (e2 dIx (e2 dIx (eVar 0) (eVar 4)) (eC (.int 2)))) (sSeq (sSet 7 (e2 dIx (eVar 5) (e2 dIx (eVar 2) (eVar 4)))) (sSeq (sSetO 8 (e1 dList (eVar 2))) (sSeq (sPutO 8 (eVar 4) (e2 dMod (e2 dAdd (e2 dIx (eVar 2) (eVar 4)) (eC (.int 1))) (eA fLen (aCons (eVar 5) aNil)))) (sSeq (sSetO 9 (e1 dList (eVar 3))) (sSeq (sPutO 9 (eVar 4) (e2 dSub (e2 dIx (eVarB 9) (eVar 4)) (eC (.int 1)))) (sSeq (sSetO 10 (e2 dRep (eLst (aCons (eC (.int 0)) aNil)) (eVar 1))) (sSeq (sFor (gN 11) (itR1 (eA fLen (aCons (eVar 6) aNil))) Qie) (fun ς=>(sRet (eTup (aCons (eVar 8) (aCons (eVar 9) (aCons (eVar 10) aNil))))) (frzs [8,9,10] ς)))))))))))
def Qex:List D->Out D:=bodyF false 5 12 QkR
theorem QJW(d0 d1 d2 d3 d4:D):Qex [d0,d1,d2,d3,d4]=(QkR [some (.k,d0),some (.k,d1),some (.k,d2),some (.k,d3),some (.k,d4),none,none,none,none,none,none,none]>>=retF false):=rfl
theorem QJX(F:FunV K "_law_step" "_law_step" QW f fd dV)(z_list:mg "list"=none)(z_len:mg "len"=none)(z_range:mg "range"=none):FnOk P w K mg base CX0 1 f fd ["_law_plan_here","_law_doors","_law_states","_law_desks_here","_law_k"] (SpD K CT false Qex):=
 @fnV P w K mg base CT false "_law_step" "_law_step" QW f fd dV ["_law_plan_here","_law_doors","_law_states","_law_desks_here","_law_k","_law_rows_here","_law_leads","_law_row","_law_later","_law_left","_law_out","_law_o"] ["_law_plan_here","_law_doors","_law_states","_law_desks_here","_law_k"] 0 QkR F QcI fun cdv A outer s H E G hr=>
  (Qf (QG (i:=5) QcI.nd rfl (oi QcF) (de_ix (de_ix (Qb 0 rfl (oi Qfs)) (DE.db (Qb 4 rfl (oi Qbj)))) (DE.db Qd))) (Qf (QG (i:=6) QcI.nd rfl (oi QaG) (de_ix (de_ix (Qb 0 rfl (oi Qfs)) (DE.db (Qb 4 rfl (oi Qbj)))) (DE.db Qd))) (Qf (QG (i:=7) QcI.nd rfl (oi Qe9) (de_ix (Qb 5 rfl (oi QcF)) (DE.db (de_ix (Qb 2 rfl (oi Qdx)) (DE.db (Qb 4 rfl (oi Qbj))))))) (Qf (QbY (i:=8) QcI.nd rfl (oi QdY) (Qea QmZ z_list (Qb 2 rfl (oi Qdx)))) (Qf (QtI 8 (DE.db (Qb 4 rfl (oi Qbj))) (Q4 (DE.db (QaE (DE.db (de_ix (Qb 2 rfl (oi Qdx)) (DE.db (Qb 4 rfl (oi Qbj))))) (DE.db Qd))) (DE.db (Q3 Qpg z_len (Qu (DE.db (Qb 5 rfl (oi QcF))) Qz)))) rfl (oi QdY)) (Qf (QbY (i:=9) QcI.nd rfl (oi Qa7) (Qea QmZ z_list (Qb 3 rfl (oi Qkj)))) (Qf (QtI 9 (DE.db (Qb 4 rfl (oi Qbj))) (Qdl (db_ix (QdR 9 rfl (oi Qa7)) (DE.db (Qb 4 rfl (oi Qbj)))) (DE.db Qd)) rfl (oi Qa7)) (Qf (QbY (i:=10) QcI.nd rfl (oi Qc7) (QEG (Qap (Qc Qd Qj)) (DE.db (Qb 1 rfl (oi Qph))))) (Qf (QcS PassesOwn.never rfl (QaA Qvr z_range (DE.db (Q3 Qpg z_len (Qu (DE.db (Qb 6 rfl (oi QaG))) Qz)))) (QA (i:=11) QcI.nd rfl (oi QaS)) (Qw _) (Qi (ds_if (dt_lt ‹"L"› (DE.db Qd)) (Qi (QtI 10 (DE.db (Qdl (DE.db (Qmd (DE.db Qd))) ‹"L"›)) (QaE (db_ix (QdR 10 rfl (oi Qc7)) (DE.db (Qdl (DE.db (Qmd (DE.db Qd))) ‹"L"›))) (DE.db (de_ix (Qb 7 rfl (oi Qe9)) (DE.db (Qb 11 rfl (oi QaS)))))) rfl (oi Qc7))) (Qi (QtI 9 ‹"L"› (QaE (db_ix (QdR 9 rfl (oi Qa7)) ‹"L"›) (DE.db (de_ix (Qb 7 rfl (oi Qe9)) (DE.db (Qb 11 rfl (oi QaS)))))) rfl (oi Qa7)))))) (Qi (QxK [8,9,10] (QI (QfE (Qc (Qb 8 rfl (oi QdY)) (Qc (Qb 9 rfl (oi Qa7)) (Qc (Qb 10 rfl (oi Qc7)) Qj))))))))))))))))
abbrev Qn:Stmt:=top 62
theorem Qav:Qr ["_law_plan_here","_law_doors","_law_states","_law_desks_here","_law_most","_law_out","_law_log","_law_some","_law_k","_law_sent"] ["_law_plan_here","_law_doors","_law_states","_law_desks_here","_law_most"] (Qa Qn):=⟨rfl,rfl,rfl,dk,rfl,dk,dk⟩
theorem Qef:Lo Qn "_law_doors":=dk
theorem QbH:Lo Qn "_law_out":=dk
theorem QbI:Lo Qn "_law_log":=dk
theorem Qar:(Qa Qn).names.lookup ("_law_desks_here":Str)=some NameKind.cell:=dk
theorem QcD:Gl Qn "len":=dk
theorem Qgx:Gl Qn "range":=dk
abbrev Qe7:PySem.Scope:={ kind:=PySem.ScopeKind.function,names:=[ (PySem.Str.ofString ".0",PySem.NameKind.local),(PySem.Str.ofString "_law_k",PySem.NameKind.local),(PySem.Str.ofString "_law_desks_here",PySem.NameKind.free)],isGenerator:=false,isCoroutine:=false,more:=[]:PySem.Scope }
theorem Qjz:QC ["_law_k","_law_desks_here"] [none,some 3] Qe7 (Qa Qn) ["_law_plan_here","_law_doors","_law_states","_law_desks_here","_law_most","_law_out","_law_log","_law_some","_law_k","_law_sent"]:=⟨rfl,dk,dk,rfl,dk,dk⟩
theorem Qbr:(Qh Qe7 (Qa Qn)).names.lookup ("_law_k":Str)=some NameKind.local:=dk
theorem Qf3:(Qh Qe7 (Qa Qn)).names.lookup ("_law_desks_here":Str)=some NameKind.cell:=dk
def QjI:SD->Out Bool:=(tVal (e2 dGt (e2 dIx (eVar 1) (eVar 0)) (eC (.int 0))))
def QjJ:SD->Out D:=(eVar 0)
theorem QaL:Lo Qn "_law_some":=dk
theorem Qkr:Lo Qn "_law_most":=dk
theorem Qdd:Lo Qn "_law_k":=dk
theorem Qhu:Lo Qn "_law_plan_here":=dk
theorem Qca:Lo Qn "_law_states":=dk
theorem Qkx:Gl Qn "_law_step":=dk
theorem QeY:Lo Qn "_law_sent":=dk
theorem Qqi:Gl Qn "zip":=dk
abbrev Qe6:PySem.Scope:={ kind:=PySem.ScopeKind.function,names:=[ (PySem.Str.ofString ".0",PySem.NameKind.local),(PySem.Str.ofString "_law_one",PySem.NameKind.local),(PySem.Str.ofString "_law_other",PySem.NameKind.local)],isGenerator:=false,isCoroutine:=false,more:=[]:PySem.Scope }
theorem QfF:QC ["_law_one","_law_other"] [none,none] Qe6 (Qa Qn) ["_law_plan_here","_law_doors","_law_states","_law_desks_here","_law_most","_law_out","_law_log","_law_some","_law_k","_law_sent"]:=⟨rfl,dk,dk,rfl,dk,dk⟩
theorem QbW:(Qh Qe6 (Qa Qn)).names.lookup ("_law_other":Str)=some NameKind.local:=dk
theorem Qcc:(Qh Qe6 (Qa Qn)).names.lookup ("_law_one":Str)=some NameKind.local:=dk
def QfG:SD->Out D:=(e2 dAdd (eVar 0) (eVar 1))
abbrev Qfi:PySem.Scope:={ kind:=PySem.ScopeKind.function,names:=[ (PySem.Str.ofString ".0",PySem.NameKind.local),(PySem.Str.ofString "_law_j",PySem.NameKind.local),(PySem.Str.ofString "_law_desks_here",PySem.NameKind.free)],isGenerator:=false,isCoroutine:=false,more:=[]:PySem.Scope }
theorem Qjw:QC ["_law_j","_law_desks_here"] [none,some 3] Qfi (Qa Qn) ["_law_plan_here","_law_doors","_law_states","_law_desks_here","_law_most","_law_out","_law_log","_law_some","_law_k","_law_sent"]:=⟨rfl,dk,dk,rfl,dk,dk⟩
theorem Qbs:(Qh Qfi (Qa Qn)).names.lookup ("_law_j":Str)=some NameKind.local:=dk
theorem Qga:(Qh Qfi (Qa Qn)).names.lookup ("_law_desks_here":Str)=some NameKind.cell:=dk
def Qjo:SD->Out Bool:=(tVal (e2 dGt (e2 dIx (eVar 1) (eVar 0)) (eC (.int 0))))
def Qjm:SD->Out D:=(eVar 0)
def Qci:SD->Out Bool:=(tAnd' (tVal (e2 dNe (eVar 7) (eLst aNil))) (tVal (e2 dLt (eA fLen (aCons (eVarB 6) aNil)) (eVar 4))))
def Qfu:SD->Out Fl:=(sSeq (sSet 8 (e2 dIx (eVar 7) (e2 dSub (eA fLen (aCons (eVar 7) aNil)) (eC (.int 1))))) (sSeq (sUnp [2,3,9] (eA (fun xs=>Qex (xs++[])) (aCons (eVar 0) (aCons (eVar 1) (aCons (eVar 2) (aCons (eVar 3) (aCons (eVar 8) aNil))))))) (sSeq (sSet 5 (eComp [none,none] (itZ (eVar 5) (eVar 9)) (gT [0,1]) cTrue QfG)) (sSeq (Qcb 6 (eVar 8)) (sSet 7 (eComp [none,some 3] (itR1 (eA fLen (aCons (eVar 3) aNil))) (gN 0) Qjo Qjm))))))
def QeI:SD->Out Fl:=(sSeq (sSet 5 (e2 dRep (eLst (aCons (eC (.int 0)) aNil)) (eVar 1))) (sSeq (sSetO 6 (eLst aNil)) (sSeq (sSet 7 (eComp [none,some 3] (itR1 (eA fLen (aCons (eVar 3) aNil))) (gN 0) QjI QjJ)) (sSeq (QbE Qci Qfu) (fun ς=>(sRet (eTup (aCons (eVar 2) (aCons (eVar 3) (aCons (eVar 5) (aCons (eVar 6) aNil)))))) (frz 6 ς))))))
def QaZ:List D->Out D:=bodyF false 5 10 QeI
theorem Qu4(d0 d1 d2 d3 d4:D):QaZ [d0,d1,d2,d3,d4]=(QeI [some (.k,d0),some (.k,d1),some (.k,d2),some (.k,d3),some (.k,d4),none,none,none,none,none]>>=retF false):=rfl
theorem Qvp(F:FunV K "_law_last_first" "_law_last_first" Qn f fd dV)(QJg:DefOk P w K mg base CT "_law_step" 1 false [] Qex)(z_range:mg "range"=none)(z_len:mg "len"=none)(z_zip:mg "zip"=none):FnOk P w K mg base CX0 2 f fd ["_law_plan_here","_law_doors","_law_states","_law_desks_here","_law_most"] (SpD K CT false QaZ):=
 @fnV P w K mg base CT false "_law_last_first" "_law_last_first" Qn f fd dV ["_law_plan_here","_law_doors","_law_states","_law_desks_here","_law_most","_law_out","_law_log","_law_some","_law_k","_law_sent"] ["_law_plan_here","_law_doors","_law_states","_law_desks_here","_law_most"] 1 QeI F Qav fun cdv A outer s H E G hr=>
  (Qf (QG (i:=5) Qav.nd rfl (oi QbH) (DF.de (QEG (Qap (Qc Qd Qj)) (DE.db (Qb 1 rfl (oi Qef)))))) (Qf (QbY (i:=6) Qav.nd rfl (oi QbI) (Qap Qj)) (Qf (Qhm (i:=7) rfl Qjz (DI.b (QaA Qgx z_range (DE.db (Q3 QcD z_len (Qu (DE.db (Qb 3 rfl (Or.inr (oi Qar)))) Qz))))) ‹"g"› (Qw _) (fun fp s H G p=>⟨(QA (i:=0) Qjz.nd rfl (oi Qbr) (hf:=Or.inr Qbr)),(QtG (dt_gt (DE.db (de_ix (Qb 1 rfl (Or.inr (oi Qf3))) (DE.db (Qb 0 rfl (oi Qbr))))) (DE.db Qd))),(Qb 0 rfl (oi Qbr))⟩) Qav.nd rfl (oi QaL)) (Qf (QzG PassesOwn.never (DW.dt (Qwt (dt_ne hr.units (DE.db (Qb 7 rfl (oi QaL))) (DE.db (DF.de (Qap Qj)))) (QtA (dt_lt (DE.db (Q3 QcD z_len (Qu (QdR 6 rfl (oi QbI)) Qz))) (DE.db (Qb 4 rfl (oi Qkr))))))) (Qf (QG (i:=8) Qav.nd rfl (oi Qdd) (de_ix (Qb 7 rfl (oi QaL)) (DE.db (Qdl (DE.db (Q3 QcD z_len (Qu (DE.db (Qb 7 rfl (oi QaL))) Qz))) (DE.db Qd))))) (Qf (QEO rfl (de_f QJg (hr.mono (by decide)) (Qc (Qb 0 rfl (oi Qhu)) (Qc (Qb 1 rfl (oi Qef)) (Qc (Qb 2 rfl (oi Qca)) (Qc (Qb 3 rfl (Or.inr (oi Qar))) (Qc (Qb 8 rfl (oi Qdd)) Qj))))) Qkx) (Qai (i:=2) Qav.nd rfl (oi Qca) (Qai (i:=3) Qav.nd rfl (Or.inr Qar) (Qai (i:=9) Qav.nd rfl (oi QeY) Qe1)))) (Qf (Qhm (i:=5) rfl QfF (DI.b (QD8 Qqi z_zip (Qb 5 rfl (oi QbH)) (Qb 9 rfl (oi QeY)))) (fun ς=>QuV (fun i hi=>Qt (by revert hi;revert i;decide) ς)) (Qhe _) (fun fp s H G p=>⟨(Qmj rfl (Qai (i:=0) QfF.nd rfl (oi Qcc) (Qai (i:=1) QfF.nd rfl (oi QbW) Qe1 (hf:=Or.inr QbW)) (hf:=Or.inr Qcc))),QM,(QaE (DE.db (Qb 0 rfl (oi Qcc))) (DE.db (Qb 1 rfl (oi QbW))))⟩) Qav.nd rfl (oi QbH)) (Qf (QcM 6 (Qb 8 rfl (oi Qdd)) rfl (oi QbI)) (Qi (Qhm (i:=7) rfl Qjw (DI.b (QaA Qgx z_range (DE.db (Q3 QcD z_len (Qu (DE.db (Qb 3 rfl (Or.inr (oi Qar)))) Qz))))) ‹"g"› (Qw _) (fun fp s H G p=>⟨(QA (i:=0) Qjw.nd rfl (oi Qbs) (hf:=Or.inr Qbs)),(QtG (dt_gt (DE.db (de_ix (Qb 1 rfl (Or.inr (oi Qga))) (DE.db (Qb 0 rfl (oi Qbs))))) (DE.db Qd))),(Qb 0 rfl (oi Qbs))⟩) Qav.nd rfl (oi QaL)))))))) (Qi (Qtn 6 (QI (QfE (Qc (Qb 2 rfl (oi Qca)) (Qc (Qb 3 rfl (Or.inr (oi Qar))) (Qc (Qb 5 rfl (oi QbH)) (Qc (Qb 6 rfl (oi QbI)) Qj))))))))))))
abbrev Q5:Stmt:=top 63
theorem QyI:Qr ["_law_found","_law_many"] ["_law_found","_law_many"] (Qa Q5):=⟨rfl,rfl,rfl,dk,rfl,dk,dk⟩
theorem Qmw:Lo Q5 "_law_many":=dk
theorem QrN:Gl Q5 "range":=dk
abbrev Qbv:PySem.Scope:={ kind:=PySem.ScopeKind.function,names:=[ (PySem.Str.ofString ".0",PySem.NameKind.local),(PySem.Str.ofString "_law_k",PySem.NameKind.cell),(PySem.Str.ofString "len",PySem.NameKind.globalImplicit),(PySem.Str.ofString "_law_found",PySem.NameKind.free)],isGenerator:=false,isCoroutine:=false,more:=[]:PySem.Scope }
theorem QmQ:QC ["_law_k","_law_found"] [none,some 0] Qbv (Qa Q5) ["_law_found","_law_many"]:=⟨rfl,dk,dk,rfl,dk,dk⟩
theorem QmJ:(Qh Qbv (Qa Q5)).names.lookup ("_law_k":Str)=some NameKind.cell:=dk
theorem Qjv:(Qh Qbv (Qa Q5)).names.lookup ("_law_found":Str)=some NameKind.cell:=dk
abbrev Qg4:PySem.Scope:={ kind:=PySem.ScopeKind.function,names:=[ (PySem.Str.ofString ".0",PySem.NameKind.local),(PySem.Str.ofString "_law_one",PySem.NameKind.local),(PySem.Str.ofString "_law_k",PySem.NameKind.free)],isGenerator:=false,isCoroutine:=false,more:=[]:PySem.Scope }
theorem Qm2:QC ["_law_one","_law_k"] [none,some 0] Qg4 (Qh Qbv (Qa Q5)) ["_law_k","_law_found"]:=⟨rfl,dk,dk,rfl,dk,dk⟩
theorem QbL:(Qh Qg4 (Qh Qbv (Qa Q5))).names.lookup ("_law_one":Str)=some NameKind.local:=dk
theorem QmH:(Qh Qg4 (Qh Qbv (Qa Q5))).names.lookup ("_law_k":Str)=some NameKind.cell:=dk
def Qdm:SD->Out Bool:=(tVal (e2 dEq (eVar 0) (eVar 1)))
def Qdf:SD->Out D:=(eVar 0)
theorem Qp5:(Qh Qbv (Qa Q5)).names.lookup ("len":Str)=some NameKind.globalImplicit:=dk
def Qh5:SD->Out D:=(eA fLen (aCons (eComp [none,some 0] (itL (e2 dIx (eVar 1) (eC (.int 3)))) (gN 0) Qdm Qdf) aNil))
def QgZ:SD->Out Fl:=(sRetF (eComp [none,some 0] (itR1 (eVar 1)) (gN 0) cTrue Qh5))
def Qbp:List D->Out D:=bodyF true 2 2 QgZ
theorem QBm(d0 d1:D):Qbp [d0,d1]=(QgZ ‹"G"›>>=retF true):=rfl
theorem QAg(F:FunV K "_law_counted" "_law_counted" Q5 f fd dV)(z_range:mg "range"=none)(z_len:mg "len"=none):FnOk P w K mg base CX0 1 f fd ["_law_found","_law_many"] (SpD K CT true Qbp):=
 @fnV P w K mg base CT true "_law_counted" "_law_counted" Q5 f fd dV ["_law_found","_law_many"] ["_law_found","_law_many"] 0 QgZ F QyI fun cdv A outer s H E G hr=>
  (Qi (Qcu (QV rfl QmQ (DI.b (QaA QrN z_range (DE.db (Qb 1 rfl (oi Qmw))))) ‹"g"› (Qw _) (fun fp s H G p=>⟨(QA (i:=0) QmQ.nd rfl (Or.inr QmJ) (hf:=Or.inl rfl)),QM,(Q3 Qp5 z_len (Qu (DE.db (DF.de (QV rfl Qm2 (DI.b (Qan (de_ix (Qb 1 rfl (Or.inr (oi Qjv))) (DE.db Qd)))) ‹"g"› (Qw _) (fun fp s H G p=>⟨(QA (i:=0) Qm2.nd rfl (oi QbL) (hf:=Or.inr QbL)),(QtG (dt_eq hr.units (DE.db (Qb 0 rfl (oi QbL))) (DE.db (Qb 1 rfl (Or.inr (oi QmH)))))),(Qb 0 rfl (oi QbL))⟩)))) Qz))⟩))))
abbrev Q6:Stmt:=top 64
theorem Qdk:Qr ["_law_script","_law_plan_here","_law_doors","_law_office_here","_law_states","_law_desks_here","_law_number","_law_drawn","_law_one","_law_other","_law_due","_law_rests","_law_counts_here","_law_found"] ["_law_script"] (Qa Q6):=⟨rfl,rfl,rfl,dk,rfl,dk,dk⟩
theorem QcA:Lo Q6 "_law_script":=dk
theorem Qxx:Gl Q6 "_law_plan":=dk
theorem Qhg:Lo Q6 "_law_doors":=dk
theorem Qay:Lo Q6 "_law_plan_here":=dk
theorem Qua:Gl Q6 "_law_office":=dk
theorem Qdu:Lo Q6 "_law_office_here":=dk
abbrev QDB:PySem.Scope:={ kind:=PySem.ScopeKind.function,names:=[(PySem.Str.ofString ".0",PySem.NameKind.local),(PySem.Str.ofString "_law_row",PySem.NameKind.local)],isGenerator:=false,isCoroutine:=false,more:=[]:PySem.Scope }
theorem QHV:QC ["_law_row"] [none] QDB (Qa Q6) ["_law_script","_law_plan_here","_law_doors","_law_office_here","_law_states","_law_desks_here","_law_number","_law_drawn","_law_one","_law_other","_law_due","_law_rests","_law_counts_here","_law_found"]:=⟨rfl,dk,dk,rfl,dk,dk⟩
theorem Qgo:(Qh QDB (Qa Q6)).names.lookup ("_law_row":Str)=some NameKind.local:=dk
def QtD:SD->Out D:=(e2 dIx (eVar 0) (eC (.int 3)))
theorem QdN:Lo Q6 "_law_states":=dk
theorem Qhl:Gl Q6 "len":=dk
theorem Qvk:Gl Q6 "_law_desks":=dk
theorem Qct:Lo Q6 "_law_desks_here":=dk
theorem Qwf:Gl Q6 "_law_cell":=dk
theorem Qvj:Gl Q6 "_law_mixed":=dk
theorem QkI:(Qa Q6).names.lookup ("_law_number":Str)=some NameKind.cell:=dk
theorem QE8:Gl Q6 "range":=dk
abbrev QqS:PySem.Scope:={ kind:=PySem.ScopeKind.function,names:=[ (PySem.Str.ofString ".0",PySem.NameKind.local),(PySem.Str.ofString "_law_k",PySem.NameKind.local),(PySem.Str.ofString "_law_mixed",PySem.NameKind.globalImplicit),(PySem.Str.ofString "_law_number",PySem.NameKind.free)],isGenerator:=false,isCoroutine:=false,more:=[]:PySem.Scope }
theorem QHR:QC ["_law_k","_law_number"] [none,some 6] QqS (Qa Q6) ["_law_script","_law_plan_here","_law_doors","_law_office_here","_law_states","_law_desks_here","_law_number","_law_drawn","_law_one","_law_other","_law_due","_law_rests","_law_counts_here","_law_found"]:=⟨rfl,dk,dk,rfl,dk,dk⟩
theorem QhB:(Qh QqS (Qa Q6)).names.lookup ("_law_k":Str)=some NameKind.local:=dk
theorem QpH:(Qh QqS (Qa Q6)).names.lookup ("_law_number":Str)=some NameKind.cell:=dk
theorem QrK:(Qh QqS (Qa Q6)).names.lookup ("_law_mixed":Str)=some NameKind.globalImplicit:=dk
def QtB:SD->Out D:=(e2 dMod (eA (fun xs=>Qa2 (xs++[])) (aCons (eVar 1) (aCons (eVar 0) aNil))) (e2 dPow (eC (.int 10)) (eC (.int 18))))
theorem Ql9:Lo Q6 "_law_drawn":=dk
abbrev QDe:PySem.Scope:={ kind:=PySem.ScopeKind.function,names:=[(PySem.Str.ofString ".0",PySem.NameKind.local),(PySem.Str.ofString "_law_cell_here",PySem.NameKind.local)],isGenerator:=false,isCoroutine:=false,more:=[]:PySem.Scope }
theorem QHE:QC ["_law_cell_here"] [none] QDe (Qa Q6) ["_law_script","_law_plan_here","_law_doors","_law_office_here","_law_states","_law_desks_here","_law_number","_law_drawn","_law_one","_law_other","_law_due","_law_rests","_law_counts_here","_law_found"]:=⟨rfl,dk,dk,rfl,dk,dk⟩
theorem Qdc:(Qh QDe (Qa Q6)).names.lookup ("_law_cell_here":Str)=some NameKind.local:=dk
def Qtz:SD->Out D:=(e2 dMod (eVar 0) (e2 dAdd (e2 dPow (eC (.int 10)) (eC (.int 18))) (eC (.int 1))))
theorem Qsp:Gl Q6 "served":=dk
theorem QfW:Lo Q6 "_law_one":=dk
theorem QeB:Lo Q6 "_law_other":=dk
theorem Qo7:Gl Q6 "_law_last_first":=dk
theorem Qd9:Lo Q6 "_law_due":=dk
theorem QqO:Gl Q6 "able":=dk
theorem Qey:Lo Q6 "_law_rests":=dk
theorem QjF:Gl Q6 "_law_counted":=dk
theorem QgJ:Lo Q6 "_law_counts_here":=dk
theorem Qc2:Lo Q6 "_law_found":=dk
def Qty:SD->Out Fl:=(sSeq (sIf (tOr' (tVal (e2 dNe (e2 dIx (eVar 13) (eC (.int 0))) (e2 dIx (eVar 10) (eC (.int 0))))) (tOr' (tVal (e2 dNe (e2 dIx (eVar 13) (eC (.int 1))) (e2 dRep (eLst (aCons (eC (.int 0)) aNil)) (eA fLen ‹"U"›)))) (tVal (e2 dNe (e2 dIx (eVar 13) (eC (.int 2))) (e2 dIx (eVar 10) (eC (.int 2))))))) ‹"aC"› sNil) (sIf (tVal (e2 dNe (eA (fun xs=>Qbp (xs++[])) (aCons (eVar 13) (aCons (eA fLen ‹"U"›) aNil))) (eVar 12))) ‹"aC"› sNil))
def QBF:SD->Out Fl:=(sSeq (sUnp [1,2] (eA (fun xs=>Qdn (xs++[])) (aCons (eVar 0) (aCons (eC (.int 12)) aNil)))) (sSeq (sSet 3 (eA (fun xs=>Qco (xs++[])) (aCons (eVar 0) (aCons (eVar 1) (aCons (eVar 2) aNil))))) (sSeq (sSet 4 (eComp [none] (itL (eVar 1)) (gN 0) cTrue QtD)) (sSeq (sSet 5 (eA (fun xs=>QcH (xs++[])) (aCons (eVar 0) (aCons (eA fLen ‹"U"›) aNil)))) (sSeq (sSet 6 (eA (fun xs=>Qa2 (xs++[])) (aCons ‹"ac"› (aCons (eC (.int 80)) aNil)))) (sSeq (sSet 7 (eComp [none,some 6] (itR1 (e2 dAdd (eC (.int 1)) (e2 dMod (eVar 6) (eC (.int 6))))) (gN 0) cTrue QtB)) (sSeq ‹"M"› (sSeq ‹"aL"› (sSeq ‹"aI"› (sSeq (sSet 11 (e2 dEq (eA (fun xs=>Qb6 (xs++[])) (aCons (e2 dIx (eVar 10) (eC (.int 1))) aNil)) (eLst aNil))) (sSeq ‹"z"› (sSeq (sIf (tNot' (tVal (eVar 11))) (sRet (eAnd (e2 dEq (eA fLen (aCons (e2 dIx (eVar 8) (eC (.int 3))) aNil)) (eC (.int 300))) (e2 dEq (eA fLen (aCons (e2 dIx (eVar 9) (eC (.int 3))) aNil)) (eC (.int 300))))) sNil) (sSeq (sSet 12 (eA (fun xs=>Qbp (xs++[])) (aCons (eVar 10) (aCons (eA fLen ‹"U"›) aNil)))) (sSeq (sFor (gN 13) (itL (eLst (aCons (eVar 8) (aCons (eVar 9) aNil)))) Qty) (sRet (eC (.bl true)))))))))))))))))
def Qm7:List D->Out D:=bodyF false 1 14 QBF
theorem QQg(d0:D):Qm7 [d0]=(QBF [some (.k,d0),none,none,none,none,none,none,none,none,none,none,none,none,none]>>=retF false):=rfl
theorem QQj(F:FunV K "law" "law" Q6 f fd dV)(QJl:DefOk P w K mg base CT "_law_plan" 4 false [] Qdn)(QCQ:DefOk P w K mg base CT "_law_office" 8 true [] Qco)(QGN:DefOk P w K mg base CT "_law_desks" 3 true [] QcH)(Qi4:DefOk P w K mg base CT "_law_mixed" 1 false [] Qa2)(Qdh:‹"aV"›)(QEE:DefOk P w K mg base CT "served" 3 false [] QdD)(QuP:DefOk P w K mg base CT "_law_last_first" 2 false [] QaZ)(QpC:DefOk P w K mg base CT "able" 1 true [] Qb6)(Qrv:DefOk P w K mg base CT "_law_counted" 1 true [] Qbp)(z_len:mg "len"=none)(z_range:mg "range"=none):FnOk P w K mg base CX0 9 f fd ["_law_script"] (SpD K CT false Qm7):=
 @fnV P w K mg base CT false "law" "law" Q6 f fd dV ["_law_script","_law_plan_here","_law_doors","_law_office_here","_law_states","_law_desks_here","_law_number","_law_drawn","_law_one","_law_other","_law_due","_law_rests","_law_counts_here","_law_found"] ["_law_script"] 8 QBF F Qdk fun cdv A outer s H E G hr=>
  (Qf (QEO rfl (de_f QJl (hr.mono (by decide)) (Qc (Qb 0 rfl (oi QcA)) (Qc Qd Qj)) Qxx) (Qai (i:=1) Qdk.nd rfl (oi Qay) (Qai (i:=2) Qdk.nd rfl (oi Qhg) Qe1))) (Qf (QG (i:=3) Qdk.nd rfl (oi Qdu) (de_f QCQ (hr.mono (by decide)) (Qc (Qb 0 rfl (oi QcA)) (Qc (Qb 1 rfl (oi Qay)) (Qc (Qb 2 rfl (oi Qhg)) Qj))) Qua)) (Qf (Qhm (i:=4) rfl QHV (DI.b (Qan (Qb 1 rfl (oi Qay)))) ‹"g"› (Qw _) (fun fp s H G p=>⟨(QA (i:=0) QHV.nd rfl (oi Qgo) (hf:=Or.inr Qgo)),QM,(de_ix (Qb 0 rfl (oi Qgo)) (DE.db Qd))⟩) Qdk.nd rfl (oi QdN)) (Qf (QG (i:=5) Qdk.nd rfl (oi Qct) (de_f QGN (hr.mono (by decide)) (Qc (Qb 0 rfl (oi QcA)) (Qc ‹"aR"› Qj)) Qvk)) (Qf (QG (i:=6) Qdk.nd rfl (Or.inr QkI) (de_f Qi4 (hr.mono (by decide)) (Qc (de_f Qdh (hr.mono (by decide)) (Qc (Qb 0 rfl (oi QcA)) (Qc Qd Qj)) Qwf) (Qc Qd Qj)) Qvj)) (Qf (Qhm (i:=7) rfl QHR (DI.b (QaA QE8 z_range (DE.db (QaE (DE.db Qd) (DE.db (Q4 (DE.db (Qb 6 rfl (Or.inr (oi QkI)))) (DE.db Qd))))))) ‹"g"› (Qw _) (fun fp s H G p=>⟨(QA (i:=0) QHR.nd rfl (oi QhB) (hf:=Or.inr QhB)),QM,(Q4 (DE.db (de_f Qi4 (hr.mono (by decide)) (Qc (Qb 1 rfl (Or.inr (oi QpH))) (Qc (Qb 0 rfl (oi QhB)) Qj)) QrK)) (DE.db (QrY (DE.db Qd) (DE.db Qd))))⟩) Qdk.nd rfl (oi Ql9)) (Qf (QG (i:=8) Qdk.nd rfl (oi QfW) (de_f QEE (hr.mono (by decide)) (Qc (Qb 3 rfl (oi Qdu)) (Qc (Qb 4 rfl (oi QdN)) (Qc (Qb 5 rfl (oi Qct)) (Qc (DF.de (QV rfl QHE (DI.b (Qan (DF.de (df_sl (Qb 0 rfl (oi QcA)) (QHK (DE.db Qd)) (QHK (DE.db Qd)))))) ‹"g"› (Qw _) (fun fp s H G p=>⟨(QA (i:=0) QHE.nd rfl (oi Qdc) (hf:=Or.inr Qdc)),QM,(Q4 (DE.db (Qb 0 rfl (oi Qdc))) (DE.db (QaE (DE.db (QrY (DE.db Qd) (DE.db Qd))) (DE.db Qd))))⟩))) (Qc Qd Qj))))) Qsp)) (Qf (QG (i:=9) Qdk.nd rfl (oi QeB) (de_f QEE (hr.mono (by decide)) (Qc (Qb 3 rfl (oi Qdu)) (Qc (Qb 4 rfl (oi QdN)) (Qc (Qb 5 rfl (oi Qct)) (Qc (Qb 7 rfl (oi Ql9)) (Qc Qd Qj))))) Qsp)) (Qf (QG (i:=10) Qdk.nd rfl (oi Qd9) (de_f QuP (hr.mono (by decide)) (Qc (Qb 1 rfl (oi Qay)) (Qc (Qb 2 rfl (oi Qhg)) (Qc (Qb 4 rfl (oi QdN)) (Qc (Qb 5 rfl (oi Qct)) (Qc Qd Qj))))) Qo7)) (Qf (QG (i:=11) Qdk.nd rfl (oi Qey) (de_eq hr.units (DE.db (de_f QpC (hr.mono (by decide)) (Qc (de_ix (Qb 10 rfl (oi Qd9)) (DE.db Qd)) Qj) QqO)) (DE.db (DF.de (Qap Qj))))) (Qf (ds_if (DW.dt (dw_or (dt_ne hr.units (DE.db (de_eq hr.units (DE.db (de_f QpC (hr.mono (by decide)) (Qc (de_ix (Qb 8 rfl (oi QfW)) (DE.db Qd)) Qj) QqO)) (DE.db (DF.de (Qap Qj))))) (DE.db (Qb 11 rfl (oi Qey)))) (Qft (dt_ne hr.units (DE.db (de_eq hr.units (DE.db (de_f QpC (hr.mono (by decide)) (Qc (de_ix (Qb 9 rfl (oi QeB)) (DE.db Qd)) Qj) QqO)) (DE.db (DF.de (Qap Qj))))) (DE.db (Qb 11 rfl (oi Qey))))))) (Qi (QI de_bl)) Q1) (Qf (ds_if (QaX (Qbf (Qb 11 rfl (oi Qey)))) (Qi (QI (Qfz (de_eq hr.units (DE.db (Q3 Qhl z_len (Qu (DE.db (de_ix (Qb 8 rfl (oi QfW)) (DE.db Qd))) Qz))) (DE.db Qd)) (Qjx (de_eq hr.units (DE.db (Q3 Qhl z_len (Qu (DE.db (de_ix (Qb 9 rfl (oi QeB)) (DE.db Qd))) Qz))) (DE.db Qd)))))) Q1) (Qf (QG (i:=12) Qdk.nd rfl (oi QgJ) (de_f Qrv (hr.mono (by decide)) (Qc (Qb 10 rfl (oi Qd9)) (Qc ‹"aR"› Qj)) QjF)) (Qf (QcS PassesOwn.never rfl (Qan (DF.de (Qap (Qc (Qb 8 rfl (oi QfW)) (Qc (Qb 9 rfl (oi QeB)) Qj))))) (QA (i:=13) Qdk.nd rfl (oi Qc2)) (Qw _) (Qf (ds_if (DW.dt (dw_or (dt_ne hr.units (DE.db (de_ix (Qb 13 rfl (oi Qc2)) (DE.db Qd))) (DE.db (de_ix (Qb 10 rfl (oi Qd9)) (DE.db Qd)))) (dw_or (dt_ne hr.units (DE.db (de_ix (Qb 13 rfl (oi Qc2)) (DE.db Qd))) (DE.db (DF.de (QEG (Qap (Qc Qd Qj)) (DE.db ‹"aR"›))))) (Qft (dt_ne hr.units (DE.db (de_ix (Qb 13 rfl (oi Qc2)) (DE.db Qd))) (DE.db (de_ix (Qb 10 rfl (oi Qd9)) (DE.db Qd)))))))) (Qi (QI de_bl)) Q1) (Qi (ds_if (dt_ne hr.units (DE.db (de_f Qrv (hr.mono (by decide)) (Qc (Qb 13 rfl (oi Qc2)) (Qc ‹"aR"› Qj)) QjF)) (DE.db (Qb 12 rfl (oi QgJ)))) (Qi (QI de_bl)) Q1)))) (Qi (QI de_bl))))))))))))))))
end
end My
set_option exponentiation.threshold 20000
namespace My
open PySem PySem.Spec L2 DL
local macro_rules | `(tactic| walk_at "g") => `(tactic| ((repeat (first | exact QPO | apply QO1));done))
local macro_rules | `(tactic| walk_at "s") => `(tactic| repeat (first | exact QK2 | apply QLd))
local macro_rules | `(tactic| walk_at "all") => `(tactic| repeat (first | with_reducible exact QzZ | (apply Qz1;focus walk_at "s")))
local macro_rules | `(tactic| walk_at "cap") => `(tactic| repeat (first | exact c_nil | apply Qfy | (apply c_k;focus walk_at "g") | (apply c_o;focus walk_at "g") | (apply c_l;focus walk_at "g") | (apply c_s;focus walk_at "g")))
local macro_rules | `(tactic| walk_at "b") => `(tactic| first | rfl | with_reducible assumption | (simp only[Bool.not_eq_true',Bool.not_eq_false',decide_eq_true_eq,decide_eq_false_iff_not,Bool.not_true,Bool.not_false];first | with_reducible assumption | omega) | (simp;done))
local macro_rules | `(tactic| walk_at "p") => `(tactic| first | decide | with_reducible assumption | omega)
local macro_rules | `(tactic| walk_at "l") => `(tactic| first | decide | with_reducible assumption | (simp only[List.length_map,List.length_cons,List.length_nil,List.length_range,List.length_append];omega) | omega | (simp;omega))
local macro_rules | `(tactic| walk_at "e") => `(tactic| first
 | ((with_reducible apply r_id);with_reducible assumption)
 | with_reducible exact r_okR | with_reducible exact QN3
 | with_reducible apply r_var | with_reducible apply Qck | with_reducible exact r_C | with_reducible exact r_nil | with_reducible exact r_oNo | with_reducible exact Qdg | with_reducible exact Qo8
 | with_reducible exact Qad _ _ | with_reducible exact Qc5 _ _ | with_reducible exact Qel _ | with_reducible exact QiF _ | with_reducible exact Qbc _ _ | with_reducible exact QfV _ _ | with_reducible exact Qe4 _ _ | with_reducible exact Qlm _ _ | with_reducible exact Qam _ _ | with_reducible exact Qhr _ _
 | with_reducible exact QT (by walk_at "p")
 | with_reducible exact r_rt | with_reducible exact r_rtT | with_reducible exact r_rtS rfl
 | with_reducible apply QCN
 | with_reducible exact QK2 | with_reducible apply QLd
 | with_reducible exact QQa | with_reducible apply QPa
 | with_reducible exact QzZ | with_reducible apply Qz1
 | with_reducible exact c_nil | with_reducible apply Qfy | ((with_reducible apply c_k);focus walk_at "g") | ((with_reducible apply c_o);focus walk_at "g") | ((with_reducible apply c_l);focus walk_at "g") | ((with_reducible apply c_s);focus walk_at "g")
 | ((with_reducible apply r_scal);exact rfl)
 | ((with_reducible apply r_get);focus walk_at "g")
 | ((with_reducible apply QPQ);with_reducible assumption)
 | ((with_reducible apply QPh);focus walk_at "p") | with_reducible apply QPg | with_reducible apply bd_sub | with_reducible apply QPj | with_reducible apply bd_div | with_reducible apply bd_neg | with_reducible exact QKM rfl
 | ((with_reducible apply r_dec);focus exact rfl)
 | ((with_reducible apply r_len);focus walk_at "l")
 | with_reducible apply r_mul
 | ((with_reducible apply r_fdiv);focus walk_at "p")
 | ((with_reducible apply QgD);focus walk_at "b")
 | ((with_reducible apply Qfx);focus walk_at "b")
 | with_reducible apply Qe | with_reducible apply r_e2 | with_reducible apply r_e1 | with_reducible apply r_seq | with_reducible apply r_set | with_reducible apply Qdp | with_reducible apply r_if | with_reducible apply Qk | with_reducible apply Q9 | with_reducible apply QDz | with_reducible apply r_or' | with_reducible apply QeT | with_reducible apply QL6 | with_reducible apply r_eOr | with_reducible apply r_eNot | with_reducible apply r_eIf | with_reducible apply r_isa | with_reducible apply QOv | with_reducible apply QPt | with_reducible apply r_ret | with_reducible apply Qpm | with_reducible apply r_drop | with_reducible apply r_tup | with_reducible apply r_lst | with_reducible apply QEl | with_reducible apply QzQ | with_reducible apply r_noX | with_reducible apply QxL | with_reducible apply Qbh | with_reducible apply r_gN | with_reducible apply r_gT | with_reducible apply r_unp | with_reducible apply r_for | with_reducible apply r_itL | with_reducible apply r_itT | with_reducible apply r_itE | with_reducible apply r_itZ | with_reducible apply Q7 | with_reducible apply r_eA | with_reducible apply r_sl | with_reducible apply r_slB | with_reducible apply r_ixO | with_reducible apply r_meth | with_reducible apply QMf | with_reducible apply r_app | with_reducible apply r_put | with_reducible apply Qaj | with_reducible apply QHA | with_reducible apply QPG | with_reducible apply QNT | with_reducible apply r_lm)
abbrev CK:List Str:=Qg
theorem QKA{c:Str}(h:CK.contains c=true):Qm.contains c=true:=by
 have hm:c∈Qg:=by simpa using h
 simp only[Qg,List.mem_cons,List.not_mem_nil,or_false]at hm
 rcases hm with rfl | rfl | rfl | rfl<;>decide +kernel
def dl(r:List Int):D:=.lst (r.map .int)
def tbD(t:‹"aH"›):D:=.lst (t.map dl)
theorem Qvd{js:‹"K"›}{its:‹"aq"›}{g:D->SD->Out SD}{e:SD->Out D}{ς:SD}{xs:List D}{h:D->D}(hi:its ς=.ok xs)(ht:∀ x∈xs,turnC js g cTrue e ς x=.ok (some (h x)))(hl:xs.length<=1000):
 eComp js its g cTrue e ς=.ok (.lst (xs.map h)):=by
 unfold eComp
 rw[hi,Out.bind_ok,QvR (h:=fun x=>some (h x)) ht,Out.bind_ok]
 have e:xs.filterMap (fun x=>some (h x))=xs.map h:=by rw[← List.filterMap_eq_map];rfl
 rw[e,if_pos (QfX (by rw[List.length_map];exact hl))]
theorem QMQ{js:‹"K"›}{its:‹"aq"›}{e:SD->Out D}{ς:SD}{a b:List Int}(f:Int->Int->Int)(hi:its ς=.ok (List.zipWith (fun x y=>.tup [x,y]) (a.map .int) (b.map .int)))
 (ht:∀ x∈a,∀ y∈b,turnC js (gT [0,1]) cTrue e ς (.tup [.int x,.int y])=.ok (some (.int (f x y)))) (hl:a.length<=1000):eComp js its (gT [0,1]) cTrue e ς=.ok (dl (List.zipWith f a b)):=by
 have hz:List.zipWith (fun x y=>D.tup [x,y]) (a.map .int) (b.map .int)=(List.zip a b).map fun p=>D.tup [.int p.1,.int p.2]:=by
  rw[List.zipWith_map,List.map_zip_eq_zipWith]
  rfl
 rw[Qvd (h:=fun d=>match d with | .tup [.int x,.int y]=>.int (f x y) | _=>.non) (by rw[hi,hz]) ?_ ?_]
 ·unfold dl
  rw[List.map_map,List.map_zipWith,List.map_zip_eq_zipWith]
  rfl
 ·intro x hx
  obtain⟨⟨p,q⟩,hp,rfl⟩:=List.mem_map.mp hx
  exact ht p (List.of_mem_zip hp).1 q (List.of_mem_zip hp).2
 ·rw[List.length_map,List.length_zip]
  omega
theorem loopL{body:D->SD->Out Fl}{P:Nat->SD->Prop}:∀{xs:List D}(n:Nat),(∀ k x,xs[k]?=some x->∀ ς,P (n+k) ς->∃ ς',body x ς=.ok (.nx ς')/\P (n+k+1) ς')->∀ ς,P n ς->∃ ς',loopD body xs ς=.ok (.nx ς')/\P (n+xs.length) ς'
 | [],n,_,ς,p=>⟨ς,rfl,p⟩
 | x::xs,n,h,ς,p=>by
  obtain⟨ς1,e1',p1⟩:=h 0 x rfl ς p
  obtain⟨ς2,e2',p2⟩:=loopL (xs:=xs) (n+1) (fun k y hy ς q=>by
   have:=h (k+1) y hy ς (by rw[show n+(k+1)=n+1+k by omega];exact q)
   rw[show n+(k+1)+1=n+1+k+1 by omega]at this
   exact this) ς1 p1
  refine⟨ς2,?_,by rw[List.length_cons,show n+(xs.length+1)=n+1+xs.length by omega];exact p2⟩
  rw[loopD,e1']
  exact e2'
def cs(t:‹"aH"›)(k j:Nat):Int:=((t.take k).map fun r=>r.getD j 0).sum
def pre(t:‹"aH"›)(m k:Nat):List Int:=(List.range m).map (cs t k)
theorem QMx{t:‹"aH"›}{m k:Nat}{r:List Int}(hr:t[k]?=some r)(hm:r.length=m):List.zipWith (· + ·) (pre t m k) r=pre t m (k+1):=by
 apply List.ext_getElem?
 intro j
 unfold pre
 rw[List.getElem?_zipWith,List.getElem?_map,List.getElem?_map]
 by_cases hj:j<m
 ·have h1:(List.range m)[j]?=some j:=by simp[hj]
  have h2:r[j]?=some r[j]:=by simp[hm,hj]
  rw[h1,h2]
  show some (cs t k j+r[j])=some (cs t (k+1) j)
  unfold cs
  rw[List.take_add_one,hr]
  simp[hm,hj,List.getD_eq_getElem?_getD]
 ·have h1:(List.range m)[j]?=none:=by simp;omega
  rw[h1];rfl
theorem QNo(t:‹"aH"›)(m:Nat):pre t m 0=List.replicate m 0:=by
 unfold pre
 rw[List.eq_replicate_iff]
 refine⟨by simp,fun x hx=>?_⟩
 obtain⟨j,_,rfl⟩:=List.mem_map.mp hx
 rfl
structure Tb(t:List (List Int))(m:Nat):Prop where
 n1:1<=t.length
 n2:t.length<=12
 m6:m<=6
 row:∀ r∈t,r.length=m
 ent:∀ r∈t,∀ x∈r,0<=x/\x<=9
theorem QOs{a b:List Int}(hl:a.length<=1000):Qeb [dl a,dl b]=.ok (dl (List.zipWith (· + ·) a b)):=by
 have h:=QMQ (js:=[none,none]) (its:=itZ (eVar 0) (eVar 1)) (e:=QuO) (ς:=[some (.k,dl a),some (.k,dl b)]) (a:=a) (b:=b) (· + ·) rfl (fun x _ y _=>rfl) hl
 rw[QK1]
 unfold Qnh sRetF
 rw[h];rfl
def hdD(t:‹"aH"›)(m:Nat)(k:Nat):D:=.lst ((List.range (k+1)).map fun i=>dl (pre t m i))
theorem QH6{t:‹"aH"›}{m:Nat}(h:Tb t m):Qa8 [tbD t]=.ok (hdD t m t.length):=by
 obtain⟨n1,n2,m6,row,_⟩:=h
 have r0:t[0]?=some t[0]:=by simp
 have hr0:(t[0]).length=m:=row _ (List.getElem_mem _)
 have hix:dIx (tbD t) (.int 0)=.ok (dl t[0]):=ixL 0 (by rw[List.getElem?_map,r0];rfl)
 have hc:eComp [none] (itL ‹"I"›) (gN 0) cTrue Qg5 [some (.k,tbD t),none,none]=.ok (dl (pre t m 0)):=by
  rw[Qvd (xs:=(t[0]).map .int) (h:=fun _=>.int 0) (by simp only[itL,e2,eVar,eC,Out.bind_ok,List.getElem?_cons_zero,hix];rfl) (fun x _=>rfl) (by rw[List.length_map];omega)]
  rw[QNo,List.map_map]
  unfold dl
  congr 2
  rw[List.map_replicate]
  exact List.eq_replicate_iff.mpr ⟨by simp[hr0],fun x hx=>by obtain⟨_,_,rfl⟩:=List.mem_map.mp hx;rfl⟩
 obtain⟨ς',hL,a2,rfl⟩:=loopL (body:=fun x ς=>gN 2 x ς>>=fun ς'=>Qc1 ς') (xs:=t.map dl) (P:=fun k ς=>∃ a2,ς=[some (.k,tbD t),some (.o,hdD t m k),a2]) 0
  (by
   rintro k x hx ς ⟨a2,rfl⟩
   rw[Nat.zero_add]at *
   rw[List.getElem?_map]at hx
   cases ht:t[k]? with
   | none=>rw[ht]at hx;cases hx
   | some r=>
    rw[ht]at hx
    cases hx
    have hk:k<t.length:=(List.getElem?_eq_some_iff.mp ht).1
    have hrm:r.length=m:=row r (List.mem_of_getElem? ht)
    have hl:(pre t m k).length=m:=by simp[pre]
    have s:=QOs (a:=pre t m k) (b:=r) (by omega)
    rw[QMx ht hrm]at s
    have hat:atI ((List.range (k+1)).map fun i=>dl (pre t m i)) (-1)=some (dl (pre t m k)):=by
     unfold atI ixN
     simp
     rw[if_pos (by omega),show((-1:Int)+((k:Int)+1)).toNat=k by omega]
     simp
    refine⟨[some (.k,tbD t),some (.o,hdD t m (k+1)),some (.k,dl r)],?_,_,rfl⟩
    have e1':eIxO 1 ‹"aD"› [some (.k,tbD t),some (.o,hdD t m k),some (.k,dl r)]=.ok (dl (pre t m k)):=by
     unfold eIxO hdD
     simp only[List.getElem?_cons_succ,List.getElem?_cons_zero,e1,eC,Out.bind_ok,Qel,hat];rfl
    have hlt:decide (((List.range (k+1)).map fun i=>dl (pre t m i)).length<sizeLine)=true:=by
     have:(1000:Nat)<=sizeLine:=by decide
     rw[List.length_map,List.length_range]
     exact decide_eq_true (by omega)
    have hnext:((List.range (k+1)).map fun i=>dl (pre t m i))++[dl (pre t m (k+1))]=(List.range (k+1+1)).map fun i=>dl (pre t m i):=by
     rw[List.range_succ (n:=k+1),List.map_append];rfl
    show Qc1 [some (.k,tbD t),some (.o,hdD t m k),some (.k,dl r)]=_
    unfold Qc1 Qcb
    simp only[List.getElem?_cons_succ,List.getElem?_cons_zero,hdD]
    have e3':eA (fun xs=>Qeb (xs++[])) (aCons (eIxO 1 ‹"aD"›) (aCons (eVar 2) aNil)) [some (.k,tbD t),some (.o,hdD t m k),some (.k,dl r)]=.ok (dl (pre t m (k+1))):=by
     simp only[eA,aCons,aNil,e1',eVar,Out.bind_ok,List.getElem?_cons_succ,List.getElem?_cons_zero,List.append_nil,s]
    rw[show(D.lst ((List.range (k+1)).map fun i=>dl (pre t m i)))=hdD t m k from rfl,e3',Out.bind_ok,if_pos hlt,hnext]
    rfl)
  [some (.k,tbD t),some (.o,hdD t m 0),none] ⟨_,rfl⟩
 rw[Nat.zero_add,List.length_map]at hL
 have hfor:=QcP (g:=gN 2) (its:=itL (eVar 0)) (T:=Qc1) (ς:=[some (.k,tbD t),some (.o,hdD t m 0),none]) (xs:=t.map dl) rfl hL
 rw[QyR]
 unfold Qge
 have hs:sSetO 1 (eLst (aCons (eComp [none] (itL ‹"I"›) (gN 0) cTrue Qg5) aNil)) [some (.k,tbD t),none,none]=.ok (.nx [some (.k,tbD t),some (.o,hdD t m 0),none]):=by
  simp only[sSetO,eLst,aCons,aNil,hc,Out.bind_ok,List.length_cons,List.length_nil,Qdo,Nat.reduceAdd,Nat.reduceLeDiff,if_true];rfl
 simp only[sSeq,hs,Out.bind_ok,thenF,hfor]
 rfl
def ckF(t:‹"aH"›)(m:Nat):List (Str×D):=[("table",tbD t),("heads",hdD t m t.length)]
def ck(c:Str)(t:‹"aH"›)(m:Nat):D:=.ins c (ckF t m)
theorem QO2(t:‹"aH"›)(m:Nat):(ckF t m).lookup ("table":Str)=some (tbD t):=by
 unfold ckF;rw[List.lookup_cons,beq_self_eq_true]
theorem QNH{n:Str}(h1:(n == ("table":Str))=false)(h2:(n == ("heads":Str))=false)(t:‹"aH"›)(m:Nat):(ckF t m).lookup n=none:=by
 unfold ckF;rw[List.lookup_cons,h1,List.lookup_cons,h2];rfl
theorem put_h(t:‹"aH"›)(m:Nat):putD "heads" (hdD t m t.length) [("table",tbD t)]=ckF t m:=by
 have:¬ (("table":Str)=("heads":Str)):=dk
 unfold putD
 rw[if_neg this];rfl
theorem QtQ{c:Str}(hc:CK.contains c=true){t:‹"aH"›}{m:Nat}(h:Tb t m):QP c [] [tbD t]=.ok (ckF t m):=by
 have hk:eComp [none] (itL (eVar 1)) (gN 0) cTrue Qe8 [some (.s,.ins c []),some (.k,tbD t)]=.ok (tbD t):=by
  rw[Qvd (xs:=t.map dl) (h:=id) rfl ?_ (by rw[List.length_map];have:=h.n2;omega),List.map_id]
  ·rfl
  ·intro x hx
   obtain⟨r,_,rfl⟩:=List.mem_map.mp hx
   rfl
 have r1:=QH6 h
 have hz:∀ n:Nat,n<10->(Qm.contains c&&decide (n<1000))=true:=fun n hn=>by rw[QKA hc,Bool.true_and];exact decide_eq_true (by omega)
 have s1:sFldS Qm "table" 0 (eComp [none] (itL (eVar 1)) (gN 0) cTrue Qe8) [some (.s,.ins c []),some (.k,tbD t)]=.ok (.nx [some (.s,.ins c [("table",tbD t)]),some (.k,tbD t)]):=by
  unfold sFldS
  rw[hk,Out.bind_ok]
  show(if (Qm.contains c&&decide (([]:List (Str×D)).length<1000))=true then _ else _)=_
  exact(if_pos (c:=(Qm.contains c&&decide (0<1000))=true) (hz 0 (by decide))).trans rfl
 have s2:sFldS Qm "heads" 0 (eA (fun xs=>Qa8 (xs++[])) ‹"U"›) [some (.s,.ins c [("table",tbD t)]),some (.k,tbD t)]=.ok (.nx [some (.s,.ins c (ckF t m)),some (.k,tbD t)]):=by
  unfold sFldS
  have:eA (fun xs=>Qa8 (xs++[])) ‹"U"› [some (.s,.ins c [("table",tbD t)]),some (.k,tbD t)]=.ok (hdD t m t.length):=by
   simp only[eA,aCons,aNil,eVar,Out.bind_ok,List.getElem?_cons_succ,List.getElem?_cons_zero,List.append_nil,r1]
  rw[this,Out.bind_ok]
  show(if (Qm.contains c&&decide ([(("table":Str),tbD t)].length<1000))=true then _ else _)=_
  refine(if_pos (c:=(Qm.contains c&&decide (1<1000))=true) (hz 1 (by decide))).trans ?_
  rw[put_h];rfl
 rw[Qt1]
 unfold QdQ
 simp only[sSeq,s1,QPl,Out.bind_ok,thenF,s2]
 simp only[QfA,Qtl,List.getElem?_cons_zero,if_true]
theorem QtO{c:Str}(hc:CK.contains c=true){t:‹"aH"›}{m:Nat}{n:Str}{mt:Str->List D->Out D}{O:SD->Out D}{A:‹"aq"›}{ς:SD}{xs:List D}(hO:O ς=.ok (ck c t m))(hA:A ς=.ok xs)(h1:(n == ("table":Str))=false)(h2:(n == ("heads":Str))=false):
 eMeth CK n mt O A ς=mt c (ck c t m::xs):=by
 unfold eMeth
 rw[hO,Out.bind_ok]
 show(if (CK.contains c&&((ckF t m).lookup n).isNone)=true then A ς>>=fun xs=>mt c (.ins c (ckF t m)::xs) else .stuck)=_
 simp only[QNH h1 h2,hc,Option.isNone_none,Bool.and_self,if_true,hA,Out.bind_ok]
 rfl
theorem fld_t{c:Str}(hc:CK.contains c=true)(t:‹"aH"›)(m:Nat):dFld Qm "table" (ck c t m)=.ok (tbD t):=by
 show(if Qm.contains c=true then optO ((ckF t m).lookup ("table":Str)) else .stuck)=_
 rw[if_pos (QKA hc),QO2];rfl
theorem QzN{c:Str}(hc:CK.contains c=true)(t:‹"aH"›)(m:Nat):QaH [ck c t m]=.ok (.int (t.length:Int)):=by
 have:fLen [tbD t]=.ok (.int (t.length:Int)):=by simp[fLen,tbD]
 simp only[Qym,Qf7,sRet,eA,aCons,aNil,e1,eVar,List.getElem?_cons_zero,Out.bind_ok,fld_t hc,this]
 rfl
theorem QLA(i:Int):Qen [.int i]=.ok (.bl true):=by
 rw[QIk];simp[Qk3,bodyF,retF,sSeq,thenF,sSet,sRet,sIf,sNil,eVar,eC,e1,e2,eA,f1,aNil,aCons,tVal,tAnd',tOr',tNot',eAnd,eOr,eNot,eIf,eTup,eLst,eIsa,isaT,QcB,oNo,oSome,sPar,sUnp,Qaz,gN,gT,fLen,Qdo,Out.bind_ok,Out.bind_exc,Out.bind_stuck,Out.pure_eq,D.scal,Qad,Qc5,Qel,QiF,Qbc,QfV,Qe4,Qlm,Qam,Qhr,List.length_cons,List.length_nil,List.map_cons,List.map_nil,List.cons_append,List.nil_append,List.append_nil,List.getElem?_cons_zero,List.getElem?_cons_succ,List.set_cons_zero,List.set_cons_succ,List.replicate,Nat.reduceAdd,Nat.reduceSub,Nat.reduceLeDiff,Nat.zero_add,Nat.add_zero,reduceIte,Bool.not_true,Bool.not_false,Bool.true_and,Bool.and_true,Bool.false_and,Bool.and_false,Bool.or_true,Bool.true_or,Bool.or_false,Bool.false_or,Bool.false_eq_true,decide_true,decide_false,decide_eq_true_eq,Bool.not_eq_true',decide_eq_false_iff_not,Int.reduceEq,Int.reduceLT,Int.reduceLE,Int.reduceNeg,Nat.reduceEqDiff, ↓reduceIte,not_true_eq_false,not_false_eq_true]
theorem Qnc{i a b:Int}(h1:a<=i)(h2:i<=b):QaN [.int i,.int a,.int b]=.ok (.bl true):=by
 have hw:=QLA i
 have e1':decide (a<=i)=true:=decide_eq_true h1
 have e2':decide (i<=b)=true:=decide_eq_true h2
 rw[QFJ]
 simp[Qjd,bodyF,retF,sSeq,thenF,sSet,sRet,sIf,sNil,eVar,eC,e1,e2,eA,f1,aNil,aCons,tVal,tAnd',tOr',tNot',eAnd,eOr,eNot,eIf,eTup,eLst,eIsa,isaT,QcB,oNo,oSome,sPar,sUnp,Qaz,gN,gT,fLen,Qdo,Out.bind_ok,Out.bind_exc,Out.bind_stuck,Out.pure_eq,D.scal,Qad,Qc5,Qel,QiF,Qbc,QfV,Qe4,Qlm,Qam,Qhr,List.length_cons,List.length_nil,List.map_cons,List.map_nil,List.cons_append,List.nil_append,List.append_nil,List.getElem?_cons_zero,List.getElem?_cons_succ,List.set_cons_zero,List.set_cons_succ,List.replicate,Nat.reduceAdd,Nat.reduceSub,Nat.reduceLeDiff,Nat.zero_add,Nat.add_zero,reduceIte,Bool.not_true,Bool.not_false,Bool.true_and,Bool.and_true,Bool.false_and,Bool.and_false,Bool.or_true,Bool.true_or,Bool.or_false,Bool.false_or,Bool.false_eq_true,decide_true,decide_false,decide_eq_true_eq,Bool.not_eq_true',decide_eq_false_iff_not,Int.reduceEq,Int.reduceLT,Int.reduceLE,Int.reduceNeg,Nat.reduceEqDiff, ↓reduceIte,not_true_eq_false,not_false_eq_true,hw,Qdq,h1,h2]
theorem QCV{r:List Int}(hl:r.length<=6)(h:∀ x∈r,0<=x/\x<=9):Qep [dl r]=.ok (.bl true):=by
 have hlen:fLen [dl r]=.ok (.int (r.length:Int)):=by simp[fLen,dl]
 have hc:eComp [none] (itL (eVar 0)) (gN 0) cTrue QqG [some (.k,dl r)]=.ok (.lst (r.map fun _=>D.bl true)):=by
  refine Qat D.int (fun _=>.bl true) rfl (fun x hx=>?_) (by omega)
  have hw:=Qnc (h x hx).1 (h x hx).2
  refine Qaj (by walk_at "cap") (by walk_at "s") ?_
  unfold QqG
  (repeat walk_at "e")
 have ha:fAll (.lst (r.map fun _=>D.bl true))=.ok (.bl true):=by rw[QiI (fun _=>true)];simp
 have hf:f1 fAll [.lst (r.map fun _=>D.bl true)]=.ok (.bl true):=ha
 have hi:isaT "list" (dl r)=.ok true:=by simp[isaT,dl,QcB]
 have hg:decide ((6:Int)<(r.length:Int))=false:=decide_eq_false (by omega)
 rw[QM8]
 unfold QpE
 (repeat walk_at "e")
theorem QJT{t:‹"aH"›}{m:Nat}(h:Tb t m):QeL [tbD t]=.ok (.bl true):=by
 obtain⟨n1,n2,m6,row,ent'⟩:=h
 have hlen:fLen [tbD t]=.ok (.int (t.length:Int)):=by simp[fLen,tbD]
 have hc:eComp [none] (itL (eVar 0)) (gN 0) cTrue Qma [some (.k,tbD t)]=.ok (.lst (t.map fun _=>D.bl true)):=by
  refine Qat dl (fun _=>.bl true) rfl (fun x hx=>?_) (by omega)
  have hw:=QCV (r:=x) (by rw[row x hx];exact m6) (ent' x hx)
  refine Qaj (by walk_at "cap") (by walk_at "s") ?_
  unfold Qma
  (repeat walk_at "e")
 have r0:t[0]?=some t[0]:=by simp
 have hr0:(t[0]).length=m:=row _ (List.getElem_mem _)
 have hix0:dIx (tbD t) (.int 0)=.ok (dl t[0]):=ixL 0 (by rw[List.getElem?_map,r0];rfl)
 have hl0:fLen [dl t[0]]=.ok (.int (m:Int)):=by simp[fLen,dl,hr0]
 have hc2:eComp [none,some 0] (itL (eVar 0)) (gN 0) cTrue Qmg [some (.k,tbD t)]=.ok (.lst (t.map fun _=>D.bl true)):=by
  refine Qat dl (fun _=>.bl true) rfl (fun x hx=>?_) (by omega)
  have hlx:fLen [dl x]=.ok (.int (m:Int)):=by simp[fLen,dl,row x hx]
  have he:dEq (.int (m:Int)) (.int (m:Int))=.ok (.bl true):=by rw[Qam];simp
  refine Qaj (by walk_at "cap") (by walk_at "s") ?_
  unfold Qmg
  (repeat walk_at "e")
 have ha:fAll (.lst (t.map fun _=>D.bl true))=.ok (.bl true):=by rw[QiI (fun _=>true)];simp
 have hf:f1 fAll [.lst (t.map fun _=>D.bl true)]=.ok (.bl true):=ha
 have hi:isaT "list" (tbD t)=.ok true:=by simp[isaT,tbD,QcB]
 have hg:decide ((1:Int)<=(t.length:Int))=true:=decide_eq_true (by omega)
 have hg2:decide ((t.length:Int)<=12)=true:=decide_eq_true (by omega)
 rw[QIC]
 unfold Qk0
 (repeat walk_at "e")
theorem QL7{c:Str}(hc:CK.contains c=true){t:‹"aH"›}{m:Nat}(h:Tb t m):QdG c [] [tbD t]=.ok (ckF t m):=by
 have h1:=QJT h
 have h2:=QtQ hc h
 rw[QFl]
 unfold Qjl
 (repeat walk_at "e")
theorem QKX{c:Str}(hc:CK.contains c=true){r:List Int}{m:Nat}(h:Tb [r] m):QdJ c [] [dl r]=.ok (ckF [r] m):=by
 have h1:=QCV (r:=r) (by rw[h.row r (by simp)];exact h.m6) (h.ent r (by simp))
 have h2:QP c [] [.lst [dl r]]=.ok (ckF [r] m):=QtQ hc h
 rw[QF7]
 unfold QiZ
 (repeat walk_at "e")
def one(n s:Nat):List Int:=(List.range n).map fun k=>if k=s then 1 else 0
def dealT(n:Nat):List (List Int):=(List.range n).map (one n)
def bunT(n:Nat):List (List Int):=(List.range n).map fun s=>[if s+1=n then 1 else 0]
theorem QKj{n s:Nat}(h:n<=100):QcU [.int n,.int s]=.ok (dl (one n s)):=by
 have hc:eComp [none,some 1] (itR1 (eVar 0)) (gN 0) cTrue QiH [some (.k,.int n),some (.k,.int s)]=.ok (.lst ((List.range n).map fun k=>D.int (if k=s then 1 else 0))):=by
  refine Qg8 (fun k=>D.int (if k=s then 1 else 0)) (Qb7 n rfl (by omega)) (fun k hk=>?_) (by omega)
  refine Qaj (by walk_at "cap") (by walk_at "s") ?_
  unfold QiH
  by_cases e:k=s
  ·have e':decide ((k:Int)=(s:Int))=true:=decide_eq_true (by omega)
   rw[if_pos e]
   (repeat walk_at "e")
  ·have e':decide ((k:Int)=(s:Int))=false:=decide_eq_false (by omega)
   rw[if_neg e]
   (repeat walk_at "e")
 have he:dl (one n s)=.lst ((List.range n).map fun k=>D.int (if k=s then 1 else 0)):=by unfold dl one;rw[List.map_map];rfl
 rw[he,QEy]
 unfold QhI
 (repeat walk_at "e")
theorem QHL{n:Nat}(h1:1<=n)(h6:n<=6):Tb (dealT n) n:=by
 refine⟨by simp[dealT];omega,by simp[dealT];omega,h6,fun r hr=>?_,fun r hr x hx=>?_⟩<;>obtain⟨s,_,rfl⟩:=List.mem_map.mp hr
 ·simp[one]
 ·obtain⟨k,_,rfl⟩:=List.mem_map.mp hx
  split<;>decide
theorem QKw{n:Nat}(h1:1<=n)(h6:n<=12):Tb (bunT n) 1:=by
 refine⟨by simp[bunT];omega,by simp[bunT];omega,by decide,fun r hr=>?_,fun r hr x hx=>?_⟩<;>obtain⟨s,_,rfl⟩:=List.mem_map.mp hr
 ·simp
 ·rw[List.mem_singleton.mp hx]
  split<;>decide
theorem QLp{c:Str}(hc:CK.contains c=true){n:Nat}(n1:1<=n)(n6:n<=6):QdE c [] [.int n]=.ok (ckF (dealT n) n):=by
 have h1:=Qnc (i:=n) (a:=1) (b:=6) (by omega) (by omega)
 have h2:=QtQ hc (QHL n1 n6)
 have hc':eComp [none,some 1] (itR1 (eVar 1)) (gN 0) cTrue Qky [some (.s,.ins c []),some (.k,.int n)]=.ok (tbD (dealT n)):=by
  have he:tbD (dealT n)=.lst ((List.range n).map fun s=>dl (one n s)):=by unfold tbD dealT;rw[List.map_map];rfl
  rw[he]
  refine Qg8 (fun s=>dl (one n s)) (Qb7 n rfl (by omega)) (fun k hk=>?_) (by omega)
  have hs:=QKj (n:=n) (s:=k) (by omega)
  refine Qaj (by walk_at "cap") (by walk_at "s") ?_
  unfold Qky
  (repeat walk_at "e")
 rw[QFh]
 unfold Qji
 (repeat walk_at "e")
theorem QM3{c:Str}(hc:CK.contains c=true){n:Nat}(n1:1<=n)(n6:n<=12):Qcy c [] [.int n]=.ok (ckF (bunT n) 1):=by
 have h1:=Qnc (i:=n) (a:=1) (b:=12) (by omega) (by omega)
 have h2:=QtQ hc (QKw n1 n6)
 have hc':eComp [none,some 1] (itR1 (eVar 1)) (gN 0) cTrue QhE [some (.s,.ins c []),some (.k,.int n)]=.ok (tbD (bunT n)):=by
  have he:tbD (bunT n)=.lst ((List.range n).map fun s=>D.lst [.int (if s+1=n then 1 else 0)]):=by unfold tbD bunT;rw[List.map_map];rfl
  rw[he]
  refine Qg8 (fun s=>D.lst [.int (if s+1=n then 1 else 0)]) (Qb7 n rfl (by omega)) (fun k hk=>?_) (by omega)
  refine Qaj (by walk_at "cap") (by walk_at "s") ?_
  unfold QhE
  by_cases e:k+1=n
  ·have e':decide ((k:Int)=(n:Int) - 1)=true:=decide_eq_true (by omega)
   rw[if_pos e]
   (repeat walk_at "e")
  ·have e':decide ((k:Int)=(n:Int) - 1)=false:=decide_eq_false (by omega)
   rw[if_neg e]
   (repeat walk_at "e")
 rw[QBj]
 unfold QgQ
 (repeat walk_at "e")
abbrev rl(n:Nat)(f:Nat->D):D:=.lst ((List.range n).map f)
theorem atR{n i:Nat}{f:Nat->D}(h:i<n):((List.range n).map f)[i]?=some (f i):=by
 rw[List.getElem?_map,List.getElem?_range h];rfl
theorem ixR{n i:Nat}{f:Nat->D}(h:i<n):dIx (rl n f) (.int (i:Int))=.ok (f i):=ixL i (atR h)
theorem lenR(n:Nat)(f:Nat->D):fLen [rl n f]=.ok (.int (n:Int)):=by simp[fLen]
theorem Qa0{n:Nat}{f g:Nat->D}(h:∀ i,i<n->f i=g i):rl n f=rl n g:=by
 show D.lst _=D.lst _
 rw[List.map_congr_left fun i hi=>h i (List.mem_range.mp hi)]
theorem Qq4{body:D->SD->Out Fl}{P:Nat->SD->Prop}{f:Nat->D}{n:Nat}(h:∀ k:Nat,k<n->∀ ς,P k ς->∃ ς',body (f k) ς=.ok (.nx ς')/\P (k+1) ς')(ς:SD)(p0:P 0 ς):∃ ς',loopD body ((List.range n).map f) ς=.ok (.nx ς')/\P n ς':=by
 have go:∀ m k:Nat,k+m=n->∀ ς,P k ς->∃ ς',loopD body ((List.range' k m).map f) ς=.ok (.nx ς')/\P n ς':=by
  intro m
  induction m with
  | zero=>intro k hk ς p;exact⟨ς,rfl,by rw[← hk];exact p⟩
  | succ m ih=>
   intro k hk ς p
   obtain⟨ς1,e1',p1⟩:=h k (by omega) ς p
   obtain⟨ς2,e2',p2⟩:=ih (k+1) (by omega) ς1 p1
   refine⟨ς2,?_,p2⟩
   rw[List.range'_succ,List.map_cons,loopD,e1']
   exact e2'
 rw[List.range_eq_range']
 exact go n 0 (by omega) ς p0
theorem setR{n k:Nat}(hk:k<n)(f:Nat->D)(v:D):((List.range n).map f).set k v=(List.range n).map fun i=>if i=k then v else f i:=by
 apply List.ext_getElem?
 intro i
 rw[List.getElem?_set]
 by_cases hi:i<n
 ·have r1:((List.range n).map fun i=>if i=k then v else f i)[i]?=some (if i=k then v else f i):=atR hi
  rw[r1]
  by_cases e:k=i
  ·subst e
   rw[if_pos rfl,if_pos (by simpa using hi),if_pos rfl]
  ·rw[if_neg e,atR hi,if_neg (Ne.symm e)]
 ·have h1:((List.range n).map f)[i]?=none:=by simp;omega
  have h2:((List.range n).map fun i=>if i=k then v else f i)[i]?=none:=by simp;omega
  rw[h1,h2,if_neg (by omega)]
theorem ixNR{n k:Nat}(hk:k<n)(f:Nat->D):ixN ((List.range n).map f).length (k:Int)=some k:=by
 rw[List.length_map,List.length_range]
 unfold ixN
 rw[if_pos (by omega),if_pos (by omega)];simp
theorem allR{n:Nat}{f:Nat->D}(h:∀ i,i<n->(f i).scal=true):((List.range n).map f).all D.scal=true:=List.all_eq_true.mpr fun d hd=>by
 obtain⟨i,hi,rfl⟩:=List.mem_map.mp hd
 exact h i (List.mem_range.mp hi)
theorem QEY:∀ xs:List Str,strsD (xs.map D.str)=some xs
 | []=>rfl
 | x::xs=>by show(strsD (xs.map D.str)).map (x :: ·)=_;rw[QEY xs];rfl
def Inj(xs:List Str):Prop:=∀ i j,i<xs.length->xs[i]?=xs[j]?->i=j
theorem QB2{xs:List Str}(h:Inj xs):∀ i,i<=xs.length->LS.met (fun i=>xs.getD i "") i=xs.take i
 | 0,_=>rfl
 | i+1,hi=>by
  have ih:=QB2 h i (by omega)
  have hl:i<xs.length:=by omega
  have e:xs.getD i ""=xs[i]:=by rw[List.getD_eq_getElem?_getD,List.getElem?_eq_getElem hl];rfl
  have ni:¬ xs[i]∈xs.take i:=fun z=>by
   obtain⟨j,hj,ej⟩:=List.getElem_of_mem z
   rw[List.getElem_take]at ej
   rw[List.length_take]at hj
   have:=h i j (by omega) (by rw[List.getElem?_eq_getElem hl,List.getElem?_eq_getElem (show j<xs.length by omega),ej])
   omega
  show(if xs.getD i ""∈LS.met (fun i=>xs.getD i "") i then LS.met (fun i=>xs.getD i "") i else LS.met (fun i=>xs.getD i "") i++[xs.getD i ""])=_
  rw[ih,e,if_neg ni,List.take_add_one,List.getElem?_eq_getElem hl];rfl
theorem QsP{xs:List Str}(h:Inj xs)(hl:xs.length<=1000):Qaq [.lst (xs.map .str)]=.ok (.bl true):=by
 have hu:QyN (.lst (xs.map .str))=.ok (.int (xs.length:Int)):=by
  show(match strsD (xs.map .str) with | some xs=>if decide (xs.length<4000)=true then Out.ok (D.int (QeW xs)) else .stuck | none=>.stuck)=_
  rw[QEY]
  show(if decide (xs.length<4000)=true then Out.ok (D.int (QeW xs)) else .stuck)=_
  rw[if_pos (decide_eq_true (by omega))]
  unfold QeW
  rw[QB2 h _ ‹"an"›,List.take_length]
 have hlen:fLen [.lst (xs.map D.str)]=.ok (.int (xs.length:Int)):=by simp[fLen]
 have he:dEq (.int (xs.length:Int)) (.int (xs.length:Int))=.ok (.bl true):=by rw[Qam];simp
 rw[QD5]
 unfold Qhz
 (repeat walk_at "e")
theorem QqY{n:Nat}{f:Nat->D}{M:Int}(h1:1<=n)(h2:(n:Int)<=M):Qb0 [rl n f,.int M]=.ok (.bl true):=by
 have hlen:=lenR n f
 have hi:isaT "list" (rl n f)=.ok true:=by simp[isaT,QcB]
 have g1:decide ((1:Int)<=(n:Int))=true:=decide_eq_true (by omega)
 have g2:decide ((n:Int)<=M)=true:=decide_eq_true h2
 have g3:dLe (.int (n:Int)) (.int M)=.ok (.bl true):=by rw[QfV,g2]
 rw[QKR]
 unfold Qnj
 (repeat walk_at "e")
theorem QpZ(n:Nat):f1 fAll [rl n (fun _=>.bl true)]=.ok (.bl true):=by
 show fAll (.lst ((List.range n).map fun _=>D.bl true))=_
 rw[QiI (fun _=>true)];simp
theorem QsI(n:Nat)(f:Nat->Str):(List.range n).map (fun i=>D.str (f i))=((List.range n).map f).map D.str:=by rw[List.map_map];rfl
theorem QOM{n:Nat}{f:Nat->Str}(h:∀ i j,i<n->j<n->f i=f j->i=j):Inj ((List.range n).map f):=by
 intro i j hi z
 rw[List.length_map,List.length_range]at hi
 rw[List.getElem?_map,List.getElem?_map,List.getElem?_range hi]at z
 by_cases hj:j<n
 ·rw[List.getElem?_range hj]at z
  exact h i j hi hj (Option.some.inj z)
 ·have h1:(List.range n)[j]?=none:=by simp;omega
  rw[h1]at z;cases z
structure Seats(n nd:Nat)(nm dn c:Nat->Str)(t:Nat->List (List Int))(m:Nat->Nat)(ld:Nat->Nat->Int)(st:Nat->Int):Prop where
 n1:1<=n
 n2:n<=60
 d1:1<=nd
 d2:nd<=6
 ck:∀ k,k<n->CK.contains (c k)=true
 tb:∀ k,k<n->Tb (t k) (m k)
 ldr:∀ k j,k<n->j<m k -> -(nd:Int)<=ld k j/\ld k j<(n:Int)
 str:∀ k,k<n->0<=st k/\st k<((t k).length:Int)
 isn:∀ k,k<n->QaQ [.str (nm k)]=.ok (.bl true)
 isd:∀ d,d<nd->QaQ [.str (dn d)]=.ok (.bl true)
 inj:∀ i j,i<n->j<n->nm i=nm j->i=j
 injd:∀ i j,i<nd->j<nd->dn i=dn j->i=j
 sep:∀ i d,i<n->d<nd->nm i≠dn d
def nml(nm dn:Nat->Str)(l:Int):Str:=if l<0 then dn (-1 - l).toNat else nm l.toNat
def seatD(nm dn c:Nat->Str)(t:Nat->List (List Int))(m:Nat->Nat)(ld:Nat->Nat->Int)(st:Nat->Int)(k:Nat):D:=
 .tup [.str (nm k),ck (c k) (t k) (m k),rl (m k) ‹"aN"›,.int (st k)]
theorem ix_t{xs:List D}{d:D}(i:Nat)(h:xs[i]?=some d):dIx (.tup xs) (.int (i:Int))=.ok d:=by
 show optO (atI xs (i:Int))=_
 have hi:i<xs.length:=(List.getElem?_eq_some_iff.mp h).1
 have:atI xs (i:Int)=some d:=by
  unfold atI ixN
  rw[if_pos (by omega),if_pos (by omega)]
  simpa using h
 rw[this];rfl
theorem QML{c:Str}(hc:CK.contains c=true)(t:‹"aH"›)(m:Nat):QeD [ck c t m]=.ok (.bl true):=by
 have hm:c∈Qg:=by simpa using hc
 simp only[Qg,List.mem_cons,List.not_mem_nil,or_false]at hm
 have key:∀ c:Str,(c="Deal"∨c="Bundle"∨c="Copy"∨c="Rows")->anyT [[("Deal",true),("Bundle",false),("Copy",false),("Rows",false),("Office",false)],[("Deal",false),("Bundle",true),("Copy",false),("Rows",false),("Office",false)],[("Deal",false),("Bundle",false),("Copy",true),("Rows",false),("Office",false)],[("Deal",false),("Bundle",false),("Copy",false),("Rows",true),("Office",false)]] c=some true:=by
  rintro c (rfl | rfl | rfl | rfl)<;>decide +kernel
 have k:=key c hm
 rw[QIM]
 unfold Qlh
 show(sRet (eIsa (isaTs _) (eVar 0)) [some (.k,.ins c (ckF t m))]>>=retF false)=_
 have hi:isaTs [[("Deal",true),("Bundle",false),("Copy",false),("Rows",false),("Office",false)],[("Deal",false),("Bundle",true),("Copy",false),("Rows",false),("Office",false)],[("Deal",false),("Bundle",false),("Copy",true),("Rows",false),("Office",false)],[("Deal",false),("Bundle",false),("Copy",false),("Rows",true),("Office",false)]] (.ins c (ckF t m))=.ok true:=by
  show(match anyT _ c with | some b=>Out.ok b | none=>Out.stuck)=_
  rw[k]
 (repeat walk_at "e")
theorem QNK{c:Str}(hc:CK.contains c=true){t:‹"aH"›}{m:Nat}(h:Tb t m):Qcq [ck c t m]=.ok (.int (m:Int)):=by
 have n1:=h.n1
 have r0:t[0]?=some t[0]:=by simp
 have hix:dIx (tbD t) (.int 0)=.ok (dl t[0]):=ixL 0 (by rw[List.getElem?_map,r0];rfl)
 have hl0:fLen [dl t[0]]=.ok (.int (m:Int)):=by simp[fLen,dl,h.row _ (List.getElem_mem _)]
 have hf:=fld_t hc t m
 rw[QEf]
 unfold QhM
 (repeat walk_at "e")
theorem QMs{n:Nat}(hn:n<=100)(f:Nat->Str):QdC [rl n (fun j=>.str (f j)),.int (n:Int)]=.ok (.bl true):=by
 have hlen:=lenR n (fun j=>D.str (f j))
 have hi:isaT "list" (rl n (fun j=>D.str (f j)))=.ok true:=by simp[isaT,QcB]
 have hc:eComp [none] (itL (eVar 0)) (gN 0) cTrue Qkc [some (.k,rl n (fun j=>.str (f j))),some ‹"al"›]=.ok (rl n (fun _=>.bl true)):=by
  refine Qat (fun j=>D.str (f j)) (fun _=>.bl true) rfl (fun j _=>?_) (by rw[List.length_range];omega)
  have hs:isaT "str" (D.str (f j))=.ok true:=by simp[isaT,QcB]
  refine Qaj (by walk_at "cap") (by walk_at "s") ?_
  unfold Qkc
  (repeat walk_at "e")
 have he:dEq (.int (n:Int)) (.int (n:Int))=.ok (.bl true):=by rw[Qam];simp
 have ha:=QpZ n
 rw[QG8]
 unfold Qi7
 (repeat walk_at "e")
theorem QOj:QaQ [.str "in"]=.ok (.bl true):=by with_unfolding_all rfl
section
variable{n nd:Nat}{nm dn c:Nat->Str}{t:Nat->List (List Int)}{m:Nat->Nat}{ld:Nat->Nat->Int}{st:Nat->Int}(hs:Seats n nd nm dn c t m ld st)
include hs
theorem QMX:QdH [rl nd ‹"u"›,.int 6]=.ok (.bl true):=by
 have d2:=hs.d2
 have h1:=QqY (n:=nd) (f:=fun d=>.str (dn d)) (M:=6) hs.d1 (by omega)
 have hc:eComp [none] (itL (eVar 0)) (gN 0) cTrue QjL [some (.k,rl nd ‹"u"›),some (.k,.int 6)]=.ok (rl nd (fun _=>.bl true)):=by
  refine Qat (fun d=>D.str (dn d)) (fun _=>.bl true) rfl (fun d hd=>?_) (by rw[List.length_range];omega)
  have h:=hs.isd d (List.mem_range.mp hd)
  refine Qaj (by walk_at "cap") (by walk_at "s") ?_
  unfold QjL
  (repeat walk_at "e")
 have ha:=QpZ nd
 have hu:Qaq [rl nd ‹"u"›]=.ok (.bl true):=by
  show Qaq [.lst _]=_
  rw[QsI]
  exact QsP (QOM hs.injd) (by simp;omega)
 rw[QFi]
 unfold Qi1
 (repeat walk_at "e")
theorem QOK{k:Nat}(hk:k<n):Qfv [seatD nm dn c t m ld st k]=.ok (.bl true):=by
 have tb:=hs.tb k hk
 have hc:=hs.ck k hk
 have m6:=tb.m6
 obtain⟨s0,s1⟩:=hs.str k hk
 have hi:isaT "tuple" ‹"ap"›=.ok true:=by simp[isaT,QcB,seatD]
 have hl:fLen [seatD nm dn c t m ld st k]=.ok (.int 4):=by simp[fLen,seatD]
 have x0:dIx ‹"ap"› (.int 0)=.ok (.str (nm k)):=ix_t 0 rfl
 have x1:dIx ‹"ap"› (.int 1)=.ok (ck (c k) (t k) (m k)):=ix_t 1 rfl
 have x2:dIx ‹"ap"› (.int 2)=.ok (rl (m k) ‹"aN"›):=ix_t 2 rfl
 have x3:dIx ‹"ap"› (.int 3)=.ok (.int (st k)):=ix_t 3 rfl
 have h0:=hs.isn k hk
 have h1:=QML hc (t k) (m k)
 have h2:=QMs (n:=m k) (by omega) (fun j=>nml nm dn (ld k j))
 have h3:=Qnc (i:=st k) (a:=0) (b:=((t k).length:Int) - 1) s0 (by omega)
 have mo:eMeth Qg "outs" (fun _=>Qcq) ‹"x"› aNil [some (.k,seatD nm dn c t m ld st k)]=.ok (.int (m k:Int)):=by
  rw[QtO (c:=c k) (t:=t k) (m:=m k) hc (xs:=[]) (by (repeat walk_at "e")) rfl (dk) (dk)]
  exact QNK hc tb
 have mp:eMeth Qg "period" (fun _=>QaH) ‹"x"› aNil [some (.k,seatD nm dn c t m ld st k)]=.ok (.int ((t k).length:Int)):=by
  rw[QtO (c:=c k) (t:=t k) (m:=m k) hc (xs:=[]) (by (repeat walk_at "e")) rfl (dk) (dk)]
  exact QzN hc _ _
 have hne:dNe (.int 4) (.int 4)=.ok (.bl false):=by rw[Qhr];rfl
 rw[QKF]
 unfold Qm5
 (repeat walk_at "e")
theorem QMV:QdL [rl n ‹"A"›,rl nd ‹"u"›]=.ok (.bl true):=by
 have n2:=hs.n2
 have d2:=hs.d2
 have h1:=QqY (n:=n) (f:=seatD nm dn c t m ld st) (M:=60) hs.n1 (by omega)
 have hc:eComp [none] (itL (eVar 0)) (gN 0) cTrue Qj8 [some (.k,rl n ‹"A"›),some (.k,rl nd ‹"u"›)]=.ok (rl n (fun _=>.bl true)):=by
  refine Qat ‹"A"› (fun _=>.bl true) rfl (fun k hk=>?_) (by rw[List.length_range];omega)
  have h:=QOK hs (List.mem_range.mp hk)
  refine Qaj (by walk_at "cap") (by walk_at "s") ?_
  unfold Qj8
  (repeat walk_at "e")
 have ha:=QpZ n
 have hn:eComp [none] (itL (eVar 0)) (gN 0) cTrue QjX [some (.k,rl n ‹"A"›),some (.k,rl nd ‹"u"›)]=.ok (rl n (fun k=>.str (nm k))):=by
  refine Qat ‹"A"› (fun k=>D.str (nm k)) rfl (fun k hk=>?_) (by rw[List.length_range];omega)
  have x0:dIx ‹"ap"› (.int 0)=.ok (.str (nm k)):=ix_t 0 rfl
  refine Qaj (by walk_at "cap") (by walk_at "s") ?_
  unfold QjX
  (repeat walk_at "e")
 have hcat:dCat (rl n (fun k=>.str (nm k))) (rl nd ‹"u"›)=.ok (.lst ((((List.range n).map nm)++((List.range nd).map dn)).map .str)):=by
  rw[QOn (by simp;omega),List.map_append, ← QsI, ← QsI]
 have hu:Qaq [.lst ((((List.range n).map nm)++((List.range nd).map dn)).map .str)]=.ok (.bl true):=by
  refine QsP ?_ (by simp;omega)
  intro i j hi z
  rw[List.length_append,List.length_map,List.length_map,List.length_range,List.length_range]at hi
  have at':∀ i,(((List.range n).map nm)++((List.range nd).map dn))[i]?=if i<n then some (nm i) else if i - n<nd then some (dn (i - n)) else none:=fun i=>by
   rw[List.getElem?_append,List.length_map,List.length_range]
   split
   ·rw[List.getElem?_map,List.getElem?_range (by assumption)];rfl
   ·split
    ·rw[List.getElem?_map,List.getElem?_range (by assumption)];rfl
    ·simp;omega
  rw[at',at']at z
  by_cases a:i<n
  ·rw[if_pos a]at z
   by_cases b:j<n
   ·rw[if_pos b]at z;exact hs.inj i j a b (Option.some.inj z)
   ·rw[if_neg b]at z
    by_cases d:j - n<nd
    ·rw[if_pos d]at z;exact absurd (Option.some.inj z) (hs.sep i _ a d)
    ·rw[if_neg d]at z;cases z
  ·rw[if_neg a,if_pos (show i - n<nd by omega)]at z
   by_cases b:j<n
   ·rw[if_pos b]at z;exact absurd (Option.some.inj z).symm (hs.sep j _ b (by omega))
   ·rw[if_neg b]at z
    by_cases d:j - n<nd
    ·rw[if_pos d]at z
     have:=hs.injd _ _ (by omega) d (Option.some.inj z)
     omega
    ·rw[if_neg d]at z;cases z
 rw[QFy]
 unfold Qjk
 (repeat walk_at "e")
theorem QMy:dInL (.str (nm 0)) (rl n (fun k=>.str (nm k)))=.ok (.bl true):=by
 have n1:=hs.n1
 show(if (_&&((List.range n).map fun k=>D.str (nm k)).all D.scal)=true then Out.ok (D.bl (inV _ _)) else _)=_
 rw[if_pos (by rw[Bool.and_eq_true];exact⟨rfl,allR fun i _=>rfl⟩)]
 have:inV (toV (.str (nm 0))) (((List.range n).map fun k=>D.str (nm k)).map toV)=true:=by
  unfold inV
  rw[List.any_eq_true]
  refine⟨V.str (nm 0),?_,by show(nm 0 == nm 0)=true;exact beq_self_eq_true _⟩
  rw[List.map_map,List.mem_map]
  exact⟨0,List.mem_range.mpr (by omega),rfl⟩
 rw[this]
theorem QJB:Qcw [.lst [.tup [.str "in",.str (nm 0)]],rl n (fun k=>.str (nm k))]=.ok (.bl true):=by
 have n1:=hs.n1
 have hin:=QOj
 have h0:=hs.isn 0 (by omega)
 have hL:=QMy hs
 have e1':Qes [.tup [.str "in",.str (nm 0)],rl n (fun k=>.str (nm k))]=.ok (.bl true):=by
  have hi:isaT "tuple" (.tup [.str "in",.str (nm 0)])=.ok true:=by simp[isaT,QcB]
  have hl:fLen [.tup [.str "in",.str (nm 0)]]=.ok (.int 2):=by simp[fLen]
  have x0:dIx (.tup [.str "in",.str (nm 0)]) (.int 0)=.ok (.str "in"):=ix_t 0 rfl
  have x1:dIx (.tup [.str "in",.str (nm 0)]) (.int 1)=.ok (.str (nm 0)):=ix_t 1 rfl
  have hne:dNe (.int 2) (.int 2)=.ok (.bl false):=by rw[Qhr];rfl
  rw[QJq]
  unfold Qk6
  (repeat walk_at "e")
 have h1:Qb0 [.lst [.tup [.str "in",.str (nm 0)]],.int 6]=.ok (.bl true):=QqY (n:=1) (f:=fun _=>.tup [.str "in",.str (nm 0)]) (M:=6) (by decide) (by decide)
 have hc:eComp [none,some 1] (itL (eVar 0)) (gN 0) cTrue Qhw [some (.k,.lst [.tup [.str "in",.str (nm 0)]]),some ‹"J"›]=.ok (rl 1 (fun _=>.bl true)):=by
  refine Qat (l:=List.range 1) (fun _=>.tup [.str "in",.str (nm 0)]) (fun _=>.bl true) rfl (fun k hk=>?_) (by simp)
  refine Qaj (by walk_at "cap") (by walk_at "s") ?_
  unfold Qhw
  (repeat walk_at "e")
 have ha:=QpZ 1
 have hn:eComp [none] (itL (eVar 0)) (gN 0) cTrue QhO [some (.k,.lst [.tup [.str "in",.str (nm 0)]]),some ‹"J"›]=.ok (.lst ([("in":Str)].map .str)):=by
  refine Qat (l:=List.range 1) (fun _=>.tup [.str "in",.str (nm 0)]) (fun _=>.str "in") rfl (fun k hk=>?_) (by simp)
  have x0:dIx (.tup [.str "in",.str (nm 0)]) (.int 0)=.ok (.str "in"):=ix_t 0 rfl
  refine Qaj (by walk_at "cap") (by walk_at "s") ?_
  unfold QhO
  (repeat walk_at "e")
 have hu:Qaq [.lst ([("in":Str)].map .str)]=.ok (.bl true):=QsP (by
  intro i j hi z
  have hi:i<1:=hi
  have:i=0:=by omega
  subst this
  cases j with
  | zero=>rfl
  | succ j=>simp at z) (by simp)
 rw[QAk]
 unfold QgU
 (repeat walk_at "e")
end
theorem QKc{i:Nat}{I E:SD->Out D}{ς ς':SD}{kds:List (Key×D)}{d y:D}{k:Key}(a:E ς=.ok d)(e:ς[i]?=some (some (.o,.dic kds)))(a':I ς=.ok y)(hk:dkey y=some k)(hl:kds.length<=1000)
 (l:ς.set i (some (.o,.dic (putKD kds k d)))=ς'):sPutD i I E ς=.ok (.nx ς'):=by
 unfold sPutD
 rw[a,Out.bind_ok,e]
 show(I ς>>=_)=_
 rw[a',Out.bind_ok,hk]
 show(if _ then _ else _)=_
 rw[if_pos (QHC hl),l]
theorem QOW{A B:SD->Out D}{ς:SD}{kds:List (Key×D)}{y:D}{k:Key}(a:A ς=.ok (.dic kds))(a':B ς=.ok y)(hk:dkey y=some k):eDget A B ς=.ok ((valD kds k).getD .non):=by
 unfold eDget
 rw[a,Out.bind_ok]
 show(B ς>>=_)=_
 rw[a',Out.bind_ok,hk]
theorem r_dix{A B:SD->Out D}{ς:SD}{kds:List (Key×D)}{y d:D}{k:Key}(a:A ς=.ok (.dic kds))(a':B ς=.ok y)(hk:dkey y=some k)(hv:valD kds k=some d):eDix A B ς=.ok d:=by
 unfold eDix
 rw[a,Out.bind_ok]
 show(B ς>>=_)=_
 rw[a',Out.bind_ok,hk]
 show optO (valD kds k)=_
 rw[hv];rfl
theorem QHT{kds:List (Key×D)}{k:Key}{d:D}(h:∀ kv∈kds,kv.1≠k):putKD kds k d=kds++[(k,d)]:=by
 unfold putKD
 rw[if_neg]
 intro z
 obtain⟨kv,hk,e⟩:=List.any_eq_true.mp z
 exact h kv hk (of_decide_eq_true e)
theorem Qyl{k:Key}{d:D}:∀{kds:List (Key×D)}(i:Nat),kds[i]?=some (k,d)->(∀ j kv,j<i->kds[j]?=some kv->kv.1≠k)->valD kds k=some d
 | [],i,h,_=>by simp at h
 | kv::kds,0,h,_=>by
  simp at h
  subst h
  simp[valD]
 | kv::kds,i+1,h,hn=>by
  have h0:=hn 0 kv (by omega) rfl
  have:valD (kv::kds) k=valD kds k:=by simp[valD,List.find?_cons,h0]
  rw[this]
  exact Qyl i (by simpa using h) fun j kv' hj he=>hn (j+1) kv' (by omega) (by simpa using he)
theorem enumR(n:Nat)(f:Nat->D):enumD 0 ((List.range n).map f)=(List.range n).map fun i:Nat=>D.tup [.int (i:Int),f i]:=by
 apply List.ext_getElem?
 intro i
 rw[Qr3,Nat.zero_add]
 by_cases hi:i<n
 ·have r1:((List.range n).map fun i:Nat=>D.tup [.int (i:Int),f i])[i]?=some (D.tup [.int (i:Int),f i]):=atR hi
  rw[atR hi,r1];rfl
 ·have h1:((List.range n).map f)[i]?=none:=by simp;omega
  have h2:((List.range n).map fun i:Nat=>D.tup [.int (i:Int),f i])[i]?=none:=by simp;omega
  rw[h1,h2];rfl
def plc(n nd:Nat)(nm dn:Nat->Str):List (Key×D):=((List.range n).map fun i:Nat=>((.inr (nm i):Key),D.int (i:Int)))++((List.range nd).map fun i:Nat=>((.inr (dn i):Key),D.int ‹"w"›))
theorem QwN(n nd:Nat)(nm dn:Nat->Str)(i:Nat):(plc n nd nm dn)[i]?=if i<n then some (.inr (nm i),.int (i:Int)) else if i - n<nd then some (.inr (dn (i - n)),.int (-1 - ((i - n:Nat):Int))) else none:=by
 unfold plc
 rw[List.getElem?_append,List.length_map,List.length_range]
 split
 ·rw[List.getElem?_map,List.getElem?_range (by assumption)];rfl
 ·split
  ·rw[List.getElem?_map,List.getElem?_range (by assumption)];rfl
  ·simp;omega
section
variable{n nd:Nat}{nm dn c:Nat->Str}{t:Nat->List (List Int)}{m:Nat->Nat}{ld:Nat->Nat->Int}{st:Nat->Int}(hs:Seats n nd nm dn c t m ld st)
include hs
theorem plc_c{i:Nat}(hi:i<n):valD (plc n nd nm dn) (.inr (nm i))=some (.int (i:Int)):=by
 refine Qyl i (by rw[QwN,if_pos hi]) fun j kv hj he=>?_
 rw[QwN,if_pos (by omega)]at he
 cases he
 intro z
 have:=hs.inj j i (by omega) hi (Sum.inr.inj z)
 omega
theorem plc_d{d:Nat}(hd:d<nd):valD (plc n nd nm dn) (.inr (dn d))=some (.int (-1 - (d:Int))):=by
 refine Qyl (n+d) (by rw[QwN,if_neg (by omega),if_pos (by omega),show n+d - n=d by omega]) fun j kv hj he=>?_
 rw[QwN]at he
 by_cases a:j<n
 ·rw[if_pos a]at he
  cases he
  intro z
  exact hs.sep j d a hd (Sum.inr.inj z)
 ·rw[if_neg a,if_pos (by omega)]at he
  cases he
  intro z
  have:=hs.injd _ _ (by omega) hd (Sum.inr.inj z)
  omega
theorem QLj:Qdw [rl n (fun k=>.str (nm k)),rl nd ‹"u"›]=.ok (.dic (plc n nd nm dn)):=by
 have n2:=hs.n2
 have d2:=hs.d2
 obtain⟨ς1,hL1,a3,a4,rfl⟩:=Qq4 (body:=fun x ς=>gT [3,4] x ς>>=fun ς'=>QgX ς') (f:=fun i:Nat=>D.tup [.int (i:Int),.str (nm i)]) (n:=n)
  (P:=fun k ς=>∃(a3 a4:Option (SM×D)),ς=[some ‹"J"›,some (.k,rl nd ‹"u"›),some (.o,.dic (plc k 0 nm dn)),a3,a4,none,none])
  (by
   rintro k hk ς ⟨a3,a4,rfl⟩
   refine⟨[some ‹"J"›,some (.k,rl nd ‹"u"›),some (.o,.dic (plc (k+1) 0 nm dn)),some ‹"p"›,some (.k,.str (nm k)),none,none],?_,_,_,rfl⟩
   have e:plc (k+1) 0 nm dn=putKD (plc k 0 nm dn) (.inr (nm k)) (.int (k:Int)):=by
    rw[QHT]
    ·show((List.range (k+1)).map _)++[]=((List.range k).map _++[])++[_]
     rw[List.append_nil,List.append_nil,List.range_succ,List.map_append];rfl
    ·intro kv hkv
     have hkv:kv∈((List.range k).map fun i:Nat=>((.inr (nm i):Key),D.int (i:Int)))++[]:=hkv
     rw[List.append_nil]at hkv
     obtain⟨i,hi,rfl⟩:=List.mem_map.mp hkv
     have hi:=List.mem_range.mp hi
     intro z
     have:=hs.inj i k (by omega) hk (Sum.inr.inj z)
     omega
   rw[e]
   refine r_gT (by walk_at "all") ?_
   unfold QgX
   exact QKc (d:=.int (k:Int)) (y:=.str (nm k)) (k:=.inr (nm k)) (by (repeat walk_at "e")) rfl (by (repeat walk_at "e")) rfl (by unfold plc;simp;omega) rfl)
  ‹"au"› ⟨_,_,rfl⟩
 obtain⟨ς2,hL2,a5,a6,rfl⟩:=Qq4 (body:=fun x ς=>gT [5,6] x ς>>=fun ς'=>QgR ς') (f:=fun i:Nat=>D.tup [.int (i:Int),.str (dn i)]) (n:=nd)
  (P:=fun k ς=>∃(a5 a6:Option (SM×D)),ς=[some ‹"J"›,some (.k,rl nd ‹"u"›),some (.o,.dic (plc n k nm dn)),a3,a4,a5,a6])
  (by
   rintro k hk ς ⟨a5,a6,rfl⟩
   refine⟨[some ‹"J"›,some (.k,rl nd ‹"u"›),some (.o,.dic (plc n (k+1) nm dn)),a3,a4,some ‹"p"›,some (.k,.str (dn k))],?_,_,_,rfl⟩
   have e:plc n (k+1) nm dn=putKD (plc n k nm dn) (.inr (dn k)) (.int (-1 - (k:Int))):=by
    rw[QHT]
    ·unfold plc
     rw[List.range_succ,List.map_append,List.append_assoc];rfl
    ·intro kv hkv
     rcases List.mem_append.mp hkv with w | w
     ·obtain⟨i,hi,rfl⟩:=List.mem_map.mp w
      intro z
      exact hs.sep i k (List.mem_range.mp hi) hk (Sum.inr.inj z)
     ·obtain⟨i,hi,rfl⟩:=List.mem_map.mp w
      have hi:=List.mem_range.mp hi
      intro z
      have:=hs.injd i k (by omega) hk (Sum.inr.inj z)
      omega
   rw[e]
   refine r_gT (by walk_at "all") ?_
   unfold QgR
   exact QKc (d:=.int (-1 - (k:Int))) (y:=.str (dn k)) (k:=.inr (dn k)) (by (repeat walk_at "e")) rfl (by (repeat walk_at "e")) rfl (by unfold plc;simp;omega) rfl)
  [some ‹"J"›,some (.k,rl nd ‹"u"›),some (.o,.dic (plc n 0 nm dn)),a3,a4,none,none] ⟨_,_,rfl⟩
 have hi1:itE (eVar 0) ‹"au"›=.ok ((List.range n).map fun i:Nat=>D.tup [.int (i:Int),.str (nm i)]):=by rw[← enumR];rfl
 have hi2:itE (eVar 1) [some ‹"J"›,some (.k,rl nd ‹"u"›),some (.o,.dic (plc n 0 nm dn)),a3,a4,none,none]=.ok ((List.range nd).map fun i:Nat=>D.tup [.int (i:Int),.str (dn i)]):=by rw[← enumR];rfl
 have f1':=QcP (g:=gT [3,4]) (T:=QgX) hi1 hL1
 have f2':=QcP (g:=gT [5,6]) (T:=QgR) hi2 hL2
 have s0:sSetO 2 eDic0 [some ‹"J"›,some (.k,rl nd ‹"u"›),none,none,none,none,none]=.ok (.nx ‹"au"›):=rfl
 rw[QGB]
 unfold Qjg
 (repeat walk_at "e")
theorem QNd{k:Nat}(hk:k<n):QeM [seatD nm dn c t m ld st k,.dic (plc n nd nm dn)]=.ok (rl (m k) ‹"Q"›):=by
 have m6:=(hs.tb k hk).m6
 have x2:dIx ‹"ap"› (.int 2)=.ok (rl (m k) ‹"aN"›):=ix_t 2 rfl
 have hc:eComp [none,some 1] (itL (e2 dIx (eVar 0) (eC (.int 2)))) (gN 0) cTrue QlG [some (.k,seatD nm dn c t m ld st k),some (.k,.dic (plc n nd nm dn))]=.ok (rl (m k) ‹"Q"›):=by
  refine Qat (fun j=>D.str (nml nm dn (ld k j))) (fun j=>D.int (ld k j)) (by (repeat walk_at "e")) (fun j hj=>?_) (by rw[List.length_range];omega)
  obtain⟨l1,l2⟩:=hs.ldr k j hk (List.mem_range.mp hj)
  refine Qaj (by walk_at "cap") (by walk_at "s") ?_
  unfold QlG
  have hv:valD (plc n nd nm dn) (.inr (nml nm dn (ld k j)))=some (.int (ld k j)):=by
   unfold nml
   by_cases h:ld k j<0
   ·rw[if_pos h,plc_d hs (show(-1 - ld k j).toNat<nd by omega)]
    congr 2;omega
   ·rw[if_neg h,plc_c hs (show(ld k j).toNat<n by omega)]
    congr 2;omega
  rw[QOW (kds:=plc n nd nm dn) (y:=.str (nml nm dn (ld k j))) (k:=.inr (nml nm dn (ld k j))) (by (repeat walk_at "e")) (by (repeat walk_at "e")) rfl,hv];rfl
 rw[QJp]
 unfold Qlf
 (repeat walk_at "e")
end
theorem QHD{f:Str}{d:D}:∀{fs:List (Str×D)},(fs.map Prod.fst).contains f=false->putD f d fs=fs++[(f,d)]
 | [],_=>rfl
 | (g,x)::fs,h=>by
  rw[List.map_cons,List.contains_cons,Bool.or_eq_false_iff]at h
  have ne:¬ g=f:=fun z=>by subst z;simp at h
  show(if g=f then _ else(g,x)::putD f d fs)=_
  rw[if_neg ne,QHD h.2];rfl
theorem QoQ{cs:List Str}{f c:Str}{i:Nat}{E:SD->Out D}{ς ς':SD}{d:D}{fds:List (Str×D)}(a:E ς=.ok d)(e:ς[i]?=some (some (.s,.ins c fds)))(hc:cs.contains c=true)(hl:fds.length<=900)(hf:(fds.map Prod.fst).contains f=false)
 (l:ς.set i (some (.s,.ins c (fds++[(f,d)])))=ς'):sFldS cs f i E ς=.ok (.nx ς'):=by
 unfold sFldS
 rw[a,Out.bind_ok,e]
 show(if (cs.contains c&&decide (fds.length<1000))=true then _ else _)=_
 rw[if_pos (by rw[hc,Bool.true_and];exact decide_eq_true (by omega)),QHD hf,l]
section
variable(n nd:Nat)(nm dn c:Nat->Str)(t:Nat->List (List Int))(m:Nat->Nat)(ld:Nat->Nat->Int)(st:Nat->Int)
def offF:List (Str×D):=[("clerk_names",rl n (fun k=>.str (nm k))),("door_names",rl nd ‹"u"›),("entry_places",.lst [.tup [.str "in",.int 0]]),("staff",rl n (fun k=>ck (c k) (t k) (m k))),("first_states",rl n (fun k=>.int (st k))),("ways",rl n (fun k=>rl (m k) ‹"Q"›))]
def offD:D:=.ins "Office" (offF n nd nm dn c t m ld st)
end
theorem QHZ:Qm.contains "Office"=true:=dk
section
variable{n nd:Nat}{nm dn c:Nat->Str}{t:Nat->List (List Int)}{m:Nat->Nat}{ld:Nat->Nat->Int}{st:Nat->Int}(hs:Seats n nd nm dn c t m ld st)
include hs
theorem QOi{k:Nat}(hk:k<n):dInL .non (rl (m k) ‹"Q"›)=.ok (.bl false):=by
 show(if (_&&((List.range (m k)).map fun j=>D.int (ld k j)).all D.scal)=true then Out.ok (D.bl (inV _ _)) else _)=_
 rw[if_pos (by rw[Bool.and_eq_true];exact⟨rfl,allR fun i _=>rfl⟩)]
 have:inV (toV .non) (((List.range (m k)).map fun j=>D.int (ld k j)).map toV)=false:=by
  unfold inV
  rw[List.any_eq_false]
  intro v hv
  rw[List.map_map]at hv
  obtain⟨j,_,rfl⟩:=List.mem_map.mp hv
  simp[toV,eqV]
 rw[this]
theorem QKt:Qbt "Office" [] [rl n ‹"A"›,.lst [.tup [.str "in",.str (nm 0)]],rl nd ‹"u"›]=.ok (offF n nd nm dn c t m ld st):=by
 have n1:=hs.n1
 have n2:=hs.n2
 have d2:=hs.d2
 have h1:=QMX hs
 have h2:=QMV hs
 have h3:=QJB hs
 have h4:=QLj hs
 have p0:=plc_c hs (i:=0) (by omega)
 have oc:=QHZ
 generalize hS:rl n ‹"A"›=S at *
 generalize hE:D.lst [.tup [.str "in",.str (nm 0)]]=E at *
 generalize hDo:rl nd ‹"u"›=Do at *
 generalize hN:rl n (fun k=>.str (nm k))=N at *
 generalize hP:D.dic (plc n nd nm dn)=P at *
 generalize hW:rl n (fun k=>rl (m k) ‹"Q"›)=W
 have q0:eComp [none] (itL (eVar 1)) (gN 0) cTrue Qhv [some (.s,.ins "Office" []),some (.k,S),some (.k,E),some (.k,Do),none,none,none]=.ok N:=by
  subst hS;subst hN
  refine Qat ‹"A"› (fun k=>D.str (nm k)) rfl (fun k hk=>?_) (by rw[List.length_range];omega)
  have x0:dIx ‹"ap"› (.int 0)=.ok (.str (nm k)):=ix_t 0 rfl
  refine Qaj (τ0:=[none]) (Qfy c_nil) (by walk_at "s") ?_
  unfold Qhv
  (repeat walk_at "e")
 have q1:eComp [none,some 5] (itL (eVar 1)) (gN 0) cTrue Qh4 [some (.s,.ins "Office" []),some (.k,S),some (.k,E),some (.k,Do),some (.k,N),some (.k,P),none]=.ok W:=by
  subst hS;subst hW;subst hP
  refine Qat ‹"A"› (fun k=>rl (m k) ‹"Q"›) rfl (fun k hk=>?_) (by rw[List.length_range];omega)
  have hl:=QNd hs (List.mem_range.mp hk)
  refine Qaj (τ0:=[none,some (.k,.dic (plc n nd nm dn))]) (Qfy (c_k rfl c_nil)) (by walk_at "s") ?_
  unfold Qh4
  (repeat walk_at "e")
 have q2:eComp [none] (itL (eVar 6)) (gN 0) cTrue QhL [some (.s,.ins "Office" []),some (.k,S),some (.k,E),some (.k,Do),some (.k,N),some (.k,P),some (.k,W)]=.ok (rl n (fun _=>.bl false)):=by
  subst hW
  refine Qat (fun k=>rl (m k) ‹"Q"›) (fun _=>D.bl false) rfl (fun k hk=>?_) (by rw[List.length_range];omega)
  have hl:=QOi hs (List.mem_range.mp hk)
  refine Qaj (τ0:=[none]) (Qfy c_nil) (by walk_at "s") ?_
  unfold QhL
  (repeat walk_at "e")
 have ha:f1 fAny [rl n (fun _=>.bl false)]=.ok (.bl false):=by
  show fAny (.lst ((List.range n).map fun _=>D.bl false))=_
  rw[QM4 (fun _=>false)];simp
 have q3:∀ F:List (Str×D),eComp [none,some 5] (itL (eVar 2)) (gN 0) cTrue Qfr ‹"ab"›=.ok (.lst [.tup [.str "in",.int 0]]):=fun F=>by
  subst hE;subst hP
  refine Qat (l:=List.range 1) (fun _=>.tup [.str "in",.str (nm 0)]) (fun _=>D.tup [.str "in",.int 0]) rfl (fun k hk=>?_) (by simp)
  have x0:dIx (.tup [.str "in",.str (nm 0)]) (.int 0)=.ok (.str "in"):=ix_t 0 rfl
  have x1:dIx (.tup [.str "in",.str (nm 0)]) (.int 1)=.ok (.str (nm 0)):=ix_t 1 rfl
  refine Qaj (τ0:=[none,some (.k,.dic (plc n nd nm dn))]) (Qfy (c_k rfl c_nil)) (by walk_at "s") ?_
  unfold Qfr
  have hd:eDix (eVar 1) ‹"x"› [some (.k,.tup [.str "in",.str (nm 0)]),some (.k,.dic (plc n nd nm dn))]=.ok (.int 0):=r_dix (kds:=plc n nd nm dn) (y:=.str (nm 0)) (k:=.inr (nm 0)) (by (repeat walk_at "e")) (by (repeat walk_at "e")) rfl p0
  (repeat walk_at "e")
 have q4:∀ F:List (Str×D),eComp [none] (itL (eVar 1)) (gN 0) cTrue Qfq ‹"ab"›=.ok (rl n (fun k=>ck (c k) (t k) (m k))):=fun F=>by
  subst hS
  refine Qat ‹"A"› (fun k=>ck (c k) (t k) (m k)) rfl (fun k hk=>?_) (by rw[List.length_range];omega)
  have x0:dIx ‹"ap"› (.int 1)=.ok (ck (c k) (t k) (m k)):=ix_t 1 rfl
  refine Qaj (τ0:=[none]) (Qfy c_nil) (by walk_at "s") ?_
  unfold Qfq
  (repeat walk_at "e")
 have q5:∀ F:List (Str×D),eComp [none] (itL (eVar 1)) (gN 0) cTrue Qfl ‹"ab"›=.ok (rl n (fun k=>.int (st k))):=fun F=>by
  subst hS
  refine Qat ‹"A"› (fun k=>D.int (st k)) rfl (fun k hk=>?_) (by rw[List.length_range];omega)
  have x0:dIx ‹"ap"› (.int 3)=.ok (.int (st k)):=ix_t 3 rfl
  refine Qaj (τ0:=[none]) (Qfy c_nil) (by walk_at "s") ?_
  unfold Qfl
  (repeat walk_at "e")
 have hdl:dList Do=.ok Do:=by subst hDo;rfl
 let F1:List (Str×D):=[("clerk_names",N)]
 let F2:List (Str×D):=[("clerk_names",N),("door_names",Do)]
 let F3:List (Str×D):=[("clerk_names",N),("door_names",Do),("entry_places",.lst [.tup [.str "in",.int 0]])]
 let F4:List (Str×D):=[("clerk_names",N),("door_names",Do),("entry_places",.lst [.tup [.str "in",.int 0]]),("staff",rl n (fun k=>ck (c k) (t k) (m k)))]
 let F5:List (Str×D):=[("clerk_names",N),("door_names",Do),("entry_places",.lst [.tup [.str "in",.int 0]]),("staff",rl n (fun k=>ck (c k) (t k) (m k))),("first_states",rl n (fun k=>.int (st k)))]
 have s1:sFldS Qm "clerk_names" 0 (eVar 4) [some (.s,.ins "Office" []),some (.k,S),some (.k,E),some (.k,Do),some (.k,N),some (.k,P),some (.k,W)]=.ok (.nx [some (.s,.ins "Office" F1),some (.k,S),some (.k,E),some (.k,Do),some (.k,N),some (.k,P),some (.k,W)]):=
  QoQ (d:=N) (by (repeat walk_at "e")) rfl oc (by decide) (by decide) rfl
 have s2:sFldS Qm "door_names" 0 (e1 dList (eVar 3)) [some (.s,.ins "Office" F1),some (.k,S),some (.k,E),some (.k,Do),some (.k,N),some (.k,P),some (.k,W)]=.ok (.nx [some (.s,.ins "Office" F2),some (.k,S),some (.k,E),some (.k,Do),some (.k,N),some (.k,P),some (.k,W)]):=
  QoQ (d:=Do) (by (repeat walk_at "e")) rfl oc (Nat.le_of_ble_eq_true rfl) (by show(["clerk_names"]:List Str).contains "door_names"=false;decide +kernel) rfl
 have s3:sFldS Qm "entry_places" 0 (eComp [none,some 5] (itL (eVar 2)) (gN 0) cTrue Qfr) [some (.s,.ins "Office" F2),some (.k,S),some (.k,E),some (.k,Do),some (.k,N),some (.k,P),some (.k,W)]=.ok (.nx [some (.s,.ins "Office" F3),some (.k,S),some (.k,E),some (.k,Do),some (.k,N),some (.k,P),some (.k,W)]):=
  QoQ (q3 _) rfl oc (Nat.le_of_ble_eq_true rfl) (by show(["clerk_names","door_names"]:List Str).contains "entry_places"=false;decide +kernel) rfl
 have s4:sFldS Qm "staff" 0 (eComp [none] (itL (eVar 1)) (gN 0) cTrue Qfq) [some (.s,.ins "Office" F3),some (.k,S),some (.k,E),some (.k,Do),some (.k,N),some (.k,P),some (.k,W)]=.ok (.nx [some (.s,.ins "Office" F4),some (.k,S),some (.k,E),some (.k,Do),some (.k,N),some (.k,P),some (.k,W)]):=
  QoQ (q4 _) rfl oc (Nat.le_of_ble_eq_true rfl) (by show(["clerk_names","door_names","entry_places"]:List Str).contains "staff"=false;decide +kernel) rfl
 have s5:sFldS Qm "first_states" 0 (eComp [none] (itL (eVar 1)) (gN 0) cTrue Qfl) [some (.s,.ins "Office" F4),some (.k,S),some (.k,E),some (.k,Do),some (.k,N),some (.k,P),some (.k,W)]=.ok (.nx [some (.s,.ins "Office" F5),some (.k,S),some (.k,E),some (.k,Do),some (.k,N),some (.k,P),some (.k,W)]):=
  QoQ (q5 _) rfl oc (Nat.le_of_ble_eq_true rfl) (by show(["clerk_names","door_names","entry_places","staff"]:List Str).contains "first_states"=false;decide +kernel) rfl
 have s6:sFldS Qm "ways" 0 (eVar 6) [some (.s,.ins "Office" F5),some (.k,S),some (.k,E),some (.k,Do),some (.k,N),some (.k,P),some (.k,W)]=.ok ‹"aJ"›:=
  QoQ (d:=W) (by (repeat walk_at "e")) rfl oc (Nat.le_of_ble_eq_true rfl) (by show(["clerk_names","door_names","entry_places","staff","first_states"]:List Str).contains "ways"=false;decide +kernel) (by subst hN;subst hDo;subst hW;rfl)
 have fin:QfA "Office" ‹"aJ"›=.ok (offF n nd nm dn c t m ld st):=by
  show(if ("Office":Str)="Office" then Out.ok (offF n nd nm dn c t m ld st) else .stuck)=_
  rw[if_pos rfl]
 rw[QBv]
 unfold QgO
 (repeat walk_at "e")
end
section
variable{n nd:Nat}{nm dn c:Nat->Str}{t:Nat->List (List Int)}{m:Nat->Nat}{ld:Nat->Nat->Int}{st:Nat->Int}
theorem QIs:(offF n nd nm dn c t m ld st).lookup ("staff":Str)=some (rl n (fun k=>ck (c k) (t k) (m k))):=by
 have h1:(("staff":Str) == "clerk_names")=false:=dk
 have h2:(("staff":Str) == "door_names")=false:=dk
 have h3:(("staff":Str) == "entry_places")=false:=dk
 unfold offF
 rw[List.lookup_cons,h1,List.lookup_cons,h2,List.lookup_cons,h3,List.lookup_cons,beq_self_eq_true]
theorem QMi:(offF n nd nm dn c t m ld st).lookup ("ways":Str)=some (rl n (fun k=>rl (m k) ‹"Q"›)):=by
 have h1:(("ways":Str) == "clerk_names")=false:=dk
 have h2:(("ways":Str) == "door_names")=false:=dk
 have h3:(("ways":Str) == "entry_places")=false:=dk
 have h4:(("ways":Str) == "staff")=false:=dk
 have h5:(("ways":Str) == "first_states")=false:=dk
 unfold offF
 rw[List.lookup_cons,h1,List.lookup_cons,h2,List.lookup_cons,h3,List.lookup_cons,h4,List.lookup_cons,h5,List.lookup_cons,beq_self_eq_true]
theorem QJ9{x:Str}(h:(["clerk_names","door_names","entry_places","staff","first_states","ways"]:List Str).all (fun y => !(x == y))=true):(offF n nd nm dn c t m ld st).lookup x=none:=by
 simp only[List.all_cons,List.all_nil,Bool.and_eq_true,Bool.not_eq_true',Bool.and_true]at h
 obtain⟨h1,h2,h3,h4,h5,h6⟩:=h
 unfold offF
 rw[List.lookup_cons,h1,List.lookup_cons,h2,List.lookup_cons,h3,List.lookup_cons,h4,List.lookup_cons,h5,List.lookup_cons,h6];rfl
theorem fld_o{x:Str}{d:D}(h:(offF n nd nm dn c t m ld st).lookup x=some d):dFld Qm x (offD n nd nm dn c t m ld st)=.ok d:=by
 show(if Qm.contains "Office"=true then optO ((offF n nd nm dn c t m ld st).lookup x) else .stuck)=_
 rw[if_pos QHZ,h];rfl
theorem QvX{x:Str}{mt:Str->List D->Out D}{O:SD->Out D}{A:‹"aq"›}{ς:SD}{xs:List D}(hO:O ς=.ok (offD n nd nm dn c t m ld st))(hA:A ς=.ok xs)
 (h:(["clerk_names","door_names","entry_places","staff","first_states","ways"]:List Str).all (fun y => !(x == y))=true):eMeth QX x mt O A ς=mt "Office" (offD n nd nm dn c t m ld st::xs):=by
 have hc:QX.contains "Office"=true:=dk
 unfold eMeth
 rw[hO,Out.bind_ok]
 show(if (QX.contains "Office"&&((offF n nd nm dn c t m ld st).lookup x).isNone)=true then A ς>>=fun xs=>mt "Office" (.ins "Office" (offF n nd nm dn c t m ld st)::xs) else .stuck)=_
 rw[QJ9 h,hc,if_pos (show(true&&(none:Option D).isNone)=true from rfl),hA];rfl
theorem QLZ{k:Nat}(hk:k<n):QbD [offD n nd nm dn c t m ld st,.int (k:Int)]=.ok (ck (c k) (t k) (m k)):=by
 have h1:=fld_o (QIs (n:=n) (nd:=nd) (nm:=nm) (dn:=dn) (c:=c) (t:=t) (m:=m) (ld:=ld) (st:=st))
 have x1:dIx (rl n (fun k=>ck (c k) (t k) (m k))) (.int (k:Int))=.ok (ck (c k) (t k) (m k)):=ixR hk
 rw[Qy5]
 unfold Qf6
 (repeat walk_at "e")
theorem QKH{k:Nat}(hk:k<n):QbC [offD n nd nm dn c t m ld st,.int (k:Int)]=.ok (rl (m k) ‹"Q"›):=by
 have h1:=fld_o (QMi (n:=n) (nd:=nd) (nm:=nm) (dn:=dn) (c:=c) (t:=t) (m:=m) (ld:=ld) (st:=st))
 have x1:dIx (rl n (fun k=>rl (m k) ‹"Q"›)) (.int (k:Int))=.ok (rl (m k) ‹"Q"›):=ixR hk
 have hd:dList (rl (m k) ‹"Q"›)=.ok (rl (m k) ‹"Q"›):=rfl
 rw[QyS]
 unfold Qgc
 (repeat walk_at "e")
end
def dkt:Nat->(Nat->Int)->(Nat->Int)->Int->Int
 | 0,_,_,_=>0
 | m+1,l,w,x=>dkt m l w x+if l m=x then w m else 0
theorem r_ifT{P:SD->Out Bool}{T U:SD->Out Fl}{ς:SD}{b:Bool}{rf:Out Fl}(a:P ς=.ok b)(hb:b=true)(k:T ς=rf):sIf P T U ς=rf:=r_if a (QgD hb k)
theorem r_ifF{P:SD->Out Bool}{T U:SD->Out Fl}{ς:SD}{b:Bool}{rf:Out Fl}(a:P ς=.ok b)(hb:b=false)(k:U ς=rf):sIf P T U ς=rf:=r_if a (Qfx hb k)
theorem QtS{N p:Nat}(hp:p<N)(F:Nat->Int)(c:Int):((List.range N).map fun i=>D.int (F i)).set p (.int (F p+c))=(List.range N).map fun i=>D.int (F i+if (p:Int)=(i:Int) then c else 0):=by
 rw[setR hp]
 apply List.map_congr_left
 intro i _
 by_cases e:i=p
 ·subst e
  rw[if_pos rfl,if_pos rfl]
 ·rw[if_neg e,if_neg (by omega),Int.add_zero]
theorem QKK{r:List Int}{m:Nat}(h:r.length=m):r.map D.int=(List.range m).map fun j=>D.int (r.getD j 0):=by
 apply List.ext_getElem?
 intro i
 rw[List.getElem?_map,List.getElem?_map]
 by_cases hi:i<m
 ·rw[List.getElem?_range hi,List.getElem?_eq_getElem (by omega)]
  simp[List.getD_eq_getElem?_getD,List.getElem?_eq_getElem (show i<r.length by omega)]
 ·rw[List.getElem?_eq_none (by omega),List.getElem?_eq_none (by rw[List.length_range];omega)];rfl
theorem QEP{x:D}{N:Nat}(h:N<=1000):dRep (.lst [x]) (.int (N:Int))=.ok (rl N (fun _=>x)):=by
 have e:(List.replicate N x)=(List.range N).map fun _=>x:=by
  apply List.ext_getElem?
  intro i
  rw[List.getElem?_map,List.getElem?_replicate]
  by_cases hi:i<N
  ·rw[if_pos hi,List.getElem?_range hi];rfl
  ·rw[if_neg hi,List.getElem?_eq_none (by rw[List.length_range];omega)];rfl
 show _=Out.ok (D.lst ((List.range N).map fun _=>x))
 rw[← e]
 unfold dRep
 simp only[Int.toNat_natCast,List.flatten_replicate_singleton,List.length_cons,List.length_nil]
 rw[if_pos]
 rw[Bool.and_eq_true,Bool.and_eq_true]
 exact⟨⟨decide_eq_true (by omega),decide_eq_true (by omega)⟩,QfX (by omega)⟩
theorem Qw3{I E:SD->Out D}{ς ς':SD}{i j:Nat}{k:Int}{s:SM}{xs:List D}{d:D}(hm:wr s=true)(a:E ς=.ok d)(e:ς[i]?=some (some (s,.lst xs)))(a':I ς=.ok (.int k))(q:ixN xs.length k=some j)(l:ς.set i (some (s,.lst (xs.set j d)))=ς'):sPutW i I E ς=.ok (.nx ς'):=by
 unfold sPutW
 rw[a,Out.bind_ok,e]
 show(if wr s=true then _ else _)=_
 rw[if_pos hm,a',Out.bind_ok]
 show(optO (ixN xs.length k)>>=_)=_
 rw[q]
 show Out.ok (Fl.nx (ς.set i _))=_
 rw[l]
theorem QHW{ms:‹"K"›}{f:List D->Out (D×Option (List D))}{A:‹"aq"›}{ς ς':SD}{ds ws:List D}{d:D}(a:A ς=.ok ds)(k:f ds=.ok (d,some ws))(l:setW ms ws ς=ς'):Qo4 ms f A ς=.ok (.nx ς'):=by
 unfold Qo4
 rw[a,Out.bind_ok,k,Out.bind_ok]
 show Out.ok (Fl.nx (setW ms ws ς))=_
 rw[l]
theorem Qsr{ς:SD}{i:Nat}{s:SM}{d:D}(hm:wr s=true)(e:ς[i]?=some (some (s,d))):eVarW i ς=.ok d:=by
 unfold eVarW
 rw[e]
 show(if wr s=true then _ else _)=_
 rw[if_pos hm]
theorem QPq{n nd m:Nat}{l w F G:Nat->Int}(hl:∀ j,j<m -> -(nd:Int)<=l j/\l j<(n:Int)):
 Qqt [rl n (fun i=>.int (F i)),rl nd (fun i=>.int (G i)),rl m (fun j=>.int (l j)),rl m (fun j=>.int (w j))]=.ok (.non,some [rl n (fun i=>.int (F i+dkt m l w (i:Int))),rl nd (fun i=>.int (G i+dkt m l w ‹"w"›))]):=by
 have hz:∀ x y:Option (SM×D),itZ (eVar 2) (eVar 3) [x,y,some (.k,rl m (fun j=>.int (l j))),some (.k,rl m (fun j=>.int (w j))),none,none]=.ok ((List.range m).map fun j=>D.tup [.int (l j),.int (w j)]):=fun x y=>by
  unfold itZ
  rw[r_var rfl,Out.bind_ok,r_var rfl,Out.bind_ok]
  show Out.ok (List.zipWith _ ((List.range m).map _) ((List.range m).map _))=_
  rw[List.zipWith_map,List.zipWith_self]
 generalize rl m (fun j=>D.int (l j))=Nu at *
 generalize rl m (fun j=>D.int (w j))=Wu at *
 obtain⟨ς',hL,a4,a5,rfl⟩:=Qq4 (body:=fun x ς=>gT [4,5] x ς>>=fun ς'=>QtN ς') (f:=fun j=>D.tup [.int (l j),.int (w j)]) (n:=m)
  (P:=fun j ς=>∃ a4 a5,ς=[some (.s,rl n (fun i=>.int ‹"aT"›)),some (.s,rl nd (fun i=>.int (G i+dkt j l w ‹"w"›))),some (.k,Nu),some (.k,Wu),a4,a5])
  (by
   rintro j hj ς ⟨a4,a5,rfl⟩
   obtain⟨p0,p1⟩:=hl j hj
   refine⟨[some (.s,rl n (fun i=>.int (F i+dkt (j+1) l w (i:Int)))),some (.s,rl nd (fun i=>.int (G i+dkt (j+1) l w ‹"w"›))),some (.k,Nu),some (.k,Wu),some (.k,.int (l j)),some (.k,.int (w j))],?_,_,_,rfl⟩
   refine r_gT (by walk_at "all") ?_
   unfold QtN
   by_cases h:0<=l j
   ·obtain⟨p,hp⟩:∃ p:Nat,l j=(p:Int):=⟨(l j).toNat,by omega⟩
    have hpn:p<n:=by omega
    have hx:dIx (rl n (fun i=>.int ‹"aT"›)) (.int (p:Int))=.ok (.int (F p+dkt j l w (p:Int))):=ixR hpn
    have hn:=ixNR hpn (fun i=>D.int ‹"aT"›)
    have hset:((List.range n).map fun i:Nat=>D.int ‹"aT"›).set p (.int (F p+dkt j l w (p:Int)+w j))=(List.range n).map fun i:Nat=>D.int (F i+dkt (j+1) l w (i:Int)):=by
     rw[QtS hpn (fun i=>F i+dkt j l w (i:Int)) (w j)]
     apply List.map_congr_left
     intro i _
     show D.int (F i+dkt j l w (i:Int)+(if (p:Int)=(i:Int) then w j else 0))=D.int ‹"aw"›
     rw[hp,Int.add_assoc]
    have hG:rl nd (fun i=>D.int (G i+dkt (j+1) l w ‹"w"›))=rl nd (fun i=>D.int (G i+dkt j l w ‹"w"›)):=Qa0 fun i _=>by
     show D.int (G i+‹"as"›)=_
     rw[if_neg (by omega),Int.add_zero]
    rw[hG]
    refine r_ifT (by (repeat walk_at "e")) (decide_eq_true h) ?_
    have hi:eVar 4 ‹"ah"›=.ok (.int (p:Int)):=by
     rw[← hp];exact r_var rfl
    exact Qw3 (s:=.s) (k:=(p:Int)) (j:=p) rfl (r_e2 (r_e2 (Qck rfl) hi hx) (r_var rfl) (Qad _ _)) rfl hi hn (by rw[hset];walk_at "s")
   ·obtain⟨p,hp⟩:∃ p:Nat, -1 - l j=(p:Int):=⟨(-1 - l j).toNat,by omega⟩
    have hpn:p<nd:=by omega
    have hx:dIx (rl nd (fun i=>.int (G i+dkt j l w ‹"w"›))) (.int (p:Int))=.ok (.int (G p+dkt j l w (-1 - (p:Int)))):=ixR hpn
    have hn:=ixNR hpn (fun i=>D.int (G i+dkt j l w ‹"w"›))
    have hset:((List.range nd).map fun i:Nat=>D.int (G i+dkt j l w ‹"w"›)).set p (.int (G p+dkt j l w (-1 - (p:Int))+w j))=(List.range nd).map fun i:Nat=>D.int (G i+dkt (j+1) l w ‹"w"›):=by
     rw[QtS hpn (fun i=>G i+dkt j l w ‹"w"›) (w j)]
     apply List.map_congr_left
     intro i _
     show D.int (G i+dkt j l w ‹"w"›+(if (p:Int)=(i:Int) then w j else 0))=D.int (G i+‹"as"›)
     by_cases e:p=i
     ·subst e
      rw[if_pos rfl,if_pos (by omega),Int.add_assoc]
     ·rw[if_neg (by omega),if_neg (by omega),Int.add_zero,Int.add_zero]
    have hF:rl n (fun i=>D.int (F i+dkt (j+1) l w (i:Int)))=rl n (fun i=>D.int ‹"aT"›):=Qa0 fun i _=>by
     show D.int ‹"aw"›=_
     rw[if_neg (by omega),Int.add_zero]
    rw[hF]
    refine r_ifF (by (repeat walk_at "e")) (decide_eq_false h) ?_
    have hi:e2 dSub ‹"aD"› (eVar 4) ‹"ah"›=.ok (.int (p:Int)):=by
     rw[← hp];(repeat walk_at "e")
    exact Qw3 (s:=.s) (k:=(p:Int)) (j:=p) rfl (r_e2 (r_e2 (Qck rfl) hi hx) (r_var rfl) (Qad _ _)) rfl hi hn (by rw[hset];walk_at "s"))
  [some (.s,rl n (fun i=>.int (F i))),some (.s,rl nd (fun i=>.int (G i))),some (.k,Nu),some (.k,Wu),none,none] ⟨none,none,by
   have h1:rl n (fun i=>D.int (F i))=rl n (fun i=>D.int (F i+dkt 0 l w (i:Int))):=Qa0 fun i _=>by show D.int (F i)=D.int (F i+0);rw[Int.add_zero]
   have h2:rl nd (fun i=>D.int (G i))=rl nd (fun i=>D.int (G i+dkt 0 l w ‹"w"›)):=Qa0 fun i _=>by show D.int (G i)=D.int (G i+0);rw[Int.add_zero]
   rw[h1,h2]⟩
 have hfor:=QcP (g:=gT [4,5]) (T:=QtN) (hz _ _) hL
 rw[QQi]
 unfold QBE
 rw[hfor]
 rfl
section
variable{n nd:Nat}{nm dn c:Nat->Str}{t:Nat->List (List Int)}{m:Nat->Nat}{ld:Nat->Nat->Int}{st:Nat->Int}(hs:Seats n nd nm dn c t m ld st)
include hs
theorem QLf:Qcx [offD n nd nm dn c t m ld st]=.ok (rl nd (fun _=>.int 0)):=by
 have d2:=hs.d2
 have lk:(offF n nd nm dn c t m ld st).lookup ("door_names":Str)=some (rl nd ‹"u"›):=by
  have h1:(("door_names":Str) == "clerk_names")=false:=dk
  unfold offF
  rw[List.lookup_cons,h1,List.lookup_cons,beq_self_eq_true]
 have h1:=fld_o lk
 have hdl:dList (rl nd ‹"u"›)=.ok (rl nd ‹"u"›):=rfl
 have hd:Qa6 [offD n nd nm dn c t m ld st]=.ok (rl nd ‹"u"›):=by
  rw[Qy9]
  unfold QfS
  (repeat walk_at "e")
 have hm:eMeth QX "doors" (fun _=>Qa6) (eVar 0) aNil [some (.k,offD n nd nm dn c t m ld st)]=.ok (rl nd ‹"u"›):=by
  rw[QvX (xs:=[]) (r_var rfl) rfl (dk)]
  exact hd
 have hc:eComp [none] (itL (eMeth QX "doors" (fun _=>Qa6) (eVar 0) aNil)) (gN 0) cTrue Qh9 [some (.k,offD n nd nm dn c t m ld st)]=.ok (rl nd (fun _=>.int 0)):=by
  refine Qat (fun d=>D.str (dn d)) (fun _=>D.int 0) (r_itL hm) (fun i hi=>?_) (by rw[List.length_range];omega)
  refine Qaj (by walk_at "cap") (by walk_at "s") ?_
  unfold Qh9
  (repeat walk_at "e")
 rw[QAG]
 unfold QgP
 exact Qbh (Qpm hc) r_rtT
end
def rw'(t:‹"aH"›)(s:Int)(j:Nat):Int:=(t.getD s.toNat []).getD j 0
theorem QNU{c:Str}(hc:CK.contains c=true){t:‹"aH"›}{m:Nat}(h:Tb t m){s:Int}(s0:0<=s)(s1:s<(t.length:Int)):QcK [ck c t m,.int s]=.ok (rl m (fun j=>.int (rw' t s j))):=by
 obtain⟨k,rfl⟩:∃ k:Nat,s=(k:Int):=⟨s.toNat,by omega⟩
 have hk:k<t.length:=by omega
 have hg:t.getD k []=t[k]:=by simp[List.getD_eq_getElem?_getD,List.getElem?_eq_getElem hk]
 have hm:(t[k]).length=m:=h.row _ (List.getElem_mem hk)
 have hx:dIx (tbD t) (.int (k:Int))=.ok (dl t[k]):=ixL k (by rw[List.getElem?_map,List.getElem?_eq_getElem hk];rfl)
 have hl:dList (dl t[k])=.ok (dl t[k]):=rfl
 have hf:=fld_t hc t m
 have e:rl m (fun j=>D.int (rw' t (k:Int) j))=dl t[k]:=by
  unfold dl rw'
  rw[QKK hm,Int.toNat_natCast,hg]
 rw[e,QGR]
 unfold Qi8
 exact Qbh (Qpm (r_e1 (r_e2 (r_e1 (r_var rfl) hf) (r_var rfl) hx) hl)) r_rtT
theorem dk_bd{l w:Nat->Int}{x B:Int}:∀ m:Nat,(∀ j,j<m->0<=w j/\w j<=B)->0<=dkt m l w x/\dkt m l w x<=m * B
 | 0,_=>by show 0<=(0:Int)/\(0:Int)<=((0:Nat):Int) * B;simp
 | m+1,h=>by
  obtain⟨h0,h1⟩:=dk_bd (l:=l) (x:=x) m fun j hj=>h j (by omega)
  obtain⟨w0,w1⟩:=h m (by omega)
  show 0<=dkt m l w x+(if l m=x then w m else 0)/\dkt m l w x+(if l m=x then w m else 0)<=((m+1:Nat):Int) * B
  have e:((m+1:Nat):Int) * B=m * B+B:=by
   rw[show((m+1:Nat):Int)=(m:Int)+1 by omega,Int.add_mul,Int.one_mul]
  rw[e]
  split<;>omega
theorem QHx{js:‹"K"›}{its:‹"aq"›}{g:D->SD->Out SD}{c:SD->Out Bool}{e:SD->Out D}{ς:SD}{n:Nat}(f:Nat->D)(p:Nat->Bool)(h:Nat->D)(hi:its ς=.ok ((List.range n).map f))(ht:∀ i,i<n->turnC js g c e ς (f i)=.ok (if p i=true then some (h i) else none))(hl:n<=1000):
 eComp js its g c e ς=.ok (.lst (((List.range n).filter p).map h)):=by
 have go:∀ l:List Nat,(∀ x∈l,turnC js g c e ς (f x)=.ok (if p x=true then some (h x) else none))->compM (turnC js g c e ς) (l.map f)=.ok ((l.filter p).map h):=by
  intro l
  induction l with
  | nil=>intro _;rfl
  | cons x xs ih=>
   intro H
   have h1:=H x (List.mem_cons_self ..)
   have h2:=ih fun y hy=>H y (List.mem_cons_of_mem _ hy)
   show compM (turnC js g c e ς) (f x::xs.map f)=_
   unfold compM
   rw[h1,Out.bind_ok,h2,List.filter_cons]
   cases p x<;>rfl
 unfold eComp
 rw[hi,Out.bind_ok,go _ (fun x hx=>ht x (List.mem_range.mp hx)),Out.bind_ok,if_pos (QfX (by
  rw[List.length_map]
  exact Nat.le_trans (List.length_filter_le ..) (by rw[List.length_range];exact hl)))]
theorem QLO{o:Out D}{xs:List D}(a:o=.ok (.lst xs))(h:xs.all D.scal=true):flatL o=.ok (.lst xs):=by
 unfold flatL
 rw[a,Out.bind_ok]
 show(if xs.all D.scal=true then _ else _)=_
 rw[if_pos h]
theorem Qye{n:Nat}(hn:n<=1000)(f:Nat->Int):Qb6 [rl n (fun i=>.int (f i))]=.ok (.lst (((List.range n).filter fun i=>decide (0<f i)).map fun i:Nat=>D.int (i:Int))):=by
 have hc:eComp [none,none] (itE (eVar 0)) (gT [0,1]) Qvq QvW [some (.k,rl n (fun i=>.int (f i)))]=.ok (.lst (((List.range n).filter fun i=>decide (0<f i)).map fun i:Nat=>D.int (i:Int))):=by
  refine QHx (fun i:Nat=>D.tup [.int (i:Int),.int (f i)]) (fun i=>decide (0<f i)) (fun i:Nat=>D.int (i:Int)) ?_ (fun i hi=>?_) hn
  ·rw[r_itE (xs:=(List.range n).map fun i=>D.int (f i)) (r_var rfl),enumR]
  ·refine QMk (by walk_at "cap") (by walk_at "all") ?_ ?_
   ·unfold Qvq
    (repeat walk_at "e")
   ·unfold QvW
    (repeat walk_at "e")
 rw[QPT]
 unfold Qv7
 exact Qbh (Qpm hc) r_rtT
def up1(t:Nat->List (List Int))(S:Nat->Int)(k i:Nat):Int:=if i=k then(S k+1) % ((t k).length:Int) else S i
def dn1(K:Nat->Int)(k i:Nat):Int:=if i=k then K k - 1 else K i
theorem Qv4{n k:Nat}(hk:k<n)(f:Nat->Int)(v:Int):((List.range n).map fun i=>D.int (f i)).set k (.int v)=(List.range n).map fun i=>D.int (if i=k then v else f i):=by
 rw[setR hk]
 apply List.map_congr_left
 intro i _
 split<;>rfl
section
variable{n nd:Nat}{nm dn c:Nat->Str}{t:Nat->List (List Int)}{m:Nat->Nat}{ld:Nat->Nat->Int}{st:Nat->Int}(hs:Seats n nd nm dn c t m ld st)
include hs
theorem QL4{S K G:Nat->Int}{k:Nat}(hk:k<n)(s0:0<=S k)(s1:S k<((t k).length:Int)):
 Qg7 [offD n nd nm dn c t m ld st,rl n (fun i=>.int (S i)),rl n (fun i=>.int (K i)),rl nd (fun i=>.int (G i)),.int (k:Int)]=
  .ok (.non,some [rl n (fun i=>.int (up1 t S k i)),rl n ‹"ag"›,rl nd (fun i=>.int (G i+dkt (m k) (ld k) (rw' (t k) (S k)) ‹"w"›))]):=by
 have hc:=hs.ck k hk
 have tb:=hs.tb k hk
 have n1:=tb.n1
 have hrow:=QNU hc tb s0 s1
 have hlay:=QPq (n:=n) (nd:=nd) (m:=m k) (l:=ld k) (w:=rw' (t k) (S k)) (F:=dn1 K k) (G:=G) (fun j hj=>hs.ldr k j hk hj)
 have hx1:dIx (rl n (fun i=>D.int (S i))) (.int (k:Int))=.ok (.int (S k)):=ixR (f:=fun i=>D.int (S i)) hk
 have hx2:dIx (rl n (fun i=>D.int (K i))) (.int (k:Int))=.ok (.int (K k)):=ixR (f:=fun i=>D.int (K i)) hk
 have hn1:=ixNR hk (fun i=>D.int (S i))
 have hn2:=ixNR hk (fun i=>D.int (K i))
 have p1:((List.range n).map fun i=>D.int (S i)).set k (.int ((S k+1) % ((t k).length:Int)))=(List.range n).map fun i=>D.int (up1 t S k i):=Qv4 hk S _
 have p2:((List.range n).map fun i=>D.int (K i)).set k (.int (K k - 1))=(List.range n).map fun i=>D.int (dn1 K k i):=Qv4 hk K _
 have hmod:dMod (.int (S k+1)) (.int ((t k).length:Int))=.ok (.int ((S k+1) % ((t k).length:Int))):=QT (by omega)
 have hclk:∀ ς:SD,ς[0]?=some (some (.k,offD n nd nm dn c t m ld st))->ς[4]?=some (some ‹"p"›)->eMeth QX "clerk" (fun _=>QbD) (eVar 0) (aCons (eVar 4) aNil) ς=.ok (ck (c k) (t k) (m k)):=fun ς h0 h4=>by
  rw[QvX (xs:=[.int (k:Int)]) (r_var h0) (Qe (r_var h4) r_nil) (dk)]
  exact QLZ hk
 have hlds:∀ ς:SD,ς[0]?=some (some (.k,offD n nd nm dn c t m ld st))->ς[4]?=some (some ‹"p"›)->eMeth QX "leads" (fun _=>QbC) (eVar 0) (aCons (eVar 4) aNil) ς=.ok (rl (m k) ‹"Q"›):=fun ς h0 h4=>by
  rw[QvX (xs:=[.int (k:Int)]) (r_var h0) (Qe (r_var h4) r_nil) (dk)]
  exact QKH hk
 have hro:∀ ς:SD,ς[1]?=some (some (.s,rl n (fun i=>.int (S i))))->ς[4]?=some (some ‹"p"›)->ς[5]?=some (some (.k,ck (c k) (t k) (m k)))->eMeth Qg "row" (fun _=>QcK) (eVar 5) (aCons (fun ς=>QpD ((e2 dIx (eVarB 1) (eVar 4)) ς)) aNil) ς=.ok (rl (m k) (fun j=>.int (rw' (t k) (S k) j))):=fun ς h1 h4 h5=>by
  rw[QtO (c:=c k) (t:=t k) (m:=m k) hc (xs:=[.int (S k)]) (r_var h5) (Qe (QEl (r_e2 (Qck h1) (r_var h4) hx1) rfl) r_nil) (dk) (dk)]
  exact hrow
 have hper:∀ ς:SD,ς[5]?=some (some (.k,ck (c k) (t k) (m k)))->eMeth Qg "period" (fun _=>QaH) (eVar 5) aNil ς=.ok (.int ((t k).length:Int)):=fun ς h5=>by
  rw[QtO (c:=c k) (t:=t k) (m:=m k) hc (xs:=[]) (r_var h5) rfl (dk) (dk)]
  exact QzN hc _ _
 generalize offD n nd nm dn c t m ld st=O at *
 generalize hCk:ck (c k) (t k) (m k)=Ck at *
 have hb:Ql6 [some (.k,O),some (.s,rl n (fun i=>.int (S i))),some (.s,rl n (fun i=>.int (K i))),some (.s,rl nd (fun i=>.int (G i))),some ‹"p"›,none]=.ok (.nx [some (.k,O),some (.s,rl n (fun i=>.int (up1 t S k i))),some (.s,rl n ‹"ag"›),some (.s,rl nd (fun i=>.int (G i+dkt (m k) (ld k) (rw' (t k) (S k)) ‹"w"›))),some ‹"p"›,some (.k,Ck)]):=by
  unfold Ql6
  refine r_seq (r_set (hclk _ rfl rfl) (by walk_at "s")) (Qk ?_)
  refine r_seq (fl:=.nx [some (.k,O),some (.s,rl n (fun i=>.int (S i))),some (.s,rl n (fun i=>.int (dn1 K k i))),some (.s,rl nd (fun i=>.int (G i))),some ‹"p"›,some (.k,Ck)]) (Qw3 (s:=.s) (k:=(k:Int)) (j:=k) (d:=.int (K k - 1)) rfl (r_e2 (r_e2 (Qck rfl) (r_var rfl) hx2) r_C (Qc5 _ _)) rfl (r_var rfl) hn2 (by rw[p2];walk_at "s")) (Qk ?_)
  refine r_seq (fl:=.nx [some (.k,O),some (.s,rl n (fun i=>.int (S i))),some (.s,rl n ‹"ag"›),some (.s,rl nd (fun i=>.int (G i+dkt (m k) (ld k) (rw' (t k) (S k)) ‹"w"›))),some ‹"p"›,some (.k,Ck)]) (QHW (Qe (Qsr (s:=.s) rfl rfl) (Qe (Qsr (s:=.s) rfl rfl) (Qe (hlds _ rfl rfl) (Qe (hro _ rfl rfl rfl) r_nil)))) hlay rfl) (Qk ?_)
  exact Qw3 (s:=.s) (k:=(k:Int)) (j:=k) (d:=.int ((S k+1) % ((t k).length:Int))) rfl (r_e2 (r_e2 (r_e2 (Qck rfl) (r_var rfl) hx1) r_C (Qad _ _)) (hper _ rfl) hmod) rfl (r_var rfl) hn1 (by rw[p1];walk_at "s")
 rw[QMG,hb]
 rfl
end
theorem QoR(ns:List Int)(k:Nat):∃ v:Int,QZ [.lst (ns.map .int),.int (k:Int)]=.ok (.int v):=by
 have hlen:fLen [.lst (ns.map D.int)]=.ok (.int (ns.length:Int)):=by simp[fLen]
 by_cases h:k<ns.length
 ·have hlt:dLt (.int (k:Int)) (.int (ns.length:Int))=.ok (.bl true):=by rw[Qbc,decide_eq_true (by omega)]
  have hix:dIx (.lst (ns.map .int)) (.int (k:Int))=.ok (.int ns[k]):=ixL k (by rw[List.getElem?_map,List.getElem?_eq_getElem h];rfl)
  refine⟨ns[k],?_⟩
  rw[QwF]
  unfold Qii
  (repeat walk_at "e")
 ·have hlt:dLt (.int (k:Int)) (.int (ns.length:Int))=.ok (.bl false):=by rw[Qbc,decide_eq_false (by omega)]
  refine⟨0,?_⟩
  rw[QwF]
  unfold Qii
  (repeat walk_at "e")
theorem Qxy{ς ς':SD}{i:Nat}{d:D}(e:ς[i]?=some (some (.o,d)))(h:ς.set i (some (.k,d))=ς'):frz i ς=ς':=by
 unfold frz
 rw[e]
 exact h
theorem Qxg{T:SD->Out Fl}{j:Nat}{ς ς1:SD}{r:Out Fl}(hz:frz j ς=ς1)(h:T ς1=r):(fun ς=>T (frz j ς)) ς=r:=by
 show T (frz j ς)=r
 rw[hz];exact h
theorem Qv9(n:Nat)(f:Nat->D)(d:D):(List.range n).map f++[d]=(List.range (n+1)).map fun i=>if i<n then f i else d:=by
 rw[List.range_succ,List.map_append]
 congr 1
 ·exact List.map_congr_left fun j hj=>by rw[if_pos (List.mem_range.mp hj)]
 ·show [d]=[if n<n then f n else d];rw[if_neg (by omega)]
theorem Qvm(c:Int){k:Int}(hk:bitsI k<=300):∃ x:Int,0<=x/\x<2305843009213693951/\Qa2 [.int c,.int k]=.ok (.int x):=by
 generalize hy:(c % 1000000007+1) * 6364136223846793005+7919 * k * k+31 * k=y
 have s1:sSet 2 ‹"P"› [some (.k,.int c),some (.k,.int k),none]=.ok (.nx [some (.k,.int c),some (.k,.int k),some (.k,.int y)]):=by
  rw[← hy]
  (repeat walk_at "e")
 have s2:sSet 2 (e2 dMod (eVar 2) (eC (.int 2305843009213693951))) [some (.k,.int c),some (.k,.int k),some (.k,.int y)]=.ok (.nx [some (.k,.int c),some (.k,.int k),some (.k,.int (y % 2305843009213693951))]):=by (repeat walk_at "e")
 have b0:bitsI (y % 2305843009213693951)<=100:=bd_in (Int.emod_nonneg _ (by decide)) (Int.lt_trans (Int.emod_lt_of_pos _ (by decide)) (by decide))
 generalize y % 2305843009213693951=z at *
 have s3:sSet 2 ‹"at"› [some (.k,.int c),some (.k,.int k),some (.k,.int z)]=.ok (.nx [some (.k,.int c),some (.k,.int k),some (.k,.int ((z * z+69621 * k * k+k) % 2305843009213693951))]):=by (repeat walk_at "e")
 have b1:bitsI ((z * z+69621 * k * k+k) % 2305843009213693951)<=100:=bd_in (Int.emod_nonneg _ (by decide)) (Int.lt_trans (Int.emod_lt_of_pos _ (by decide)) (by decide))
 generalize (z * z+69621 * k * k+k) % 2305843009213693951=w at *
 refine⟨w * w % 2305843009213693951,Int.emod_nonneg _ (by decide),Int.emod_lt_of_pos _ (by decide),?_⟩
 rw[QHn]
 unfold QiW
 refine Qbh (fl:=.rt false (.int (w * w % 2305843009213693951))) (r_seq s1 (Qk (r_seq s2 (Qk (r_seq s3 (Qk ?_)))))) r_rt
 (repeat walk_at "e")
def Dg(M:Nat)(g:Nat->Int):Prop:=∀ i,i<M->0<=g i/\g i<1000000
theorem Qne(c:Int){M:Nat}(hM:M<=100):∃ g:Nat->Int,Dg M g/\Qah [.int c,.int (M:Int)]=.ok (rl M ‹"O"›):=by
 have h6:dPow (.int 10) (.int 6)=.ok (.int 1000000):=by rw[QHP (by decide)];rfl
 have m2:dMod (.int c) (.int 2)=.ok (.int (c % 2)):=QT (by decide)
 obtain⟨ς',hL,g,z,a4,rfl,hg⟩:=QdM (body:=fun x ς=>gN 4 x ς>>=fun ς'=>Qd5 ς') (n:=M)
  (P:=fun k ς=>∃(g:Nat->Int)(z:Int)(a4:Option (SM×D)),ς=[some (.k,.int c),some (.k,.int (M:Int)),some (.o,rl k ‹"O"›),some (.k,.int z),a4]/\Dg k g)
  (by
   rintro k hk ς ⟨g,z,a4,rfl,hg⟩
   have hle:((List.range k).map (fun i=>D.int (g i))).length<=1000:=by rw[List.length_map,List.length_range];omega
   have ea:∀ v:Int,(List.range k).map (fun j=>D.int (g j))++[.int v]=(List.range (k+1)).map (fun i=>D.int (if i<k then g i else v)):=fun v=>by
    rw[Qv9]
    exact List.map_congr_left fun i _=>by split<;>rfl
   have hd:∀ v:Int,0<=v->v<1000000->Dg (k+1) (fun i=>if i<k then g i else v):=fun v v0 v1 i hi=>by
    show 0<=(if i<k then g i else v)/\(if i<k then g i else v)<1000000
    split
    ·rename_i w;exact hg i w
    ·exact⟨v0,v1⟩
   by_cases h:c % 2=0
   ·have mz:dMod (.int z) (.int 1000000)=.ok (.int (z % 1000000)):=QT (by decide)
    have dz:dFdiv (.int z) (.int 1000000)=.ok (.int (z / 1000000)):=Qnf (by decide) (by decide)
    have v0:=Int.emod_nonneg z (b:=1000000) (by decide)
    have v1:=Int.emod_lt_of_pos z (b:=1000000) (by decide)
    generalize z % 1000000=v at *
    refine⟨[some (.k,.int c),some (.k,.int (M:Int)),some (.o,rl (k+1) (fun i=>.int (if i<k then g i else v))),some (.k,.int (z / 1000000)),some ‹"p"›],?_,_,_,_,rfl,hd v v0 v1⟩
    refine r_gN (by walk_at "s") ?_
    unfold Qd5
    refine r_ifT (b:=decide (c % 2=0)) (by (repeat walk_at "e")) (decide_eq_true h) ?_
    refine r_seq (r_app (xs:=(List.range k).map (fun i=>D.int (g i))) rfl (r_e2 (r_var rfl) (r_e2 r_C r_C h6) mz) hle (by rw[ea v];walk_at "s")) (Qk ?_)
    exact r_set (r_e2 (r_var rfl) (r_e2 r_C r_C h6) dz) (by walk_at "s")
   ·obtain⟨x,x0,x1,hx⟩:=Qvm c (k:=(k:Int)) (QLw (Nat.lt_of_lt_of_le hk (Nat.le_trans hM (by decide))))
    have mz:dMod (.int x) (.int 1000000)=.ok (.int (x % 1000000)):=QT (by decide)
    have v0:=Int.emod_nonneg x (b:=1000000) (by decide)
    have v1:=Int.emod_lt_of_pos x (b:=1000000) (by decide)
    generalize x % 1000000=v at *
    refine⟨[some (.k,.int c),some (.k,.int (M:Int)),some (.o,rl (k+1) (fun i=>.int (if i<k then g i else v))),some (.k,.int z),some ‹"p"›],?_,_,_,_,rfl,hd v v0 v1⟩
    refine r_gN (by walk_at "s") ?_
    unfold Qd5
    refine r_ifF (b:=decide (c % 2=0)) (by (repeat walk_at "e")) (decide_eq_false h) ?_
    exact r_app (xs:=(List.range k).map (fun i=>D.int (g i))) rfl (r_e2 (Q7 (xs:=[.int c,.int (k:Int)]) ‹"V"› rfl hx) (r_e2 r_C r_C h6) mz) hle (by rw[ea v];walk_at "s"))
  [some (.k,.int c),some (.k,.int (M:Int)),some (.o,.lst []),some (.k,.int (c / 2)),none] ⟨fun _=>0,_,_,rfl,fun i hi=>absurd hi (by omega)⟩
 have hR:itR1 (eVar 1) [some (.k,.int c),some (.k,.int (M:Int)),some (.o,.lst []),some (.k,.int (c / 2)),none]=.ok (Qcm 0 M):=Qb7 M (r_var rfl) (by omega)
 have hfor:=QcP (g:=gN 4) (T:=Qd5) hR hL
 have d2:dFdiv (.int c) (.int 2)=.ok (.int (c / 2)):=Qnf (by decide) (by decide)
 refine⟨g,hg,?_⟩
 rw[QDC]
 unfold QhV
 refine Qbh (fl:=.rt true (rl M ‹"O"›)) (r_seq (Qdp (d:=.lst []) (by (repeat walk_at "e")) (by walk_at "s")) (Qk (r_seq (r_set (r_e2 (r_var rfl) r_C d2) (by walk_at "s")) (Qk (r_seq hfor (Qk (QCN rfl))))))) r_rtT
theorem dg_ix{M i:Nat}{g:Nat->Int}(h:i<M):dIx (rl M ‹"O"›) (.int (i:Int))=.ok (.int (g i)):=ixR (f:=fun i=>D.int (g i)) h
theorem QOX(x:Int):∃ b:Int,0<=b/\b<=9/\dIx (.lst [.int 0,.int 1,.int 0,.int 2,.int 1,.int 0,.int 1,.int 0,.int 0,.int 1]) (.int (x % 10))=.ok (.int b):=by
 rcases(by omega:x % 10=0∨x % 10=1∨x % 10=2∨x % 10=3∨x % 10=4∨x % 10=5∨x % 10=6∨x % 10=7∨x % 10=8∨x % 10=9) with e | e | e | e | e | e | e | e | e | e<;>rw[e]
 ·exact⟨0,by omega,by omega,rfl⟩
 ·exact⟨1,by omega,by omega,rfl⟩
 ·exact⟨0,by omega,by omega,rfl⟩
 ·exact⟨2,by omega,by omega,rfl⟩
 ·exact⟨1,by omega,by omega,rfl⟩
 ·exact⟨0,by omega,by omega,rfl⟩
 ·exact⟨1,by omega,by omega,rfl⟩
 ·exact⟨0,by omega,by omega,rfl⟩
 ·exact⟨0,by omega,by omega,rfl⟩
 ·exact⟨1,by omega,by omega,rfl⟩
theorem pick2(a b:Int)(T:Int)(hT:T=0∨T=1):∃ v:Int,(v=a∨v=b)/\dIx (.lst [.int a,.int b]) (.int T)=.ok (.int v):=by
 rcases hT with rfl | rfl
 ·exact⟨a,.inl rfl,rfl⟩
 ·exact⟨b,.inr rfl,rfl⟩
theorem QJ7(d:Int){m:Nat}(hm:m<=100){T:Int}(hT:T=0∨T=1):∃ r:List Int,r.length=m/\(∀ x∈r,0<=x/\x<=9)/\Qcl [.int d,.int (m:Int),.int T]=.ok (dl r):=by
 obtain⟨ς',hL,v,r,a3,rfl,hl,hr⟩:=QdM (body:=fun x ς=>gN 4 x ς>>=fun ς'=>QdT ς') (n:=m)
  (P:=fun k ς=>∃(v:Int)(r:List Int)(a3:Option (SM×D)),ς=[some (.k,.int v),some (.k,.int (m:Int)),some (.k,.int T),some (.o,dl r),a3]/\r.length=k/\∀ x∈r,0<=x/\x<=9)
  (by
   rintro k hk ς ⟨v,r,a3,rfl,hl,hr⟩
   obtain⟨b,b0,b9,hb⟩:=QOX v
   have hm10:dMod (.int v) (.int 10)=.ok (.int (v % 10)):=QT (by decide)
   have hd10:dFdiv (.int v) (.int 10)=.ok (.int (v / 10)):=Qnf (by decide) (by decide)
   have q0:=Int.emod_nonneg v (b:=10) (by decide)
   have q1:=Int.emod_lt_of_pos v (b:=10) (by decide)
   obtain⟨e,he,hx⟩:=pick2 (v % 10) b T hT
   have e0:0<=e/\e<=9:=by rcases he with rfl | rfl<;>omega
   refine⟨[some (.k,.int (v / 10)),some (.k,.int (m:Int)),some (.k,.int T),some (.o,dl (r++[e])),some ‹"p"›],?_,v / 10,r++[e],_,rfl,by rw[List.length_append,hl];rfl,fun x hx=>by
    rcases List.mem_append.mp hx with w | w
    ·exact hr x w
    ·rw[List.mem_singleton.mp w];exact e0⟩
   have hle:(r.map D.int).length<=1000:=by rw[List.length_map];omega
   have ea:dl (r++[e])=.lst (r.map D.int++[.int e]):=by unfold dl;simp
   rw[ea]
   show(gN 4 (D.int (k:Int)) [some (.k,.int v),some (.k,.int (m:Int)),some (.k,.int T),some (.o,.lst (r.map D.int)),a3]>>=fun ς'=>QdT ς')=_
   refine r_gN (by walk_at "s") ?_
   unfold QdT
   (repeat walk_at "e"))
  [some (.k,.int d),some (.k,.int (m:Int)),some (.k,.int T),some (.o,.lst []),none] ⟨d,[],_,rfl,rfl,fun x hx=>absurd hx List.not_mem_nil⟩
 have hR:itR1 (eVar 1) [some (.k,.int d),some (.k,.int (m:Int)),some (.k,.int T),some (.o,.lst []),none]=.ok (Qcm 0 m):=Qb7 m (by (repeat walk_at "e")) (by omega)
 have hfor:=QcP (g:=gN 4) (T:=QdT) hR hL
 refine⟨r,hl,hr,?_⟩
 rw[QEv]
 unfold Qig
 (repeat walk_at "e")
inductive Kd:Int->List (List Int)->Nat->Prop where
 | deal (n:Nat) (h1:1<=n) (h2:n<=6):Kd 0 (dealT n) n
 | bun (n:Nat) (h1:1<=n) (h2:n<=12):Kd 1 (bunT n) 1
 | copy (r:List Int) (m:Nat) (h:Tb [r] m):Kd 2 [r] m
 | rows (t:List (List Int)) (m:Nat) (h:Tb t m):Kd 3 t m
theorem Kd.tb{w:Int}{t:‹"aH"›}{m:Nat}:Kd w t m->Tb t m
 | .deal n h1 h2=>QHL h1 h2
 | .bun n h1 h2=>QKw h1 h2
 | .copy _ _ h=>h
 | .rows _ _ h=>h
theorem dbl(b:Bool):f1 dInt [.bl b]=.ok (.int (if b=true then 1 else 0)):=by cases b<;>rfl
theorem QMI{w:Int}{t:‹"aH"›}{m:Nat}(h:Kd w t m):∃ c,CK.contains c=true/\Qch [.int w,tbD t]=.ok (ck c t m):=by
 have hlen:fLen [tbD t]=.ok (.int (t.length:Int)):=by simp[fLen,tbD]
 have e00:dEq (.int 0) (.int 0)=.ok (.bl true):=by rw[Qam];rfl
 have e10:dEq (.int 1) (.int 0)=.ok (.bl false):=by rw[Qam];rfl
 have e11:dEq (.int 1) (.int 1)=.ok (.bl true):=by rw[Qam];rfl
 have e20:dEq (.int 2) (.int 0)=.ok (.bl false):=by rw[Qam];rfl
 have e21:dEq (.int 2) (.int 1)=.ok (.bl false):=by rw[Qam];rfl
 have e22:dEq (.int 2) (.int 2)=.ok (.bl true):=by rw[Qam];rfl
 have e30:dEq (.int 3) (.int 0)=.ok (.bl false):=by rw[Qam];rfl
 have e31:dEq (.int 3) (.int 1)=.ok (.bl false):=by rw[Qam];rfl
 have e32:dEq (.int 3) (.int 2)=.ok (.bl false):=by rw[Qam];rfl
 cases h with
 | deal _ h1 h2=>
  have hl:(dealT m).length=m:=by simp[dealT]
  rw[hl]at hlen
  have hi:=QLp (c:="Deal") (dk) h1 (by omega)
  refine⟨"Deal",dk,?_⟩
  unfold ck
  rw[Qi5]
  unfold QdF
  (repeat walk_at "e")
 | bun n h1 h2=>
  have hl:(bunT n).length=n:=by simp[bunT]
  rw[hl]at hlen
  have hi:=QM3 (c:="Bundle") (dk) h1 (by omega)
  refine⟨"Bundle",dk,?_⟩
  unfold ck
  rw[Qi5]
  unfold QdF
  (repeat walk_at "e")
 | copy r m h=>
  have hi:=QKX (c:="Copy") (dk) h
  have hix0:dIx (tbD [r]) (.int 0)=.ok (dl r):=ixL 0 rfl
  have hdl:dList (dl r)=.ok (dl r):=rfl
  refine⟨"Copy",dk,?_⟩
  unfold ck
  rw[Qi5]
  unfold QdF
  (repeat walk_at "e")
 | rows t m h=>
  have hi:=QL7 (c:="Rows") (dk) h
  have hc:eComp [none] (itL (eVar 1)) (gN 0) cTrue Qrj [some (.k,.int 3),some (.k,tbD t)]=.ok (tbD t):=by
   refine Qat dl dl rfl (fun x hx=>?_) (by have:=h.n2;omega)
   refine Qaj (by walk_at "cap") (by walk_at "s") ?_
   rfl
  refine⟨"Rows",dk,?_⟩
  unfold ck
  rw[Qi5]
  unfold QdF
  (repeat walk_at "e")
theorem QK4{n:Nat}(hn:n<=100){ς:SD}(h:ς[3]?=some (some ‹"al"›))(hc:captD [none,some 3] ς=[none,some ‹"al"›]):eComp [none,some 3] (itR1 (eVar 3)) (gN 0) cTrue Qmc ς=.ok (tbD (dealT n)):=by
 have e:tbD (dealT n)=.lst ((List.range n).map fun s=>dl (one n s)):=by unfold tbD dealT;rw[List.map_map];rfl
 rw[e]
 refine Qat (fun s:Nat=>D.int ((0:Int)+s)) (fun s=>dl (one n s)) (Qb7 n (r_var h) (by omega)) (fun s _=>?_) (by rw[List.length_range];omega)
 refine Qaj hc (by walk_at "s") ?_
 unfold Qmc
 have e2':dl (one n s)=.lst ((List.range n).map fun k=>D.int (if k=s then 1 else 0)):=by unfold dl one;rw[List.map_map];rfl
 rw[e2',Int.zero_add]
 refine Qat (fun k:Nat=>D.int ((0:Int)+k)) (fun k=>D.int (if k=s then 1 else 0)) (Qb7 n rfl (by omega)) (fun k _=>?_) (by rw[List.length_range];omega)
 refine Qaj (by walk_at "cap") (by walk_at "s") ?_
 unfold Qta
 have hd:=dbl (decide (((0:Int)+(k:Int))=(s:Int)))
 have hh:(if decide (((0:Int)+(k:Int))=(s:Int))=true then(1:Int) else 0)=if k=s then 1 else 0:=by
  by_cases q:k=s
  ·rw[if_pos q,if_pos (decide_eq_true (by omega))]
  ·rw[if_neg q,decide_eq_false (by omega)];rfl
 rw[hh]at hd
 (repeat walk_at "e")
theorem QM9{n:Nat}(hn:n<=100){ς:SD}(h:ς[3]?=some (some ‹"al"›))(hc:captD [none,some 3] ς=[none,some ‹"al"›]):eComp [none,some 3] (itR1 (eVar 3)) (gN 0) cTrue Ql7 ς=.ok (tbD (bunT n)):=by
 have e:tbD (bunT n)=.lst ((List.range n).map fun s=>dl [if s+1=n then 1 else 0]):=by unfold tbD bunT;rw[List.map_map];rfl
 rw[e]
 refine Qat (fun s:Nat=>D.int ((0:Int)+s)) (fun s=>dl [if s+1=n then 1 else 0]) (Qb7 n (r_var h) (by omega)) (fun s _=>?_) (by rw[List.length_range];omega)
 refine Qaj hc (by walk_at "s") ?_
 unfold Ql7
 show _=Out.ok (D.lst [.int (if s+1=n then 1 else 0)])
 have hd:=dbl (decide (((0:Int)+(s:Int))=(n:Int) - 1))
 have hh:(if decide (((0:Int)+(s:Int))=(n:Int) - 1)=true then(1:Int) else 0)=if s+1=n then 1 else 0:=by
  by_cases q:s+1=n
  ·rw[if_pos q,if_pos (decide_eq_true (by omega))]
  ·rw[if_neg q,decide_eq_false (by omega)];rfl
 rw[hh]at hd
 (repeat walk_at "e")
theorem QN0{g:Nat->Int}(hg:Dg 26 g){T:Int}(hT:T=0∨T=1):∃ w t m,Kd w t m/\Qev [rl 26 ‹"O"›,.int T]=.ok (.tup [.int w,tbD t]):=by
 have x0:dIx (rl 26 ‹"O"›) (.int 0)=.ok (.int (g 0)):=dg_ix (M:=26) (i:=0) (by decide)
 have x1:dIx (rl 26 ‹"O"›) (.int 1)=.ok (.int (g 1)):=dg_ix (M:=26) (i:=1) (by decide)
 have x2:dIx (rl 26 ‹"O"›) (.int 2)=.ok (.int (g 2)):=dg_ix (M:=26) (i:=2) (by decide)
 have xs:∀ s:Nat,s<12->dIx (rl 26 ‹"O"›) (.int (10+(s:Int)))=.ok (.int (g (10+s))):=fun s hs=>by
  rw[show(10:Int)+(s:Int)=((10+s:Nat):Int) by omega]
  exact dg_ix (by omega)
 obtain⟨A,hA,pA⟩:=pick2 12 4 T hT
 obtain⟨B,hB,pB⟩:=pick2 6 4 T hT
 obtain⟨C,hC,pC⟩:=pick2 7 4 T hT
 have m4:dMod (.int (g 0)) (.int 4)=.ok (.int (g 0 % 4)):=QT (by decide)
 have A1:0<A:=by rcases hA with rfl | rfl<;>decide
 have B1:0<B:=by rcases hB with rfl | rfl<;>decide
 have C1:0<C:=by rcases hC with rfl | rfl<;>decide
 have mA:dMod (.int (g 1)) (.int A)=.ok (.int (g 1 % A)):=QT A1
 have mB:dMod (.int (g 1)) (.int B)=.ok (.int (g 1 % B)):=QT B1
 have mC:dMod (.int (g 2)) (.int C)=.ok (.int (g 2 % C)):=QT C1
 obtain⟨sz,hsz,z1,z12⟩:∃ n:Nat,1+g 1 % A=(n:Int)/\1<=n/\n<=12:=by
  have a:=Int.emod_nonneg (g 1) (b:=A) (by omega)
  have b:=Int.emod_lt_of_pos (g 1) A1
  exact⟨(1+g 1 % A).toNat,by omega,by omega,by rcases hA with rfl | rfl<;>omega⟩
 obtain⟨sb,hsb,y1,y6⟩:∃ n:Nat,1+g 1 % B=(n:Int)/\1<=n/\n<=6:=by
  have a:=Int.emod_nonneg (g 1) (b:=B) (by omega)
  have b:=Int.emod_lt_of_pos (g 1) B1
  exact⟨(1+g 1 % B).toNat,by omega,by omega,by rcases hB with rfl | rfl<;>omega⟩
 obtain⟨ot,hot,o6⟩:∃ n:Nat,g 2 % C=(n:Int)/\n<=6:=by
  have a:=Int.emod_nonneg (g 2) (b:=C) (by omega)
  have b:=Int.emod_lt_of_pos (g 2) C1
  exact⟨(g 2 % C).toNat,by omega,by rcases hC with rfl | rfl<;>omega⟩
 rw[hot]at mC
 generalize hG:rl 26 (fun i=>D.int (g i))=G at *
 have w4:g 0 % 4=0∨g 0 % 4=1∨g 0 % 4=2∨g 0 % 4=3:=by omega
 generalize g 0 % 4=w at *
 have s2:sSet 2 (e2 dMod ‹"I"› (eC (.int 4))) [some (.k,G),some (.k,.int T),none,none,none]=.ok (.nx [some (.k,G),some (.k,.int T),some (.k,.int w),none,none]):=r_set (r_e2 (r_e2 (r_var rfl) r_C x0) r_C m4) (by walk_at "s")
 have s3:sSet 3 (e2 dAdd (eC (.int 1)) (e2 dMod ‹"x"› (e2 dIx (eLst (aCons (eC (.int 12)) (aCons (eC (.int 4)) aNil))) (eVar 1)))) [some (.k,G),some (.k,.int T),some (.k,.int w),none,none]=.ok (.nx [some (.k,G),some (.k,.int T),some (.k,.int w),some (.k,.int (sz:Int)),none]):=by
  rw[← hsz]
  exact r_set (r_e2 r_C (r_e2 (r_e2 (r_var rfl) r_C x1) (r_e2 (r_lst (Qe r_C (Qe r_C r_nil)) (show 2<=1000 by decide)) (r_var rfl) pA) mA) (Qad _ _)) (by walk_at "s")
 have s3b:sSet 3 (e2 dAdd (eC (.int 1)) (e2 dMod ‹"x"› (e2 dIx (eLst (aCons (eC (.int 6)) (aCons (eC (.int 4)) aNil))) (eVar 1)))) [some (.k,G),some (.k,.int T),some (.k,.int w),some (.k,.int (sz:Int)),none]=.ok (.nx [some (.k,G),some (.k,.int T),some (.k,.int w),some (.k,.int (sb:Int)),none]):=by
  rw[← hsb]
  exact r_set (r_e2 r_C (r_e2 (r_e2 (r_var rfl) r_C x1) (r_e2 (r_lst (Qe r_C (Qe r_C r_nil)) (show 2<=1000 by decide)) (r_var rfl) pB) mB) (Qad _ _)) (by walk_at "s")
 have tail:∀(w:Int)(n:Nat),1<=n->n<=12->∃ t:List (List Int),t.length=n/\Tb t ot/\sSeq (sSet 4 (e2 dMod (e2 dIx (eVar 0) (eC (.int 2))) (e2 dIx (eLst (aCons (eC (.int 7)) (aCons (eC (.int 4)) aNil))) (eVar 1)))) (sRet (eTup (aCons (eVar 2) (aCons (eComp [none,some 0,some 4,some 1] (itR1 (eVar 3)) (gN 0) cTrue QhZ) aNil)))) [some (.k,G),some (.k,.int T),some (.k,.int w),some ‹"al"›,none]=.ok (.rt false (.tup [.int w,tbD t])):=fun w n h1 h12=>by
  have H:∀ s:Nat,∃ r:List Int,s<12->r.length=ot/\(∀ x∈r,0<=x/\x<=9)/\Qcl [.int (g (10+s)),.int (ot:Int),.int T]=.ok (dl r):=fun s=>by
   obtain⟨r,a,b,e⟩:=QJ7 (g (10+s)) (m:=ot) (by omega) hT
   exact⟨r,fun _=>⟨a,b,e⟩⟩
  obtain⟨R,hR⟩:=Classical.axiomOfChoice H
  refine⟨(List.range n).map R,by simp,⟨by simp;omega,by simp;omega,by omega,fun r hr=>?_,fun r hr=>?_⟩,?_⟩
  ·obtain⟨s,hs,rfl⟩:=List.mem_map.mp hr
   exact(hR s (by have:=List.mem_range.mp hs;omega)).1
  ·obtain⟨s,hs,rfl⟩:=List.mem_map.mp hr
   exact(hR s (by have:=List.mem_range.mp hs;omega)).2.1
  ·have hc:eComp [none,some 0,some 4,some 1] (itR1 (eVar 3)) (gN 0) cTrue QhZ [some (.k,G),some (.k,.int T),some (.k,.int w),some ‹"al"›,some (.k,.int (ot:Int))]=.ok (tbD ((List.range n).map R)):=by
    unfold tbD
    rw[List.map_map]
    refine Qg8 (fun s=>dl (R s)) (Qb7 n (r_var rfl) (by omega)) (fun s hs=>?_) (by omega)
    refine Qaj (by walk_at "cap") (by walk_at "s") ?_
    unfold QhZ
    exact Q7 (xs:=[.int (g (10+s)),.int (ot:Int),.int T]) (Qe (r_e2 (r_var rfl) (r_e2 r_C (r_var rfl) (Qad _ _)) (xs s (by omega))) ‹"V"›) rfl (hR s (by omega)).2.2
   refine r_seq (r_set (r_e2 (r_e2 (r_var rfl) r_C x2) (r_e2 (r_lst (Qe r_C (Qe r_C r_nil)) (show 2<=1000 by decide)) (r_var rfl) pC) mC) (by walk_at "s")) (Qk ?_)
   exact r_ret (r_tup (Qe (r_var rfl) (Qe hc r_nil)) (show 2<=1000 by decide))
 have q:∀(a b:Int)(z:Bool),decide (a=b)=z->∀ ς:SD,ς[2]?=some (some (.k,.int a))->tVal (e2 dEq (eVar 2) (eC (.int b))) ς=.ok z:=fun a b z h ς hς=>by
  rw[Q9 (r_e2 (r_var hς) r_C (Qam a b)),h]
 rcases w4 with rfl | rfl | rfl | rfl
 ·refine⟨0,dealT sb,sb,.deal sb y1 y6,?_⟩
  have hc:=QK4 (n:=sb) (by omega) (ς:=[some (.k,G),some (.k,.int T),some (.k,.int 0),some (.k,.int (sb:Int)),none]) rfl (by walk_at "cap")
  rw[QkQ]
  unfold QeJ
  refine Qbh (fl:=.rt false (.tup [.int 0,tbD (dealT sb)])) (r_seq s2 (Qk (r_seq s3 (Qk (r_seq (fl:=.rt false (.tup [.int 0,tbD (dealT sb)])) ?_ Qo8))))) r_rt
  exact r_ifT (q 0 0 true rfl _ rfl) rfl (r_seq s3b (Qk (r_ret (r_tup (Qe (r_var rfl) (Qe hc r_nil)) (show 2<=1000 by decide)))))
 ·refine⟨1,bunT sz,1,.bun sz z1 z12,?_⟩
  have hc:=QM9 (n:=sz) (by omega) (ς:=[some (.k,G),some (.k,.int T),some (.k,.int 1),some (.k,.int (sz:Int)),none]) rfl (by walk_at "cap")
  rw[QkQ]
  unfold QeJ
  refine Qbh (fl:=.rt false (.tup [.int 1,tbD (bunT sz)])) (r_seq s2 (Qk (r_seq s3 (Qk (r_seq (r_ifF (q 1 0 false rfl _ rfl) rfl Qdg) (Qk (r_seq (fl:=.rt false (.tup [.int 1,tbD (bunT sz)])) ?_ Qo8))))))) r_rt
  exact r_ifT (q 1 1 true rfl _ rfl) rfl (r_ret (r_tup (Qe (r_var rfl) (Qe hc r_nil)) (show 2<=1000 by decide)))
 ·obtain⟨t,tl,tb,ht⟩:=tail 2 1 (by decide) (by decide)
  obtain⟨r,rfl⟩:∃ r,t=[r]:=by
   match t,tl with
   | [r],_=>exact⟨r,rfl⟩
  refine⟨2,[r],ot,.copy r ot tb,?_⟩
  rw[QkQ]
  unfold QeJ
  refine Qbh (fl:=.rt false (.tup [.int 2,tbD [r]])) (r_seq s2 (Qk (r_seq s3 (Qk (r_seq (r_ifF (q 2 0 false rfl _ rfl) rfl Qdg) (Qk (r_seq (r_ifF (q 2 1 false rfl _ rfl) rfl Qdg) (Qk (r_seq (fl:=.nx [some (.k,G),some (.k,.int T),some (.k,.int 2),some (.k,.int ((1:Nat):Int)),none]) ?_ (Qk ht)))))))))) r_rt
  exact r_ifT (q 2 2 true rfl _ rfl) rfl (r_set r_C (by walk_at "s"))
 ·obtain⟨t,tl,tb,ht⟩:=tail 3 sz z1 z12
  refine⟨3,t,ot,.rows t ot tb,?_⟩
  rw[QkQ]
  unfold QeJ
  refine Qbh (fl:=.rt false (.tup [.int 3,tbD t])) (r_seq s2 (Qk (r_seq s3 (Qk (r_seq (r_ifF (q 3 0 false rfl _ rfl) rfl Qdg) (Qk (r_seq (r_ifF (q 3 1 false rfl _ rfl) rfl Qdg) (Qk (r_seq (r_ifF (q 3 2 false rfl _ rfl) rfl Qdg) (Qk ht)))))))))) r_rt
def inL(c:Nat):Bool := !(Builtin.Str.occurrences ("abcdefghijklmnopqrstuvwxyz":Str) ⟨#[c]⟩ 0 ("abcdefghijklmnopqrstuvwxyz":Str).length 1).isEmpty
theorem compN(z:Str)(hz:z.length<=1000):eComp [none] (itS (eVar 0)) (gN 0) cTrue QnG [some (.k,.str z)]=.ok (.lst (z.cps.toList.map fun c=>D.bl (inL c))):=by
 unfold eComp
 have h:=QvR (f:=turnC [none] (gN 0) cTrue QnG [some (.k,.str z)]) (h:=fun d=>match d with | .str x=>some (.bl (!(Builtin.Str.occurrences ("abcdefghijklmnopqrstuvwxyz":Str) x 0 ("abcdefghijklmnopqrstuvwxyz":Str).length 1).isEmpty)) | _=>none) (xs:=signs z) (by
  intro x hx
  obtain⟨c,_,rfl⟩:=List.mem_map.mp hx
  rfl)
 have e:(signs z).filterMap (fun d=>match d with | .str x=>some (D.bl (!(Builtin.Str.occurrences ("abcdefghijklmnopqrstuvwxyz":Str) x 0 ("abcdefghijklmnopqrstuvwxyz":Str).length 1).isEmpty)) | _=>none)=z.cps.toList.map fun c=>D.bl (inL c):=by
  unfold signs
  rw[List.filterMap_map]
  exact List.filterMap_eq_map' (f:=fun c=>D.bl (inL c)) ▸ rfl
 show(compM _ (signs z)>>=_)=_
 rw[h,e,Out.bind_ok,if_pos (QfX (by rw[List.length_map,QOk];exact hz))]
def nmB(z:Str):Bool:=decide (1<=z.length)&&decide (z.length<=6)&&z.cps.toList.all inL
theorem QOl(z:Str)(hz:z.length<=1000):QaQ [.str z]=.ok (.bl (nmB z)):=by
 rw[QLc]
 unfold Qni
 have hf:=QfX hz
 unfold nmB
 by_cases h1:1<=z.length
 ·by_cases h2:z.length<=6
  ·have h1':(1:Int)<=(z.length:Int):=by omega
   have h2':(z.length:Int)<=6:=by omega
   simp only[bodyF,retF,sSeq,thenF,sSet,sRet,sIf,sNil,eVar,eC,e1,e2,eA,f1,aNil,aCons,tVal,tAnd',tOr',tNot',eAnd,eOr,eNot,eIf,eTup,eLst,eIsa,isaT,QcB,oNo,oSome,sPar,sUnp,Qaz,gN,gT,fLen,Qdo,Out.bind_ok,Out.bind_exc,Out.bind_stuck,Out.pure_eq,D.scal,Qad,Qc5,Qel,QiF,Qbc,QfV,Qe4,Qlm,Qam,Qhr,List.length_cons,List.length_nil,List.map_cons,List.map_nil,List.cons_append,List.nil_append,List.append_nil,List.getElem?_cons_zero,List.getElem?_cons_succ,List.set_cons_zero,List.set_cons_succ,List.replicate,Nat.reduceAdd,Nat.reduceSub,Nat.reduceLeDiff,Nat.zero_add,Nat.add_zero,reduceIte,Bool.not_true,Bool.not_false,Bool.true_and,Bool.and_true,Bool.false_and,Bool.and_false,Bool.or_true,Bool.true_or,Bool.or_false,Bool.false_or,Bool.false_eq_true,decide_true,decide_false,decide_eq_true_eq,Bool.not_eq_true',decide_eq_false_iff_not,Int.reduceEq,Int.reduceLT,Int.reduceLE,Int.reduceNeg,Nat.reduceEqDiff, ↓reduceIte,not_true_eq_false,not_false_eq_true,Qdq,compN z hz,QiI,hf,h1,h2,h1',h2',beq_self_eq_true]
  ·have h1':(1:Int)<=(z.length:Int):=by omega
   have h2':¬ (z.length:Int)<=6:=by omega
   simp only[bodyF,retF,sSeq,thenF,sSet,sRet,sIf,sNil,eVar,eC,e1,e2,eA,f1,aNil,aCons,tVal,tAnd',tOr',tNot',eAnd,eOr,eNot,eIf,eTup,eLst,eIsa,isaT,QcB,oNo,oSome,sPar,sUnp,Qaz,gN,gT,fLen,Qdo,Out.bind_ok,Out.bind_exc,Out.bind_stuck,Out.pure_eq,D.scal,Qad,Qc5,Qel,QiF,Qbc,QfV,Qe4,Qlm,Qam,Qhr,List.length_cons,List.length_nil,List.map_cons,List.map_nil,List.cons_append,List.nil_append,List.append_nil,List.getElem?_cons_zero,List.getElem?_cons_succ,List.set_cons_zero,List.set_cons_succ,List.replicate,Nat.reduceAdd,Nat.reduceSub,Nat.reduceLeDiff,Nat.zero_add,Nat.add_zero,reduceIte,Bool.not_true,Bool.not_false,Bool.true_and,Bool.and_true,Bool.false_and,Bool.and_false,Bool.or_true,Bool.true_or,Bool.or_false,Bool.false_or,Bool.false_eq_true,decide_true,decide_false,decide_eq_true_eq,Bool.not_eq_true',decide_eq_false_iff_not,Int.reduceEq,Int.reduceLT,Int.reduceLE,Int.reduceNeg,Nat.reduceEqDiff, ↓reduceIte,not_true_eq_false,not_false_eq_true,Qdq,compN z hz,QiI,hf,h1,h2,h1',h2',beq_self_eq_true]
 ·have h1':¬ (1:Int)<=(z.length:Int):=by omega
  simp only[bodyF,retF,sSeq,thenF,sSet,sRet,sIf,sNil,eVar,eC,e1,e2,eA,f1,aNil,aCons,tVal,tAnd',tOr',tNot',eAnd,eOr,eNot,eIf,eTup,eLst,eIsa,isaT,QcB,oNo,oSome,sPar,sUnp,Qaz,gN,gT,fLen,Qdo,Out.bind_ok,Out.bind_exc,Out.bind_stuck,Out.pure_eq,D.scal,Qad,Qc5,Qel,QiF,Qbc,QfV,Qe4,Qlm,Qam,Qhr,List.length_cons,List.length_nil,List.map_cons,List.map_nil,List.cons_append,List.nil_append,List.append_nil,List.getElem?_cons_zero,List.getElem?_cons_succ,List.set_cons_zero,List.set_cons_succ,List.replicate,Nat.reduceAdd,Nat.reduceSub,Nat.reduceLeDiff,Nat.zero_add,Nat.add_zero,reduceIte,Bool.not_true,Bool.not_false,Bool.true_and,Bool.and_true,Bool.false_and,Bool.and_false,Bool.or_true,Bool.true_or,Bool.or_false,Bool.false_or,Bool.false_eq_true,decide_true,decide_false,decide_eq_true_eq,Bool.not_eq_true',decide_eq_false_iff_not,Int.reduceEq,Int.reduceLT,Int.reduceLE,Int.reduceNeg,Nat.reduceEqDiff, ↓reduceIte,not_true_eq_false,not_false_eq_true,Qdq,compN z hz,QiI,hf,h1,h1',beq_self_eq_true]
theorem ltr{i:Nat}(h:i<26):dIx (.str "abcdefghijklmnopqrstuvwxyz") (.int (i:Int))=.ok (.str ⟨#[97+i]⟩):=by
 have e:("abcdefghijklmnopqrstuvwxyz":Str).cps.toList=(List.range 26).map (97 + ·):=dk
 show(if fits ("abcdefghijklmnopqrstuvwxyz":Str).length=true then optO ((atI ("abcdefghijklmnopqrstuvwxyz":Str).cps.toList (i:Int)).map fun c=>D.str ⟨#[c]⟩) else .stuck)=_
 rw[if_pos (dk),e,Qyx (show((List.range 26).map (97 + ·))[i]?=some (97+i) by rw[List.getElem?_map,List.getElem?_range h];rfl)]
 rfl
theorem QHG{i:Nat}(h:i<26):inL (97+i)=true:=by
 have key:∀ a:Fin 26,inL (97+a)=true:=dk
 exact key ⟨i,h⟩
theorem QHO(x:Str)(c:Nat):(x++(⟨#[c]⟩:Str)).cps.toList=x.cps.toList++[c]:=by
 show(x.cps ++ #[c]).toList=_
 rw[Array.toList_append]
def Nh(x:Str)(f:Nat):Prop:=x.cps.toList.head?=some (97+f)/\nmB x=true
theorem Nh.isn{x:Str}{f:Nat}(h:Nh x f):QaQ [.str x]=.ok (.bl true):=by
 have hn:=h.2
 have hl:x.length<=1000:=by
  unfold nmB at hn
  rw[Bool.and_eq_true,Bool.and_eq_true]at hn
  have:=of_decide_eq_true hn.1.2
  omega
 rw[QOl x hl,hn]
theorem Nh.ne{x y:Str}{f g:Nat}(hx:Nh x f)(hy:Nh y g)(e:x=y):f=g:=by
 have h1:=hx.1
 rw[e,hy.1]at h1
 have:=Option.some.inj h1
 omega
theorem pick5{j:Nat}(h:j<5):∃ b:Int,0<b/\big b=true/\dIx (.lst [.int 1,.int 26,.int 676,.int 17576,.int 7]) (.int (j:Int))=.ok (.int b):=by
 rcases(by omega:j=0∨j=1∨j=2∨j=3∨j=4) with rfl | rfl | rfl | rfl | rfl
 ·exact⟨1,by decide,by decide,rfl⟩
 ·exact⟨26,by decide,by decide,rfl⟩
 ·exact⟨676,by decide,by decide,rfl⟩
 ·exact⟨17576,by decide,by decide,rfl⟩
 ·exact⟨7,by decide,by decide,rfl⟩
theorem QEC{f:Nat}(hf:f<26)(d g:Int):∃ x:Str,Nh x f/\QaO [.int (f:Int),.int d,.int g]=.ok (.str x):=by
 obtain⟨q,hq,q5⟩:∃ q:Nat,d % 6=(q:Int)/\q<=5:=⟨(d % 6).toNat,by omega,by omega⟩
 have m6:dMod (.int d) (.int 6)=.ok (.int (q:Int)):=by rw[QT (by decide),hq]
 have x0:=ltr hf
 obtain⟨ς',hL,x,a5,rfl,h1,h2,h3⟩:=QdM (body:=fun x ς=>gN 5 x ς>>=fun ς'=>QgS ς') (n:=q)
  (P:=fun k ς=>∃(x:Str)(a5:Option (SM×D)),ς=[some (.k,.int (f:Int)),some (.k,.int d),some (.k,.int g),some (.k,.str "abcdefghijklmnopqrstuvwxyz"),some (.k,.str x),a5]/\x.cps.toList.head?=some (97+f)/\x.length=k+1/\x.cps.toList.all inL=true)
  (by
   rintro k hk ς ⟨x,a5,rfl,h1,h2,h3⟩
   obtain⟨b,b0,bb,hb⟩:=pick5 (j:=k) (by omega)
   have hd:dFdiv (.int g) (.int b)=.ok (.int (g / b)):=Qnf b0 bb
   obtain⟨i,hi,i26⟩:∃ i:Nat,g / b % 26=(i:Int)/\i<26:=⟨(g / b % 26).toNat,by omega,by omega⟩
   have hm:dMod (.int (g / b)) (.int 26)=.ok (.int (i:Int)):=by rw[QT (by decide),hi]
   have hl:=ltr i26
   have hadd:dAdd (.str x) (.str ⟨#[97+i]⟩)=.ok (.str (x++(⟨#[97+i]⟩:Str))):=by
    show(if x.length+(⟨#[97+i]⟩:Str).length<=sizeLine then _ else _)=_
    rw[if_pos]
    have:(1000:Nat)<=sizeLine:=by decide
    show x.length+1<=sizeLine
    omega
   refine⟨[some (.k,.int (f:Int)),some (.k,.int d),some (.k,.int g),some (.k,.str "abcdefghijklmnopqrstuvwxyz"),some (.k,.str (x++(⟨#[97+i]⟩:Str))),some ‹"p"›],?_,_,_,rfl,?_,?_,?_⟩
   ·refine r_gN (by walk_at "s") ?_
    unfold QgS
    refine r_set (r_e2 (r_var rfl) (r_e2 (r_var rfl) (r_e2 (r_e2 (r_var rfl) (r_e2 (r_lst (Qe r_C (Qe r_C (Qe r_C (Qe r_C (Qe r_C r_nil))))) (show 5<=1000 by decide)) (r_var rfl) hb) hd) r_C hm) hl) hadd) (by walk_at "s")
   ·rw[QHO,List.head?_append,h1];rfl
   ·show(x.cps ++ #[97+i]).size=_
    rw[Array.size_append]
    show x.length+1=_
    omega
   ·rw[QHO,List.all_append,h3]
    show(true&&(inL (97+i)&&true))=true
    rw[QHG i26];rfl)
  ‹"aF"› ⟨_,_,rfl,rfl,rfl,by show(inL (97+f)&&true)=true;rw[QHG hf];rfl⟩
 have hR:itR1 (e2 dMod (eVar 1) (eC (.int 6))) ‹"aF"›=.ok (Qcm 0 q):=Qb7 q (r_e2 (r_var rfl) r_C m6) (by omega)
 have hfor:=QcP (g:=gN 5) (T:=QgS) hR hL
 refine⟨x,⟨h1,?_⟩,?_⟩
 ·unfold nmB
  rw[h2,h3,decide_eq_true (show 1<=q+1 by omega),decide_eq_true (show q+1<=6 by omega)];rfl
 ·rw[QE2]
  unfold Qjj
  exact Qbh (r_seq (r_set r_C (by walk_at "s")) (Qk (r_seq (r_set (r_e2 (r_var rfl) (r_var rfl) x0) (by walk_at "s")) (Qk (r_seq hfor (Qk (r_ret (r_var rfl)))))))) r_rt
theorem QNq{n nd k:Nat}(n1:1<=n)(n12:n<=12)(d1:1<=nd)(d6:nd<=6)(hk:k<n)(cell:Int)(ring:Bool):∃(w:Int)(t:‹"aH"›)(m:Nat)(ld:Nat->Int)(s:Int)(x:Str),Kd w t m/\(∀ j,j<m -> -(nd:Int)<=ld j/\ld j<(n:Int))/\(0<=s/\s<(t.length:Int))/\Nh x k/\
 Qem [.int cell,.int (k:Int),.int (n:Int),.int (nd:Int),.bl ring]=.ok (.tup [.int w,tbD t,rl m (fun j=>.int (ld j)),.int s,.str x]):=by
 obtain⟨g,hg,hdg⟩:=Qne cell (M:=26) (by decide)
 obtain⟨w,t,m,K',hrow⟩:=QN0 hg (T:=cell % 2) (by omega)
 have tb:=K'.tb
 have t1:=tb.n1
 have m6:=tb.m6
 have mc:dMod (.int cell) (.int 2)=.ok (.int (cell % 2)):=QT (by decide)
 obtain⟨x,hx,hnm⟩:=QEC (f:=k) (by omega) (g 22) (g 23)
 have x3:dIx (rl 26 ‹"O"›) (.int 3)=.ok (.int (g 3)):=dg_ix (M:=26) (i:=3) (by decide)
 have x22:dIx (rl 26 ‹"O"›) (.int 22)=.ok (.int (g 22)):=dg_ix (M:=26) (i:=22) (by decide)
 have x23:dIx (rl 26 ‹"O"›) (.int 23)=.ok (.int (g 23)):=dg_ix (M:=26) (i:=23) (by decide)
 have xl:∀ j:Nat,j<m->dIx (rl 26 ‹"O"›) (.int (4+(j:Int)))=.ok (.int (g (4+j))):=fun j hj=>by
  rw[show(4:Int)+(j:Int)=((4+j:Nat):Int) by omega]
  exact dg_ix (by omega)
 have r0:t[0]?=some t[0]:=by simp
 have hix:dIx (tbD t) (.int 0)=.ok (dl t[0]):=ixL 0 (by rw[List.getElem?_map,r0];rfl)
 have hl0:fLen [dl t[0]]=.ok (.int (m:Int)):=by simp[fLen,dl,tb.row _ (List.getElem_mem _)]
 have tl:fLen [tbD t]=.ok (.int (t.length:Int)):=by simp[fLen,tbD]
 have np:(0:Int)<(n:Int)+(nd:Int):=by omega
 have dp:(0:Int)<(nd:Int):=by omega
 generalize rl 26 (fun i=>D.int (g i))=G at *
 generalize hTd:tbD t=Td at *
 obtain⟨ς',hL,ld,b9,b10,rfl,hld⟩:=QdM (body:=fun x ς=>gN 9 x ς>>=fun ς'=>QhA ς') (n:=m)
  (P:=fun j ς=>∃(ld:Nat->Int)(b9 b10:Option (SM×D)),ς=[some (.k,.int cell),some ‹"p"›,some ‹"al"›,some ‹"s"›,some (.k,.bl ring),some (.k,G),some (.k,.int w),some (.k,Td),some (.o,rl j (fun j=>.int (ld j))),b9,b10]/\∀ i,i<j -> -(nd:Int)<=ld i/\ld i<(n:Int))
  (by
   rintro j hj ς ⟨ld,b9,b10,rfl,hld⟩
   have hxj:=xl j hj
   generalize g (4+j)=x at *
   have y0:=Int.emod_nonneg x (show(n:Int)+(nd:Int)≠0 by omega)
   have y1:=Int.emod_lt_of_pos x np
   have hmd:dMod (.int x) (.int ((n:Int)+(nd:Int)))=.ok (.int (x % ((n:Int)+(nd:Int)))):=QT np
   generalize x % ((n:Int)+(nd:Int))=y at *
   have hdiv:sSet 10 (e2 dMod (e2 dIx (eVar 5) (e2 dAdd (eC (.int 4)) (eVar 9))) (e2 dAdd (eVar 2) (eVar 3))) [some (.k,.int cell),some ‹"p"›,some ‹"al"›,some ‹"s"›,some (.k,.bl ring),some (.k,G),some (.k,.int w),some (.k,Td),some (.o,rl j (fun j=>.int (ld j))),some (.k,.int (j:Int)),b10]=.ok (.nx ‹"S"›):=r_set (r_e2 (r_e2 (r_var rfl) (r_e2 r_C (r_var rfl) (Qad _ _)) hxj) (r_e2 (r_var rfl) (r_var rfl) (Qad _ _)) hmd) (by walk_at "s")
   have hto:∃ z:Int,0<=z/\z<(n:Int)+(nd:Int)/\sIf (tAnd' (tNot' (tVal (eVar 4))) (tVal (e2 dLe (eVar 10) (eVar 1)))) (sSet 10 (e2 dAdd (eVar 2) (e2 dMod (eVar 10) (eVar 3)))) sNil ‹"S"›
    = .ok (.nx ‹"R"›):=by
    cases ring with
    | true=>
     refine⟨y,y0,y1,?_⟩
     (repeat walk_at "e")
    | false=>
     by_cases h:y<=(k:Int)
     ·have w0:=Int.emod_nonneg y (show(nd:Int)≠0 by omega)
      have w1:=Int.emod_lt_of_pos y dp
      have hle:dLe (.int y) (.int (k:Int))=.ok (.bl true):=by rw[QfV,decide_eq_true h]
      refine⟨(n:Int)+y % (nd:Int),by omega,by omega,?_⟩
      (repeat walk_at "e")
     ·have hle:dLe (.int y) (.int (k:Int))=.ok (.bl false):=by rw[QfV,decide_eq_false h]
      refine⟨y,y0,y1,?_⟩
      (repeat walk_at "e")
   obtain⟨z,z0,z1,hz⟩:=hto
   have hl:∃ v:Int, -(nd:Int)<=v/\v<(n:Int)/\eIf (tVal (e2 dLt (eVar 10) (eVar 2))) (eVar 10) (e2 dSub (e2 dSub (eVar 2) (eC (.int 1))) (eVar 10)) ‹"R"›=.ok (.int v):=by
    by_cases h:z<(n:Int)
    ·have hlt:dLt (.int z) (.int (n:Int))=.ok (.bl true):=by rw[Qbc,decide_eq_true h]
     refine⟨z,by omega,h,?_⟩
     (repeat walk_at "e")
    ·have hlt:dLt (.int z) (.int (n:Int))=.ok (.bl false):=by rw[Qbc,decide_eq_false h]
     refine⟨(n:Int) - 1 - z,by omega,by omega,?_⟩
     (repeat walk_at "e")
   obtain⟨v,v0,v1,hv⟩:=hl
   have ea:(List.range j).map (fun j=>D.int (ld j))++[.int v]=(List.range (j+1)).map (fun i=>D.int (if i<j then ld i else v)):=by
    rw[Qv9]
    exact List.map_congr_left fun i _=>by split<;>rfl
   have hle:((List.range j).map (fun j=>D.int (ld j))).length<=1000:=by rw[List.length_map,List.length_range];omega
   refine⟨[some (.k,.int cell),some ‹"p"›,some ‹"al"›,some ‹"s"›,some (.k,.bl ring),some (.k,G),some (.k,.int w),some (.k,Td),some (.o,rl (j+1) (fun i=>.int (if i<j then ld i else v))),some (.k,.int (j:Int)),some (.k,.int z)],?_,fun i=>if i<j then ld i else v,_,_,rfl,fun i hi=>?_⟩
   ·refine r_gN (by walk_at "s") ?_
    unfold QhA
    refine r_seq hdiv (Qk (r_seq hz (Qk ?_)))
    exact r_app (xs:=(List.range j).map (fun j=>D.int (ld j))) rfl hv hle (by rw[ea];walk_at "s")
   ·show -(nd:Int)<=(if i<j then ld i else v)/\(if i<j then ld i else v)<(n:Int)
    split
    ·rename_i w;exact hld i w
    ·exact⟨v0,v1⟩)
  ‹"aA"› ⟨fun _=>0,_,_,rfl,fun i hi=>absurd hi (by omega)⟩
 have hR:itR1 (eA fLen (aCons (e2 dIx (eVar 7) (eC (.int 0))) aNil)) ‹"aA"›=.ok (Qcm 0 m):=Qb7 m (r_eA (Qe (r_e2 (r_var rfl) r_C hix) r_nil) hl0) (by omega)
 have hfor:=QcP (g:=gN 9) (T:=QhA) hR hL
 have s0:=Int.emod_nonneg (g 3) (show(t.length:Int)≠0 by omega)
 have s1:=Int.emod_lt_of_pos (g 3) (show(0:Int)<(t.length:Int) by omega)
 have ms:dMod (.int (g 3)) (.int (t.length:Int))=.ok (.int (g 3 % (t.length:Int))):=QT (by omega)
 refine⟨w,t,m,ld,g 3 % (t.length:Int),x,K',hld,⟨s0,s1⟩,hx,?_⟩
 generalize g 3 % (t.length:Int)=s at *
 have fin:(fun ς=>(sRet ‹"e"›) (frz 8 ς)) [some (.k,.int cell),some ‹"p"›,some ‹"al"›,some ‹"s"›,some (.k,.bl ring),some (.k,G),some (.k,.int w),some (.k,Td),some (.o,rl m (fun j=>.int (ld j))),b9,b10]=.ok (.rt false (.tup [.int w,Td,rl m (fun j=>.int (ld j)),.int s,.str x])):=by
  refine Qxg (T:=sRet ‹"e"›) (Qxy (i:=8) rfl rfl) ?_
  exact r_ret (r_tup (Qe (r_var rfl) (Qe (r_var rfl) (Qe (r_var rfl) (Qe (r_e2 (r_e2 (r_var rfl) r_C x3) (r_eA ‹"m"› tl) ms) (Qe (Q7 (xs:=[.int (k:Int),.int (g 22),.int (g 23)]) (Qe (r_var rfl) (Qe (r_e2 (r_var rfl) r_C x22) (Qe (r_e2 (r_var rfl) r_C x23) r_nil))) rfl hnm) r_nil))))) (show 5<=1000 by decide))
 rw[hTd,QIl]
 unfold Qld
 refine Qbh (fl:=.rt false (.tup [.int w,Td,rl m (fun j=>.int (ld j)),.int s,.str x])) ?_ r_rt
 refine r_seq (r_set (Q7 (xs:=[.int cell,.int 26]) ‹"Z"› rfl hdg) (by walk_at "s")) (Qk ?_)
 refine r_seq (r_unp (ys:=[.int w,Td]) (Q7 (xs:=[G,.int (cell % 2)]) (Qe (r_var rfl) (Qe (r_e2 (r_var rfl) r_C mc) r_nil)) rfl hrow) (by walk_at "all")) (Qk ?_)
 refine r_seq (Qdp (d:=.lst []) (by (repeat walk_at "e")) (by walk_at "s")) (Qk (r_seq hfor (Qk fin)))
def planD(kd:Nat->Int)(t:Nat->List (List Int))(m:Nat->Nat)(ld:Nat->Nat->Int)(st:Nat->Int)(nm:Nat->Str)(k:Nat):D:=.tup [.int (kd k),tbD (t k),rl (m k) ‹"Q"›,.int (st k),.str (nm k)]
structure Plan(n nd:Nat)(kd:Nat->Int)(t:Nat->List (List Int))(m:Nat->Nat)(ld:Nat->Nat->Int)(st:Nat->Int)(nm:Nat->Str)(N:Nat):Prop where
 kd:∀ k,k<N->Kd (kd k) (t k) (m k)
 ldr:∀ k j,k<N->j<m k -> -(nd:Int)<=ld k j/\ld k j<(n:Int)
 str:∀ k,k<N->0<=st k/\st k<((t k).length:Int)
 nm:∀ k,k<N->Nh (nm k) k
theorem QNS(ns:List Int):∃(n nd:Nat)(kd:Nat->Int)(t:Nat->List (List Int))(m:Nat->Nat)(ld:Nat->Nat->Int)(st:Nat->Int)(nm:Nat->Str),1<=n/\n<=12/\1<=nd/\nd<=6/\Plan n nd kd t m ld st nm n/\
 Qdn [.lst (ns.map .int),.int 12]=.ok (.tup [rl n ‹"t"›,.int (nd:Int)]):=by
 obtain⟨v,hv⟩:=QoR ns 0
 have hv:QZ [.lst (ns.map .int),.int 0]=.ok (.int v):=hv
 obtain⟨g,hg,hdg⟩:=Qne v (M:=6) (by decide)
 have hdg:Qah [.int v,.int 6]=.ok (rl 6 ‹"O"›):=hdg
 have x0:dIx (rl 6 ‹"O"›) (.int 0)=.ok (.int (g 0)):=dg_ix (M:=6) (i:=0) (by decide)
 have x1:dIx (rl 6 ‹"O"›) (.int 1)=.ok (.int (g 1)):=dg_ix (M:=6) (i:=1) (by decide)
 have x2:dIx (rl 6 ‹"O"›) (.int 2)=.ok (.int (g 2)):=dg_ix (M:=6) (i:=2) (by decide)
 have mv:dMod (.int v) (.int 2)=.ok (.int (v % 2)):=QT (by decide)
 obtain⟨A,hA,pA⟩:=pick2 12 5 (v % 2) (by omega)
 obtain⟨B,hB,pB⟩:=pick2 6 3 (v % 2) (by omega)
 have A1:0<A:=by rcases hA with rfl | rfl<;>decide
 have B1:0<B:=by rcases hB with rfl | rfl<;>decide
 have mA:dMod (.int (g 0)) (.int A)=.ok (.int (g 0 % A)):=QT A1
 have mB:dMod (.int (g 1)) (.int B)=.ok (.int (g 1 % B)):=QT B1
 have m2:dMod (.int (g 2)) (.int 2)=.ok (.int (g 2 % 2)):=QT (by decide)
 obtain⟨n,hn,n1,n12⟩:∃ n:Nat,1+g 0 % A=(n:Int)/\1<=n/\n<=12:=by
  have a:=Int.emod_nonneg (g 0) (b:=A) (by omega)
  have b:=Int.emod_lt_of_pos (g 0) A1
  exact⟨(1+g 0 % A).toNat,by omega,by omega,by rcases hA with rfl | rfl<;>omega⟩
 obtain⟨nd,hnd,d1,d6⟩:∃ n:Nat,1+g 1 % B=(n:Int)/\1<=n/\n<=6:=by
  have a:=Int.emod_nonneg (g 1) (b:=B) (by omega)
  have b:=Int.emod_lt_of_pos (g 1) B1
  exact⟨(1+g 1 % B).toNat,by omega,by omega,by rcases hB with rfl | rfl<;>omega⟩
 have cell:∀ k:Nat,∃ w:Int,QZ [.lst (ns.map .int),.int (k:Int)]=.ok (.int w):=fun k=>QoR ns k
 generalize hS:D.lst (ns.map .int)=S at *
 generalize rl 6 (fun i=>D.int (g i))=G at *
 generalize hr:decide (g 2 % 2=1)=ring
 obtain⟨ς',hL,kd,t,m,ld,st,nm,a8,rfl,pl⟩:=QdM (body:=fun x ς=>gN 8 x ς>>=fun ς'=>QhR ς') (n:=n)
  (P:=fun N ς=>∃(kd:Nat->Int)(t:Nat->List (List Int))(m:Nat->Nat)(ld:Nat->Nat->Int)(st:Nat->Int)(nm:Nat->Str)(a8:Option (SM×D)),ς=[some (.k,S),some (.k,.int 12),some (.k,.int v),some (.k,G),some ‹"al"›,some ‹"s"›,some (.k,.bl ring),some (.o,rl N ‹"t"›),a8]/\Plan n nd kd t m ld st nm N)
  (by
   rintro k hk ς ⟨kd,t,m,ld,st,nm,a8,rfl,pl⟩
   obtain⟨w,hw⟩:=cell (1+k)
   have hw:QZ [S,.int (1+(k:Int))]=.ok (.int w):=by
    have e:(((1+k:Nat)):Int)=1+(k:Int):=by omega
    rw[e]at hw;exact hw
   obtain⟨w',t',m',ld',s',x',K',hld',hs',hx',hseat⟩:=QNq n1 n12 d1 d6 hk w ring
   have hle:((List.range k).map ‹"t"›).length<=1000:=by rw[List.length_map,List.length_range];omega
   have ea:(List.range k).map ‹"t"›++[.tup [.int w',tbD t',rl m' (fun j=>.int (ld' j)),.int s',.str x']]=(List.range (k+1)).map ‹"T"›:=by
    rw[Qv9]
    refine List.map_congr_left fun i hi=>?_
    unfold planD
    by_cases h:i<k
    ·simp only[if_pos h]
    ·simp only[if_neg h]
   refine⟨[some (.k,S),some (.k,.int 12),some (.k,.int v),some (.k,G),some ‹"al"›,some ‹"s"›,some (.k,.bl ring),some (.o,rl (k+1) ‹"T"›),some ‹"p"›],?_,_,_,_,_,_,_,_,rfl,?_⟩
   ·refine r_gN (by walk_at "s") ?_
    unfold QhR
    exact r_app (xs:=(List.range k).map ‹"t"›) rfl (Q7 (xs:=[.int w,.int (k:Int),.int (n:Int),.int (nd:Int),.bl ring]) (Qe (Q7 (xs:=[S,.int (1+(k:Int))]) (Qe (r_var rfl) (Qe (r_e2 r_C (r_var rfl) (Qad _ _)) r_nil)) rfl hw) (Qe (r_var rfl) (Qe (r_var rfl) ‹"V"›))) rfl hseat) hle (by rw[ea];walk_at "s")
   ·refine⟨fun i hi=>?_,fun i j hi hj=>?_,fun i hi=>?_,fun i hi=>?_⟩
    ·by_cases h:i<k
     ·simp only[if_pos h];exact pl.kd i h
     ·simp only[if_neg h];exact K'
    ·by_cases h:i<k
     ·simp only[if_pos h]at hj ⊢;exact pl.ldr i j h hj
     ·simp only[if_neg h]at hj ⊢;exact hld' j hj
    ·by_cases h:i<k
     ·simp only[if_pos h];exact pl.str i h
     ·simp only[if_neg h];exact hs'
    ·by_cases h:i<k
     ·simp only[if_pos h];exact pl.nm i h
     ·have e:i=k:=by omega
      subst e
      simp only[if_neg h];exact hx')
  ‹"aK"› ⟨fun _=>0,fun _=>[],fun _=>0,fun _ _=>0,fun _=>0,fun _=>"",_,rfl,⟨fun i hi=>absurd hi (by omega),fun i j hi=>absurd hi (by omega),fun i hi=>absurd hi (by omega),fun i hi=>absurd hi (by omega)⟩⟩
 have hR:itR1 (eVar 4) ‹"aK"›=.ok (Qcm 0 n):=Qb7 n (r_var rfl) (by omega)
 have hfor:=QcP (g:=gN 8) (T:=QhR) hR hL
 refine⟨n,nd,kd,t,m,ld,st,nm,n1,n12,d1,d6,pl,?_⟩
 have fin:(fun ς=>(sRet (eTup (aCons (eVar 7) (aCons (eVar 5) aNil)))) (frz 7 ς)) [some (.k,S),some (.k,.int 12),some (.k,.int v),some (.k,G),some ‹"al"›,some ‹"s"›,some (.k,.bl ring),some (.o,rl n ‹"t"›),a8]=.ok (.rt false (.tup [rl n ‹"t"›,.int (nd:Int)])):=Qxg (T:=sRet (eTup (aCons (eVar 7) (aCons (eVar 5) aNil)))) (Qxy (i:=7) rfl rfl) (r_ret (r_tup ‹"V"› (show 2<=1000 by decide)))
 rw[QID]
 unfold Qlj
 refine Qbh (fl:=.rt false (.tup [rl n ‹"t"›,.int (nd:Int)])) ?_ r_rt
 refine r_seq (r_set (Q7 (xs:=[S,.int 0]) ‹"Z"› rfl hv) (by walk_at "s")) (Qk ?_)
 refine r_seq (r_set (Q7 (xs:=[.int v,.int 6]) ‹"Z"› rfl hdg) (by walk_at "s")) (Qk ?_)
 refine r_seq (r_set (d:=.int (n:Int)) (by
  rw[← hn]
  exact r_e2 r_C (r_e2 (r_e2 (r_var rfl) r_C x0) (r_e2 (r_lst ‹"Z"› (show 2<=1000 by decide)) (r_e2 (r_var rfl) r_C mv) pA) mA) (Qad _ _)) (by walk_at "s")) (Qk ?_)
 refine r_seq (r_set (d:=.int (nd:Int)) (by
  rw[← hnd]
  exact r_e2 r_C (r_e2 (r_e2 (r_var rfl) r_C x1) (r_e2 (r_lst (Qe r_C (Qe r_C r_nil)) (show 2<=1000 by decide)) (r_e2 (r_var rfl) r_C mv) pB) mB) (Qad _ _)) (by walk_at "s")) (Qk ?_)
 refine r_seq (r_set (d:=.bl ring) (by
  rw[← hr]
  exact r_e2 (r_e2 (r_e2 (r_var rfl) r_C x2) r_C m2) r_C (Qam _ _)) (by walk_at "s")) (Qk ?_)
 refine r_seq (Qdp (d:=.lst []) (by (repeat walk_at "e")) (by walk_at "s")) (Qk (r_seq hfor (Qk fin)))
theorem QLo(ns:List Int){n nd:Nat}{kd:Nat->Int}{t:Nat->List (List Int)}{m:Nat->Nat}{ld:Nat->Nat->Int}{st:Nat->Int}{nm:Nat->Str}(n1:1<=n)(n12:n<=12)(d1:1<=nd)(d6:nd<=6)(pl:Plan n nd kd t m ld st nm n):
 ∃(c dn:Nat->Str),Seats n nd nm dn c t m ld st/\Qco [.lst (ns.map .int),rl n ‹"t"›,.int (nd:Int)]=.ok (offD n nd nm dn c t m ld st):=by
 obtain⟨v,hv⟩:=QoR ns 0
 have hv:QZ [.lst (ns.map .int),.int 0]=.ok (.int v):=hv
 obtain⟨g,hg,hdg⟩:=Qne v (M:=6) (by decide)
 have hdg:Qah [.int v,.int 6]=.ok (rl 6 ‹"O"›):=hdg
 have x3:dIx (rl 6 ‹"O"›) (.int 3)=.ok (.int (g 3)):=dg_ix (M:=6) (i:=3) (by decide)
 have x4:dIx (rl 6 ‹"O"›) (.int 4)=.ok (.int (g 4)):=dg_ix (M:=6) (i:=4) (by decide)
 have H:∀ k,∃ c:Str,k<n->CK.contains c=true/\Qch [.int (kd k),tbD (t k)]=.ok (ck c (t k) (m k)):=fun k=>by
  by_cases h:k<n
  ·obtain⟨c,h1,h2⟩:=QMI (pl.kd k h)
   exact⟨c,fun _=>⟨h1,h2⟩⟩
  ·exact⟨"Copy",fun z=>absurd z h⟩
 obtain⟨c,hc⟩:∃ c:Nat->Str,∀ k,k<n->CK.contains (c k)=true/\Qch [.int (kd k),tbD (t k)]=.ok (ck (c k) (t k) (m k)):=⟨fun k=>(H k).choose,fun k h=>(H k).choose_spec h⟩
 have H2:∀ d,∃ x:Str,d<nd->Nh x (12+d)/\QaO [.int (12+(d:Int)),.int (g 3),.int (g 4)]=.ok (.str x):=fun d=>by
  by_cases h:d<nd
  ·obtain⟨x,h1,h2⟩:=QEC (f:=12+d) (by omega) (g 3) (g 4)
   rw[show((12+d:Nat):Int)=12+(d:Int) by omega]at h2
   exact⟨x,fun _=>⟨h1,h2⟩⟩
  ·exact⟨"",fun z=>absurd z h⟩
 obtain⟨dn,hdn⟩:∃ dn:Nat->Str,∀ d,d<nd->Nh (dn d) (12+d)/\QaO [.int (12+(d:Int)),.int (g 3),.int (g 4)]=.ok (.str (dn d)):=⟨fun d=>(H2 d).choose,fun d h=>(H2 d).choose_spec h⟩
 have sts:Seats n nd nm dn c t m ld st:=⟨n1,by omega,d1,by omega,fun k h=>(hc k h).1,fun k h=>(pl.kd k h).tb,pl.ldr,pl.str,fun k h=>(pl.nm k h).isn,fun d h=>(hdn d h).1.isn,fun i j hi hj e=>(pl.nm i hi).ne (pl.nm j hj) e,fun i j hi hj e=>by have:=(hdn i hi).1.ne (hdn j hj).1 e;omega,fun i d hi hd e=>by have:=(pl.nm i hi).ne (hdn d hd).1 e;omega⟩
 refine⟨c,dn,sts,?_⟩
 have mk:=QKt sts
 have hix:∀ k:Nat,k<n->dIx (rl n ‹"t"›) (.int (k:Int))=.ok (planD kd t m ld st nm k):=fun k h=>ixR h
 have hit:∀ ς:SD,ς[1]?=some (some (.k,rl n ‹"t"›))->itL (eVar 1) ς=.ok ((List.range n).map ‹"t"›):=fun ς h=>r_itL (r_var h)
 have hx4:∀ k,dIx (planD kd t m ld st nm k) (.int 4)=.ok (.str (nm k)):=fun k=>ixT 4 rfl
 generalize hS:D.lst (ns.map .int)=S at *
 generalize rl 6 (fun i=>D.int (g i))=G at *
 generalize hP:rl n ‹"t"›=P at *
 have hends:∀ a5 a6 a7 a8 a9 a10 a11:Option (SM×D),eComp [none,some 3] (itR1 (eVar 2)) (gN 0) cTrue QiC [some (.k,S),some (.k,P),some ‹"s"›,some (.k,G),none,a5,a6,a7,a8,a9,a10,a11]=.ok (rl nd ‹"u"›):=fun a5 a6 a7 a8 a9 a10 a11=>by
  refine Qg8 ‹"u"› (Qb7 nd (r_var rfl) (by omega)) (fun d hd=>?_) (by omega)
  refine Qaj (by walk_at "cap") (by walk_at "s") ?_
  unfold QiC
  exact Q7 (xs:=[.int (12+(d:Int)),.int (g 3),.int (g 4)]) (Qe (r_e2 r_C (r_var rfl) (Qad _ _)) (Qe (r_e2 (r_var rfl) r_C x3) (Qe (r_e2 (r_var rfl) r_C x4) r_nil))) rfl (hdn d hd).2
 have hdx:∀ d:Nat,d<nd->dIx (rl nd ‹"u"›) (.int (d:Int))=.ok (.str (dn d)):=fun d h=>ixR (f:=fun d=>D.str (dn d)) h
 generalize hE:rl nd (fun d=>D.str (dn d))=E at *
 obtain⟨ς',hL,a6,a7,a8,a9,a10,a11,rfl⟩:=Qq4 (body:=fun x ς=>gT [6,7,8,9,10] x ς>>=fun ς'=>Qgd ς') (f:=planD kd t m ld st nm) (n:=n)
  (P:=fun k ς=>∃(a6 a7 a8 a9 a10 a11:Option (SM×D)),ς=[some (.k,S),some (.k,P),some ‹"s"›,some (.k,G),some (.k,E),some (.o,rl k ‹"A"›),a6,a7,a8,a9,a10,a11])
  (by
   rintro k hk ς ⟨a6,a7,a8,a9,a10,a11,rfl⟩
   have m6:=(sts.tb k hk).m6
   have hcl:=(hc k hk).2
   have hcm:eComp [none,some 4,some 1] (itL (eVar 8)) (gN 0) cTrue Qiz [some (.k,S),some (.k,P),some ‹"s"›,some (.k,G),some (.k,E),some (.o,rl k ‹"A"›),some (.k,.int (kd k)),some (.k,tbD (t k)),some (.k,rl (m k) ‹"Q"›),some (.k,.int (st k)),some (.k,.str (nm k)),a11]=.ok (rl (m k) ‹"aN"›):=by
    refine Qat (fun j=>D.int (ld k j)) (fun j=>D.str (nml nm dn (ld k j))) rfl (fun j hj=>?_) (by rw[List.length_range];omega)
    obtain⟨r1,r2⟩:=sts.ldr k j hk (List.mem_range.mp hj)
    refine Qaj (τ0:=[none,some (.k,E),some (.k,P)]) (Qfy (c_k rfl (c_k rfl c_nil))) (by walk_at "s") ?_
    unfold Qiz nml
    by_cases h:ld k j<0
    ·rw[if_pos h]
     have y:=hdx (-1 - ld k j).toNat (by omega)
     rw[Int.toNat_of_nonneg (by omega)]at y
     refine r_eIf (b:=true) (by rw[Q9 (r_e2 (r_var rfl) r_C (Qbc _ _)),decide_eq_true h]) (QgD rfl ?_)
     exact r_e2 (r_var rfl) (r_e2 (r_e1 r_C (Qel _)) (r_var rfl) (Qc5 _ _)) y
    ·rw[if_neg h]
     have y:=hix (ld k j).toNat (by omega)
     rw[Int.toNat_of_nonneg (by omega)]at y
     refine r_eIf (b:=false) (by rw[Q9 (r_e2 (r_var rfl) r_C (Qbc _ _)),decide_eq_false h]) (Qfx rfl ?_)
     exact r_e2 (r_e2 (r_var rfl) (r_var rfl) y) r_C (hx4 _)
   have ea:(List.range k).map ‹"A"›++[.tup [.str (nm k),ck (c k) (t k) (m k),rl (m k) ‹"aN"›,.int (st k)]]=(List.range (k+1)).map ‹"A"›:=by
    rw[List.range_succ,List.map_append];rfl
   have hle:((List.range k).map ‹"A"›).length<=1000:=by rw[List.length_map,List.length_range];omega
   refine⟨[some (.k,S),some (.k,P),some ‹"s"›,some (.k,G),some (.k,E),some (.o,rl (k+1) ‹"A"›),some (.k,.int (kd k)),some (.k,tbD (t k)),some (.k,rl (m k) ‹"Q"›),some (.k,.int (st k)),some (.k,.str (nm k)),some (.k,rl (m k) ‹"aN"›)],?_,_,_,_,_,_,_,rfl⟩
   unfold planD
   refine r_gT (by walk_at "all") ?_
   unfold Qgd
   refine r_seq (r_set hcm (by walk_at "s")) (Qk ?_)
   exact r_app (xs:=(List.range k).map ‹"A"›) rfl (r_tup (Qe (r_var rfl) (Qe (Q7 (xs:=[.int (kd k),tbD (t k)]) ‹"V"› rfl hcl) ‹"V"›)) (show 4<=1000 by decide)) hle (by rw[ea];walk_at "s"))
  [some (.k,S),some (.k,P),some ‹"s"›,some (.k,G),some (.k,E),some (.o,.lst []),none,none,none,none,none,none] ⟨_,_,_,_,_,_,rfl⟩
 have hfor:=QcP (g:=gT [6,7,8,9,10]) (T:=Qgd) (hit _ rfl) hL
 have fin:(fun ς=>(sRetF ‹"n"›) (frz 5 ς)) [some (.k,S),some (.k,P),some ‹"s"›,some (.k,G),some (.k,E),some (.o,rl n ‹"A"›),a6,a7,a8,a9,a10,a11]=.ok (.rt true (offD n nd nm dn c t m ld st)):=by
  refine Qxg (T:=sRetF ‹"n"›) (Qxy (i:=5) rfl rfl) ?_
  unfold offD
  exact Qpm (QMf (Qe (r_var rfl) (Qe (r_lst (Qe (r_tup (Qe r_C (Qe (r_e2 (r_e2 (r_var rfl) r_C (hix 0 (by omega))) r_C (hx4 0)) r_nil)) (show 2<=1000 by decide)) r_nil) (show 1<=1000 by decide)) ‹"m"›)) mk)
 rw[QC3]
 unfold Qhx
 refine Qbh (fl:=.rt true (offD n nd nm dn c t m ld st)) ?_ r_rtT
 refine r_seq (r_set (Q7 (xs:=[.int v,.int 6]) (Qe (Q7 (xs:=[S,.int 0]) ‹"Z"› rfl hv) (Qe r_C r_nil)) rfl hdg) (by walk_at "s")) (Qk ?_)
 refine r_seq (r_set (hends _ _ _ _ _ _ _) (by walk_at "s")) (Qk ?_)
 refine r_seq (Qdp (d:=.lst []) (by (repeat walk_at "e")) (by walk_at "s")) (Qk (r_seq hfor (Qk fin)))
theorem QMz(ns:List Int){n:Nat}(hn:n<=12):∃ K:Nat->Int,(∀ i,i<n->0<=K i)/\QcH [.lst (ns.map .int),.int (n:Int)]=.ok (rl n (fun i=>.int (K i))):=by
 have cell:∀ k:Nat,∃ w:Int,QZ [.lst (ns.map .int),.int (k:Int)]=.ok (.int w):=fun k=>QoR ns k
 generalize hS:D.lst (ns.map .int)=S at *
 obtain⟨ς',hL,K,a3,a4,a5,a6,rfl,hK⟩:=QdM (body:=fun x ς=>gN 3 x ς>>=fun ς'=>QgW ς') (n:=n)
  (P:=fun k ς=>∃(K:Nat->Int)(a3 a4 a5 a6:Option (SM×D)),ς=[some (.k,S),some ‹"al"›,some (.o,rl k (fun i=>.int (K i))),a3,a4,a5,a6]/\∀ i,i<k->0<=K i)
  (by
   rintro k hk ς ⟨K,a3,a4,a5,a6,rfl,hK⟩
   obtain⟨w,hw⟩:=cell (1+k)
   have hw:QZ [S,.int (1+(k:Int))]=.ok (.int w):=by
    have e:(((1+k:Nat)):Int)=1+(k:Int):=by omega
    rw[e]at hw;exact hw
   obtain⟨g,hg,hdg⟩:=Qne w (M:=26) (by decide)
   have hdg:Qah [.int w,.int 26]=.ok (rl 26 ‹"O"›):=hdg
   have x24:dIx (rl 26 ‹"O"›) (.int 24)=.ok (.int (g 24)):=dg_ix (M:=26) (i:=24) (by decide)
   have x25:dIx (rl 26 ‹"O"›) (.int 25)=.ok (.int (g 25)):=dg_ix (M:=26) (i:=25) (by decide)
   have g0:=(hg 24 (by decide)).1
   have m2:dMod (.int w) (.int 2)=.ok (.int (w % 2)):=QT (by decide)
   have m6:dMod (.int (g 24)) (.int 6)=.ok (.int (g 24 % 6)):=QT (by decide)
   have m4:dMod (.int (g 25)) (.int 4)=.ok (.int (g 25 % 4)):=QT (by decide)
   generalize rl 26 (fun i=>D.int (g i))=G at *
   have hif:∃ z:Int,0<=z/\sIf ‹"ar"› (sSet 6 (e2 dIx (eVar 5) (eC (.int 24)))) sNil ‹"D"›=.ok (.nx [some (.k,S),some ‹"al"›,some (.o,rl k (fun i=>.int (K i))),some ‹"p"›,some (.k,.int w),some (.k,G),some (.k,.int z)]):=by
    have t1:tVal (e2 dEq (e2 dMod (eVar 4) (eC (.int 2))) (eC (.int 0))) ‹"D"›=.ok (decide (w % 2=0)):=Q9 (r_e2 (r_e2 (r_var rfl) r_C m2) r_C (Qam _ _))
    have t2:tVal (e2 dEq (e2 dMod (e2 dIx (eVar 5) (eC (.int 25))) (eC (.int 4))) (eC (.int 3))) ‹"D"›=.ok (decide (g 25 % 4=3)):=Q9 (r_e2 (r_e2 (r_e2 (r_var rfl) r_C x25) r_C m4) r_C (Qam _ _))
    cases h1:decide (w % 2=0) with
    | false=>
     rw[h1]at t1
     exact⟨g 24 % 6,by omega,r_ifF (QeT t1 (Qfx rfl rfl)) rfl Qdg⟩
    | true=>
     rw[h1]at t1
     cases h2:decide (g 25 % 4=3) with
     | false=>
      rw[h2]at t2
      exact⟨g 24 % 6,by omega,r_ifF (QeT t1 (QgD rfl t2)) rfl Qdg⟩
     | true=>
      rw[h2]at t2
      exact⟨g 24,g0,r_ifT (QeT t1 (QgD rfl t2)) rfl (r_set (r_e2 (r_var rfl) r_C x24) (by walk_at "s"))⟩
   obtain⟨z,z0,hz⟩:=hif
   have mz:dMod (.int z) (.int 6)=.ok (.int (z % 6)):=QT (by decide)
   obtain⟨b,b0,hb⟩:∃ b:Int,0<=b/\dIx (.lst [.int 0,.int 1,.int 2,.int 3,.int 0,.int 5]) (.int (z % 6))=.ok (.int b):=by
    rcases(by omega:z % 6=0∨z % 6=1∨z % 6=2∨z % 6=3∨z % 6=4∨z % 6=5) with e | e | e | e | e | e<;>rw[e]
    ·exact⟨0,by decide,rfl⟩
    ·exact⟨1,by decide,rfl⟩
    ·exact⟨2,by decide,rfl⟩
    ·exact⟨3,by decide,rfl⟩
    ·exact⟨0,by decide,rfl⟩
    ·exact⟨5,by decide,rfl⟩
   obtain⟨e,he,hx⟩:=pick2 z b (w % 2) (by omega)
   have e0:0<=e:=by rcases he with rfl | rfl<;>assumption
   have ea:(List.range k).map (fun j=>D.int (K j))++[.int e]=(List.range (k+1)).map (fun i=>D.int (if i<k then K i else e)):=by
    rw[Qv9]
    exact List.map_congr_left fun i _=>by split<;>rfl
   have hle:((List.range k).map (fun j=>D.int (K j))).length<=1000:=by rw[List.length_map,List.length_range];omega
   refine⟨[some (.k,S),some ‹"al"›,some (.o,rl (k+1) (fun i=>.int (if i<k then K i else e))),some ‹"p"›,some (.k,.int w),some (.k,G),some (.k,.int z)],?_,fun i=>if i<k then K i else e,_,_,_,_,rfl,fun i hi=>?_⟩
   ·refine r_gN (by walk_at "s") ?_
    unfold QgW
    refine r_seq (r_set (Q7 (xs:=[S,.int (1+(k:Int))]) (Qe (r_var rfl) (Qe (r_e2 r_C (r_var rfl) (Qad _ _)) r_nil)) rfl hw) (by walk_at "s")) (Qk ?_)
    refine r_seq (r_set (Q7 (xs:=[.int w,.int 26]) ‹"Z"› rfl hdg) (by walk_at "s")) (Qk ?_)
    refine r_seq (r_set (r_e2 (r_e2 (r_var rfl) r_C x24) r_C m6) (by walk_at "s")) (Qk ?_)
    refine r_seq hz (Qk ?_)
    exact r_app (xs:=(List.range k).map (fun j=>D.int (K j))) rfl (r_e2 (r_lst (xs:=[.int z,.int b]) (Qe (r_var rfl) (Qe (r_e2 (r_lst (Qe r_C (Qe r_C (Qe r_C (Qe r_C (Qe r_C (Qe r_C r_nil)))))) (show 6<=1000 by decide)) (r_e2 (r_var rfl) r_C mz) hb) r_nil)) (show 2<=1000 by decide)) (r_e2 (r_var rfl) r_C m2) hx) hle (by rw[ea];walk_at "s")
   ·show 0<=(if i<k then K i else e)
    split
    ·rename_i w;exact hK i w
    ·exact e0)
  [some (.k,S),some ‹"al"›,some (.o,.lst []),none,none,none,none] ⟨fun _=>0,_,_,_,_,rfl,fun i hi=>absurd hi (by omega)⟩
 have hR:itR1 (eVar 1) [some (.k,S),some ‹"al"›,some (.o,.lst []),none,none,none,none]=.ok (Qcm 0 n):=Qb7 n (r_var rfl) (by omega)
 have hfor:=QcP (g:=gN 3) (T:=QgW) hR hL
 refine⟨K,hK,?_⟩
 rw[QGs]
 unfold Qjc
 exact Qbh (fl:=.rt true (rl n (fun i=>.int (K i)))) (r_seq (Qdp (d:=.lst []) (by (repeat walk_at "e")) (by walk_at "s")) (Qk (r_seq hfor (Qk (QCN rfl))))) r_rtT
section
variable{n nd:Nat}{nm dn c:Nat->Str}{t:Nat->List (List Int)}{m:Nat->Nat}{ld:Nat->Nat->Int}{st:Nat->Int}(hs:Seats n nd nm dn c t m ld st){kd:Nat->Int}
include hs
theorem QOG{S K:Nat->Int}{k:Nat}(hk:k<n)(s0:0<=S k)(s1:S k<((t k).length:Int)):
 Qex [rl n ‹"t"›,.int (nd:Int),rl n (fun i=>.int (S i)),rl n (fun i=>.int (K i)),.int (k:Int)]=
  .ok (.tup [rl n (fun i=>.int (up1 t S k i)),rl n ‹"ag"›,rl nd (fun i=>.int (0+dkt (m k) (ld k) (rw' (t k) (S k)) ‹"w"›))]):=by
 have n2:=hs.n2
 have d2:=hs.d2
 have tb:=hs.tb k hk
 have n1:=tb.n1
 have m6:=tb.m6
 obtain⟨r,hr⟩:∃ r:Nat,S k=(r:Int):=⟨(S k).toNat,by omega⟩
 have hrl:r<(t k).length:=by omega
 have hrow:dIx (tbD (t k)) (.int (S k))=.ok (rl (m k) (fun j=>.int (rw' (t k) (S k) j))):=by
  have hg:(t k).getD r []=(t k)[r]:=by simp[List.getD_eq_getElem?_getD,List.getElem?_eq_getElem hrl]
  have hm:((t k)[r]).length=m k:=tb.row _ (List.getElem_mem hrl)
  have hx:dIx (tbD (t k)) (.int (r:Int))=.ok (dl (t k)[r]):=ixL r (by rw[List.getElem?_map,List.getElem?_eq_getElem hrl];rfl)
  have e:rl (m k) (fun j=>D.int (rw' (t k) (r:Int) j))=dl (t k)[r]:=by
   unfold dl rw'
   rw[QKK hm,Int.toNat_natCast,hg]
  rw[hr,hx,e]
 have hP:dIx (rl n ‹"t"›) (.int (k:Int))=.ok (planD kd t m ld st nm k):=ixR hk
 have hP1:dIx (planD kd t m ld st nm k) (.int 1)=.ok (tbD (t k)):=ixT 1 rfl
 have hP2:dIx (planD kd t m ld st nm k) (.int 2)=.ok (rl (m k) ‹"Q"›):=ixT 2 rfl
 have htl:fLen [tbD (t k)]=.ok (.int ((t k).length:Int)):=by simp[fLen,tbD]
 have hll:=lenR (m k) (fun j=>D.int (ld k j))
 have hx1:dIx (rl n (fun i=>D.int (S i))) (.int (k:Int))=.ok (.int (S k)):=ixR (f:=fun i=>D.int (S i)) hk
 have hx2:dIx (rl n (fun i=>D.int (K i))) (.int (k:Int))=.ok (.int (K k)):=ixR (f:=fun i=>D.int (K i)) hk
 have hn1:=ixNR hk (fun i=>D.int (S i))
 have hn2:=ixNR hk (fun i=>D.int (K i))
 have p1:((List.range n).map fun i=>D.int (S i)).set k (.int ((S k+1) % ((t k).length:Int)))=(List.range n).map fun i=>D.int (up1 t S k i):=Qv4 hk S _
 have p2:((List.range n).map fun i=>D.int (K i)).set k (.int (K k - 1))=(List.range n).map fun i=>D.int (dn1 K k i):=Qv4 hk K _
 have hmod:dMod (.int (S k+1)) (.int ((t k).length:Int))=.ok (.int ((S k+1) % ((t k).length:Int))):=QT (by omega)
 have l1:dList (rl n (fun i=>D.int (S i)))=.ok (rl n (fun i=>D.int (S i))):=rfl
 have l2:dList (rl n (fun i=>D.int (K i)))=.ok (rl n (fun i=>D.int (K i))):=rfl
 have hrep:=QEP (x:=.int 0) (N:=nd) (by omega)
 have hlx:∀ j,j<m k->dIx (rl (m k) (fun j=>D.int (ld k j))) (.int (j:Int))=.ok (.int (ld k j)):=fun j hj=>ixR (f:=fun j=>D.int (ld k j)) hj
 have hwx:∀ j,j<m k->dIx (rl (m k) (fun j=>D.int (rw' (t k) (S k) j))) (.int (j:Int))=.ok (.int (rw' (t k) (S k) j)):=fun j hj=>ixR (f:=fun j=>D.int (rw' (t k) (S k) j)) hj
 have hldr:=fun j hj=>hs.ldr k j hk hj
 generalize rl n ‹"t"›=P at *
 generalize planD kd t m ld st nm k=Pk at *
 generalize tbD (t k)=Tk at *
 generalize rl (m k) (fun j=>D.int (ld k j))=Ls at *
 generalize rl (m k) (fun j=>D.int (rw' (t k) (S k) j))=Rs at *
 generalize hl:ld k=l at *
 generalize hw:rw' (t k) (S k)=w at *
 generalize dn1 K k=F at *
 obtain⟨ς',hL,a11,rfl⟩:=QdM (body:=fun x ς=>gN 11 x ς>>=fun ς'=>Qie ς') (n:=m k)
  (P:=fun j ς=>∃ a11,ς=[some (.k,P),some ‹"s"›,some (.k,rl n (fun i=>.int (S i))),some (.k,rl n (fun i=>.int (K i))),some ‹"p"›,some (.k,Tk),some (.k,Ls),some (.k,Rs),some (.o,rl n (fun i=>.int (up1 t S k i))),some (.o,rl n (fun i=>.int ‹"aT"›)),some (.o,rl nd (fun i=>.int (0+dkt j l w ‹"w"›))),a11])
  (by
   rintro j hj ς ⟨a11,rfl⟩
   obtain⟨q0,q1⟩:=hldr j hj
   have ex:=hlx j hj
   have ew:=hwx j hj
   generalize hSd:rl n (fun i=>D.int (S i))=Sd at *
   generalize hKd:rl n (fun i=>D.int (K i))=Kd at *
   generalize rl n (fun i=>D.int (up1 t S k i))=Ud at *
   refine⟨[some (.k,P),some ‹"s"›,some (.k,Sd),some (.k,Kd),some ‹"p"›,some (.k,Tk),some (.k,Ls),some (.k,Rs),some (.o,Ud),some (.o,rl n (fun i=>.int (F i+dkt (j+1) l w (i:Int)))),some (.o,rl nd (fun i=>.int (0+dkt (j+1) l w ‹"w"›))),some (.k,.int (j:Int))],?_,_,rfl⟩
   refine r_gN (by walk_at "s") ?_
   unfold Qie
   by_cases h:l j<0
   ·obtain⟨p,hp⟩:∃ p:Nat, -1 - l j=(p:Int):=⟨(-1 - l j).toNat,by omega⟩
    have hpn:p<nd:=by omega
    have hx:dIx (rl nd (fun i=>.int (0+dkt j l w ‹"w"›))) (.int (p:Int))=.ok (.int (0+dkt j l w (-1 - (p:Int)))):=ixR hpn
    have hn:=ixNR hpn (fun i=>D.int (0+dkt j l w ‹"w"›))
    have hset:((List.range nd).map fun i:Nat=>D.int (0+dkt j l w ‹"w"›)).set p (.int (0+dkt j l w (-1 - (p:Int))+w j))=(List.range nd).map fun i:Nat=>D.int (0+dkt (j+1) l w ‹"w"›):=by
     rw[QtS hpn (fun i=>0+dkt j l w ‹"w"›) (w j)]
     apply List.map_congr_left
     intro i _
     show D.int (0+dkt j l w ‹"w"›+(if (p:Int)=(i:Int) then w j else 0))=D.int (0+‹"as"›)
     by_cases e:p=i
     ·subst e
      rw[if_pos rfl,if_pos (by omega),Int.add_assoc]
     ·rw[if_neg (by omega),if_neg (by omega),Int.add_zero,Int.add_zero]
    have hF:rl n (fun i=>D.int (F i+dkt (j+1) l w (i:Int)))=rl n (fun i=>D.int ‹"aT"›):=Qa0 fun i _=>by
     show D.int ‹"aw"›=_
     rw[if_neg (by omega),Int.add_zero]
    rw[hF]
    refine r_ifT (Q9 (r_e2 (r_e2 (r_var rfl) (r_var rfl) ex) r_C (Qbc _ _))) (decide_eq_true h) ?_
    have hi:e2 dSub ‹"aD"› (e2 dIx (eVar 6) (eVar 11)) ‹"W"›=.ok (.int (p:Int)):=by
     rw[← hp]
     exact r_e2 (r_e1 r_C (Qel _)) (r_e2 (r_var rfl) (r_var rfl) ex) (Qc5 _ _)
    exact r_put (k:=(p:Int)) (j:=p) (r_e2 (r_e2 (Qck rfl) hi hx) (r_e2 (r_var rfl) (r_var rfl) ew) (Qad _ _)) rfl hi hn (by rw[hset];walk_at "s")
   ·obtain⟨p,hp⟩:∃ p:Nat,l j=(p:Int):=⟨(l j).toNat,by omega⟩
    have hpn:p<n:=by omega
    have hx:dIx (rl n (fun i=>.int ‹"aT"›)) (.int (p:Int))=.ok (.int (F p+dkt j l w (p:Int))):=ixR hpn
    have hn:=ixNR hpn (fun i=>D.int ‹"aT"›)
    have hset:((List.range n).map fun i:Nat=>D.int ‹"aT"›).set p (.int (F p+dkt j l w (p:Int)+w j))=(List.range n).map fun i:Nat=>D.int (F i+dkt (j+1) l w (i:Int)):=by
     rw[QtS hpn (fun i=>F i+dkt j l w (i:Int)) (w j)]
     apply List.map_congr_left
     intro i _
     show D.int (F i+dkt j l w (i:Int)+(if (p:Int)=(i:Int) then w j else 0))=D.int ‹"aw"›
     rw[hp,Int.add_assoc]
    have hG:rl nd (fun i=>D.int (0+dkt (j+1) l w ‹"w"›))=rl nd (fun i=>D.int (0+dkt j l w ‹"w"›)):=Qa0 fun i _=>by
     show D.int (0+‹"as"›)=_
     rw[if_neg (by omega),Int.add_zero]
    rw[hG]
    refine r_ifF (Q9 (r_e2 (r_e2 (r_var rfl) (r_var rfl) ex) r_C (Qbc _ _))) (decide_eq_false h) ?_
    have hi:e2 dIx (eVar 6) (eVar 11) ‹"W"›=.ok (.int (p:Int)):=by
     rw[← hp]
     exact r_e2 (r_var rfl) (r_var rfl) ex
    exact r_put (k:=(p:Int)) (j:=p) (r_e2 (r_e2 (Qck rfl) hi hx) (r_e2 (r_var rfl) (r_var rfl) ew) (Qad _ _)) rfl hi hn (by rw[hset];walk_at "s"))
  ‹"E"› ⟨none,by
   have h1:rl n (fun i=>D.int (F i))=rl n (fun i=>D.int (F i+dkt 0 l w (i:Int))):=Qa0 fun i _=>by show D.int (F i)=D.int (F i+0);rw[Int.add_zero]
   have h2:rl nd (fun _=>D.int 0)=rl nd (fun i=>D.int (0+dkt 0 l w ‹"w"›)):=Qa0 fun i _=>rfl
   rw[h1,h2]⟩
 have hR:itR1 (eA fLen (aCons (eVar 6) aNil)) ‹"E"›=.ok (Qcm 0 (m k)):=Qb7 (m k) (r_eA ‹"m"› hll) (by omega)
 have hfor:=QcP (g:=gN 11) (T:=Qie) hR hL
 rw[QJW]
 unfold QkR
 refine Qbh (fl:=.rt false (.tup [rl n (fun i=>.int (up1 t S k i)),rl n (fun i=>.int (F i+dkt (m k) l w (i:Int))),rl nd (fun i=>.int (0+dkt (m k) l w ‹"w"›))])) ?_ r_rt
 refine r_seq (r_set (r_e2 (r_e2 (r_var rfl) (r_var rfl) hP) r_C hP1) (by walk_at "s")) (Qk ?_)
 refine r_seq (r_set (r_e2 (r_e2 (r_var rfl) (r_var rfl) hP) r_C hP2) (by walk_at "s")) (Qk ?_)
 refine r_seq (r_set (r_e2 (r_var rfl) (r_e2 (r_var rfl) (r_var rfl) hx1) hrow) (by walk_at "s")) (Qk ?_)
 refine r_seq (Qdp (r_e1 (r_var rfl) l1) (by walk_at "s")) (Qk ?_)
 refine r_seq (r_put (k:=(k:Int)) (j:=k) (r_e2 (r_e2 (r_e2 (r_var rfl) (r_var rfl) hx1) r_C (Qad _ _)) (r_eA ‹"m"› htl) hmod) rfl (r_var rfl) hn1 (by rw[p1];walk_at "s")) (Qk ?_)
 refine r_seq (Qdp (r_e1 (r_var rfl) l2) (by walk_at "s")) (Qk ?_)
 refine r_seq (r_put (k:=(k:Int)) (j:=k) (r_e2 (r_e2 (Qck rfl) (r_var rfl) hx2) r_C (Qc5 _ _)) rfl (r_var rfl) hn2 (by rw[p2];walk_at "s")) (Qk ?_)
 refine r_seq (Qdp (r_e2 (r_lst (Qe r_C r_nil) (show 1<=1000 by decide)) (r_var rfl) hrep) (by walk_at "s")) (Qk ?_)
 refine r_seq hfor (Qk ?_)
 exact r_ret (ς:=[some (.k,P),some ‹"s"›,some (.k,rl n (fun i=>.int (S i))),some (.k,rl n (fun i=>.int (K i))),some ‹"p"›,some (.k,Tk),some (.k,Ls),some (.k,Rs),some (.k,rl n (fun i=>.int (up1 t S k i))),some (.k,rl n (fun i=>.int (F i+dkt (m k) l w (i:Int)))),some (.k,rl nd (fun i=>.int (0+dkt (m k) l w ‹"w"›))),a11]) (r_tup (Qe (r_var rfl) ‹"V"›) (show 3<=1000 by decide))
end
theorem Qll{c:SD->Out Bool}{b:SD->Out Fl}{ς:SD}(h:c ς=.ok false):QbE c b ς=.ok (.nx ς):=by
 rw[Qps,h];rfl
theorem wh_go{c:SD->Out Bool}{b:SD->Out Fl}{ς ς':SD}{r:Out Fl}(h:c ς=.ok true)(hb:b ς=.ok (.nx ς'))(k:QbE c b ς'=r):QbE c b ς=r:=by
 rw[Qps,h,Out.bind_ok,if_pos rfl,hb]
 exact k
theorem rw_bd{t:‹"aH"›}{m:Nat}(h:Tb t m)(s:Int)(j:Nat):0<=rw' t s j/\rw' t s j<=9:=by
 unfold rw'
 rw[List.getD_eq_getElem?_getD,List.getD_eq_getElem?_getD]
 cases hr:t[s.toNat]? with
 | none=>simp
 | some r=>
  show 0<=(r[j]?).getD 0/\(r[j]?).getD 0<=9
  cases hx:r[j]? with
  | none=>simp
  | some x=>exact h.ent r (List.mem_of_getElem? hr) x (List.mem_of_getElem? hx)
def wf(n:Nat)(t:Nat->List (List Int))(m:Nat->Nat)(ld:Nat->Nat->Int)(st:Nat->Int)(k c:Nat)(x:Int):Int:=if k<n then dkt (m k) (ld k) (rw' (t k) ((st k+(c:Int)) % ((t k).length:Int))) x else 0
def stc(t:Nat->List (List Int))(st:Nat->Int)(c:Nat->Nat)(k:Nat):Int:=(st k+(c k:Int)) % ((t k).length:Int)
def rdy(n:Nat)(K:Nat->Int)(w:Nat->Nat->Int->Int)(c:Nat->Nat):List Nat:=(List.range n).filter fun i=>decide (0<Abl.desk n K w c i)
theorem Qpn{n:Nat}{K:Nat->Int}{w:Nat->Nat->Int->Int}{c:Nat->Nat}{k:Nat}:k∈rdy n K w c↔k<n/\0<Abl.desk n K w c k:=by
 unfold rdy
 rw[List.mem_filter,List.mem_range,decide_eq_true_eq]
theorem QtK{n:Nat}{K:Nat->Int}{w:Nat->Nat->Int->Int}{c:Nat->Nat}:rdy n K w c=[]↔Abl.Rest n K w c:=by
 constructor
 ·intro h x hx
  by_cases e:0<Abl.desk n K w c x
  ·have:x∈rdy n K w c:=Qpn.mpr ⟨hx,e⟩
   rw[h]at this
   exact absurd this List.not_mem_nil
  ·omega
 ·intro h
  apply List.eq_nil_iff_forall_not_mem.mpr
  intro k hk
  obtain⟨h1,h2⟩:=Qpn.mp hk
  have:=h k h1
  omega
structure Run(n:Nat)(K:Nat->Int)(w:Nat->Nat->Int->Int)(c:Nat->Nat)(lg:List Nat):Prop where
 leg:Abl.Leg n K w c
 len:lg.length=Abl.tot n c
 cnt:∀ k:Nat,(lg.filter fun j:Nat=>decide ((j:Int)=(k:Int))).length=c k
theorem Run.step{n:Nat}{K:Nat->Int}{w:Nat->Nat->Int->Int}{c:Nat->Nat}{lg:List Nat}(h:Run n K w c lg){k:Nat}(hk:k∈rdy n K w c):Run n K w (Abl.inc c k) (lg++[k]):=by
 obtain⟨h1,h2⟩:=Qpn.mp hk
 refine⟨.step h.leg h1 h2,?_,fun j=>?_⟩
 ·rw[List.length_append,h.len,Abl.tot_inc h1];rfl
 ·rw[List.filter_append,List.length_append,h.cnt]
  unfold Abl.inc
  rw[List.filter_cons]
  by_cases e:j=k
  ·subst e
   rw[if_pos rfl,if_pos (decide_eq_true rfl)];rfl
  ·rw[if_neg e,if_neg (by rw[decide_eq_true_eq];omega)];rfl
def nz(l:List Nat):D:=.lst (l.map fun k:Nat=>D.int (k:Int))
theorem QfP(l:List Nat):fLen [nz l]=.ok (.int (l.length:Int)):=by simp[fLen,nz]
theorem nz_ix{l:List Nat}{i:Nat}(h:i<l.length):dIx (nz l) (.int (i:Int))=.ok (.int ((l[i]:Nat):Int)):=ixL i (by rw[List.getElem?_map,List.getElem?_eq_getElem h];rfl)
theorem QHS(l:List Nat):(l.map fun k:Nat=>D.int (k:Int)).all D.scal=true:=List.all_eq_true.mpr fun d hd=>by
 obtain⟨k,_,rfl⟩:=List.mem_map.mp hd;rfl
theorem QKS{rd:List Nat}(h:rd≠[])(pk:List Int)(z:Nat):∃ k,k∈rd/\Qhb [nz rd,.lst (pk.map .int),.int (z:Int)]=.ok (.int (k:Int)):=by
 have hl:0<rd.length:=List.length_pos_iff.mpr h
 have h1:=QfP rd
 have h2:fLen [.lst (pk.map D.int)]=.ok (.int (pk.length:Int)):=by simp[fLen]
 have his:dIs (.lst (pk.map D.int)) .non=.ok (.bl false):=rfl
 by_cases hp:pk.length=0
 ·have h0:=nz_ix hl
  refine⟨rd[0],List.getElem_mem hl,?_⟩
  have e:dEq (.int (pk.length:Int)) (.int 0)=.ok (.bl true):=by rw[Qam,decide_eq_true (by omega)]
  rw[QCT]
  unfold Ql5
  refine Qbh (fl:=.rt false (.int ((rd[0]:Nat):Int))) (r_seq (fl:=.rt false (.int ((rd[0]:Nat):Int))) ?_ Qo8) r_rt
  exact r_ifT (r_or' (Q9 (r_e2 (r_var rfl) r_C his)) (Qfx rfl (Q9 (r_e2 (r_eA ‹"m"› h2) r_C e)))) rfl (r_ret (r_e2 (r_var rfl) r_C h0))
 ·have e:dEq (.int (pk.length:Int)) (.int 0)=.ok (.bl false):=by rw[Qam,decide_eq_false (by omega)]
  obtain⟨i,hi,i1⟩:∃ i:Nat,(z:Int) % (pk.length:Int)=(i:Int)/\i<pk.length:=by
   have a:=Int.emod_nonneg (z:Int) (b:=(pk.length:Int)) (by omega)
   have b:=Int.emod_lt_of_pos (z:Int) (b:=(pk.length:Int)) (by omega)
   exact⟨((z:Int) % (pk.length:Int)).toNat,by omega,by omega⟩
  have m1:dMod (.int (z:Int)) (.int (pk.length:Int))=.ok (.int (i:Int)):=by rw[QT (by omega),hi]
  have x1:dIx (.lst (pk.map D.int)) (.int (i:Int))=.ok (.int pk[i]):=ixL i (by rw[List.getElem?_map,List.getElem?_eq_getElem i1];rfl)
  generalize pk[i]=v at *
  obtain⟨q,hq,q1⟩:∃ q:Nat,v % (rd.length:Int)=(q:Int)/\q<rd.length:=by
   have a:=Int.emod_nonneg v (b:=(rd.length:Int)) (by omega)
   have b:=Int.emod_lt_of_pos v (b:=(rd.length:Int)) (by omega)
   exact⟨(v % (rd.length:Int)).toNat,by omega,by omega⟩
  have m2:dMod (.int v) (.int (rd.length:Int))=.ok (.int (q:Int)):=by rw[QT (by omega),hq]
  have x2:=nz_ix q1
  refine⟨rd[q],List.getElem_mem q1,?_⟩
  rw[QCT]
  unfold Ql5
  refine Qbh (fl:=.rt false (.int ((rd[q]:Nat):Int))) (r_seq (fl:=.nx [some (.k,nz rd),some (.k,.lst (pk.map .int)),some (.k,.int (z:Int)),none]) ?_ (Qk ?_)) r_rt
  ·exact r_ifF (r_or' (Q9 (r_e2 (r_var rfl) r_C his)) (Qfx rfl (Q9 (r_e2 (r_eA ‹"m"› h2) r_C e)))) rfl Qdg
  ·refine r_seq (r_set (r_e2 (r_var rfl) (r_e2 (r_var rfl) (r_eA ‹"m"› h2) m1) x1) (by walk_at "s")) (Qk ?_)
   exact r_ret (r_e2 (r_var rfl) (r_e2 (r_var rfl) (r_eA ‹"m"› h1) m2) x2)
theorem frzs4{ς:SD}{r:Out Fl}{T:SD->Out Fl}{is:List Nat}{ς':SD}(h:frzs is ς=ς')(k:T ς'=r):(fun ς=>T (frzs is ς)) ς=r:=by
 show T (frzs is ς)=r
 rw[h];exact k
section
variable{n nd:Nat}{nm dn cl:Nat->Str}{t:Nat->List (List Int)}{m:Nat->Nat}{ld:Nat->Nat->Int}{st:Nat->Int}(hs:Seats n nd nm dn cl t m ld st){kd:Nat->Int}{K:Nat->Int}
include hs
theorem QPy:∀ k c x,0<=wf n t m ld st k c x:=fun k c x=>by
 unfold wf
 split
 ·rename_i hk
  exact(dk_bd (B:=9) (m k) fun j _=>rw_bd (hs.tb k hk) _ j).1
 ·exact Int.le_refl _
theorem QJ0{k:Nat}(hk:k<n)(c:Nat->Nat):0<=stc t st c k/\stc t st c k<((t k).length:Int):=by
 have:=(hs.tb k hk).n1
 exact⟨Int.emod_nonneg _ (by omega),Int.emod_lt_of_pos _ (by omega)⟩
theorem QKf{k:Nat}(hk:k<n)(c:Nat->Nat):rl n (fun i=>D.int (up1 t (stc t st c) k i))=rl n (fun i=>.int (stc t st (Abl.inc c k) i)):=Qa0 fun i _=>by
 refine congrArg D.int ?_
 unfold up1 stc Abl.inc
 by_cases e:i=k
 ·subst e
  rw[if_pos rfl,if_pos rfl,Int.emod_add_emod]
  congr 1
  omega
 ·rw[if_neg e,if_neg e]
theorem QHM{k:Nat}(hk:k<n)(c:Nat->Nat):rl n (fun i=>D.int (dn1 (Abl.desk n K ‹"v"› c) k i+dkt (m k) (ld k) (rw' (t k) (stc t st c k)) (i:Int)))=rl n ‹"ae"›:=Qa0 fun i _=>by
 refine congrArg D.int ?_
 rw[Abl.desk_inc hk]
 have e:wf n t m ld st k (c k) (i:Int)=dkt (m k) (ld k) (rw' (t k) (stc t st c k)) (i:Int):=if_pos hk
 rw[e]
 rfl
theorem QLt{k:Nat}(hk:k<n)(c:Nat->Nat):rl nd (fun i=>D.int (Abl.all n ‹"v"› c ‹"w"›+dkt (m k) (ld k) (rw' (t k) (stc t st c k)) ‹"w"›))=rl nd (fun i=>.int (Abl.all n ‹"v"› (Abl.inc c k) ‹"w"›)):=Qa0 fun i _=>by
 refine congrArg D.int ?_
 have e:wf n t m ld st k (c k) ‹"w"›=dkt (m k) (ld k) (rw' (t k) (stc t st c k)) ‹"w"›:=if_pos hk
 rw[Abl.all_inc hk,e]
theorem stc_0:rl n (fun i=>D.int (st i))=rl n (fun i=>.int (stc t st (fun _=>0) i)):=Qa0 fun i hi=>by
 obtain⟨a,b⟩:=hs.str i hi
 refine congrArg D.int ?_
 unfold stc
 rw[show st i+((0:Nat):Int)=st i by omega,Int.emod_eq_of_lt a b]
theorem QE9{O Sd Kd:D}(hO:O=offD n nd nm dn cl t m ld st)(pk:List Int){M:Nat}(hM:M<=500):∀(fuel:Nat)(c:Nat->Nat)(lg:List Nat)(a10:Option (SM×D)),Run n K ‹"v"› c lg->lg.length<=M->M - lg.length<=fuel->
 ∃(c':Nat->Nat)(lg':List Nat)(b10:Option (SM×D)),Run n K ‹"v"› c' lg'/\lg'.length<=M/\(Abl.Rest n K ‹"v"› c'∨lg'.length=M)/\
  QbE QhK Qp6 ‹"a"›=
   .ok (.nx [some (.k,O),some (.k,Sd),some (.k,Kd),some (.k,.lst (pk.map .int)),some (.k,.int (M:Int)),some (.o,rl n (fun i=>.int (stc t st c' i))),some (.o,rl n (fun i=>.int (Abl.desk n K ‹"v"› c' i))),some (.o,rl nd (fun i=>.int (Abl.all n ‹"v"› c' ‹"w"›))),some (.o,nz lg'),some (.k,nz (rdy n K ‹"v"› c')),b10]):=by
 intro fuel
 induction fuel with
 | zero=>
  intro c lg a10 hr hl hf
  refine⟨c,lg,a10,hr,hl,.inr (by omega),Qll ?_⟩
  have h1:=QfP ‹"aB"›
  have h2:=QfP lg
  have e2:tVal ‹"aP"› ‹"a"›=.ok false:=by
   rw[Q9 (r_e2 (r_eA (Qe (Qck rfl) r_nil) h2) (r_var rfl) (Qbc _ _)),decide_eq_false (by omega)]
  unfold QhK
  refine QeT (Q9 (r_e2 (r_eA ‹"m"› h1) r_C (Qe4 _ _))) ?_
  split
  ·exact e2
  ·rfl
 | succ fuel ih=>
  intro c lg a10 hr hl hf
  have n2:=hs.n2
  have h1:=QfP ‹"aB"›
  have h2:=QfP lg
  by_cases hd:rdy n K ‹"v"› c=[]
  ·refine⟨c,lg,a10,hr,hl,.inl (QtK.mp hd),Qll ?_⟩
   have e1':tVal (e2 dGt (eA fLen (aCons (eVar 9) aNil)) (eC (.int 0))) ‹"a"›=.ok false:=by
    rw[Q9 (r_e2 (r_eA ‹"m"› h1) r_C (Qe4 _ _)),decide_eq_false (by rw[hd];decide)]
   unfold QhK
   exact QeT e1' (Qfx rfl rfl)
  ·have hp:0<(rdy n K ‹"v"› c).length:=List.length_pos_iff.mpr hd
   have e1':tVal (e2 dGt (eA fLen (aCons (eVar 9) aNil)) (eC (.int 0))) ‹"a"›=.ok true:=by
    rw[Q9 (r_e2 (r_eA ‹"m"› h1) r_C (Qe4 _ _)),decide_eq_true (by omega)]
   by_cases hm:lg.length=M
   ·refine⟨c,lg,a10,hr,hl,.inr hm,Qll ?_⟩
    have e2:tVal ‹"aP"› ‹"a"›=.ok false:=by
     rw[Q9 (r_e2 (r_eA (Qe (Qck rfl) r_nil) h2) (r_var rfl) (Qbc _ _)),decide_eq_false (by omega)]
    unfold QhK
    exact QeT e1' (QgD rfl e2)
   ·have e2:tVal ‹"aP"› ‹"a"›=.ok true:=by
     rw[Q9 (r_e2 (r_eA (Qe (Qck rfl) r_nil) h2) (r_var rfl) (Qbc _ _)),decide_eq_true (by omega)]
    obtain⟨k,hk,hpk⟩:=QKS hd pk lg.length
    obtain⟨kn,kp⟩:=Qpn.mp hk
    obtain⟨c',lg',b10,r1,r2,r3,r4⟩:=ih (Abl.inc c k) (lg++[k]) (some ‹"p"›) (hr.step hk) (by rw[List.length_append];show lg.length+1<=M;omega) (by rw[List.length_append];show M - (lg.length+1)<=fuel;omega)
    refine⟨c',lg',b10,r1,r2,r3,wh_go (QeT e1' (QgD rfl e2)) ?_ r4⟩
    obtain⟨q0,q1⟩:=QJ0 hs kn c
    have hh:=QL4 hs (S:=stc t st c) (K:=Abl.desk n K ‹"v"› c) (G:=fun i=>Abl.all n ‹"v"› c ‹"w"›) kn q0 q1
    rw[QKf hs kn,QHM hs kn,QLt hs kn, ← hO]at hh
    have hab:=Qye (n:=n) (by omega) (Abl.desk n K ‹"v"› (Abl.inc c k))
    have hab:Qb6 [rl n ‹"ae"›]=.ok (nz (rdy n K ‹"v"› (Abl.inc c k))):=hab
    have hlg:(lg.map fun k:Nat=>D.int (k:Int))++[.int (k:Int)]=(lg++[k]).map fun k:Nat=>D.int (k:Int):=by simp
    have hle:(lg.map fun k:Nat=>D.int (k:Int)).length<=1000:=by rw[List.length_map];omega
    unfold Qp6
    refine r_seq (r_set (Q7 (xs:=[nz ‹"aB"›,.lst (pk.map .int),.int (lg.length:Int)]) (Qe (r_var rfl) (Qe (r_var rfl) (Qe (r_eA (Qe (Qck rfl) r_nil) h2) r_nil))) rfl hpk) (by walk_at "s")) (Qk ?_)
    generalize rl n (fun i=>D.int (stc t st c i))=A1 at *
    generalize rl n (fun i=>D.int (Abl.desk n K ‹"v"› c i))=A2 at *
    generalize rl nd (fun i=>D.int ‹"aU"›)=A3 at *
    generalize rl n (fun i=>D.int (stc t st (Abl.inc c k) i))=B1 at *
    generalize hB2:rl n (fun i=>D.int (Abl.desk n K ‹"v"› (Abl.inc c k) i))=B2 at *
    generalize rl nd (fun i=>D.int (Abl.all n ‹"v"› (Abl.inc c k) ‹"w"›))=B3 at *
    refine r_seq (fl:=.nx [some (.k,O),some (.k,Sd),some (.k,Kd),some (.k,.lst (pk.map .int)),some (.k,.int (M:Int)),some (.o,B1),some (.o,B2),some (.o,B3),some (.o,nz lg),some (.k,nz ‹"aB"›),some ‹"p"›]) (QHW (Qe (r_var rfl) (Qe (Qsr (s:=.o) rfl rfl) (Qe (Qsr (s:=.o) rfl rfl) (Qe (Qsr (s:=.o) rfl rfl) ‹"m"›)))) hh rfl) (Qk ?_)
    refine r_seq (r_app (xs:=lg.map fun k:Nat=>D.int (k:Int)) rfl (r_var rfl) hle (by rw[hlg];walk_at "s")) (Qk ?_)
    exact r_set (QLO (Q7 (xs:=[B2]) (Qe (Qck rfl) r_nil) rfl hab) (QHS _)) (by walk_at "s")
theorem Qz3(pk:List Int){M:Nat}(hM:M<=500):∃(c:Nat->Nat)(lg:List Nat),Run n K ‹"v"› c lg/\lg.length<=M/\(Abl.Rest n K ‹"v"› c∨lg.length=M)/\
 QdD [offD n nd nm dn cl t m ld st,rl n (fun i=>.int (st i)),rl n (fun i=>.int (K i)),.lst (pk.map .int),.int (M:Int)]=.ok ‹"h"›:=by
 have n2:=hs.n2
 have hno:=QLf hs
 have hab:=Qye (n:=n) (by omega) K
 have s0:=stc_0 hs
 have k0:rl n (fun i=>D.int (K i))=rl n (fun i=>.int (Abl.desk n K ‹"v"› (fun _=>0) i)):=Qa0 fun i _=>by
  refine congrArg D.int ?_
  unfold Abl.desk
  rw[Abl.all_zero]
  show K i=K i+0 - ((0:Nat):Int)
  omega
 have o0:rl nd (fun _=>D.int 0)=rl nd (fun i=>.int (Abl.all n ‹"v"› (fun _=>0) ‹"w"›)):=Qa0 fun i _=>by rw[Abl.all_zero]
 have r0:nz ((List.range n).filter fun i=>decide (0<K i))=nz (rdy n K ‹"v"› (fun _=>0)):=by
  refine congrArg nz ?_
  unfold rdy
  refine congrArg (fun p=>List.filter p (List.range n)) ?_
  funext i
  unfold Abl.desk
  rw[Abl.all_zero,show K i+0 - ((0:Nat):Int)=K i by omega]
 obtain⟨c,lg,b10,r1,r2,r3,r4⟩:=QE9 hs (K:=K) (Sd:=rl n (fun i=>.int (st i))) (Kd:=rl n (fun i=>.int (K i))) rfl pk hM M (fun _=>0) [] none ⟨.zero,(by
  have:∀ n,Abl.tot n (fun _=>0)=0:=fun n=>by
   induction n with
   | zero=>rfl
   | succ n ih=>show Abl.tot n (fun _=>0)+0=0;rw[ih]
  exact(this n).symm),fun _=>rfl⟩ (Nat.zero_le _) (by show M - 0<=M;omega)
 refine⟨c,lg,r1,r2,r3,?_⟩
 have hab:Qb6 [rl n (fun i=>.int (K i))]=.ok (nz (rdy n K ‹"v"› (fun _=>0))):=by rw[← r0];exact hab
 have l1:dList (rl n (fun i=>D.int (st i)))=.ok (rl n (fun i=>.int (stc t st (fun _=>0) i))):=by rw[← s0];rfl
 have l2:dList (rl n (fun i=>D.int (K i)))=.ok (rl n (fun i=>.int (Abl.desk n K ‹"v"› (fun _=>0) i))):=by rw[← k0];rfl
 rw[k0]at hab
 rw[o0]at hno
 have hsc:(rl nd (fun i=>D.int (Abl.all n ‹"v"› (fun _=>0) ‹"w"›))).scal=false:=rfl
 generalize offD n nd nm dn cl t m ld st=O at *
 generalize hSd:rl n (fun i=>D.int (st i))=Sd at *
 generalize hKd:rl n (fun i=>D.int (K i))=Kd at *
 generalize rl n (fun i=>D.int (stc t st (fun _=>0) i))=A1 at *
 generalize rl n (fun i=>D.int (Abl.desk n K ‹"v"› (fun _=>0) i))=A2 at *
 generalize rl nd (fun i=>D.int (Abl.all n ‹"v"› (fun _=>0) ‹"w"›))=A3 at *
 rw[QNn]
 unfold Qqb
 refine Qbh (fl:=.rt false ‹"h"›) ?_ r_rt
 refine r_seq (Qdp (r_e1 (r_var rfl) l1) (by walk_at "s")) (Qk ?_)
 refine r_seq (Qdp (r_e1 (r_var rfl) l2) (by walk_at "s")) (Qk ?_)
 refine r_seq (Qdp (QzQ (Q7 (xs:=[O]) ‹"m"› rfl hno) hsc) (by walk_at "s")) (Qk ?_)
 refine r_seq (Qdp (d:=nz []) (by show eLst aNil _=Out.ok (D.lst []);(repeat walk_at "e")) (by walk_at "s")) (Qk ?_)
 refine r_seq (r_set (QLO (Q7 (xs:=[A2]) (Qe (Qck rfl) r_nil) rfl hab) (QHS _)) (by walk_at "s")) (Qk ?_)
 refine r_seq r4 (Qk ?_)
 exact frzs4 (T:=sRet (eTup (aCons (eVar 5) (aCons (eVar 6) (aCons (eVar 7) (aCons (eVar 8) aNil)))))) rfl (r_ret (r_tup (Qe (r_var rfl) (Qe (r_var rfl) ‹"V"›)) (show 4<=1000 by decide)))
end
theorem QLm:∀ l:List Int,layDs (l.map D.int)=true
 | []=>rfl
 | x::l=>by show(layD (D.int x)&&layDs (l.map D.int))=true;rw[QLm l];rfl
theorem QKL:∀ l:List Int,deps (l.map D.int)<=1
 | []=>Nat.zero_le _
 | x::l=>by
  have:=QKL l
  show max (dep (D.int x)) (deps (l.map D.int))<=1
  have h:dep (D.int x)=0:=rfl
  omega
theorem QL1:∀ l:List Int,PyData.eqvAll (D.pys (l.map D.int)) (D.pys (l.map D.int))=true
 | []=>rfl
 | x::l=>by
  show(PyData.eqv (D.int x).py (D.int x).py&&PyData.eqvAll (D.pys (l.map D.int)) (D.pys (l.map D.int)))=true
  rw[QL1 l,Bool.and_true]
  simp[D.py,PyData.eqv]
theorem QoO(l:List Int):shp (.lst (l.map D.int))=true:=QEF (d:=.lst (l.map D.int)) (QLm l) (by show deps (l.map D.int)+1<=64;have:=QKL l;omega)
theorem QJ2(l:List Nat):nz l=.lst ((l.map fun k:Nat=>(k:Int)).map D.int):=by unfold nz;rw[List.map_map];rfl
theorem QDg(l:List Nat):dEq (nz l) (.lst [])=.ok (.bl l.isEmpty):=by
 rw[QJ2,QLr (QoO _) (show shp (.lst [])=true from QoO [])]
 cases l<;>rfl
theorem QL5(l:List Nat):dNe (nz l) (.lst [])=.ok (.bl (!l.isEmpty)):=by
 rw[QJ2,Qw7 (QoO _) (show shp (.lst [])=true from QoO [])]
 cases l<;>rfl
theorem QtJ(n:Nat)(f g:Nat->Int)(h:∀ i,i<n->f i=g i):dNe (rl n (fun i=>.int (f i))) (rl n ‹"O"›)=.ok (.bl false):=by
 have e0:rl n (fun i=>D.int (f i))=rl n (fun i=>D.int (g i)):=Qa0 fun i hi=>by rw[h i hi]
 have e:rl n (fun i=>D.int (g i))=.lst (((List.range n).map g).map D.int):=by show D.lst _=_;rw[List.map_map];rfl
 rw[e0,e,Qw7 (QoO _) (QoO _)]
 show Out.ok (D.bl (!PyData.eqvAll (D.pys (((List.range n).map g).map D.int)) (D.pys (((List.range n).map g).map D.int))))=_
 rw[QL1];rfl
theorem Qqf{n:Nat}(hn:n<=100){A B C:D}{lg:List Nat}{c:Nat->Nat}(hl:lg.length<=500)(h:∀ k:Nat,(lg.filter fun j:Nat=>decide ((j:Int)=(k:Int))).length=c k):Qbp [.tup [A,B,C,nz lg],.int (n:Int)]=.ok (rl n (fun k=>.int (c k:Int))):=by
 have x3:dIx (.tup [A,B,C,nz lg]) (.int 3)=.ok (nz lg):=ixT 3 rfl
 generalize D.tup [A,B,C,nz lg]=Tu at *
 have hc:eComp [none,some 0] (itR1 (eVar 1)) (gN 0) cTrue Qh5 [some (.k,Tu),some ‹"al"›]=.ok (rl n (fun k=>.int (c k:Int))):=by
  refine Qg8 (fun k=>D.int (c k:Int)) (Qb7 n (r_var rfl) (by omega)) (fun k hk=>?_) (by omega)
  refine Qaj (by walk_at "cap") (by walk_at "s") ?_
  unfold Qh5
  have hin:eComp [none,some 0] (itL (e2 dIx (eVar 1) (eC (.int 3)))) (gN 0) Qdm Qdf [some ‹"p"›,some (.k,Tu)]=.ok (nz (lg.filter fun j:Nat=>decide ((j:Int)=(k:Int)))):=by
   have go:∀ l:List Nat,compM (turnC [none,some 0] (gN 0) Qdm Qdf [some ‹"p"›,some (.k,Tu)]) (l.map fun k:Nat=>D.int (k:Int))=.ok ((l.filter fun j:Nat=>decide ((j:Int)=(k:Int))).map fun k:Nat=>D.int (k:Int)):=by
    intro l
    induction l with
    | nil=>rfl
    | cons x xs ih=>
     have h1:turnC [none,some 0] (gN 0) Qdm Qdf [some ‹"p"›,some (.k,Tu)] (D.int (x:Int))=.ok (if decide ((x:Int)=(k:Int))=true then some (D.int (x:Int)) else none):=by
      refine QH0 (by walk_at "cap") (by walk_at "s") ?_ ?_
      ·unfold Qdm
       exact Q9 (r_e2 (r_var rfl) (r_var rfl) (Qam _ _))
      ·unfold Qdf
       exact r_var rfl
     show compM _ (D.int (x:Int)::xs.map _)=_
     unfold compM
     rw[h1,Out.bind_ok,ih,List.filter_cons]
     cases decide ((x:Int)=(k:Int))<;>rfl
   unfold eComp
   rw[r_itL (xs:=lg.map fun k:Nat=>D.int (k:Int)) (r_e2 (r_var rfl) r_C x3),Out.bind_ok,go,Out.bind_ok,if_pos (QfX (by
    rw[List.length_map]
    exact Nat.le_trans (List.length_filter_le ..) (by omega)))]
   rfl
  have hl:=QfP (lg.filter fun j:Nat=>decide ((j:Int)=(k:Int)))
  rw[h k]at hl
  exact r_eA (Qe hin r_nil) hl
 rw[QBm]
 unfold QgZ
 exact Qbh (Qpm hc) r_rtT
section
variable{n nd:Nat}{nm dn cl:Nat->Str}{t:Nat->List (List Int)}{m:Nat->Nat}{ld:Nat->Nat->Int}{st:Nat->Int}(hs:Seats n nd nm dn cl t m ld st){kd:Nat->Int}{K:Nat->Int}
include hs
theorem QzC{X:SD->Out D}{Q:SD->Out Bool}(hX:X=eVar 0)(hQ:Q=tVal (e2 dGt (e2 dIx (eVar 1) (eVar 0)) (eC (.int 0))))(f:Nat->Int){ς:SD}(h:ς[3]?=some (some (.k,rl n (fun i=>.int (f i))))):eComp [none,some 3] (itR1 (eA fLen (aCons (eVar 3) aNil))) (gN 0) Q X ς=.ok (nz ((List.range n).filter fun i=>decide (0<f i))):=by
 have n2:=hs.n2
 have hl:=lenR n (fun i=>D.int (f i))
 refine QHx (fun i:Nat=>D.int ((0:Int)+i)) (fun i=>decide (0<f i)) (fun i:Nat=>D.int (i:Int)) (Qb7 n (r_eA (Qe (r_var h) r_nil) hl) (by omega)) (fun i hi=>?_) (by omega)
 have hx:dIx (rl n (fun i=>D.int (f i))) (.int (i:Int))=.ok (.int (f i)):=ixR (f:=fun i=>D.int (f i)) hi
 rw[Int.zero_add]
 refine QH0 (τ0:=[none,some (.k,rl n (fun i=>.int (f i)))]) (Qfy (c_k h c_nil)) (by walk_at "s") ?_ ?_
 ·rw[hQ]
  exact Q9 (r_e2 (r_e2 (r_var rfl) (r_var rfl) hx) r_C (Qe4 _ _))
 ·rw[hX]
  exact r_var rfl
theorem QLT{P:D}(hP:P=rl n ‹"t"›){M:Nat}(hM:M<=500):∀(fuel:Nat)(c:Nat->Nat)(lg:List Nat)(a8 a9:Option (SM×D)),Run n K ‹"v"› c lg->lg.length<=M->M - lg.length<=fuel->
 ∃(c':Nat->Nat)(lg':List Nat)(b8 b9:Option (SM×D)),Run n K ‹"v"› c' lg'/\lg'.length<=M/\(Abl.Rest n K ‹"v"› c'∨lg'.length=M)/\
  QbE Qci Qfu [some (.k,P),some ‹"s"›,some (.k,rl n (fun i=>.int (stc t st c i))),some (.k,rl n (fun i=>.int (Abl.desk n K ‹"v"› c i))),some (.k,.int (M:Int)),some (.k,rl nd (fun i=>.int ‹"aU"›)),some (.o,nz lg),some (.k,nz ‹"aB"›),a8,a9]=
   .ok (.nx [some (.k,P),some ‹"s"›,some (.k,rl n (fun i=>.int (stc t st c' i))),some (.k,rl n (fun i=>.int (Abl.desk n K ‹"v"› c' i))),some (.k,.int (M:Int)),some (.k,rl nd (fun i=>.int (Abl.all n ‹"v"› c' ‹"w"›))),some (.o,nz lg'),some (.k,nz (rdy n K ‹"v"› c')),b8,b9]):=by
 intro fuel
 induction fuel with
 | zero=>
  intro c lg a8 a9 hr hl hf
  refine⟨c,lg,a8,a9,hr,hl,.inr (by omega),Qll ?_⟩
  have h1:=QL5 ‹"aB"›
  have h2:=QfP lg
  have e2:∀ ς:SD,ς[6]?=some (some (.o,nz lg))->ς[4]?=some (some (.k,.int (M:Int)))->tVal (e2 dLt (eA fLen (aCons (eVarB 6) aNil)) (eVar 4)) ς=.ok false:=fun ς y z=>by
   rw[Q9 (r_e2 (r_eA (Qe (Qck y) r_nil) h2) (r_var z) (Qbc _ _)),decide_eq_false (by omega)]
  unfold Qci
  refine QeT (Q9 (r_e2 (r_var rfl) (by (repeat walk_at "e")) h1)) ?_
  split
  ·exact e2 _ rfl rfl
  ·rfl
 | succ fuel ih=>
  intro c lg a8 a9 hr hl hf
  have n2:=hs.n2
  have d2:=hs.d2
  have h1:=QL5 ‹"aB"›
  have h2:=QfP lg
  have e2:∀ ς:SD,ς[6]?=some (some (.o,nz lg))->ς[4]?=some (some (.k,.int (M:Int)))->tVal (e2 dLt (eA fLen (aCons (eVarB 6) aNil)) (eVar 4)) ς=.ok (decide ((lg.length:Int)<(M:Int))):=fun ς y z=>Q9 (r_e2 (r_eA (Qe (Qck y) r_nil) h2) (r_var z) (Qbc _ _))
  by_cases hd:rdy n K ‹"v"› c=[]
  ·refine⟨c,lg,a8,a9,hr,hl,.inl (QtK.mp hd),Qll ?_⟩
   have h1':(!(rdy n K ‹"v"› c).isEmpty)=false:=by rw[hd];rfl
   rw[h1']at h1
   unfold Qci
   exact QeT (Q9 (r_e2 (r_var rfl) (by (repeat walk_at "e")) h1)) (Qfx rfl rfl)
  ·have h1':(!(rdy n K ‹"v"› c).isEmpty)=true:=by
    cases hq:rdy n K ‹"v"› c with
    | nil=>exact absurd hq hd
    | cons _ _=>rfl
   rw[h1']at h1
   by_cases hm:lg.length=M
   ·refine⟨c,lg,a8,a9,hr,hl,.inr hm,Qll ?_⟩
    unfold Qci
    refine QeT (Q9 (r_e2 (r_var rfl) (by (repeat walk_at "e")) h1)) (QgD rfl ?_)
    rw[e2 _ rfl rfl,decide_eq_false (by omega)]
   ·have hp:0<(rdy n K ‹"v"› c).length:=List.length_pos_iff.mpr hd
    have hx:=nz_ix (l:=rdy n K ‹"v"› c) (i:=(rdy n K ‹"v"› c).length - 1) (by omega)
    have hk:‹"aB"›[(rdy n K ‹"v"› c).length - 1]∈rdy n K ‹"v"› c:=List.getElem_mem _
    have hrl:=QfP ‹"aB"›
    have hci:(((rdy n K ‹"v"› c).length - 1:Nat):Int)=((rdy n K ‹"v"› c).length:Int) - 1:=by omega
    rw[hci]at hx
    generalize ‹"aB"›[(rdy n K ‹"v"› c).length - 1]=k at *
    obtain⟨kn,kp⟩:=Qpn.mp hk
    obtain⟨c',lg',b8,b9,r1,r2,r3,r4⟩:=ih (Abl.inc c k) (lg++[k]) (some ‹"p"›) (some (.k,rl nd (fun i=>.int ‹"X"›))) (hr.step hk) (by rw[List.length_append];show lg.length+1<=M;omega) (by rw[List.length_append];show M - (lg.length+1)<=fuel;omega)
    refine⟨c',lg',b8,b9,r1,r2,r3,wh_go (QeT (Q9 (r_e2 (r_var rfl) (by (repeat walk_at "e")) h1)) (QgD rfl ?_)) ?_ r4⟩
    ·rw[e2 _ rfl rfl,decide_eq_true (by omega)]
    obtain⟨q0,q1⟩:=QJ0 hs kn c
    have hh:=QOG hs (kd:=kd) (S:=stc t st c) (K:=Abl.desk n K ‹"v"› c) kn q0 q1
    rw[QKf hs kn,QHM hs kn, ← hP]at hh
    have hlg:(lg.map fun k:Nat=>D.int (k:Int))++[.int (k:Int)]=(lg++[k]).map fun k:Nat=>D.int (k:Int):=by simp
    have hle:(lg.map fun k:Nat=>D.int (k:Int)).length<=1000:=by rw[List.length_map];omega
    have hout:eComp [none,none] (itZ (eVar 5) (eVar 9)) (gT [0,1]) cTrue QfG [some (.k,P),some ‹"s"›,some (.k,rl n (fun i=>.int (stc t st (Abl.inc c k) i))),some (.k,rl n ‹"ae"›),some (.k,.int (M:Int)),some (.k,rl nd (fun i=>.int ‹"aU"›)),some (.o,nz lg),some (.k,nz ‹"aB"›),some ‹"p"›,some (.k,rl nd (fun i=>.int ‹"X"›))]=.ok (rl nd (fun i=>.int (Abl.all n ‹"v"› (Abl.inc c k) ‹"w"›))):=by
     rw[← QLt hs kn]
     refine Qat (fun i:Nat=>D.tup [.int ‹"aU"›,.int ‹"X"›]) (fun i:Nat=>D.int (Abl.all n ‹"v"› c ‹"w"›+dkt (m k) (ld k) (rw' (t k) (stc t st c k)) ‹"w"›)) ?_ (fun i hi=>?_) (by rw[List.length_range];omega)
     ·rw[r_itZ (xs:=(List.range nd).map fun i:Nat=>D.int ‹"aU"›) (ys:=(List.range nd).map fun i:Nat=>D.int ‹"X"›) (r_var rfl) (r_var rfl),List.zipWith_map,List.zipWith_self]
     ·refine QHA (by walk_at "cap") (by walk_at "all") ?_
      unfold QfG
      rw[r_e2 (r_var rfl) (r_var rfl) (Qad _ _),Int.zero_add]
    have hsc:=QzC hs (X:=Qjm) (Q:=Qjo) rfl rfl (Abl.desk n K ‹"v"› (Abl.inc c k)) (ς:=[some (.k,P),some ‹"s"›,some (.k,rl n (fun i=>.int (stc t st (Abl.inc c k) i))),some (.k,rl n ‹"ae"›),some (.k,.int (M:Int)),some (.k,rl nd (fun i=>.int (Abl.all n ‹"v"› (Abl.inc c k) ‹"w"›))),some (.o,nz (lg++[k])),some (.k,nz ‹"aB"›),some ‹"p"›,some (.k,rl nd (fun i=>.int ‹"X"›))]) rfl
    unfold Qfu
    refine r_seq (r_set (r_e2 (r_var rfl) (r_e2 (r_eA ‹"m"› hrl) r_C (Qc5 _ _)) hx) (by walk_at "s")) (Qk ?_)
    refine r_seq (r_unp (ys:=[rl n (fun i=>.int (stc t st (Abl.inc c k) i)),rl n ‹"ae"›,rl nd (fun i=>.int ‹"X"›)]) (Q7 (xs:=[P,.int (nd:Int),rl n (fun i=>.int (stc t st c i)),rl n (fun i=>.int (Abl.desk n K ‹"v"› c i)),.int (k:Int)]) (Qe (r_var rfl) (Qe (r_var rfl) (Qe (r_var rfl) ‹"V"›))) rfl hh) (by walk_at "all")) (Qk ?_)
    refine r_seq (r_set hout (by walk_at "s")) (Qk ?_)
    refine r_seq (r_app (xs:=lg.map fun k:Nat=>D.int (k:Int)) rfl (r_var rfl) hle (by rw[hlg];walk_at "s")) (Qk ?_)
    exact r_set hsc (by walk_at "s")
theorem QOF{M:Nat}(hM:M<=500):∃(c:Nat->Nat)(lg:List Nat),Run n K ‹"v"› c lg/\lg.length<=M/\(Abl.Rest n K ‹"v"› c∨lg.length=M)/\
 QaZ [rl n ‹"t"›,.int (nd:Int),rl n (fun i=>.int (st i)),rl n (fun i=>.int (K i)),.int (M:Int)]=.ok ‹"h"›:=by
 have n2:=hs.n2
 have d2:=hs.d2
 have s0:=stc_0 hs
 have k0:rl n (fun i=>D.int (K i))=rl n (fun i=>.int (Abl.desk n K ‹"v"› (fun _=>0) i)):=Qa0 fun i _=>by
  refine congrArg D.int ?_
  unfold Abl.desk
  rw[Abl.all_zero]
  show K i=K i+0 - ((0:Nat):Int)
  omega
 have o0:rl nd (fun _=>D.int 0)=rl nd (fun i=>.int (Abl.all n ‹"v"› (fun _=>0) ‹"w"›)):=Qa0 fun i _=>by rw[Abl.all_zero]
 have hrep:=QEP (x:=.int 0) (N:=nd) (by omega)
 rw[o0]at hrep
 have hsc:=fun ς h=>QzC hs (X:=QjJ) (Q:=QjI) rfl rfl (Abl.desk n K ‹"v"› (fun _=>0)) (ς:=ς) h
 obtain⟨c,lg,b8,b9,r1,r2,r3,r4⟩:=QLT hs (kd:=kd) (K:=K) rfl hM M (fun _=>0) [] none none ⟨.zero,(by
  have:∀ n,Abl.tot n (fun _=>0)=0:=fun n=>by
   induction n with
   | zero=>rfl
   | succ n ih=>show Abl.tot n (fun _=>0)+0=0;rw[ih]
  exact(this n).symm),fun _=>rfl⟩ (Nat.zero_le _) (by show M - 0<=M;omega)
 refine⟨c,lg,r1,r2,r3,?_⟩
 rw[s0,k0]
 generalize rl n ‹"t"›=P at *
 rw[Qu4]
 unfold QeI
 refine Qbh (fl:=.rt false ‹"h"›) ?_ r_rt
 refine r_seq (r_set (r_e2 (r_lst (Qe r_C r_nil) (show 1<=1000 by decide)) (r_var rfl) hrep) (by walk_at "s")) (Qk ?_)
 refine r_seq (Qdp (d:=nz []) (by show eLst aNil _=Out.ok (D.lst []);(repeat walk_at "e")) (by walk_at "s")) (Qk ?_)
 refine r_seq (r_set (hsc _ rfl) (by walk_at "s")) (Qk ?_)
 refine r_seq r4 (Qk ?_)
 exact Qxg (T:=sRet (eTup (aCons (eVar 2) (aCons (eVar 3) (aCons (eVar 5) (aCons (eVar 6) aNil)))))) (Qxy (i:=6) rfl rfl) (r_ret (r_tup (Qe (r_var rfl) (Qe (r_var rfl) ‹"V"›)) (show 4<=1000 by decide)))
end
theorem isE{n:Nat}{K:Nat->Int}{w:Nat->Nat->Int->Int}{c:Nat->Nat}{b:Bool}(h:Abl.Rest n K w c↔b=true):(rdy n K w c).isEmpty=b:=by
 cases hq:rdy n K w c with
 | nil=>rw[h.mp (QtK.mp hq)];rfl
 | cons x xs=>
  cases b with
  | false=>rfl
  | true=>rw[QtK.mpr (h.mpr rfl)]at hq;cases hq
theorem QAb{n:Nat}{K:Nat->Int}{w:Nat->Nat->Int->Int}{c R:Nat->Nat}{l l':List Nat}{M:Nat}(hw:∀ k c x,0<=w k c x)(h:Run n K w c l)(h':Run n K w R l')(hl:l.length<=M)(hl':l'.length<=M)(e:Abl.Rest n K w c∨l.length=M)(e':Abl.Rest n K w R∨l'.length=M):
 (Abl.Rest n K w c/\Abl.Rest n K w R/\∀ k,k<n->c k=R k)∨(¬ Abl.Rest n K w c/\¬ Abl.Rest n K w R/\l.length=M/\l'.length=M):=by
 have e1':Abl.Rest n K w c∨Abl.tot n c=M:=e.imp id fun z=>by rw[← h.len];exact z
 have e2':Abl.Rest n K w R∨Abl.tot n R=M:=e'.imp id fun z=>by rw[← h'.len];exact z
 by_cases q:Abl.Rest n K w R
 ·obtain⟨a,b⟩:=Abl.same_end hw h.leg h'.leg q (by rw[← h'.len];exact hl') e1'
  exact .inl ⟨a,q,b⟩
 ·have q':¬ Abl.Rest n K w c:=fun z=>q (Abl.same_end hw h'.leg h.leg z (by rw[← h.len];exact hl) e2').1
  exact .inr ⟨q',q,e.resolve_left q',e'.resolve_left q⟩
theorem the_law(ns:List Int)(hl:ns.length<=63)(hb:∀ z∈ns,bitsI z<=1048576):Qm7 [.lst (ns.map .int)]=.ok (.bl true):=by
 obtain⟨n,nd,kd,t,m,ld,st,nm,n1,n12,d1,d6,pl,hpl⟩:=QNS ns
 obtain⟨cl,dn,hs,hof⟩:=QLo ns n1 n12 d1 d6 pl
 obtain⟨K,hK,hdk⟩:=QMz ns n12
 obtain⟨v,hv⟩:=QoR ns 0
 have hv:QZ [.lst (ns.map .int),.int 0]=.ok (.int v):=hv
 obtain⟨x,x0,x1,hx⟩:=Qvm v (k:=80) (QKM rfl)
 have h18:dPow (.int 10) (.int 18)=.ok (.int 1000000000000000000):=by rw[QHP (by decide)];rfl
 have hlp:=lenR n ‹"t"›
 have hst:∀ ς:SD,ς[1]?=some (some (.k,rl n ‹"t"›))->eComp [none] (itL (eVar 1)) (gN 0) cTrue QtD ς=.ok (rl n (fun i=>.int (st i))):=fun ς h=>by
  refine Qat ‹"t"› (fun i=>D.int (st i)) (r_itL (r_var h)) (fun i hi=>?_) (by rw[List.length_range];omega)
  refine Qaj (by walk_at "cap") (by walk_at "s") ?_
  unfold QtD
  exact r_e2 (r_var rfl) r_C (ixT 3 rfl)
 obtain⟨q,hq,q6⟩:∃ q:Nat,1+x % 6=(q:Int)/\q<=6:=⟨(1+x % 6).toNat,by omega,by omega⟩
 have m6:dMod (.int x) (.int 6)=.ok (.int (x % 6)):=QT (by decide)
 have H:∀ k:Nat,∃ u:Int,k<q->Qa2 [.int x,.int (k:Int)]=.ok (.int u):=fun k=>by
  by_cases hk:k<q
  ·obtain⟨u,_,_,hu⟩:=Qvm x (k:=(k:Int)) (QLw (Nat.lt_of_lt_of_le hk (Nat.le_trans q6 (by decide))))
   exact⟨u,fun _=>hu⟩
  ·exact⟨0,fun z=>absurd z hk⟩
 obtain⟨U,hU⟩:=Classical.axiomOfChoice H
 have hdr:∀ ς:SD,ς[6]?=some (some (.k,.int x))->eComp [none,some 6] (itR1 (e2 dAdd (eC (.int 1)) (e2 dMod (eVar 6) (eC (.int 6))))) (gN 0) cTrue QtB ς=.ok (.lst (((List.range q).map fun k=>U k % 1000000000000000000).map .int)):=fun ς h=>by
  rw[List.map_map]
  have hr:e2 dAdd (eC (.int 1)) (e2 dMod (eVar 6) (eC (.int 6))) ς=.ok (.int (q:Int)):=by
   rw[← hq];exact r_e2 r_C (r_e2 (r_var h) r_C m6) (Qad _ _)
  refine Qg8 (fun k=>D.int (U k % 1000000000000000000)) (Qb7 q hr (by omega)) (fun k hk=>?_) (by omega)
  refine Qaj (τ0:=[none,some (.k,.int x)]) (Qfy (c_k h c_nil)) (by walk_at "s") ?_
  unfold QtB
  exact r_e2 (Q7 (xs:=[.int x,.int (k:Int)]) ‹"V"› rfl (hU k hk)) (r_e2 r_C r_C h18) (QT (by decide))
 have hpk:∀ ς:SD,ς[0]?=some (some (.k,.lst (ns.map .int)))->eComp [none] (itL (eSl (eVar 0) (oSome (eC (.int 13))) (oSome (eC (.int 53))))) (gN 0) cTrue Qtz ς=.ok (.lst ((((ns.drop 13).take 40).map fun z=>z % (1000000000000000000+1)).map .int)):=fun ς h=>by
  have hcut:cutD (ns.map D.int) (some 13) (some 53)=((ns.drop 13).take 40).map D.int:=by
   have:=QPc (ns.map D.int) 13 53
   rw[← List.map_drop, ← List.map_take]at this
   exact this
  rw[List.map_map]
  refine Qat D.int (fun z=>D.int (z % (1000000000000000000+1))) (r_itL (r_sl (p:=some 13) (q:=some 53) (r_var h) (QxL r_C) (QxL r_C) hcut)) (fun z hz=>?_) (by rw[List.length_take];omega)
  refine Qaj (by walk_at "cap") (by walk_at "s") ?_
  unfold Qtz
  exact r_e2 (r_var rfl) (r_e2 (r_e2 r_C r_C h18) r_C (Qad _ _)) (QT (by decide))
 have hw:=QPy hs
 obtain⟨c1,g1,u1,v1,w1,s1⟩:=Qz3 hs (K:=K) (((ns.drop 13).take 40).map fun z=>z % (1000000000000000000+1)) (M:=300) (by decide)
 obtain⟨c2,g2,u2,v2,w2,s2⟩:=Qz3 hs (K:=K) ((List.range q).map fun k=>U k % 1000000000000000000) (M:=300) (by decide)
 obtain⟨c3,g3,u3,v3,w3,s3⟩:=QOF hs (kd:=kd) (K:=K) (M:=300) (by decide)
 have ab:∀ c,Qb6 [rl n (fun i=>.int (Abl.desk n K ‹"v"› c i))]=.ok (nz ‹"aB"›):=fun c=>Qye (n:=n) (by omega) (Abl.desk n K ‹"v"› c)
 have hrep:=QEP (x:=.int 0) (N:=n) (by omega)
 have E1:=QAb hw u1 u3 v1 v3 w1 w3
 have E2:=QAb hw u2 u3 v2 v3 w2 w3
 obtain⟨b,hbR,hb1,hb2⟩:∃ b:Bool,(Abl.Rest n K ‹"v"› c3↔b=true)/\(Abl.Rest n K ‹"v"› c1↔b=true)/\(Abl.Rest n K ‹"v"› c2↔b=true):=by
  rcases E1 with⟨a1,a3,_⟩ | ⟨a1,a3,_⟩
  ·rcases E2 with⟨a2,_⟩ | ⟨_,z,_⟩
   ·exact⟨true,⟨fun _=>rfl,fun _=>a3⟩,⟨fun _=>rfl,fun _=>a1⟩,⟨fun _=>rfl,fun _=>a2⟩⟩
   ·exact absurd a3 z
  ·rcases E2 with⟨_,z,_⟩ | ⟨a2,_⟩
   ·exact absurd z a3
   ·exact⟨false,⟨fun z=>absurd z a3,fun z=>(nomatch z)⟩,⟨fun z=>absurd z a1,fun z=>(nomatch z)⟩,⟨fun z=>absurd z a2,fun z=>(nomatch z)⟩⟩
 have q1:=QDg (rdy n K ‹"v"› c1)
 have q2:=QDg (rdy n K ‹"v"› c2)
 have q3:=QDg (rdy n K ‹"v"› c3)
 rw[isE hb1]at q1
 rw[isE hb2]at q2
 rw[isE hbR]at q3
 have hnb:dNe (.bl b) (.bl b)=.ok (.bl false):=by rw[QPP,beq_self_eq_true];rfl
 have n0:∀ z:SD,eLst aNil z=.ok (.lst []):=fun z=>by (repeat walk_at "e")
 have hS1:=fun A B C E:D=>(ixT 1 rfl:dIx (.tup [A,B,C,E]) (.int 1)=.ok B)
 have hS3:=fun A B C E:D=>(ixT 3 rfl:dIx (.tup [A,B,C,E]) (.int 3)=.ok E)
 have hS0:=fun A B C E:D=>(ixT 0 rfl:dIx (.tup [A,B,C,E]) (.int 0)=.ok A)
 have hS2:=fun A B C E:D=>(ixT 2 rfl:dIx (.tup [A,B,C,E]) (.int 2)=.ok C)
 have ct1:=Qqf (n:=n) (by omega) (A:=rl n (fun i=>.int (stc t st c1 i))) (B:=rl n (fun i=>.int (Abl.desk n K ‹"v"› c1 i))) (C:=rl nd (fun i=>.int (Abl.all n ‹"v"› c1 ‹"w"›))) (by omega) u1.cnt
 have ct2:=Qqf (n:=n) (by omega) (A:=rl n (fun i=>.int (stc t st c2 i))) (B:=rl n (fun i=>.int (Abl.desk n K ‹"v"› c2 i))) (C:=rl nd (fun i=>.int (Abl.all n ‹"v"› c2 ‹"w"›))) (by omega) u2.cnt
 have ct3:=Qqf (n:=n) (by omega) (A:=rl n (fun i=>.int (stc t st c3 i))) (B:=rl n (fun i=>.int (Abl.desk n K ‹"v"› c3 i))) (C:=rl nd (fun i=>.int (Abl.all n ‹"v"› c3 ‹"w"›))) (by omega) u3.cnt
 have turn:∀ c,Abl.Leg n K ‹"v"› c->Abl.Rest n K ‹"v"› c->(∀ k,k<n->c k=c3 k)->dNe (rl n (fun i=>.int (stc t st c i))) (rl n (fun i=>.int (stc t st c3 i)))=.ok (.bl false)/\dNe (rl n (fun i=>.int (Abl.desk n K ‹"v"› c i))) (rl n (fun _=>.int 0))=.ok (.bl false)/\dNe (rl nd (fun i=>.int ‹"aU"›)) (rl nd (fun i=>.int (Abl.all n ‹"v"› c3 ‹"w"›)))=.ok (.bl false)/\dNe (rl n (fun k=>.int (c k:Int))) (rl n (fun k=>.int (c3 k:Int)))=.ok (.bl false):=fun c lg rs e=>by
  refine⟨QtJ n _ _ fun i hi=>?_,QtJ n _ (fun _=>0) fun i hi=>?_,QtJ nd _ _ fun i hi=>?_,QtJ n _ _ fun i hi=>?_⟩
  ·unfold stc;rw[e i hi]
  ·have:=rs i hi
   have:=Abl.leg_pos hw hK lg i hi
   omega
  ·exact Abl.all_congr e _
  ·rw[e i hi]
 have al1:=ab c1
 have al2:=ab c2
 have al3:=ab c3
 have ln1:=QfP g1
 have ln2:=QfP g2
 generalize rl n ‹"t"›=P at *
 generalize offD n nd nm dn cl t m ld st=O at *
 generalize rl n (fun i=>D.int (st i))=Sd at *
 generalize rl n (fun i=>D.int (K i))=Kd at *
 generalize hS:D.lst (ns.map D.int)=S at *
 generalize D.lst ((((ns.drop 13).take 40).map fun z=>z % (1000000000000000000+1)).map D.int)=K1 at *
 generalize D.lst (((List.range q).map fun k=>U k % 1000000000000000000).map D.int)=K2 at *
 have hfirst:∀(rest:SD->Out Fl)(r:Out Fl),rest [some (.k,S),some (.k,P),some ‹"s"›,some (.k,O),some (.k,Sd),some (.k,Kd),some (.k,.int x),some (.k,K2),some (.k,.tup [rl n (fun i=>.int (stc t st c1 i)),rl n (fun i=>.int (Abl.desk n K ‹"v"› c1 i)),rl nd (fun i=>.int (Abl.all n ‹"v"› c1 ‹"w"›)),nz g1]),some (.k,.tup [rl n (fun i=>.int (stc t st c2 i)),rl n (fun i=>.int (Abl.desk n K ‹"v"› c2 i)),rl nd (fun i=>.int (Abl.all n ‹"v"› c2 ‹"w"›)),nz g2]),some (.k,.tup [rl n (fun i=>.int (stc t st c3 i)),rl n (fun i=>.int (Abl.desk n K ‹"v"› c3 i)),rl nd (fun i=>.int (Abl.all n ‹"v"› c3 ‹"w"›)),nz g3]),some (.k,.bl b),none,none]=r->
  sSeq (sUnp [1,2] (eA (fun xs=>Qdn (xs++[])) (aCons (eVar 0) (aCons (eC (.int 12)) aNil)))) (sSeq (sSet 3 (eA (fun xs=>Qco (xs++[])) (aCons (eVar 0) (aCons (eVar 1) (aCons (eVar 2) aNil))))) (sSeq (sSet 4 (eComp [none] (itL (eVar 1)) (gN 0) cTrue QtD)) (sSeq (sSet 5 (eA (fun xs=>QcH (xs++[])) (aCons (eVar 0) (aCons (eA fLen ‹"U"›) aNil)))) (sSeq (sSet 6 (eA (fun xs=>Qa2 (xs++[])) (aCons ‹"ac"› (aCons (eC (.int 80)) aNil)))) (sSeq (sSet 7 (eComp [none,some 6] (itR1 (e2 dAdd (eC (.int 1)) (e2 dMod (eVar 6) (eC (.int 6))))) (gN 0) cTrue QtB)) (sSeq ‹"M"› (sSeq ‹"aL"› (sSeq ‹"aI"› (sSeq (sSet 11 (e2 dEq (eA (fun xs=>Qb6 (xs++[])) (aCons (e2 dIx (eVar 10) (eC (.int 1))) aNil)) (eLst aNil))) (sSeq ‹"z"› rest)))))))))) [some (.k,S),none,none,none,none,none,none,none,none,none,none,none,none,none]=r:=fun rest r hr=>by
  refine r_seq (r_unp (ys:=[P,.int (nd:Int)]) (Q7 (xs:=[S,.int 12]) ‹"Z"› rfl hpl) (by walk_at "all")) (Qk ?_)
  refine r_seq (r_set (Q7 (xs:=[S,P,.int (nd:Int)]) (Qe (r_var rfl) ‹"V"›) rfl hof) (by walk_at "s")) (Qk ?_)
  refine r_seq (r_set (hst _ rfl) (by walk_at "s")) (Qk ?_)
  refine r_seq (r_set (Q7 (xs:=[S,.int (n:Int)]) (Qe (r_var rfl) (Qe (r_eA ‹"m"› hlp) r_nil)) rfl hdk) (by walk_at "s")) (Qk ?_)
  refine r_seq (r_set (Q7 (xs:=[.int v,.int 80]) (Qe (Q7 (xs:=[S,.int 0]) ‹"Z"› rfl hv) (Qe r_C r_nil)) rfl hx) (by walk_at "s")) (Qk ?_)
  refine r_seq (r_set (hdr _ rfl) (by walk_at "s")) (Qk ?_)
  refine r_seq (r_set (Q7 (xs:=[O,Sd,Kd,K1,.int 300]) (Qe (r_var rfl) (Qe (r_var rfl) (Qe (r_var rfl) (Qe (hpk _ rfl) (Qe r_C r_nil))))) rfl s1) (by walk_at "s")) (Qk ?_)
  refine r_seq (r_set (Q7 (xs:=[O,Sd,Kd,K2,.int 300]) (Qe (r_var rfl) (Qe (r_var rfl) (Qe (r_var rfl) ‹"Z"›))) rfl s2) (by walk_at "s")) (Qk ?_)
  refine r_seq (r_set (Q7 (xs:=[P,.int (nd:Int),Sd,Kd,.int 300]) (Qe (r_var rfl) (Qe (r_var rfl) (Qe (r_var rfl) ‹"Z"›))) rfl s3) (by walk_at "s")) (Qk ?_)
  refine r_seq (r_set (r_e2 (Q7 (xs:=[_]) (Qe (r_e2 (r_var rfl) r_C (hS1 _ _ _ _)) r_nil) rfl al3) (n0 _) q3) (by walk_at "s")) (Qk ?_)
  refine r_seq (r_ifF (r_or' (Q9 (r_e2 (r_e2 (Q7 (xs:=[_]) (Qe (r_e2 (r_var rfl) r_C (hS1 _ _ _ _)) r_nil) rfl al1) (n0 _) q1) (r_var rfl) hnb)) (Qfx rfl (Q9 (r_e2 (r_e2 (Q7 (xs:=[_]) (Qe (r_e2 (r_var rfl) r_C (hS1 _ _ _ _)) r_nil) rfl al2) (n0 _) q2) (r_var rfl) hnb)))) rfl Qdg) (Qk ?_)
  exact hr
 rw[QQg]
 unfold QBF
 refine Qbh (fl:=.rt false (.bl true)) (hfirst _ _ ?_) r_rt
 cases b with
 | false=>
  have g1l:g1.length=300:=w1.resolve_left fun z=>(nomatch hb1.mp z)
  have g2l:g2.length=300:=w2.resolve_left fun z=>(nomatch hb2.mp z)
  have e1':dEq (.int (g1.length:Int)) (.int 300)=.ok (.bl true):=by rw[Qam,g1l];rfl
  have e2':dEq (.int (g2.length:Int)) (.int 300)=.ok (.bl true):=by rw[Qam,g2l];rfl
  refine r_seq (fl:=.rt false (.bl true)) (r_ifT (QDz (Q9 (r_var rfl))) rfl (r_ret ?_)) Qo8
  exact QL6 (r_e2 (r_eA (Qe (r_e2 (r_var rfl) r_C (hS3 _ _ _ _)) r_nil) ln1) r_C e1') (QgD rfl (r_e2 (r_eA (Qe (r_e2 (r_var rfl) r_C (hS3 _ _ _ _)) r_nil) ln2) r_C e2'))
 | true=>
  have R3:=hbR.mpr rfl
  have c13:∀ k,k<n->c1 k=c3 k:=by
   rcases E1 with⟨_,_,e⟩ | ⟨_,z,_⟩
   ·exact e
   ·exact absurd R3 z
  have c23:∀ k,k<n->c2 k=c3 k:=by
   rcases E2 with⟨_,_,e⟩ | ⟨_,z,_⟩
   ·exact e
   ·exact absurd R3 z
  obtain⟨t11,t12,t13,t14⟩:=turn c1 u1.leg (hb1.mpr rfl) c13
  obtain⟨t21,t22,t23,t24⟩:=turn c2 u2.leg (hb2.mpr rfl) c23
  generalize rl n (fun i=>D.int (stc t st c1 i))=A1 at *
  generalize rl n (fun i=>D.int (Abl.desk n K ‹"v"› c1 i))=B1 at *
  generalize rl nd (fun i=>D.int (Abl.all n ‹"v"› c1 ‹"w"›))=C1 at *
  generalize rl n (fun i=>D.int (stc t st c2 i))=A2 at *
  generalize rl n (fun i=>D.int (Abl.desk n K ‹"v"› c2 i))=B2 at *
  generalize rl nd (fun i=>D.int (Abl.all n ‹"v"› c2 ‹"w"›))=C2 at *
  generalize rl n (fun i=>D.int (stc t st c3 i))=A3 at *
  generalize rl n (fun i=>D.int (Abl.desk n K ‹"v"› c3 i))=B3 at *
  generalize rl nd (fun i=>D.int (Abl.all n ‹"v"› c3 ‹"w"›))=C3 at *
  refine r_seq (r_ifF (QDz (Q9 (r_var rfl))) rfl Qdg) (Qk ?_)
  refine r_seq (r_set (Q7 (xs:=[_,.int (n:Int)]) (Qe (r_var rfl) (Qe (r_eA ‹"m"› hlp) r_nil)) rfl ct3) (by walk_at "s")) (Qk ?_)
  generalize hC:rl n (fun k=>D.int (c3 k:Int))=C at *
  have body:∀(A B E:D)(g:List Nat)(f:Nat->Nat),dNe A A3=.ok (.bl false)->dNe B (rl n (fun _=>.int 0))=.ok (.bl false)->dNe E C3=.ok (.bl false)->Qbp [.tup [A,B,E,nz g],.int (n:Int)]=.ok (rl n (fun k=>.int (f k:Int)))->dNe (rl n (fun k=>.int (f k:Int))) C=.ok (.bl false)->∀ a13,(gN 13 (.tup [A,B,E,nz g]) [some (.k,S),some (.k,P),some ‹"s"›,some (.k,O),some (.k,Sd),some (.k,Kd),some (.k,.int x),some (.k,K2),some (.k,.tup [A1,B1,C1,nz g1]),some (.k,.tup [A2,B2,C2,nz g2]),some (.k,.tup [A3,B3,C3,nz g3]),some (.k,.bl true),some (.k,C),a13]>>=fun ς'=>Qty ς')=.ok (.nx [some (.k,S),some (.k,P),some ‹"s"›,some (.k,O),some (.k,Sd),some (.k,Kd),some (.k,.int x),some (.k,K2),some (.k,.tup [A1,B1,C1,nz g1]),some (.k,.tup [A2,B2,C2,nz g2]),some (.k,.tup [A3,B3,C3,nz g3]),some (.k,.bl true),some (.k,C),some (.k,.tup [A,B,E,nz g])]):=fun A B E g f h1 h2 h3 h4 h5 a13=>by
   refine r_gN (by walk_at "s") ?_
   unfold Qty
   refine r_seq (r_ifF (r_or' (Q9 (r_e2 (r_e2 (r_var rfl) r_C (hS0 _ _ _ _)) (r_e2 (r_var rfl) r_C (hS0 _ _ _ _)) h1)) (Qfx rfl (r_or' (Q9 (r_e2 (r_e2 (r_var rfl) r_C (hS1 _ _ _ _)) (r_e2 (r_lst (Qe r_C r_nil) (show 1<=1000 by decide)) (r_eA ‹"m"› hlp) hrep) h2)) (Qfx rfl (Q9 (r_e2 (r_e2 (r_var rfl) r_C (hS2 _ _ _ _)) (r_e2 (r_var rfl) r_C (hS2 _ _ _ _)) h3)))))) rfl Qdg) (Qk ?_)
   exact r_ifF (Q9 (r_e2 (Q7 (xs:=[_,.int (n:Int)]) (Qe (r_var rfl) (Qe (r_eA ‹"m"› hlp) r_nil)) rfl h4) (r_var rfl) h5)) rfl Qdg
  have L1:=body A1 B1 C1 g1 c1 t11 t12 t13 ct1 t14 none
  have L2:=body A2 B2 C2 g2 c2 t21 t22 t23 ct2 t24 (some (.k,.tup [A1,B1,C1,nz g1]))
  have hL:loopD (fun x ς=>gN 13 x ς>>=fun ς'=>Qty ς') [.tup [A1,B1,C1,nz g1],.tup [A2,B2,C2,nz g2]] [some (.k,S),some (.k,P),some ‹"s"›,some (.k,O),some (.k,Sd),some (.k,Kd),some (.k,.int x),some (.k,K2),some (.k,.tup [A1,B1,C1,nz g1]),some (.k,.tup [A2,B2,C2,nz g2]),some (.k,.tup [A3,B3,C3,nz g3]),some (.k,.bl true),some (.k,C),none]=.ok (.nx [some (.k,S),some (.k,P),some ‹"s"›,some (.k,O),some (.k,Sd),some (.k,Kd),some (.k,.int x),some (.k,K2),some (.k,.tup [A1,B1,C1,nz g1]),some (.k,.tup [A2,B2,C2,nz g2]),some (.k,.tup [A3,B3,C3,nz g3]),some (.k,.bl true),some (.k,C),some (.k,.tup [A2,B2,C2,nz g2])]):=by
   rw[loopD,L1]
   show loopD _ _ _=_
   rw[loopD,L2]
   rfl
  refine r_seq (QcP (r_itL (r_lst ‹"V"› (show 2<=1000 by decide))) hL) (Qk (r_ret r_C))
end My
namespace My
open PySem PySem.Spec L2 DL
theorem all_mk{l:W.OpenLaw}{w:World}{K:W.Frag}{h:Heap}{mg:‹"Y"›}{fa:Addr}(X:K.In h)(G:h.Ns mainGlobals mg)(hfa:mg "law"=some (.ref fa))
 {QL:Addr} {Qy:Addr} {QK:Addr} {QJ:Addr} {QN:Addr} {QaW:Addr} {QaF:Addr} {QeV:Addr} {Qag:Addr} {QgA:Addr} {Qgy:Addr} {QeR:Addr} {QgF:Addr} {QdW:Addr} {QdX:Addr} {Qd1:Addr} {Qbo:Addr} {QqL:Addr} {QFT QGt:Option Addr} {QGT:‹"d"›} {QGH QFz QG0 QGa QuH QE3:Value} {Qok:Addr} {QC2 QEU:Option Addr} {QEz:‹"d"›} {QCP QCx QC0 QED QrU QC8:Value} {QlV:Addr} {QAE QAn:Option Addr} {QAz:‹"d"›} {QBy QAF QBt QAQ Qrg QA8:Value} {Qml:Addr} {QAS QAU:Option Addr} {QBC:‹"d"›} {QAW QAq QBp QAL Qrq QAD:Value} {Qqx:Addr} {QF1 QFb:Option Addr} {QFC:‹"d"›} {QGU QFk QFQ QGv Quy QGm:Value} {Qob:Addr} {QC7 QCD:Option Addr} {QCa:‹"d"›} {QDv QDS QDy QCk Qtk QDt:Value} {Qqn:Addr} {QGC QFj:Option Addr} {QHf:‹"d"›} {QHc QGx QGl QFv Qup QF9:Value} {Qqm:Addr} {QGM QHa:Option Addr} {QFa:‹"d"›} {QFH QGp QGL QFs Qun QGr:Value} {Qnt:Addr} {QDE QDm:Option Addr} {QBN:‹"d"›} {QCI QDs QB5 QEs Qse QDd:Value} {Qsq:Addr} {QJm QI3:Option Addr} {QIr:‹"d"›} {QI1 QIo QIY QJA Qxw QJi:Value} {QlT:Addr} {QAe QAl:Option Addr} {QAc:‹"d"›} {QAT QBz QA0 QA2 Qrw QAR:Value} {Qto:Addr} {QJO QIh:Option Addr} {QIW:‹"d"›} {QJf QIP QJb QJc Qxr QJd:Value} {QoF:Addr} {QCG QCW:Option Addr} {QDp:‹"d"›} {QCS QEb QBG QCB QsB QDu:Value} {Qoi:Addr} {QEB QBX:Option Addr} {QDr:‹"d"›} {QDY QDV QEi QES Qtd QEM:Value} {QqT:Addr} {QHt QE5:Option Addr} {QGP:‹"d"›} {QGz QFe QFg QE0 Qux QF5:Value} {Qn5:Addr} {QDF QDn:Option Addr} {QBR:‹"d"›} {QEg QCr QDD QCc Qsy QCz:Value} {QpQ:Addr} {QHo QHi:Option Addr} {QHq:‹"d"›} {QGu QHp QGo QG9 QuI QGQ:Value} {QAs QBc:Option Addr} {QAy:‹"d"›} {QA3 QBb QBr QAX Qrd QAw:Value} {QwO QwK:Option Addr} {Qww:‹"d"›} {Qxc QvZ Qv6 Qwa QmS Qwg:Value} {Qsj:Addr} {QH5 QJE:Option Addr} {QIU:‹"d"›} {QJR QIE QJI QJU Qxz QJs:Value} {QoE:Addr} {QDU QCp:Option Addr} {QCw:‹"d"›} {QER QCu QEt QDo QsM QEX:Value} {Qq7:Addr} {QG3 QFq:Option Addr} {QGy:‹"d"›} {QG2 QFd QFm QGJ Qum QFt:Value} {Qj4:Addr} {Qzo QxI:Option Addr} {Qyn:‹"d"›} {QyA QxS Qy8 QxT Qpr QyX:Value} {QqH:Addr} {QGW QHd:Option Addr} {QHe:‹"d"›} {QGF QGb QGX QGO Quu QG1:Value} {Qx0 QyT:Option Addr} {QxQ:‹"d"›} {Qzs QyJ QxX QyL QoY QyK:Value} {Qs0:Addr} {QJK QJy:Option Addr} {QI4:‹"d"›} {QIp QI7 QIL QIc Qv2 QJL:Value} {Qir:Addr} {QwL Qwq:Option Addr} {Qw4:‹"d"›} {Qxl Qwv Qwo Qwl Qm6 QwP:Value} {Qth Qr4:Option Addr} {Qsf:‹"d"›} {QsF Qti Qsb Qr9 QjC Qsn:Value} {Qvo:Addr} {QKG QLV:Option Addr} {QKJ:‹"d"›} {QKW QKd QKo QLC Qz4 QKg:Value} {QqZ:Addr} {QFn QG6:Option Addr} {QGD:‹"d"›} {QGK QHr QF6 QFN Qur QFD:Value} {QCm QCh:Option Addr} {QBH:‹"d"›} {QB1 QCK QDT QCO Qtc QBV:Value} {QlR:Addr} {QAP QAt:Option Addr} {QBu:‹"d"›} {QAJ QAo QAj QBw Qru QAK:Value} {QCM QEn:Option Addr} {QBJ:‹"d"›} {QC4 QDH QD6 QEA Qtj QCi:Value} {QxZ Qy6:Option Addr} {QyV:‹"d"›} {Qzc QyW Qyd QyQ Qo1 QxG:Value} {QEp QCj:Option Addr} {QDq:‹"d"›} {QEK QEk QEV QCf Qr5 QDA:Value} {QoJ:Addr} {QCY QBW:Option Addr} {QCA:‹"d"›} {QB0 QCl QCR QCC QsR QEw:Value} {Qmn:Addr} {QAO QAC:Option Addr} {QA5:‹"d"›} {QA1 QBn QAI QAd Qrn QBd:Value} {QnI:Addr} {QDR QEo:Option Addr} {QEH:‹"d"›} {QDf QEa QC1 QB3 QsK QDj:Value} {QwC Qwz:Option Addr} {QwS:‹"d"›} {Qxf Qxe QwE Qws QmY Qv5:Value} {QjV:Addr} {Qzn Qy3:Option Addr} {Qx2:‹"d"›} {Qzj Qzg QxN QyG QoL QyP:Value} {QCX:Addr} {QOx QOm:Option Addr} {QNM:‹"d"›} {QN6 QNP QNQ QNA QH3 QOC:Value} {Qvu:Addr} {QKz QLX:Option Addr} {QKE:‹"d"›} {QLK QLJ QMe QLe Qz6 QKI:Value} {QwM QwG:Option Addr} {Qxu:‹"d"›} {Qwm QwJ Qxj QwZ QmU QwT:Value} {QIR:Addr} {QPM QPN:Option Addr} {QPS:‹"d"›} {QP3 QPs QP0 QO0 QLl QPI:Value} {QxA QxE:Option Addr} {Qxd:‹"d"›} {Qxb Qw2 QwI QwV QmN Qw6:Value} {QCo QBL:Option Addr} {QBY:‹"d"›} {QCs QEr QDO QDJ QsJ QC9:Value} {Qvv:Addr} {QL9 QL8:Option Addr} {QLM:‹"d"›} {QLS QKl QLa QKD QzU QKB:Value} {QvN:Addr} {QKp QzS:Option Addr} {QKq:‹"d"›} {QLv Qz5 QzJ QzV Qs9 Qzy:Value} {QuU:Addr} {QzH:Tok} {QIi:Value} {QIf:Option Addr} {QKa:Nat} {QJv:‹"d"›} {QqA:Addr} {QHs QFU:Option Addr} {QF0:‹"d"›} {QHh QFL QGA QF4 Quz QG5:Value} {Qhd:Addr} {QtY Qug:Option Addr} {Qub:‹"d"›} {Qt7 Qt2 QtW QtX QkK Qt9:Value} {Qj9:Addr} {Qza QyY:Option Addr} {Qx7:‹"d"›} {Qx8 Qyg QxO QxM Qpa Qx5:Value} {QJM:Addr} {QOP QLP:Option Addr} {QPk:‹"d"›} {QOS QLk QKU QK9 QCF QK5:Value} {tk_MOST_SIGNS:Tok} {tk_LETTERS:Tok} {tk_MOST_CLERKS:Tok} {tk_MOST_ENTRIES:Tok} {tk_MOST_DOORS:Tok} {tk_MOST_OUTS:Tok} {tk_MOST_SENT:Tok} {tk_MOST_ROWS:Tok}
 (Qxh:W.nsIn K mainGlobals "Deal"=some (some (.ref QL)))
 (Qyj:W.plainGet K QL Str.empty=true)
 (QyB:W.hasDictIn K QL=true)
 (Qyp:W.plainOver K QL=true)
 (Qyq:W.findIn K (.ref QL) "__setattr__"=some ‹"aj"›)
 (Qka:W.findIn K (.ref QL) "table"=some none)
 (Qfk:W.findIn K (.ref QL) "clerk_names"=some none)
 (QfM:W.findIn K (.ref QL) "door_names"=some none)
 (QeO:W.findIn K (.ref QL) "entry_places"=some none)
 (QjS:W.findIn K (.ref QL) "staff"=some none)
 (QeF:W.findIn K (.ref QL) "first_states"=some none)
 (QlY:W.findIn K (.ref QL) "ways"=some none)
 (Qkg:W.findIn K (.ref QL) "heads"=some none)
 (QpO:W.nsIn K mainGlobals "Bundle"=some (some (.ref Qy)))
 (Qs5:W.plainGet K Qy Str.empty=true)
 (Qsa:W.hasDictIn K Qy=true)
 (QsW:W.plainOver K Qy=true)
 (Qs4:W.findIn K (.ref Qy) "__setattr__"=some ‹"aj"›)
 (Qih:W.findIn K (.ref Qy) "table"=some none)
 (Qd3:W.findIn K (.ref Qy) "clerk_names"=some none)
 (Qeh:W.findIn K (.ref Qy) "door_names"=some none)
 (QdI:W.findIn K (.ref Qy) "entry_places"=some none)
 (Qij:W.findIn K (.ref Qy) "staff"=some none)
 (Qdz:W.findIn K (.ref Qy) "first_states"=some none)
 (QiG:W.findIn K (.ref Qy) "ways"=some none)
 (QhC:W.findIn K (.ref Qy) "heads"=some none)
 (QxB:W.nsIn K mainGlobals "Copy"=some (some (.ref QK)))
 (QxU:W.plainGet K QK Str.empty=true)
 (Qy1:W.hasDictIn K QK=true)
 (Qx6:W.plainOver K QK=true)
 (Qy2:W.findIn K (.ref QK) "__setattr__"=some ‹"aj"›)
 (Qkf:W.findIn K (.ref QK) "table"=some none)
 (Qfd:W.findIn K (.ref QK) "clerk_names"=some none)
 (QfN:W.findIn K (.ref QK) "door_names"=some none)
 (Qet:W.findIn K (.ref QK) "entry_places"=some none)
 (Qj2:W.findIn K (.ref QK) "staff"=some none)
 (Qek:W.findIn K (.ref QK) "first_states"=some none)
 (Qlt:W.findIn K (.ref QK) "ways"=some none)
 (Qj3:W.findIn K (.ref QK) "heads"=some none)
 (QwD:W.nsIn K mainGlobals "Rows"=some (some (.ref QJ)))
 (Qy7:W.plainGet K QJ Str.empty=true)
 (Qx4:W.hasDictIn K QJ=true)
 (QyC:W.plainOver K QJ=true)
 (Qzb:W.findIn K (.ref QJ) "__setattr__"=some ‹"aj"›)
 (Qkt:W.findIn K (.ref QJ) "table"=some none)
 (Qfg:W.findIn K (.ref QJ) "clerk_names"=some none)
 (QfJ:W.findIn K (.ref QJ) "door_names"=some none)
 (QeH:W.findIn K (.ref QJ) "entry_places"=some none)
 (Qkq:W.findIn K (.ref QJ) "staff"=some none)
 (Qei:W.findIn K (.ref QJ) "first_states"=some none)
 (Qlx:W.findIn K (.ref QJ) "ways"=some none)
 (Qki:W.findIn K (.ref QJ) "heads"=some none)
 (Qq6:W.nsIn K mainGlobals "Office"=some (some (.ref QN)))
 (QsY:W.plainGet K QN Str.empty=true)
 (QsV:W.hasDictIn K QN=true)
 (Qtm:W.plainOver K QN=true)
 (Qsh:W.findIn K (.ref QN) "__setattr__"=some ‹"aj"›)
 (Qh0:W.findIn K (.ref QN) "table"=some none)
 (QdU:W.findIn K (.ref QN) "clerk_names"=some none)
 (Qew:W.findIn K (.ref QN) "door_names"=some none)
 (Qdt:W.findIn K (.ref QN) "entry_places"=some none)
 (QhP:W.findIn K (.ref QN) "staff"=some none)
 (Qdy:W.findIn K (.ref QN) "first_states"=some none)
 (Qio:W.findIn K (.ref QN) "ways"=some none)
 (QhF:W.findIn K (.ref QN) "heads"=some none)
 (QnY:W.findIn K (.ref QL) "outs"=some (some (.ref QaW)))
 (Qkb:W.findIn K (.ref Qy) "outs"=some (some (.ref QaW)))
 (Qnx:W.findIn K (.ref QK) "outs"=some (some (.ref QaW)))
 (Qns:W.findIn K (.ref QJ) "outs"=some (some (.ref QaW)))
 (QkE:W.findIn K (.ref QL) "period"=some (some (.ref QaF)))
 (Qic:W.findIn K (.ref Qy) "period"=some (some (.ref QaF)))
 (QkC:W.findIn K (.ref QK) "period"=some (some (.ref QaF)))
 (Qks:W.findIn K (.ref QJ) "period"=some (some (.ref QaF)))
 (QiR:W.findIn K (.ref QN) "doors"=some (some (.ref QdW)))
 (Qix:W.findIn K (.ref QN) "clerk"=some (some (.ref QdX)))
 (QiA:W.findIn K (.ref QN) "leads"=some (some (.ref Qd1)))
 (QpG:W.findIn K (.ref QL) "row"=some (some (.ref Qbo)))
 (Qmh:W.findIn K (.ref Qy) "row"=some (some (.ref Qbo)))
 (Qqa:W.findIn K (.ref QK) "row"=some (some (.ref Qbo)))
 (QqR:W.findIn K (.ref QJ) "row"=some (some (.ref Qbo)))
 (Qhi:W.findIn K (.ref QL) "keep_rows"=some (some (.ref Qag)))
 (QfD:W.findIn K (.ref Qy) "keep_rows"=some (some (.ref Qag)))
 (Qhc:W.findIn K (.ref QK) "keep_rows"=some (some (.ref Qag)))
 (Qg2:W.findIn K (.ref QJ) "keep_rows"=some (some (.ref Qag)))
 (QnC:W.findIn K (.ref QL) "__init__"=some (some (.ref Qgy)))
 (QjQ:W.findIn K (.ref Qy) "__init__"=some (some (.ref QeR)))
 (Qon:W.findIn K (.ref QK) "__init__"=some (some (.ref QgF)))
 (Qog:W.findIn K (.ref QJ) "__init__"=some (some (.ref QgA)))
 (Qj1:W.findIn K (.ref QN) "__init__"=some (some (.ref QeV)))
 (QvM:W.makesIn K QL=true)
 (Qu3:W.keepIn K (.ref QL)=true)
 (Qp9:W.makesIn K Qy=true)
 (QqP:W.keepIn K (.ref Qy)=true)
 (Qu9:W.makesIn K QK=true)
 (QvQ:W.keepIn K (.ref QK)=true)
 (QvT:W.makesIn K QJ=true)
 (QvG:W.keepIn K (.ref QJ)=true)
 (QqE:W.makesIn K QN=true)
 (Qql:W.keepIn K (.ref QN)=true)
 (y1:W.specialIn K ‹"o"› "__get__"=some (some ‹"ak"›))
 (y2:W.takesIn K ‹"o"›=some true)
 (Qx3:W.findIn K (.ref QL) "__class__"=some (some ‹"o"›))
 (Qzw:W.mroIn K QL (.type "object")=some true)
 (Qtg:W.findIn K (.ref Qy) "__class__"=some (some ‹"o"›))
 (QsT:W.mroIn K Qy (.type "object")=some true)
 (Qzq:W.findIn K (.ref QK) "__class__"=some (some ‹"o"›))
 (Qyz:W.mroIn K QK (.type "object")=some true)
 (Qzk:W.findIn K (.ref QJ) "__class__"=some (some ‹"o"›))
 (Qyk:W.mroIn K QJ (.type "object")=some true)
 (Qtu:W.findIn K (.ref QN) "__class__"=some (some ‹"o"›))
 (QsC:W.mroIn K QN (.type "object")=some true)
 (QpR:W.nsIn K mainGlobals "_law_cell"=some (some (.ref QqL)))
 (Qq2:K.lookup QqL=some ⟨QGH,QFT,.func (W.fnOf "_law_cell" "_law_cell" (Qq Qcf) (Qp Qcf) (Qa Qcf) .none QFz QG0 QGa QGt QuH QE3),QGT⟩)
 (Qp7:W.codeIn K QuH "_law_cell"=true)
 (Qla:W.keepIn K (.ref QqL)=true)
 (QnT:W.nsIn K mainGlobals "_law_mixed"=some (some (.ref Qok)))
 (QnF:K.lookup Qok=some ⟨QCP,QC2,.func (W.fnOf "_law_mixed" "_law_mixed" (Qq QbM) (Qp QbM) (Qa QbM) .none QCx QC0 QED QEU QrU QC8),QEz⟩)
 (Qn4:W.codeIn K QrU "_law_mixed"=true)
 (Qi3:W.keepIn K (.ref Qok)=true)
 (Qly:W.nsIn K mainGlobals "_law_digits"=some (some (.ref QlV)))
 (Ql1:K.lookup QlV=some ⟨QBy,QAE,.func (W.fnOf "_law_digits" "_law_digits" (Qq Qax) (Qp Qax) (Qa Qax) .none QAF QBt QAQ QAn Qrg QA8),QAz⟩)
 (Qlw:W.codeIn K Qrg "_law_digits"=true)
 (QhX:W.keepIn K (.ref QlV)=true)
 (QlK:W.nsIn K mainGlobals "_law_counts"=some (some (.ref Qml)))
 (QlI:K.lookup Qml=some ⟨QAW,QAS,.func (W.fnOf "_law_counts" "_law_counts" (Qq QaD) (Qp QaD) (Qa QaD) .none QAq QBp QAL QAU Qrq QAD),QBC⟩)
 (Ql3:W.codeIn K Qrq "_law_counts"=true)
 (QhJ:W.keepIn K (.ref Qml)=true)
 (QpI:W.nsIn K mainGlobals "_law_rows"=some (some (.ref Qqx)))
 (Qqj:K.lookup Qqx=some ⟨QGU,QF1,.func (W.fnOf "_law_rows" "_law_rows" (Qq QB) (Qp QB) (Qa QB) .none QFk QFQ QGv QFb Quy QGm),QFC⟩)
 (QqX:W.codeIn K Quy "_law_rows"=true)
 (Qlb:W.keepIn K (.ref Qqx)=true)
 (Qou:W.nsIn K mainGlobals "_law_named"=some (some (.ref Qob)))
 (Qny:K.lookup Qob=some ⟨QDv,QC7,.func (W.fnOf "_law_named" "_law_named" (Qq QaI) (Qp QaI) (Qa QaI) .none QDS QDy QCk QCD Qtk QDt),QCa⟩)
 (QoC:W.codeIn K Qtk "_law_named"=true)
 (Qja:W.keepIn K (.ref Qob)=true)
 (Qrb:W.nsIn K mainGlobals "_law_seat"=some (some (.ref Qqn)))
 (Qqy:K.lookup Qqn=some ⟨QHc,QGC,.func (W.fnOf "_law_seat" "_law_seat" (Qq QS) (Qp QS) (Qa QS) .none QGx QGl QFv QFj Qup QF9),QHf⟩)
 (QpN:W.codeIn K Qup "_law_seat"=true)
 (QkO:W.keepIn K (.ref Qqn)=true)
 (Qq3:W.nsIn K mainGlobals "_law_plan"=some (some (.ref Qqm)))
 (QpM:K.lookup Qqm=some ⟨QFH,QGM,.func (W.fnOf "_law_plan" "_law_plan" (Qq Qaa) (Qp Qaa) (Qa Qaa) .none QGp QGL QFs QHa Qun QGr),QFa⟩)
 (Qqs:W.codeIn K Qun "_law_plan"=true)
 (Qk1:W.keepIn K (.ref Qqm)=true)
 (Qow:W.nsIn K mainGlobals "places_of"=some (some (.ref Qnt)))
 (QnL:K.lookup Qnt=some ⟨QCI,QDE,.func (W.fnOf "places_of" "places_of" (Qq QaC) (Qp QaC) (Qa QaC) .none QDs QB5 QEs QDm Qse QDd),QBN⟩)
 (QoI:W.codeIn K Qse "places_of"=true)
 (Qi9:W.keepIn K (.ref Qnt)=true)
 (QsG:W.nsIn K mainGlobals "is_list"=some (some (.ref Qsq)))
 (Qsc:K.lookup Qsq=some ⟨QI1,QJm,.func (W.fnOf "is_list" "is_list" (Qq Qb2) (Qp Qb2) (Qa Qb2) .none QIo QIY QJA QI3 Qxw QJi),QIr⟩)
 (Qs8:W.codeIn K Qxw "is_list"=true)
 (Qm8:W.keepIn K (.ref Qsq)=true)
 (Qmp:W.nsIn K mainGlobals "all_unlike"=some (some (.ref QlT)))
 (QlP:K.lookup QlT=some ⟨QAT,QAe,.func (W.fnOf "all_unlike" "all_unlike" (Qq Qbm) (Qp Qbm) (Qa Qbm) .none QBz QA0 QA2 QAl Qrw QAR),QAc⟩)
 (Ql0:W.codeIn K Qrw "all_unlike"=true)
 (Qif:W.keepIn K (.ref QlT)=true)
 (Qtp:W.nsIn K mainGlobals "is_name"=some (some (.ref Qto)))
 (Qtf:K.lookup Qto=some ⟨QJf,QJO,.func (W.fnOf "is_name" "is_name" (Qq QaT) (Qp QaT) (Qa QaT) .none QIP QJb QJc QIh Qxr QJd),QIW⟩)
 (Qts:W.codeIn K Qxr "is_name"=true)
 (Qm0:W.keepIn K (.ref Qto)=true)
 (Qn2:W.nsIn K mainGlobals "are_names"=some (some (.ref QoF)))
 (Qot:K.lookup QoF=some ⟨QCS,QCG,.func (W.fnOf "are_names" "are_names" (Qq QaB) (Qp QaB) (Qa QaB) .none QEb QBG QCB QCW QsB QDu),QDp⟩)
 (Qnz:W.codeIn K QsB "are_names"=true)
 (Qjb:W.keepIn K (.ref QoF)=true)
 (QnX:W.nsIn K mainGlobals "are_texts"=some (some (.ref Qoi)))
 (QnP:K.lookup Qoi=some ⟨QDY,QEB,.func (W.fnOf "are_texts" "are_texts" (Qq Qal) (Qp Qal) (Qa Qal) .none QDV QEi QES QBX Qtd QEM),QDr⟩)
 (Qod:W.codeIn K Qtd "are_texts"=true)
 (Qi2:W.keepIn K (.ref Qoi)=true)
 (Qp4:W.nsIn K mainGlobals "is_whole"=some (some (.ref QqT)))
 (Qqw:K.lookup QqT=some ⟨QGz,QHt,.func (W.fnOf "is_whole" "is_whole" (Qq QbQ) (Qp QbQ) (Qa QbQ) .none QFe QFg QE0 QE5 Qux QF5),QGP⟩)
 (QqJ:W.codeIn K Qux "is_whole"=true)
 (QkP:W.keepIn K (.ref QqT)=true)
 (QnD:W.nsIn K mainGlobals "is_within"=some (some (.ref Qn5)))
 (Qom:K.lookup Qn5=some ⟨QEg,QDF,.func (W.fnOf "is_within" "is_within" (Qq Qbn) (Qp Qbn) (Qa Qbn) .none QCr QDD QCc QDn Qsy QCz),QBR⟩)
 (Qnq:W.codeIn K Qsy "is_within"=true)
 (Qi6:W.keepIn K (.ref Qn5)=true)
 (Qqo:W.nsIn K mainGlobals "is_clerk"=some (some (.ref QpQ)))
 (QqF:K.lookup QpQ=some ⟨QGu,QHo,.func (W.fnOf "is_clerk" "is_clerk" (Qq Qbe) (Qp Qbe) (Qa Qbe) .none QHp QGo QG9 QHi QuI QGQ),QHq⟩)
 (Qp8:W.codeIn K QuI "is_clerk"=true)
 (QkU:W.keepIn K (.ref QpQ)=true)
 (QdZ:W.isFn K (.ref QaW)=true)
 (QlX:K.lookup QaW=some ⟨QA3,QAs,.func (W.fnOf "outs" "Clerk.outs" (Qq QbU) (Qp QbU) (Qa QbU) .none QBb QBr QAX QBc Qrd QAw),QAy⟩)
 (QlQ:W.codeIn K Qrd "Clerk.outs"=true)
 (Qc4:W.keepIn K (.ref QaW)=true)
 (QcR:W.isFn K (.ref QaF)=true)
 (QiE:K.lookup QaF=some ⟨Qxc,QwO,.func (W.fnOf "period" "Clerk.period" (Qq Qba) (Qp Qba) (Qa Qba) .none QvZ Qv6 Qwa QwK QmS Qwg),Qww⟩)
 (QiM:W.codeIn K QmS "Clerk.period"=true)
 (Qcd:W.keepIn K (.ref QaF)=true)
 (Qs7:W.nsIn K mainGlobals "is_seat"=some (some (.ref Qsj)))
 (Qs2:K.lookup Qsj=some ⟨QJR,QH5,.func (W.fnOf "is_seat" "is_seat" (Qq QaV) (Qp QaV) (Qa QaV) .none QIE QJI QJU QJE Qxz QJs),QIU⟩)
 (QsA:W.codeIn K Qxz "is_seat"=true)
 (Qnk:W.keepIn K (.ref Qsj)=true)
 (Qnv:W.nsIn K mainGlobals "are_seats"=some (some (.ref QoE)))
 (Qoh:K.lookup QoE=some ⟨QER,QDU,.func (W.fnOf "are_seats" "are_seats" (Qq Qab) (Qp Qab) (Qa Qab) .none QCu QEt QDo QCp QsM QEX),QCw⟩)
 (Qnu:W.codeIn K QsM "are_seats"=true)
 (Qje:W.keepIn K (.ref QoE)=true)
 (QpW:W.nsIn K mainGlobals "is_entry"=some (some (.ref Qq7)))
 (Qp0:K.lookup Qq7=some ⟨QG2,QG3,.func (W.fnOf "is_entry" "is_entry" (Qq Qa4) (Qp Qa4) (Qa Qa4) .none QFd QFm QGJ QFq Qum QFt),QGy⟩)
 (QpV:W.codeIn K Qum "is_entry"=true)
 (Qk7:W.keepIn K (.ref Qq7)=true)
 (QjY:W.nsIn K mainGlobals "are_entries"=some (some (.ref Qj4)))
 (Qkz:K.lookup Qj4=some ⟨QyA,Qzo,.func (W.fnOf "are_entries" "are_entries" (Qq QR) (Qp QR) (Qa QR) .none QxS Qy8 QxT QxI Qpr QyX),Qyn⟩)
 (QjU:W.codeIn K Qpr "are_entries"=true)
 (QgN:W.keepIn K (.ref Qj4)=true)
 (Qqz:W.nsIn K mainGlobals "leads_to"=some (some (.ref QqH)))
 (QpF:K.lookup QqH=some ⟨QGF,QGW,.func (W.fnOf "leads_to" "leads_to" (Qq QbV) (Qp QbV) (Qa QbV) .none QGb QGX QGO QHd Quu QG1),QHe⟩)
 (QqC:W.codeIn K Quu "leads_to"=true)
 (QkX:W.keepIn K (.ref QqH)=true)
 (QjM:W.isFn K (.ref QeV)=true)
 (Qj6:K.lookup QeV=some ⟨Qzs,Qx0,.func (W.fnOf "__init__" "Office.__init__" (Qq Qo) (Qp Qo) (Qa Qo) .none QyJ QxX QyL QyT QoY QyK),QxQ⟩)
 (QjO:W.codeIn K QoY "Office.__init__"=true)
 (Qj0:W.keepIn K (.ref QeV)=true)
 (QsX:W.nsIn K mainGlobals "sums_of"=some (some (.ref Qs0)))
 (Qsd:K.lookup Qs0=some ⟨QIp,QJK,.func (W.fnOf "sums_of" "sums_of" (Qq Qbx) (Qp Qbx) (Qa Qbx) .none QI7 QIL QIc QJy Qv2 QJL),QI4⟩)
 (QsO:W.codeIn K Qv2 "sums_of"=true)
 (QmR:W.keepIn K (.ref Qs0)=true)
 (QiQ:W.nsIn K mainGlobals "running_sums"=some (some (.ref Qir)))
 (Qin:K.lookup Qir=some ⟨Qxl,QwL,.func (W.fnOf "running_sums" "running_sums" (Qq Qao) (Qp Qao) (Qa Qao) .none Qwv Qwo Qwl Qwq Qm6 QwP),Qw4⟩)
 (QiN:W.codeIn K Qm6 "running_sums"=true)
 (Qgb:W.keepIn K (.ref Qir)=true)
 (QbZ:W.isFn K (.ref Qag)=true)
 (Qgv:K.lookup Qag=some ⟨QsF,Qth,.func (W.fnOf "keep_rows" "Clerk.keep_rows" (Qq QU) (Qp QU) (Qa QU) .none Qti Qsb Qr9 Qr4 QjC Qsn),Qsf⟩)
 (Qgp:W.codeIn K QjC "Clerk.keep_rows"=true)
 (Qbi:W.keepIn K (.ref Qag)=true)
 (QvY:W.nsIn K mainGlobals "is_row"=some (some (.ref Qvo)))
 (Qvt:K.lookup Qvo=some ⟨QKW,QKG,.func (W.fnOf "is_row" "is_row" (Qq QaU) (Qp QaU) (Qa QaU) .none QKd QKo QLC QLV Qz4 QKg),QKJ⟩)
 (QvP:W.codeIn K Qz4 "is_row"=true)
 (QqM:W.keepIn K (.ref Qvo)=true)
 (Qq8:W.nsIn K mainGlobals "is_table"=some (some (.ref QqZ)))
 (Qp2:K.lookup QqZ=some ⟨QGK,QFn,.func (W.fnOf "is_table" "is_table" (Qq Q8) (Qp Q8) (Qa Q8) .none QHr QF6 QFN QG6 Qur QFD),QGD⟩)
 (Qqe:W.codeIn K Qur "is_table"=true)
 (Qlc:W.keepIn K (.ref QqZ)=true)
 (QoB:W.isFn K (.ref QgA)=true)
 (QoH:K.lookup QgA=some ⟨QB1,QCm,.func (W.fnOf "__init__" "Rows.__init__" (Qq QbP) (Qp QbP) (Qa QbP) .none QCK QDT QCO QCh Qtc QBV),QBH⟩)
 (QnE:W.codeIn K Qtc "Rows.__init__"=true)
 (QnJ:W.keepIn K (.ref QgA)=true)
 (Qme:W.nsIn K mainGlobals "single_row"=some (some (.ref QlR)))
 (QlN:K.lookup QlR=some ⟨QAJ,QAP,.func (W.fnOf "single_row" "single_row" (Qq QaM) (Qp QaM) (Qa QaM) .none QAo QAj QBw QAt Qru QAK),QBu⟩)
 (Ql4:W.codeIn K Qru "single_row"=true)
 (Qid:W.keepIn K (.ref QlR)=true)
 (Qn1:W.isFn K (.ref Qgy)=true)
 (QnR:K.lookup Qgy=some ⟨QC4,QCM,.func (W.fnOf "__init__" "Deal.__init__" (Qq Qaw) (Qp Qaw) (Qa Qaw) .none QDH QD6 QEA QEn Qtj QCi),QBJ⟩)
 (Qnp:W.codeIn K Qtj "Deal.__init__"=true)
 (Qoq:W.keepIn K (.ref Qgy)=true)
 (QkD:W.isFn K (.ref QeR)=true)
 (Qkv:K.lookup QeR=some ⟨Qzc,QxZ,.func (W.fnOf "__init__" "Bundle.__init__" (Qq Qae) (Qp Qae) (Qa Qae) .none QyW Qyd QyQ Qy6 Qo1 QxG),QyV⟩)
 (Qku:W.codeIn K Qo1 "Bundle.__init__"=true)
 (Qko:W.keepIn K (.ref QeR)=true)
 (QnM:W.isFn K (.ref QgF)=true)
 (QnB:K.lookup QgF=some ⟨QEK,QEp,.func (W.fnOf "__init__" "Copy.__init__" (Qq QbN) (Qp QbN) (Qa QbN) .none QEk QEV QCf QCj Qr5 QDA),QDq⟩)
 (QnS:W.codeIn K Qr5 "Copy.__init__"=true)
 (Qop:W.keepIn K (.ref QgF)=true)
 (QnH:W.nsIn K mainGlobals "_law_clerk"=some (some (.ref QoJ)))
 (Qno:K.lookup QoJ=some ⟨QB0,QCY,.func (W.fnOf "_law_clerk" "_law_clerk" (Qq Qac) (Qp Qac) (Qa Qac) .none QCl QCR QCC QBW QsR QEw),QCA⟩)
 (Qn0:W.codeIn K QsR "_law_clerk"=true)
 (Qi0:W.keepIn K (.ref QoJ)=true)
 (Qlz:W.nsIn K mainGlobals "_law_office"=some (some (.ref Qmn)))
 (QlE:K.lookup Qmn=some ⟨QA1,QAO,.func (W.fnOf "_law_office" "_law_office" (Qq Qv) (Qp Qv) (Qa Qv) .none QBn QAI QAd QAC Qrn QBd),QA5⟩)
 (Ql2:W.codeIn K Qrn "_law_office"=true)
 (QhN:W.keepIn K (.ref Qmn)=true)
 (Qnn:W.nsIn K mainGlobals "_law_desks"=some (some (.ref QnI)))
 (Qof:K.lookup QnI=some ⟨QDf,QDR,.func (W.fnOf "_law_desks" "_law_desks" (Qq Qak) (Qp Qak) (Qa Qak) .none QEa QC1 QB3 QEo QsK QDj),QEH⟩)
 (QnV:W.codeIn K QsK "_law_desks"=true)
 (Qjf:W.keepIn K (.ref QnI)=true)
 (QiK:W.isFn K (.ref QdW)=true)
 (QiT:K.lookup QdW=some ⟨Qxf,QwC,.func (W.fnOf "doors" "Office.doors" (Qq Qbd) (Qp Qbd) (Qa Qbd) .none Qxe QwE Qws Qwz QmY Qv5),QwS⟩)
 (Qiv:W.codeIn K QmY "Office.doors"=true)
 (QfZ:W.keepIn K (.ref QdW)=true)
 (Qkm:W.nsIn K mainGlobals "nothing_out"=some (some (.ref QjV)))
 (QjK:K.lookup QjV=some ⟨Qzj,Qzn,.func (W.fnOf "nothing_out" "nothing_out" (Qq Qa3) (Qp Qa3) (Qa Qa3) .none Qzg QxN QyG Qy3 QoL QyP),Qx2⟩)
 (Qkp:W.codeIn K QoL "nothing_out"=true)
 (QgV:W.keepIn K (.ref QjV)=true)
 (QDP:W.nsIn K mainGlobals "able"=some (some (.ref QCX)))
 (QBM:K.lookup QCX=some ⟨QN6,QOx,.func (W.fnOf "able" "able" (Qq QeZ) (Qp QeZ) (Qa QeZ) .none QNP QNQ QNA QOm QH3 QOC),QNM⟩)
 (QCL:W.codeIn K QH3 "able"=true)
 (Qxo:W.keepIn K (.ref QCX)=true)
 (QuS:W.nsIn K mainGlobals "picked"=some (some (.ref Qvu)))
 (QuZ:K.lookup Qvu=some ⟨QLK,QKz,.func (W.fnOf "picked" "picked" (Qq Qcz) (Qp Qcz) (Qa Qcz) .none QLJ QMe QLe QLX Qz6 QKI),QKE⟩)
 (Qvz:W.codeIn K Qz6 "picked"=true)
 (Qqd:W.keepIn K (.ref Qvu)=true)
 (Qiw:W.isFn K (.ref QdX)=true)
 (QiD:K.lookup QdX=some ⟨Qwm,QwM,.func (W.fnOf "clerk" "Office.clerk" (Qq Qbb) (Qp Qbb) (Qa Qbb) .none QwJ Qxj QwZ QwG QmU QwT),Qxu⟩)
 (QiB:W.codeIn K QmU "Office.clerk"=true)
 (Qf9:W.keepIn K (.ref QdX)=true)
 (QH7:W.nsIn K mainGlobals "lay"=some (some (.ref QIR)))
 (QIb:K.lookup QIR=some ⟨QP3,QPM,.func (W.fnOf "lay" "lay" (Qq Qfn) (Qp Qfn) (Qa Qfn) .none QPs QP0 QO0 QPN QLl QPI),QPS⟩)
 (QIV:W.codeIn K QLl "lay"=true)
 (QBD:W.keepIn K (.ref QIR)=true)
 (QiS:W.isFn K (.ref Qd1)=true)
 (Qiq:K.lookup Qd1=some ⟨Qxb,QxA,.func (W.fnOf "leads" "Office.leads" (Qq QaP) (Qp QaP) (Qa QaP) .none Qw2 QwI QwV QxE QmN Qw6),Qxd⟩)
 (Qiy:W.codeIn K QmN "Office.leads"=true)
 (Qf5:W.keepIn K (.ref Qd1)=true)
 (Qe2:W.isFn K (.ref Qbo)=true)
 (Qoz:K.lookup Qbo=some ⟨QCs,QCo,.func (W.fnOf "row" "Clerk.row" (Qq QbO) (Qp QbO) (Qa QbO) .none QEr QDO QDJ QBL QsJ QC9),QBY⟩)
 (QnU:W.codeIn K QsJ "Clerk.row"=true)
 (QdB:W.keepIn K (.ref Qbo)=true)
 (Qu7:W.nsIn K mainGlobals "handle"=some (some (.ref Qvv)))
 (QuW:K.lookup Qvv=some ⟨QLS,QL9,.func (W.fnOf "handle" "handle" (Qq QbT) (Qp QbT) (Qa QbT) .none QKl QLa QKD QL8 QzU QKB),QLM⟩)
 (QvS:W.codeIn K QzU "handle"=true)
 (QpL:W.keepIn K (.ref Qvv)=true)
 (QvK:W.nsIn K mainGlobals "served"=some (some (.ref QvN)))
 (Qu1:K.lookup QvN=some ⟨QLv,QKp,.func (W.fnOf "served" "served" (Qq Q0) (Qp Q0) (Qa Q0) (.ref QuU) Qz5 QzJ QzV QzS Qs9 Qzy),QKq⟩)
 (QvL:W.codeIn K Qs9 "served"=true)
 (Qqk:W.keepIn K (.ref QvN)=true)
 (t_servedh:K.lookup QuU=some ⟨QIi,QIf,.seq #[.none,.int 2000 QzH] QKa,QJv⟩)
 (QqU:W.nsIn K mainGlobals "_law_step"=some (some (.ref QqA)))
 (Qq9:K.lookup QqA=some ⟨QHh,QHs,.func (W.fnOf "_law_step" "_law_step" (Qq QW) (Qp QW) (Qa QW) .none QFL QGA QF4 QFU Quz QG5),QF0⟩)
 (Qqg:W.codeIn K Quz "_law_step"=true)
 (QkV:W.keepIn K (.ref QqA)=true)
 (Qhf:W.nsIn K mainGlobals "_law_last_first"=some (some (.ref Qhd)))
 (Qg6:K.lookup Qhd=some ⟨Qt7,QtY,.func (W.fnOf "_law_last_first" "_law_last_first" (Qq Qn) (Qp Qn) (Qa Qn) .none Qt2 QtW QtX Qug QkK Qt9),Qub⟩)
 (Qha:W.codeIn K QkK "_law_last_first"=true)
 (Qer:W.keepIn K (.ref Qhd)=true)
 (QjR:W.nsIn K mainGlobals "_law_counted"=some (some (.ref Qj9)))
 (Qkd:K.lookup Qj9=some ⟨Qx8,Qza,.func (W.fnOf "_law_counted" "_law_counted" (Qq Q5) (Qp Q5) (Qa Q5) .none Qyg QxO QxM QyY Qpa Qx5),Qx7⟩)
 (Qke:W.codeIn K Qpa "_law_counted"=true)
 (Qg1:W.keepIn K (.ref Qj9)=true)
 (QIx:W.nsIn K mainGlobals "law"=some (some (.ref QJM)))
 (QIN:K.lookup QJM=some ⟨QOS,QOP,.func (W.fnOf "law" "law" (Qq Q6) (Qp Q6) (Qa Q6) .none QLk QKU QK9 QLP QCF QK5),QPk⟩)
 (QIn:W.codeIn K QCF "law"=true)
 (QJw:W.keepIn K (.ref QJM)=true)
 (z_len:W.nsIn K mainGlobals "len"=some none)
 (z_range:W.nsIn K mainGlobals "range"=some none)
 (z_int:W.nsIn K mainGlobals "int"=some none)
 (z_enumerate:W.nsIn K mainGlobals "enumerate"=some none)
 (z_isinstance:W.nsIn K mainGlobals "isinstance"=some none)
 (z_list:W.nsIn K mainGlobals "list"=some none)
 (z_set:W.nsIn K mainGlobals "set"=some none)
 (z_str:W.nsIn K mainGlobals "str"=some none)
 (z_all:W.nsIn K mainGlobals "all"=some none)
 (z_bool:W.nsIn K mainGlobals "bool"=some none)
 (z_tuple:W.nsIn K mainGlobals "tuple"=some none)
 (z_any:W.nsIn K mainGlobals "any"=some none)
 (z_zip:W.nsIn K mainGlobals "zip"=some none)
 (c_MOST_SIGNS:W.nsIn K mainGlobals "MOST_SIGNS"=some (some (.int 6 tk_MOST_SIGNS)))
 (c_LETTERS:W.nsIn K mainGlobals "LETTERS"=some (some (.str "abcdefghijklmnopqrstuvwxyz" tk_LETTERS)))
 (c_MOST_CLERKS:W.nsIn K mainGlobals "MOST_CLERKS"=some (some (.int 60 tk_MOST_CLERKS)))
 (c_MOST_ENTRIES:W.nsIn K mainGlobals "MOST_ENTRIES"=some (some (.int 6 tk_MOST_ENTRIES)))
 (c_MOST_DOORS:W.nsIn K mainGlobals "MOST_DOORS"=some (some (.int 6 tk_MOST_DOORS)))
 (c_MOST_OUTS:W.nsIn K mainGlobals "MOST_OUTS"=some (some (.int 6 tk_MOST_OUTS)))
 (c_MOST_SENT:W.nsIn K mainGlobals "MOST_SENT"=some (some (.int 9 tk_MOST_SENT)))
 (c_MOST_ROWS:W.nsIn K mainGlobals "MOST_ROWS"=some (some (.int 12 tk_MOST_ROWS)))
 (QjZ:W.kitOne K (.ref QN) (.ref QL)=some false)
 (Qox:W.kitOne K (.ref QJ) (.ref QL)=some false)
 (Qor:W.kitOne K (.ref QK) (.ref QL)=some false)
 (Qkl:W.kitOne K (.ref Qy) (.ref QL)=some false)
 (Qos:W.kitOne K (.ref QL) (.ref QL)=some true)
 (Qhy:W.kitOne K (.ref QN) (.ref Qy)=some false)
 (Qj5:W.kitOne K (.ref QJ) (.ref Qy)=some false)
 (Qkk:W.kitOne K (.ref QK) (.ref Qy)=some false)
 (Qh2:W.kitOne K (.ref Qy) (.ref Qy)=some true)
 (Qj7:W.kitOne K (.ref QL) (.ref Qy)=some false)
 (Qkn:W.kitOne K (.ref QN) (.ref QK)=some false)
 (Qov:W.kitOne K (.ref QJ) (.ref QK)=some false)
 (QnO:W.kitOne K (.ref QK) (.ref QK)=some true)
 (QkA:W.kitOne K (.ref Qy) (.ref QK)=some false)
 (Qn7:W.kitOne K (.ref QL) (.ref QK)=some false)
 (Qkw:W.kitOne K (.ref QN) (.ref QJ)=some false)
 (QoD:W.kitOne K (.ref QJ) (.ref QJ)=some true)
 (Qoj:W.kitOne K (.ref QK) (.ref QJ)=some false)
 (Qkh:W.kitOne K (.ref Qy) (.ref QJ)=some false)
 (Qoy:W.kitOne K (.ref QL) (.ref QJ)=some false):
 ∃ fd:FuncData,(∀(s:Shared)(v:Value),BindsTo s fd ⟨[v],[]⟩ [("_law_script",v)])/\∀ base:Heap,K.In base->base.Ns mainGlobals mg->FnOk l.prog w K mg base CX0 9 fa fd ["_law_script"] (SpD K (ctOf K) false Qm7):=by
 have ee:=hfa.symm.trans (W.mg_of X G QIx)
 cases ee
 have QHF:=W.mg_of X G Qxh
 have QbF:=ct_of Qxh
 have QcQ:Cls K QL:=⟨Qyj,QyB,Qyp,Qyq⟩
 have QzX:=W.mg_of X G QpO
 have QaJ:=ct_of QpO
 have Qby:Cls K Qy:=⟨Qs5,Qsa,QsW,Qs4⟩
 have QHJ:=W.mg_of X G QxB
 have QbG:=ct_of QxB
 have QcT:Cls K QK:=⟨QxU,Qy1,Qx6,Qy2⟩
 have QH1:=W.mg_of X G QwD
 have Qbz:=ct_of QwD
 have QcN:Cls K QJ:=⟨Qy7,Qx4,QyC,Qzb⟩
 have QK0:=W.mg_of X G Qq6
 have QaR:=ct_of Qq6
 have Qb3:Cls K QN:=⟨QsY,QsV,Qtm,Qsh⟩
 have fo_table:FldOk K (ctOf K) Qm "table":=by
  intro c hc A hA
  have hm:c∈Qm:=by simpa using hc
  simp only[Qm,List.mem_cons,List.not_mem_nil,or_false]at hm
  rcases hm with rfl | rfl | rfl | rfl | rfl
  ·rw[QbF]at hA;cases hA;exact⟨QcQ,Qka⟩
  ·rw[QaJ]at hA;cases hA;exact⟨Qby,Qih⟩
  ·rw[QbG]at hA;cases hA;exact⟨QcT,Qkf⟩
  ·rw[Qbz]at hA;cases hA;exact⟨QcN,Qkt⟩
  ·rw[QaR]at hA;cases hA;exact⟨Qb3,Qh0⟩
 have fo_clerk_names:FldOk K (ctOf K) Qm "clerk_names":=by
  intro c hc A hA
  have hm:c∈Qm:=by simpa using hc
  simp only[Qm,List.mem_cons,List.not_mem_nil,or_false]at hm
  rcases hm with rfl | rfl | rfl | rfl | rfl
  ·rw[QbF]at hA;cases hA;exact⟨QcQ,Qfk⟩
  ·rw[QaJ]at hA;cases hA;exact⟨Qby,Qd3⟩
  ·rw[QbG]at hA;cases hA;exact⟨QcT,Qfd⟩
  ·rw[Qbz]at hA;cases hA;exact⟨QcN,Qfg⟩
  ·rw[QaR]at hA;cases hA;exact⟨Qb3,QdU⟩
 have fo_door_names:FldOk K (ctOf K) Qm "door_names":=by
  intro c hc A hA
  have hm:c∈Qm:=by simpa using hc
  simp only[Qm,List.mem_cons,List.not_mem_nil,or_false]at hm
  rcases hm with rfl | rfl | rfl | rfl | rfl
  ·rw[QbF]at hA;cases hA;exact⟨QcQ,QfM⟩
  ·rw[QaJ]at hA;cases hA;exact⟨Qby,Qeh⟩
  ·rw[QbG]at hA;cases hA;exact⟨QcT,QfN⟩
  ·rw[Qbz]at hA;cases hA;exact⟨QcN,QfJ⟩
  ·rw[QaR]at hA;cases hA;exact⟨Qb3,Qew⟩
 have fo_entry_places:FldOk K (ctOf K) Qm "entry_places":=by
  intro c hc A hA
  have hm:c∈Qm:=by simpa using hc
  simp only[Qm,List.mem_cons,List.not_mem_nil,or_false]at hm
  rcases hm with rfl | rfl | rfl | rfl | rfl
  ·rw[QbF]at hA;cases hA;exact⟨QcQ,QeO⟩
  ·rw[QaJ]at hA;cases hA;exact⟨Qby,QdI⟩
  ·rw[QbG]at hA;cases hA;exact⟨QcT,Qet⟩
  ·rw[Qbz]at hA;cases hA;exact⟨QcN,QeH⟩
  ·rw[QaR]at hA;cases hA;exact⟨Qb3,Qdt⟩
 have fo_staff:FldOk K (ctOf K) Qm "staff":=by
  intro c hc A hA
  have hm:c∈Qm:=by simpa using hc
  simp only[Qm,List.mem_cons,List.not_mem_nil,or_false]at hm
  rcases hm with rfl | rfl | rfl | rfl | rfl
  ·rw[QbF]at hA;cases hA;exact⟨QcQ,QjS⟩
  ·rw[QaJ]at hA;cases hA;exact⟨Qby,Qij⟩
  ·rw[QbG]at hA;cases hA;exact⟨QcT,Qj2⟩
  ·rw[Qbz]at hA;cases hA;exact⟨QcN,Qkq⟩
  ·rw[QaR]at hA;cases hA;exact⟨Qb3,QhP⟩
 have fo_first_states:FldOk K (ctOf K) Qm "first_states":=by
  intro c hc A hA
  have hm:c∈Qm:=by simpa using hc
  simp only[Qm,List.mem_cons,List.not_mem_nil,or_false]at hm
  rcases hm with rfl | rfl | rfl | rfl | rfl
  ·rw[QbF]at hA;cases hA;exact⟨QcQ,QeF⟩
  ·rw[QaJ]at hA;cases hA;exact⟨Qby,Qdz⟩
  ·rw[QbG]at hA;cases hA;exact⟨QcT,Qek⟩
  ·rw[Qbz]at hA;cases hA;exact⟨QcN,Qei⟩
  ·rw[QaR]at hA;cases hA;exact⟨Qb3,Qdy⟩
 have fo_ways:FldOk K (ctOf K) Qm "ways":=by
  intro c hc A hA
  have hm:c∈Qm:=by simpa using hc
  simp only[Qm,List.mem_cons,List.not_mem_nil,or_false]at hm
  rcases hm with rfl | rfl | rfl | rfl | rfl
  ·rw[QbF]at hA;cases hA;exact⟨QcQ,QlY⟩
  ·rw[QaJ]at hA;cases hA;exact⟨Qby,QiG⟩
  ·rw[QbG]at hA;cases hA;exact⟨QcT,Qlt⟩
  ·rw[Qbz]at hA;cases hA;exact⟨QcN,Qlx⟩
  ·rw[QaR]at hA;cases hA;exact⟨Qb3,Qio⟩
 have fo_heads:FldOk K (ctOf K) Qm "heads":=by
  intro c hc A hA
  have hm:c∈Qm:=by simpa using hc
  simp only[Qm,List.mem_cons,List.not_mem_nil,or_false]at hm
  rcases hm with rfl | rfl | rfl | rfl | rfl
  ·rw[QbF]at hA;cases hA;exact⟨QcQ,Qkg⟩
  ·rw[QaJ]at hA;cases hA;exact⟨Qby,QhC⟩
  ·rw[QbG]at hA;cases hA;exact⟨QcT,Qj3⟩
  ·rw[Qbz]at hA;cases hA;exact⟨QcN,Qki⟩
  ·rw[QaR]at hA;cases hA;exact⟨Qb3,QhF⟩
 have QtH:ClsD K QL:=⟨QcQ,Qx3,y1,y2,Qzw⟩
 have QmT:ClsD K Qy:=⟨Qby,Qtg,y1,y2,QsT⟩
 have Qtw:ClsD K QK:=⟨QcT,Qzq,y1,y2,Qyz⟩
 have QtE:ClsD K QJ:=⟨QcN,Qzk,y1,y2,Qyk⟩
 have Qm1:ClsD K QN:=⟨Qb3,Qtu,y1,y2,QsC⟩
 have QwU:=Qx (st:=Qcf) Qq2 Qp7 Qla
 have QI2:=QwU.binds (ps:=["_law_script","_law_k"]) fun _ _ _ _ _ _ us hl=>match us,hl with | [_,_],_=>rfl
 have QuB:=Qx (st:=QbM) QnF Qn4 Qi3
 have QFA:=QuB.binds (ps:=["_law_cell_here","_law_k"]) fun _ _ _ _ _ _ us hl=>match us,hl with | [_,_],_=>rfl
 have Qsw:=Qx (st:=Qax) Ql1 Qlw QhX
 have QCU:=Qsw.binds (ps:=["_law_cell_here","_law_many"]) fun _ _ _ _ _ _ us hl=>match us,hl with | [_,_],_=>rfl
 have Qso:=Qx (st:=QaD) QlI Ql3 QhJ
 have QEI:=Qso.binds (ps:=["_law_digit","_law_many","_law_tame"]) fun _ _ _ _ _ _ us hl=>match us,hl with | [_,_,_],_=>rfl
 have QwB:=Qx (st:=QB) Qqj QqX Qlb
 have QH8:=QwB.binds (ps:=["_law_digits_here","_law_tame"]) fun _ _ _ _ _ _ us hl=>match us,hl with | [_,_],_=>rfl
 have QuF:=Qx (st:=QaI) Qny QoC Qja
 have QFw:=QuF.binds (ps:=["_law_first","_law_digit","_law_longer"]) fun _ _ _ _ _ _ us hl=>match us,hl with | [_,_,_],_=>rfl
 have Qwb:=Qx (st:=QS) Qqy QpN QkO
 have QJY:=Qwb.binds (ps:=["_law_cell_here","_law_k","_law_many","_law_doors","_law_ring"]) fun _ _ _ _ _ _ us hl=>match us,hl with | [_,_,_,_,_],_=>rfl
 have Qxn:=Qx (st:=Qaa) QpM Qqs Qk1
 have QIe:=Qxn.binds (ps:=["_law_script","_law_most"]) fun _ _ _ _ _ _ us hl=>match us,hl with | [_,_],_=>rfl
 have Qus:=Qx (st:=QaC) QnL QoI Qi9
 have QGI:=Qus.binds (ps:=["names","doors"]) fun _ _ _ _ _ _ us hl=>match us,hl with | [_,_],_=>rfl
 have Qz7:=Qx (st:=Qb2) Qsc Qs8 Qm8
 have QK6:=Qz7.binds (ps:=["thing","most"]) fun _ _ _ _ _ _ us hl=>match us,hl with | [_,_],_=>rfl
 have Qsg:=Qx (st:=Qbm) QlP Ql0 Qif
 have QC5:=Qsg.binds (ps:=["names"]) fun _ _ _ _ _ _ us hl=>match us,hl with | [_],_=>rfl
 have QzK:=Qx (st:=QaT) Qtf Qts Qm0
 have QLn:=QzK.binds (ps:=["thing"]) fun _ _ _ _ _ _ us hl=>match us,hl with | [_],_=>rfl
 have QuA:=Qx (st:=QaB) Qot Qnz Qjb
 have QGn:=QuA.binds (ps:=["thing","most"]) fun _ _ _ _ _ _ us hl=>match us,hl with | [_,_],_=>rfl
 have QuE:=Qx (st:=Qal) QnP Qod Qi2
 have QGg:=QuE.binds (ps:=["thing","many"]) fun _ _ _ _ _ _ us hl=>match us,hl with | [_,_],_=>rfl
 have QxC:=Qx (st:=QbQ) Qqw QqJ QkP
 have QIt:=QxC.binds (ps:=["thing"]) fun _ _ _ _ _ _ us hl=>match us,hl with | [_],_=>rfl
 have Quw:=Qx (st:=Qbn) Qom Qnq Qi6
 have QGG:=Quw.binds (ps:=["thing","least","most"]) fun _ _ _ _ _ _ us hl=>match us,hl with | [_,_,_],_=>rfl
 have Qwx:=Qx (st:=Qbe) QqF Qp8 QkU
 have QIJ:=Qwx.binds (ps:=["thing"]) fun _ _ _ _ _ _ us hl=>match us,hl with | [_],_=>rfl
 have Qsm:=Qx (st:=QbU) QlX QlQ Qc4
 have Qia:=Qsm.binds (ps:=["self"]) fun _ _ _ _ _ _ us hl=>match us,hl with | [_],_=>rfl
 have Qpp:=Qx (st:=Qba) QiE QiM Qcd
 have Qf8:=Qpp.binds (ps:=["self"]) fun _ _ _ _ _ _ us hl=>match us,hl with | [_],_=>rfl
 have QzM:=Qx (st:=QaV) Qs2 QsA Qnk
 have QLW:=QzM.binds (ps:=["thing"]) fun _ _ _ _ _ _ us hl=>match us,hl with | [_],_=>rfl
 have Qul:=Qx (st:=Qab) Qoh Qnu Qje
 have QFG:=Qul.binds (ps:=["thing","doors"]) fun _ _ _ _ _ _ us hl=>match us,hl with | [_,_],_=>rfl
 have Qw0:=Qx (st:=Qa4) Qp0 QpV Qk7
 have QJe:=Qw0.binds (ps:=["thing","names"]) fun _ _ _ _ _ _ us hl=>match us,hl with | [_,_],_=>rfl
 have Qrf:=Qx (st:=QR) Qkz QjU QgN
 have QBq:=Qrf.binds (ps:=["thing","names"]) fun _ _ _ _ _ _ us hl=>match us,hl with | [_,_],_=>rfl
 have QxD:=Qx (st:=QbV) QpF QqC QkX
 have QIX:=QxD.binds (ps:=["seat","places"]) fun _ _ _ _ _ _ us hl=>match us,hl with | [_,_],_=>rfl
 have Qrr:=Qx (st:=Qo) Qj6 QjO Qj0
 have QAp:=Qrr.binds (ps:=["self","clerks","entries","doors"]) fun _ _ _ _ _ _ us hl=>match us,hl with | [_,_,_,_],_=>rfl
 have QzW:=Qx (st:=Qbx) Qsd QsO QmR
 have QLR:=QzW.binds (ps:=["one","other"]) fun _ _ _ _ _ _ us hl=>match us,hl with | [_,_],_=>rfl
 have Qpi:=Qx (st:=Qao) Qin QiN Qgb
 have Qzl:=Qpi.binds (ps:=["rows"]) fun _ _ _ _ _ _ us hl=>match us,hl with | [_],_=>rfl
 have QkH:=Qx (st:=QU) Qgv Qgp Qbi
 have QdO:=QkH.binds (ps:=["self","rows"]) fun _ _ _ _ _ _ us hl=>match us,hl with | [_,_],_=>rfl
 have QEu:=Qx (st:=QaU) Qvt QvP QqM
 have QM5:=QEu.binds (ps:=["thing"]) fun _ _ _ _ _ _ us hl=>match us,hl with | [_],_=>rfl
 have Qwn:=Qx (st:=Q8) Qp2 Qqe Qlc
 have QJG:=Qwn.binds (ps:=["thing"]) fun _ _ _ _ _ _ us hl=>match us,hl with | [_],_=>rfl
 have QuN:=Qx (st:=QbP) QoH QnE QnJ
 have QFE:=QuN.binds (ps:=["self","rows"]) fun _ _ _ _ _ _ us hl=>match us,hl with | [_,_],_=>rfl
 have QrV:=Qx (st:=QaM) QlN Ql4 Qid
 have QCH:=QrV.binds (ps:=["many","place"]) fun _ _ _ _ _ _ us hl=>match us,hl with | [_,_],_=>rfl
 have Qut:=Qx (st:=Qaw) QnR Qnp Qoq
 have QHg:=Qut.binds (ps:=["self","many"]) fun _ _ _ _ _ _ us hl=>match us,hl with | [_,_],_=>rfl
 have Qrc:=Qx (st:=Qae) Qkv Qku Qko
 have QA7:=Qrc.binds (ps:=["self","size"]) fun _ _ _ _ _ _ us hl=>match us,hl with | [_,_],_=>rfl
 have QuL:=Qx (st:=QbN) QnB QnS Qop
 have QGi:=QuL.binds (ps:=["self","counts"]) fun _ _ _ _ _ _ us hl=>match us,hl with | [_,_],_=>rfl
 have Quk:=Qx (st:=Qac) Qno Qn0 Qi0
 have QHk:=Quk.binds (ps:=["_law_kind","_law_rows_here"]) fun _ _ _ _ _ _ us hl=>match us,hl with | [_,_],_=>rfl
 have QsH:=Qx (st:=Qv) QlE Ql2 QhN
 have QDK:=QsH.binds (ps:=["_law_script","_law_plan_here","_law_doors"]) fun _ _ _ _ _ _ us hl=>match us,hl with | [_,_,_],_=>rfl
 have QuK:=Qx (st:=Qak) Qof QnV Qjf
 have QFI:=QuK.binds (ps:=["_law_script","_law_many"]) fun _ _ _ _ _ _ us hl=>match us,hl with | [_,_],_=>rfl
 have Qpv:=Qx (st:=Qbd) QiT Qiv QfZ
 have QxR:=Qpv.binds (ps:=["self"]) fun _ _ _ _ _ _ us hl=>match us,hl with | [_],_=>rfl
 have Qro:=Qx (st:=Qa3) QjK Qkp QgV
 have QAh:=Qro.binds (ps:=["office"]) fun _ _ _ _ _ _ us hl=>match us,hl with | [_],_=>rfl
 have QLL:=Qx (st:=QeZ) QBM QCL Qxo
 have QP8:=QLL.binds (ps:=["desks"]) fun _ _ _ _ _ _ us hl=>match us,hl with | [_],_=>rfl
 have QEx:=Qx (st:=Qcz) QuZ Qvz Qqd
 have QNl:=QEx.binds (ps:=["ready","picks","number"]) fun _ _ _ _ _ _ us hl=>match us,hl with | [_,_,_],_=>rfl
 have QoU:=Qx (st:=Qbb) QiD QiB Qf9
 have Qzp:=QoU.binds (ps:=["self","k"]) fun _ _ _ _ _ _ us hl=>match us,hl with | [_,_],_=>rfl
 have QNv:=Qx (st:=Qfn) QIb QIV QBD
 have QQo:=QNv.binds (ps:=["desks","out","leads","dockets"]) fun _ _ _ _ _ _ us hl=>match us,hl with | [_,_,_,_],_=>rfl
 have Qpf:=Qx (st:=QaP) Qiq Qiy Qf5
 have Qyh:=Qpf.binds (ps:=["self","k"]) fun _ _ _ _ _ _ us hl=>match us,hl with | [_,_],_=>rfl
 have QuC:=Qx (st:=QbO) Qoz QnU QdB
 have QiX:=QuC.binds (ps:=["self","state"]) fun _ _ _ _ _ _ us hl=>match us,hl with | [_,_],_=>rfl
 have QCg:=Qx (st:=QbT) QuW QvS QpL
 have QMq:=QCg.binds (ps:=["office","states","desks","out","k"]) fun _ _ _ _ _ _ us hl=>match us,hl with | [_,_,_,_,_],_=>rfl
 have QMl:=Qx (st:=Q0) Qu1 QvL Qqk
 have Qwi:=Qx (st:=QW) Qq9 Qqg QkV
 have QIz:=Qwi.binds (ps:=["_law_plan_here","_law_doors","_law_states","_law_desks_here","_law_k"]) fun _ _ _ _ _ _ us hl=>match us,hl with | [_,_,_,_,_],_=>rfl
 have QlD:=Qx (st:=Qn) Qg6 Qha Qer
 have QvI:=QlD.binds (ps:=["_law_plan_here","_law_doors","_law_states","_law_desks_here","_law_most"]) fun _ _ _ _ _ _ us hl=>match us,hl with | [_,_,_,_,_],_=>rfl
 have Qrt:=Qx (st:=Q5) Qkd Qke Qg1
 have QA4:=Qrt.binds (ps:=["_law_found","_law_many"]) fun _ _ _ _ _ _ us hl=>match us,hl with | [_,_],_=>rfl
 have QNw:=Qx (st:=Q6) QIN QIn QJw
 have QQr:=QNw.binds (ps:=["_law_script"]) fun _ _ _ _ _ _ us hl=>match us,hl with | [_],_=>rfl
 have zz_len:mg "len"=none:=W.mg_none_of X G z_len
 have zz_range:mg "range"=none:=W.mg_none_of X G z_range
 have zz_int:mg "int"=none:=W.mg_none_of X G z_int
 have zz_enumerate:mg "enumerate"=none:=W.mg_none_of X G z_enumerate
 have zz_isinstance:mg "isinstance"=none:=W.mg_none_of X G z_isinstance
 have zz_list:mg "list"=none:=W.mg_none_of X G z_list
 have zz_set:mg "set"=none:=W.mg_none_of X G z_set
 have zz_str:mg "str"=none:=W.mg_none_of X G z_str
 have zz_all:mg "all"=none:=W.mg_none_of X G z_all
 have zz_bool:mg "bool"=none:=W.mg_none_of X G z_bool
 have zz_tuple:mg "tuple"=none:=W.mg_none_of X G z_tuple
 have zz_any:mg "any"=none:=W.mg_none_of X G z_any
 have zz_zip:mg "zip"=none:=W.mg_none_of X G z_zip
 have cc_MOST_SIGNS:=W.mg_of X G c_MOST_SIGNS
 have cc_LETTERS:=W.mg_of X G c_LETTERS
 have cc_MOST_CLERKS:=W.mg_of X G c_MOST_CLERKS
 have cc_MOST_ENTRIES:=W.mg_of X G c_MOST_ENTRIES
 have cc_MOST_DOORS:=W.mg_of X G c_MOST_DOORS
 have cc_MOST_OUTS:=W.mg_of X G c_MOST_OUTS
 have cc_MOST_SENT:=W.mg_of X G c_MOST_SENT
 have cc_MOST_ROWS:=W.mg_of X G c_MOST_ROWS
 have Qze:KitI K (ctOf K) (.ref QL) [("Deal",true),("Bundle",false),("Copy",false),("Rows",false),("Office",false)]:=(Qas QbF QtH Qos (Qas QaJ QmT Qkl (Qas QbG Qtw Qor (Qas Qbz QtE Qox (Qas QaR Qm1 QjZ QqV)))))
 have QsN:KitI K (ctOf K) (.ref Qy) [("Deal",false),("Bundle",true),("Copy",false),("Rows",false),("Office",false)]:=(Qas QbF QtH Qj7 (Qas QaJ QmT Qh2 (Qas QbG Qtw Qkk (Qas Qbz QtE Qj5 (Qas QaR Qm1 Qhy QqV)))))
 have Qx9:KitI K (ctOf K) (.ref QK) [("Deal",false),("Bundle",false),("Copy",true),("Rows",false),("Office",false)]:=(Qas QbF QtH Qn7 (Qas QaJ QmT QkA (Qas QbG Qtw QnO (Qas Qbz QtE Qov (Qas QaR Qm1 Qkn QqV)))))
 have Qyt:KitI K (ctOf K) (.ref QJ) [("Deal",false),("Bundle",false),("Copy",false),("Rows",true),("Office",false)]:=(Qas QbF QtH Qoy (Qas QaJ QmT Qkh (Qas QbG Qtw Qoj (Qas Qbz QtE QoD (Qas QaR Qm1 Qkw QqV)))))
 refine⟨W.fnOf "law" "law" (Qq Q6) (Qp Q6) (Qa Q6) .none QLk QKU QK9 QLP QCF QK5,fun s v=>.of_eq rfl,fun base _ _=>?_⟩
 have QIO:FnOk l.prog w K mg base CX0 1 _ _ ["_law_script","_law_k"] (SpD K (ctOf K) false QZ):=QJH QwU zz_len
 have QkS:DefOk l.prog w K mg base (ctOf K) "_law_cell" 1 false [] QZ:=⟨_,_,_,_,QIO,W.mg_of X G QpR,Qla,QI2,.nil⟩
 have QHj:FnOk l.prog w K mg base CX0 1 _ _ ["_law_cell_here","_law_k"] (SpD K (ctOf K) false Qa2):=QFf QuB
 have Quo:DefOk l.prog w K mg base (ctOf K) "_law_mixed" 1 false [] Qa2:=⟨_,_,_,_,QHj,W.mg_of X G QnT,Qi3,QFA,.nil⟩
 have QB8:FnOk l.prog w K mg base CX0 2 _ _ ["_law_cell_here","_law_many"] (SpD K (ctOf K) true Qah):=QDh Qsw Quo zz_range
 have Qh3:DefOk l.prog w K mg base (ctOf K) "_law_digits" 2 true [] Qah:=⟨_,_,_,_,QB8,W.mg_of X G Qly,QhX,QCU,.nil⟩
 have QEc:FnOk l.prog w K mg base CX0 1 _ _ ["_law_digit","_law_many","_law_tame"] (SpD K (ctOf K) true Qcl):=QB7 Qso zz_range
 have QCZ:DefOk l.prog w K mg base (ctOf K) "_law_counts" 1 true [] Qcl:=⟨_,_,_,_,QEc,W.mg_of X G QlK,QhJ,QEI,.nil⟩
 have QIy:FnOk l.prog w K mg base CX0 2 _ _ ["_law_digits_here","_law_tame"] (SpD K (ctOf K) false Qev):=QJx QwB QCZ zz_range zz_int
 have QJj:DefOk l.prog w K mg base (ctOf K) "_law_rows" 2 false [] Qev:=⟨_,_,_,_,QIy,W.mg_of X G QpI,Qlb,QH8,.nil⟩
 have QFK:FnOk l.prog w K mg base CX0 1 _ _ ["_law_first","_law_digit","_law_longer"] (SpD K (ctOf K) false QaO):=QGf QuF zz_range
 have Quq:DefOk l.prog w K mg base (ctOf K) "_law_named" 1 false [] QaO:=⟨_,_,_,_,QFK,W.mg_of X G Qou,Qja,QFw,.nil⟩
 have QJF:FnOk l.prog w K mg base CX0 3 _ _ ["_law_cell_here","_law_k","_law_many","_law_doors","_law_ring"] (SpD K (ctOf K) false Qem):=QIA Qwb Qh3 QJj Quq zz_range zz_len
 have QJJ:DefOk l.prog w K mg base (ctOf K) "_law_seat" 3 false [] Qem:=⟨_,_,_,_,QJF,W.mg_of X G Qrb,QkO,QJY,.nil⟩
 have QJt:FnOk l.prog w K mg base CX0 4 _ _ ["_law_script","_law_most"] (SpD K (ctOf K) false Qdn):=QJz Qxn QkS Qh3 QJJ zz_range
 have QH9:DefOk l.prog w K mg base (ctOf K) "_law_plan" 4 false [] Qdn:=⟨_,_,_,_,QJt,W.mg_of X G Qq3,Qk1,QIe,.nil⟩
 have QFX:FnOk l.prog w K mg base CX0 1 _ _ ["names","doors"] (SpD K (ctOf K) true Qdw):=QEZ Qus zz_enumerate
 have QGV:DefOk l.prog w K mg base (ctOf K) "places_of" 1 true [] Qdw:=⟨_,_,_,_,QFX,W.mg_of X G Qow,Qi9,QGI,.nil⟩
 have QLu:FnOk l.prog w K mg base CX0 1 _ _ ["thing","most"] (SpD K (ctOf K) false Qb0):=QLB Qz7 zz_isinstance zz_list zz_len
 have Qsu:DefOk l.prog w K mg base (ctOf K) "is_list" 1 false [] Qb0:=⟨_,_,_,_,QLu,W.mg_of X G QsG,Qm8,QK6,.nil⟩
 have QCe:FnOk l.prog w K mg base CX0 1 _ _ ["names"] (SpD K (ctOf K) false Qaq):=QB9 Qsg zz_len zz_set
 have QlB:DefOk l.prog w K mg base (ctOf K) "all_unlike" 1 false [] Qaq:=⟨_,_,_,_,QCe,W.mg_of X G Qmp,Qif,QC5,.nil⟩
 have QKy:FnOk l.prog w K mg base CX0 1 _ _ ["thing"] (SpD K (ctOf K) false QaQ):=QKb QzK zz_isinstance zz_str zz_len zz_all cc_MOST_SIGNS ⟨_,rfl⟩ cc_LETTERS ⟨_,rfl⟩
 have Qr1:DefOk l.prog w K mg base (ctOf K) "is_name" 1 false [] QaQ:=⟨_,_,_,_,QKy,W.mg_of X G Qtp,Qm0,QLn,.nil⟩
 have QFY:FnOk l.prog w K mg base CX0 2 _ _ ["thing","most"] (SpD K (ctOf K) false QdH):=QHv QuA Qsu Qr1 QlB zz_all
 have QG7:DefOk l.prog w K mg base (ctOf K) "are_names" 2 false [] QdH:=⟨_,_,_,_,QFY,W.mg_of X G Qn2,Qjb,QGn,.nil⟩
 have QFM:FnOk l.prog w K mg base CX0 1 _ _ ["thing","many"] (SpD K (ctOf K) false QdC):=QE1 QuE zz_isinstance zz_list zz_len zz_all zz_str
 have QFS:DefOk l.prog w K mg base (ctOf K) "are_texts" 1 false [] QdC:=⟨_,_,_,_,QFM,W.mg_of X G QnX,Qi2,QGg,.nil⟩
 have QJo:FnOk l.prog w K mg base CX0 1 _ _ ["thing"] (SpD K (ctOf K) false Qen):=QJu QxC zz_isinstance zz_int zz_bool
 have QII:DefOk l.prog w K mg base (ctOf K) "is_whole" 1 false [] Qen:=⟨_,_,_,_,QJo,W.mg_of X G Qp4,QkP,QIt,.nil⟩
 have QGS:FnOk l.prog w K mg base CX0 2 _ _ ["thing","least","most"] (SpD K (ctOf K) false QaN):=QGE Quw QII
 have QiV:DefOk l.prog w K mg base (ctOf K) "is_within" 2 false [] QaN:=⟨_,_,_,_,QGS,W.mg_of X G QnD,Qi6,QGG,.nil⟩
 have QIS:FnOk l.prog w K mg base CX0 1 _ _ ["thing"] (SpD K (ctOf K) false QeD):=QIK Qwx zz_isinstance QHF QzX QHJ QH1 Qze QsN Qx9 Qyt
 have QJZ:DefOk l.prog w K mg base (ctOf K) "is_clerk" 1 false [] QeD:=⟨_,_,_,_,QIS,W.mg_of X G Qqo,QkU,QIJ,.nil⟩
 have QhH:FnOk l.prog w K mg base CX0 1 _ _ ["self"] (SpD K (ctOf K) false Qcq):=QEd Qsm zz_len fo_table
 have mt_outs:MtOk l.prog w K mg base (ctOf K) CX0 "outs" 1 Qg (fun c=>SpD K (ctOf K) false ((fun _=>Qcq) c)):=by
  intro c hc
  have hm:c∈Qg:=by simpa using hc
  simp only[Qg,List.mem_cons,List.not_mem_nil,or_false]at hm
  rcases hm with rfl | rfl | rfl | rfl
  ·exact⟨QL,QaW,_,_,QbF,QcQ,⟨QnY,QdZ,Qc4⟩,QhH.mono (by decide),Qia⟩
  ·exact⟨Qy,QaW,_,_,QaJ,Qby,⟨Qkb,QdZ,Qc4⟩,QhH.mono (by decide),Qia⟩
  ·exact⟨QK,QaW,_,_,QbG,QcT,⟨Qnx,QdZ,Qc4⟩,QhH.mono (by decide),Qia⟩
  ·exact⟨QJ,QaW,_,_,Qbz,QcN,⟨Qns,QdZ,Qc4⟩,QhH.mono (by decide),Qia⟩
 have Qf2:FnOk l.prog w K mg base CX0 1 _ _ ["self"] (SpD K (ctOf K) false QaH):=QxF Qpp zz_len fo_table
 have mt_period:MtOk l.prog w K mg base (ctOf K) CX0 "period" 1 Qg (fun c=>SpD K (ctOf K) false ((fun _=>QaH) c)):=by
  intro c hc
  have hm:c∈Qg:=by simpa using hc
  simp only[Qg,List.mem_cons,List.not_mem_nil,or_false]at hm
  rcases hm with rfl | rfl | rfl | rfl
  ·exact⟨QL,QaF,_,_,QbF,QcQ,⟨QkE,QcR,Qcd⟩,Qf2.mono (by decide),Qf8⟩
  ·exact⟨Qy,QaF,_,_,QaJ,Qby,⟨Qic,QcR,Qcd⟩,Qf2.mono (by decide),Qf8⟩
  ·exact⟨QK,QaF,_,_,QbG,QcT,⟨QkC,QcR,Qcd⟩,Qf2.mono (by decide),Qf8⟩
  ·exact⟨QJ,QaF,_,_,Qbz,QcN,⟨Qks,QcR,Qcd⟩,Qf2.mono (by decide),Qf8⟩
 have QLY:FnOk l.prog w K mg base CX0 3 _ _ ["thing"] (SpD K (ctOf K) false Qfv):=QL2 QzM Qr1 QJZ QFS QiV zz_isinstance zz_tuple zz_len mt_outs mt_period
 have QLG:DefOk l.prog w K mg base (ctOf K) "is_seat" 3 false [] Qfv:=⟨_,_,_,_,QLY,W.mg_of X G Qs7,Qnk,QLW,.nil⟩
 have QGj:FnOk l.prog w K mg base CX0 4 _ _ ["thing","doors"] (SpD K (ctOf K) false QdL):=QF8 Qul Qsu QLG QlB zz_all cc_MOST_CLERKS ⟨_,rfl⟩
 have QGk:DefOk l.prog w K mg base (ctOf K) "are_seats" 4 false [] QdL:=⟨_,_,_,_,QGj,W.mg_of X G Qnv,Qje,QFG,.nil⟩
 have QJN:FnOk l.prog w K mg base CX0 2 _ _ ["thing","names"] (SpD K (ctOf K) false Qes):=QIm Qw0 Qr1 zz_isinstance zz_tuple zz_len
 have QIj:DefOk l.prog w K mg base (ctOf K) "is_entry" 2 false [] Qes:=⟨_,_,_,_,QJN,W.mg_of X G QpW,Qk7,QJe,.nil⟩
 have QA9:FnOk l.prog w K mg base CX0 3 _ _ ["thing","names"] (SpD K (ctOf K) false Qcw):=QBg Qrf Qsu QIj QlB zz_all cc_MOST_ENTRIES ⟨_,rfl⟩
 have QBA:DefOk l.prog w K mg base (ctOf K) "are_entries" 3 false [] Qcw:=⟨_,_,_,_,QA9,W.mg_of X G QjY,QgN,QBq,.nil⟩
 have QIu:FnOk l.prog w K mg base CX0 1 _ _ ["seat","places"] (SpD K (ctOf K) true QeM):=QJC QxD
 have QI5:DefOk l.prog w K mg base (ctOf K) "leads_to" 1 true [] QeM:=⟨_,_,_,_,QIu,W.mg_of X G Qqz,QkX,QIX,.nil⟩
 have QBi:FnOk l.prog w K mg base (CXR l.prog w) 5 _ _ ["self","clerks","entries","doors"] (SpI K (ctOf K) Qbt):=QAx Qrr QG7 QGk QBA QGV QI5 zz_any zz_list cc_MOST_DOORS ⟨_,rfl⟩ fo_clerk_names fo_door_names fo_entry_places fo_staff fo_first_states fo_ways
 have QsU:MkOk l.prog w K mg base (ctOf K) "Office" 5 Qbt:=⟨QN,QeV,_,_,QaR,QK0,⟨QqE,Qj1,QjM,Qql⟩,QBi,QAp⟩
 have QJ4:FnOk l.prog w K mg base CX0 1 _ _ ["one","other"] (SpD K (ctOf K) true Qeb):=QKV QzW zz_zip
 have QLI:DefOk l.prog w K mg base (ctOf K) "sums_of" 1 true [] Qeb:=⟨_,_,_,_,QJ4,W.mg_of X G QsX,QmR,QLR,.nil⟩
 have QxY:FnOk l.prog w K mg base CX0 2 _ _ ["rows"] (SpD K (ctOf K) true Qa8):=QyU Qpi QLI
 have QyH:DefOk l.prog w K mg base (ctOf K) "running_sums" 2 true [] Qa8:=⟨_,_,_,_,QxY,W.mg_of X G QiQ,Qgb,Qzl,.nil⟩
 have QdP:FnOk l.prog w K mg base (CXR l.prog w) 3 _ _ ["self","rows"] (SpI K (ctOf K) QP):=Qt3 QkH QyH zz_list fo_table fo_heads
 have ms_keep_rows:MtOk l.prog w K mg base (ctOf K) (CXR l.prog w) "keep_rows" 3 Qg (fun _=>SpI K (ctOf K) QP):=by
  intro c hc
  have hm:c∈Qg:=by simpa using hc
  simp only[Qg,List.mem_cons,List.not_mem_nil,or_false]at hm
  rcases hm with rfl | rfl | rfl | rfl
  ·exact⟨QL,Qag,_,_,QbF,QcQ,⟨Qhi,QbZ,Qbi⟩,QdP.mono (by decide),QdO⟩
  ·exact⟨Qy,Qag,_,_,QaJ,Qby,⟨QfD,QbZ,Qbi⟩,QdP.mono (by decide),QdO⟩
  ·exact⟨QK,Qag,_,_,QbG,QcT,⟨Qhc,QbZ,Qbi⟩,QdP.mono (by decide),QdO⟩
  ·exact⟨QJ,Qag,_,_,Qbz,QcN,⟨Qg2,QbZ,Qbi⟩,QdP.mono (by decide),QdO⟩
 have QMK:FnOk l.prog w K mg base CX0 3 _ _ ["thing"] (SpD K (ctOf K) false Qep):=QNr QEu QiV zz_isinstance zz_list zz_len zz_all cc_MOST_OUTS ⟨_,rfl⟩ cc_MOST_SENT ⟨_,rfl⟩
 have QDQ:DefOk l.prog w K mg base (ctOf K) "is_row" 3 false [] Qep:=⟨_,_,_,_,QMK,W.mg_of X G QvY,QqM,QM5,.nil⟩
 have QIg:FnOk l.prog w K mg base CX0 4 _ _ ["thing"] (SpD K (ctOf K) false QeL):=QIq Qwn QDQ zz_isinstance zz_list zz_len zz_all cc_MOST_ROWS ⟨_,rfl⟩
 have QI0:DefOk l.prog w K mg base (ctOf K) "is_table" 4 false [] QeL:=⟨_,_,_,_,QIg,W.mg_of X G Qq8,Qlc,QJG,.nil⟩
 have QGq:FnOk l.prog w K mg base (CXR l.prog w) 5 _ _ ["self","rows"] (SpI K (ctOf K) QdG):=QFP QuN QI0 ms_keep_rows
 have Qyv:MkOk l.prog w K mg base (ctOf K) "Rows" 5 QdG:=⟨QJ,QgA,_,_,Qbz,QH1,⟨QvT,Qog,QoB,QvG⟩,QGq,QFE⟩
 have QD0:FnOk l.prog w K mg base CX0 1 _ _ ["many","place"] (SpD K (ctOf K) true QcU):=QDa QrV zz_range
 have QBK:DefOk l.prog w K mg base (ctOf K) "single_row" 1 true [] QcU:=⟨_,_,_,_,QD0,W.mg_of X G Qme,Qid,QCH,.nil⟩
 have QE7:FnOk l.prog w K mg base (CXR l.prog w) 4 _ _ ["self","many"] (SpI K (ctOf K) QdE):=QGY Qut QiV QBK zz_range cc_MOST_OUTS ⟨_,rfl⟩ ms_keep_rows
 have QyF:MkOk l.prog w K mg base (ctOf K) "Deal" 4 QdE:=⟨QL,Qgy,_,_,QbF,QHF,⟨QvM,QnC,Qn1,Qu3⟩,QE7,QHg⟩
 have QAZ:FnOk l.prog w K mg base (CXR l.prog w) 4 _ _ ["self","size"] (SpI K (ctOf K) Qcy):=QAu Qrc QiV zz_range cc_MOST_ROWS ⟨_,rfl⟩ ms_keep_rows
 have Qsv:MkOk l.prog w K mg base (ctOf K) "Bundle" 4 Qcy:=⟨Qy,QeR,_,_,QaJ,QzX,⟨Qp9,QjQ,QkD,QqP⟩,QAZ,QA7⟩
 have QFO:FnOk l.prog w K mg base (CXR l.prog w) 4 _ _ ["self","counts"] (SpI K (ctOf K) QdJ):=QGd QuL QDQ ms_keep_rows
 have Qzf:MkOk l.prog w K mg base (ctOf K) "Copy" 4 QdJ:=⟨QK,QgF,_,_,QbG,QHJ,⟨Qu9,Qon,QnM,QvQ⟩,QFO,QGi⟩
 have QFZ:FnOk l.prog w K mg base CX0 7 _ _ ["_law_kind","_law_rows_here"] (SpD K (ctOf K) true Qch):=QFp Quk zz_len zz_list QyF Qsv Qzf Qyv
 have QHm:DefOk l.prog w K mg base (ctOf K) "_law_clerk" 7 true [] Qch:=⟨_,_,_,_,QFZ,W.mg_of X G QnH,Qi0,QHk,.nil⟩
 have QCd:FnOk l.prog w K mg base CX0 8 _ _ ["_law_script","_law_plan_here","_law_doors"] (SpD K (ctOf K) true Qco):=QEh QsH Qh3 QkS Quq QHm zz_range QsU
 have QCq:DefOk l.prog w K mg base (ctOf K) "_law_office" 8 true [] Qco:=⟨_,_,_,_,QCd,W.mg_of X G Qlz,QhN,QDK,.nil⟩
 have QFF:FnOk l.prog w K mg base CX0 3 _ _ ["_law_script","_law_many"] (SpD K (ctOf K) true QcH):=QE6 QuK QkS Qh3 zz_range
 have QFV:DefOk l.prog w K mg base (ctOf K) "_law_desks" 3 true [] QcH:=⟨_,_,_,_,QFF,W.mg_of X G Qnn,Qjf,QFI,.nil⟩
 have Qya:FnOk l.prog w K mg base CX0 1 _ _ ["self"] (SpD K (ctOf K) true Qa6):=Qzd Qpv zz_list fo_door_names
 have mt_doors:MtOk l.prog w K mg base (ctOf K) CX0 "doors" 1 QX (fun c=>SpD K (ctOf K) true ((fun _=>Qa6) c)):=by
  intro c hc
  have hm:c∈QX:=by simpa using hc
  simp only[QX,List.mem_cons,List.not_mem_nil,or_false]at hm
  rcases hm with rfl
  ·exact⟨QN,QdW,_,_,QaR,Qb3,⟨QiR,QiK,QfZ⟩,Qya.mono (by decide),QxR⟩
 have QAf:FnOk l.prog w K mg base CX0 2 _ _ ["office"] (SpD K (ctOf K) true Qcx):=QAN Qro mt_doors
 have QBx:DefOk l.prog w K mg base (ctOf K) "nothing_out" 2 true [] Qcx:=⟨_,_,_,_,QAf,W.mg_of X G Qkm,QgV,QAh,.nil⟩
 have QOV:FnOk l.prog w K mg base CX0 1 _ _ ["desks"] (SpD K (ctOf K) true Qb6):=QPC QLL zz_enumerate
 have QKm:DefOk l.prog w K mg base (ctOf K) "able" 1 true [] Qb6:=⟨_,_,_,_,QOV,W.mg_of X G QDP,Qxo,QP8,.nil⟩
 have QMv:FnOk l.prog w K mg base CX0 1 _ _ ["ready","picks","number"] (SpD K (ctOf K) false Qhb):=QNu QEx zz_len
 have QMm:DefOk l.prog w K mg base (ctOf K) "picked" 1 false [] Qhb:=⟨_,_,_,_,QMv,W.mg_of X G QuS,Qqd,QNl,.nil⟩
 have Qyb:FnOk l.prog w K mg base CX0 1 _ _ ["self","k"] (SpD K (ctOf K) false QbD):=Qyy QoU fo_staff
 have mt_clerk:MtOk l.prog w K mg base (ctOf K) CX0 "clerk" 1 QX (fun c=>SpD K (ctOf K) false ((fun _=>QbD) c)):=by
  intro c hc
  have hm:c∈QX:=by simpa using hc
  simp only[QX,List.mem_cons,List.not_mem_nil,or_false]at hm
  rcases hm with rfl
  ·exact⟨QN,QdX,_,_,QaR,Qb3,⟨Qix,Qiw,Qf9⟩,Qyb.mono (by decide),Qzp⟩
 have QQl:FnOk l.prog w K mg base CX0 1 _ _ ["desks","out","leads","dockets"] (SpW K (ctOf K) false [true,true,false,false] Qqt):=QQm QNv zz_zip
 have QQk:DefW l.prog w K mg base (ctOf K) "lay" 1 false [true,true,false,false] Qqt:=⟨_,_,_,QQl,W.mg_of X G QH7,QBD,QQo⟩
 have Qyc:FnOk l.prog w K mg base CX0 1 _ _ ["self","k"] (SpD K (ctOf K) true QbC):=Qyf Qpf zz_list fo_ways
 have mt_leads:MtOk l.prog w K mg base (ctOf K) CX0 "leads" 1 QX (fun c=>SpD K (ctOf K) true ((fun _=>QbC) c)):=by
  intro c hc
  have hm:c∈QX:=by simpa using hc
  simp only[QX,List.mem_cons,List.not_mem_nil,or_false]at hm
  rcases hm with rfl
  ·exact⟨QN,Qd1,_,_,QaR,Qb3,⟨QiA,QiS,Qf5⟩,Qyc.mono (by decide),Qyh⟩
 have QiY:FnOk l.prog w K mg base CX0 1 _ _ ["self","state"] (SpD K (ctOf K) true QcK):=QHl QuC zz_list fo_table
 have mt_row:MtOk l.prog w K mg base (ctOf K) CX0 "row" 1 Qg (fun c=>SpD K (ctOf K) true ((fun _=>QcK) c)):=by
  intro c hc
  have hm:c∈Qg:=by simpa using hc
  simp only[Qg,List.mem_cons,List.not_mem_nil,or_false]at hm
  rcases hm with rfl | rfl | rfl | rfl
  ·exact⟨QL,Qbo,_,_,QbF,QcQ,⟨QpG,Qe2,QdB⟩,QiY.mono (by decide),QiX⟩
  ·exact⟨Qy,Qbo,_,_,QaJ,Qby,⟨Qmh,Qe2,QdB⟩,QiY.mono (by decide),QiX⟩
  ·exact⟨QK,Qbo,_,_,QbG,QcT,⟨Qqa,Qe2,QdB⟩,QiY.mono (by decide),QiX⟩
  ·exact⟨QJ,Qbo,_,_,Qbz,QcN,⟨QqR,Qe2,QdB⟩,QiY.mono (by decide),QiX⟩
 have QNh:FnOk l.prog w K mg base CX0 2 _ _ ["office","states","desks","out","k"] (SpW K (ctOf K) false [false,true,true,true,false] Qg7):=QM2 QCg QQk mt_clerk mt_leads mt_row mt_period
 have QMY:DefW l.prog w K mg base (ctOf K) "handle" 2 false [false,true,true,true,false] Qg7:=⟨_,_,_,QNh,W.mg_of X G Qu7,QpL,QMq⟩
 have QNp:FnOk l.prog w K mg base CX0 3 _ _ ["office","states","desks","picks","most"] (SpD K (ctOf K) false QdD):=QMN QMl QBx QKm QMm QMY zz_list zz_len
 have B_served_0:Binds K (W.fnOf "served" "served" (Qq Q0) (Qp Q0) (Qa Q0) (.ref QuU) Qz5 QzJ QzV QzS Qs9 Qzy) ["office","states","desks","picks","most"] []:=fun s us kin hl=>by
  match us,hl with
  | [],hh=>exact absurd hh (by simp)
  | [_],hh=>exact absurd hh (by simp)
  | [_,_],hh=>exact absurd hh (by simp)
  | [_,_,_],hh=>exact absurd hh (by simp)
  | [_,_,_,_],hh=>exact absurd hh (by simp)
  | [_,_,_,_,_],_=>exact W.binds_K kin rfl t_servedh rfl rfl rfl
  | _::_::_::_::_::_::_,hh=>exact absurd hh (by simp<;>omega)
 have QNf:DefOk l.prog w K mg base (ctOf K) "served" 3 false [] QdD:=⟨_,_,_,_,QNp,W.mg_of X G QvK,Qqk,B_served_0,.nil⟩
 have QIG:FnOk l.prog w K mg base CX0 1 _ _ ["_law_plan_here","_law_doors","_law_states","_law_desks_here","_law_k"] (SpD K (ctOf K) false Qex):=QJX Qwi zz_list zz_len zz_range
 have QIF:DefOk l.prog w K mg base (ctOf K) "_law_step" 1 false [] Qex:=⟨_,_,_,_,QIG,W.mg_of X G QqU,QkV,QIz,.nil⟩
 have QvB:FnOk l.prog w K mg base CX0 2 _ _ ["_law_plan_here","_law_doors","_law_states","_law_desks_here","_law_most"] (SpD K (ctOf K) false QaZ):=Qvp QlD QIF zz_range zz_len zz_zip
 have QvF:DefOk l.prog w K mg base (ctOf K) "_law_last_first" 2 false [] QaZ:=⟨_,_,_,_,QvB,W.mg_of X G Qhf,Qer,QvI,.nil⟩
 have QAm:FnOk l.prog w K mg base CX0 1 _ _ ["_law_found","_law_many"] (SpD K (ctOf K) true Qbp):=QAg Qrt zz_range zz_len
 have QAM:DefOk l.prog w K mg base (ctOf K) "_law_counted" 1 true [] Qbp:=⟨_,_,_,_,QAm,W.mg_of X G QjR,Qg1,QA4,.nil⟩
 have QQn:FnOk l.prog w K mg base CX0 9 _ _ ["_law_script"] (SpD K (ctOf K) false Qm7):=QQj QNw QH9 QCq QFV Quo QkS QNf QvF QKm QAM zz_len zz_range
 exact QQn
theorem walk{l:W.OpenLaw}{q:Program}{loose:List Str}{XP:(Str->Option Value)->Heap->Prop}{YP:World->Heap->Prop}{d:DefRec}{K:Params->W.Frag}(hn:l.most=some 63)(hdf:d.params.defaults=[])
 (hY:∀(w:World)(h:Heap),YP w h->(K w.params).In h) (hlaw:∀ ns:List Int,ns.length<=63->(∀ z∈ns,bitsI z<=1048576)->Qm7 [.lst (ns.map .int)]=.ok (.bl true))
 (F:∀(w:World)(mg:‹"Y"›)(fa:Addr)(h:Heap),(K w.params).In h->h.Ns mainGlobals mg->mg d.name=some (.ref fa)->
  ∃ fd:FuncData,(∀(s:Shared)(u:Value),BindsTo s fd ⟨[u],[]⟩ [("_law_script",u)])/\∀ base:Heap,(K w.params).In base->base.Ns mainGlobals mg->FnOk l.prog w (K w.params) mg base CX0 9 fa fd ["_law_script"] (SpD (K w.params) (ctOf (K w.params)) false Qm7)):
 W.WalkO q loose XP YP l.row.toRowW d [] (fun f vs=>PySem.call f vs):=
 DL.walk_of (n:=63) (k:=9) (x:="_law_script") (CX:=fun _=>CX0) (sp:=fun w=>SpD (K w.params) (ctOf (K w.params)) false Qm7) hn (by decide) hdf ⟨rfl,by decide,by decide⟩ hY F
  (fun w H a ns hl hbits _ hS=>⟨[.lst (ns.map .int)],H,Same.refl H,⟨.ref a,[],rfl,⟨a,_,rfl,hS,RepL.map_int ns⟩,rfl⟩,by rw[hlaw ns hl hbits];exact fun v H' G' _ _ _ _ r=>r⟩) fun _ _ _ _ _ z=>z
end My
open PySem PySem.W PyProof.Rows
set_option maxRecDepth 100000 in
set_option maxHeartbeats 0 in
theorem PySem.Challenge.cw_dockethall_k35_whole_any_order_holds : PySem.Challenge.rw_dockethall_k35_whole_any_order.Holds := by
 w_on;o_law;k_head;(case hw=>w_witness2)
 k_fill
 refine My.walk (l:=PySem.Challenge.rw_dockethall_k35_whole_any_order) rfl rfl (fun w h Y=>PySem.W.kIn_of Y) My.the_law ?F
 case F=>
  intro w mg fa h KX G hmg
  refine' My.all_mk KX G hmg ?Qxh ?Qyj ?QyB ?Qyp ?Qyq ?Qka ?Qfk ?QfM ?QeO ?QjS ?QeF ?QlY ?Qkg ?QpO ?Qs5 ?Qsa ?QsW ?Qs4 ?Qih ?Qd3 ?Qeh ?QdI ?Qij ?Qdz ?QiG ?QhC ?QxB ?QxU ?Qy1 ?Qx6 ?Qy2 ?Qkf ?Qfd ?QfN ?Qet ?Qj2 ?Qek ?Qlt ?Qj3 ?QwD ?Qy7 ?Qx4 ?QyC ?Qzb ?Qkt ?Qfg ?QfJ ?QeH ?Qkq ?Qei ?Qlx ?Qki ?Qq6 ?QsY ?QsV ?Qtm ?Qsh ?Qh0 ?QdU ?Qew ?Qdt ?QhP ?Qdy ?Qio ?QhF ?QnY ?Qkb ?Qnx ?Qns ?QkE ?Qic ?QkC ?Qks ?QiR ?Qix ?QiA ?QpG ?Qmh ?Qqa ?QqR ?Qhi ?QfD ?Qhc ?Qg2 ?QnC ?QjQ ?Qon ?Qog ?Qj1 ?QvM ?Qu3 ?Qp9 ?QqP ?Qu9 ?QvQ ?QvT ?QvG ?QqE ?Qql ?y1 ?y2 ?Qx3 ?Qzw ?Qtg ?QsT ?Qzq ?Qyz ?Qzk ?Qyk ?Qtu ?QsC ?QpR ?Qq2 ?Qp7 ?Qla ?QnT ?QnF ?Qn4 ?Qi3 ?Qly ?Ql1 ?Qlw ?QhX ?QlK ?QlI ?Ql3 ?QhJ ?QpI ?Qqj ?QqX ?Qlb ?Qou ?Qny ?QoC ?Qja ?Qrb ?Qqy ?QpN ?QkO ?Qq3 ?QpM ?Qqs ?Qk1 ?Qow ?QnL ?QoI ?Qi9 ?QsG ?Qsc ?Qs8 ?Qm8 ?Qmp ?QlP ?Ql0 ?Qif ?Qtp ?Qtf ?Qts ?Qm0 ?Qn2 ?Qot ?Qnz ?Qjb ?QnX ?QnP ?Qod ?Qi2 ?Qp4 ?Qqw ?QqJ ?QkP ?QnD ?Qom ?Qnq ?Qi6 ?Qqo ?QqF ?Qp8 ?QkU ?QdZ ?QlX ?QlQ ?Qc4 ?QcR ?QiE ?QiM ?Qcd ?Qs7 ?Qs2 ?QsA ?Qnk ?Qnv ?Qoh ?Qnu ?Qje ?QpW ?Qp0 ?QpV ?Qk7 ?QjY ?Qkz ?QjU ?QgN ?Qqz ?QpF ?QqC ?QkX ?QjM ?Qj6 ?QjO ?Qj0 ?QsX ?Qsd ?QsO ?QmR ?QiQ ?Qin ?QiN ?Qgb ?QbZ ?Qgv ?Qgp ?Qbi ?QvY ?Qvt ?QvP ?QqM ?Qq8 ?Qp2 ?Qqe ?Qlc ?QoB ?QoH ?QnE ?QnJ ?Qme ?QlN ?Ql4 ?Qid ?Qn1 ?QnR ?Qnp ?Qoq ?QkD ?Qkv ?Qku ?Qko ?QnM ?QnB ?QnS ?Qop ?QnH ?Qno ?Qn0 ?Qi0 ?Qlz ?QlE ?Ql2 ?QhN ?Qnn ?Qof ?QnV ?Qjf ?QiK ?QiT ?Qiv ?QfZ ?Qkm ?QjK ?Qkp ?QgV ?QDP ?QBM ?QCL ?Qxo ?QuS ?QuZ ?Qvz ?Qqd ?Qiw ?QiD ?QiB ?Qf9 ?QH7 ?QIb ?QIV ?QBD ?QiS ?Qiq ?Qiy ?Qf5 ?Qe2 ?Qoz ?QnU ?QdB ?Qu7 ?QuW ?QvS ?QpL ?QvK ?Qu1 ?QvL ?Qqk ?t_servedh ?QqU ?Qq9 ?Qqg ?QkV ?Qhf ?Qg6 ?Qha ?Qer ?QjR ?Qkd ?Qke ?Qg1 ?QIx ?QIN ?QIn ?QJw ?z_len ?z_range ?z_int ?z_enumerate ?z_isinstance ?z_list ?z_set ?z_str ?z_all ?z_bool ?z_tuple ?z_any ?z_zip ?c_MOST_SIGNS ?c_LETTERS ?c_MOST_CLERKS ?c_MOST_ENTRIES ?c_MOST_DOORS ?c_MOST_OUTS ?c_MOST_SENT ?c_MOST_ROWS ?QjZ ?Qox ?Qor ?Qkl ?Qos ?Qhy ?Qj5 ?Qkk ?Qh2 ?Qj7 ?Qkn ?Qov ?QnO ?QkA ?Qn7 ?Qkw ?QoD ?Qoj ?Qkh ?Qoy
  (case Qxh=>k_is)
  (case Qyj=>k_is)
  (case QyB=>k_is)
  (case Qyp=>k_is)
  (case Qyq=>k_is)
  (case Qka=>k_is)
  (case Qfk=>k_is)
  (case QfM=>k_is)
  (case QeO=>k_is)
  (case QjS=>k_is)
  (case QeF=>k_is)
  (case QlY=>k_is)
  (case Qkg=>k_is)
  (case QpO=>k_is)
  (case Qs5=>k_is)
  (case Qsa=>k_is)
  (case QsW=>k_is)
  (case Qs4=>k_is)
  (case Qih=>k_is)
  (case Qd3=>k_is)
  (case Qeh=>k_is)
  (case QdI=>k_is)
  (case Qij=>k_is)
  (case Qdz=>k_is)
  (case QiG=>k_is)
  (case QhC=>k_is)
  (case QxB=>k_is)
  (case QxU=>k_is)
  (case Qy1=>k_is)
  (case Qx6=>k_is)
  (case Qy2=>k_is)
  (case Qkf=>k_is)
  (case Qfd=>k_is)
  (case QfN=>k_is)
  (case Qet=>k_is)
  (case Qj2=>k_is)
  (case Qek=>k_is)
  (case Qlt=>k_is)
  (case Qj3=>k_is)
  (case QwD=>k_is)
  (case Qy7=>k_is)
  (case Qx4=>k_is)
  (case QyC=>k_is)
  (case Qzb=>k_is)
  (case Qkt=>k_is)
  (case Qfg=>k_is)
  (case QfJ=>k_is)
  (case QeH=>k_is)
  (case Qkq=>k_is)
  (case Qei=>k_is)
  (case Qlx=>k_is)
  (case Qki=>k_is)
  (case Qq6=>k_is)
  (case QsY=>k_is)
  (case QsV=>k_is)
  (case Qtm=>k_is)
  (case Qsh=>k_is)
  (case Qh0=>k_is)
  (case QdU=>k_is)
  (case Qew=>k_is)
  (case Qdt=>k_is)
  (case QhP=>k_is)
  (case Qdy=>k_is)
  (case Qio=>k_is)
  (case QhF=>k_is)
  (case QnY=>k_is)
  (case Qkb=>k_is)
  (case Qnx=>k_is)
  (case Qns=>k_is)
  (case QkE=>k_is)
  (case Qic=>k_is)
  (case QkC=>k_is)
  (case Qks=>k_is)
  (case QiR=>k_is)
  (case Qix=>k_is)
  (case QiA=>k_is)
  (case QpG=>k_is)
  (case Qmh=>k_is)
  (case Qqa=>k_is)
  (case QqR=>k_is)
  (case Qhi=>k_is)
  (case QfD=>k_is)
  (case Qhc=>k_is)
  (case Qg2=>k_is)
  (case QnC=>k_is)
  (case QjQ=>k_is)
  (case Qon=>k_is)
  (case Qog=>k_is)
  (case Qj1=>k_is)
  (case QvM=>k_is)
  (case Qu3=>k_is)
  (case Qp9=>k_is)
  (case QqP=>k_is)
  (case Qu9=>k_is)
  (case QvQ=>k_is)
  (case QvT=>k_is)
  (case QvG=>k_is)
  (case QqE=>k_is)
  (case Qql=>k_is)
  (case y1=>k_is)
  (case y2=>k_is)
  (case Qx3=>k_is)
  (case Qzw=>k_is)
  (case Qtg=>k_is)
  (case QsT=>k_is)
  (case Qzq=>k_is)
  (case Qyz=>k_is)
  (case Qzk=>k_is)
  (case Qyk=>k_is)
  (case Qtu=>k_is)
  (case QsC=>k_is)
  (case QpR=>k_is)
  (case Qq2=>k_is)
  (case Qp7=>k_is)
  (case Qla=>k_is)
  (case QnT=>k_is)
  (case QnF=>k_is)
  (case Qn4=>k_is)
  (case Qi3=>k_is)
  (case Qly=>k_is)
  (case Ql1=>k_is)
  (case Qlw=>k_is)
  (case QhX=>k_is)
  (case QlK=>k_is)
  (case QlI=>k_is)
  (case Ql3=>k_is)
  (case QhJ=>k_is)
  (case QpI=>k_is)
  (case Qqj=>k_is)
  (case QqX=>k_is)
  (case Qlb=>k_is)
  (case Qou=>k_is)
  (case Qny=>k_is)
  (case QoC=>k_is)
  (case Qja=>k_is)
  (case Qrb=>k_is)
  (case Qqy=>k_is)
  (case QpN=>k_is)
  (case QkO=>k_is)
  (case Qq3=>k_is)
  (case QpM=>k_is)
  (case Qqs=>k_is)
  (case Qk1=>k_is)
  (case Qow=>k_is)
  (case QnL=>k_is)
  (case QoI=>k_is)
  (case Qi9=>k_is)
  (case QsG=>k_is)
  (case Qsc=>k_is)
  (case Qs8=>k_is)
  (case Qm8=>k_is)
  (case Qmp=>k_is)
  (case QlP=>k_is)
  (case Ql0=>k_is)
  (case Qif=>k_is)
  (case Qtp=>k_is)
  (case Qtf=>k_is)
  (case Qts=>k_is)
  (case Qm0=>k_is)
  (case Qn2=>k_is)
  (case Qot=>k_is)
  (case Qnz=>k_is)
  (case Qjb=>k_is)
  (case QnX=>k_is)
  (case QnP=>k_is)
  (case Qod=>k_is)
  (case Qi2=>k_is)
  (case Qp4=>k_is)
  (case Qqw=>k_is)
  (case QqJ=>k_is)
  (case QkP=>k_is)
  (case QnD=>k_is)
  (case Qom=>k_is)
  (case Qnq=>k_is)
  (case Qi6=>k_is)
  (case Qqo=>k_is)
  (case QqF=>k_is)
  (case Qp8=>k_is)
  (case QkU=>k_is)
  (case QdZ=>k_is)
  (case QlX=>k_is)
  (case QlQ=>k_is)
  (case Qc4=>k_is)
  (case QcR=>k_is)
  (case QiE=>k_is)
  (case QiM=>k_is)
  (case Qcd=>k_is)
  (case Qs7=>k_is)
  (case Qs2=>k_is)
  (case QsA=>k_is)
  (case Qnk=>k_is)
  (case Qnv=>k_is)
  (case Qoh=>k_is)
  (case Qnu=>k_is)
  (case Qje=>k_is)
  (case QpW=>k_is)
  (case Qp0=>k_is)
  (case QpV=>k_is)
  (case Qk7=>k_is)
  (case QjY=>k_is)
  (case Qkz=>k_is)
  (case QjU=>k_is)
  (case QgN=>k_is)
  (case Qqz=>k_is)
  (case QpF=>k_is)
  (case QqC=>k_is)
  (case QkX=>k_is)
  (case QjM=>k_is)
  (case Qj6=>k_is)
  (case QjO=>k_is)
  (case Qj0=>k_is)
  (case QsX=>k_is)
  (case Qsd=>k_is)
  (case QsO=>k_is)
  (case QmR=>k_is)
  (case QiQ=>k_is)
  (case Qin=>k_is)
  (case QiN=>k_is)
  (case Qgb=>k_is)
  (case QbZ=>k_is)
  (case Qgv=>k_is)
  (case Qgp=>k_is)
  (case Qbi=>k_is)
  (case QvY=>k_is)
  (case Qvt=>k_is)
  (case QvP=>k_is)
  (case QqM=>k_is)
  (case Qq8=>k_is)
  (case Qp2=>k_is)
  (case Qqe=>k_is)
  (case Qlc=>k_is)
  (case QoB=>k_is)
  (case QoH=>k_is)
  (case QnE=>k_is)
  (case QnJ=>k_is)
  (case Qme=>k_is)
  (case QlN=>k_is)
  (case Ql4=>k_is)
  (case Qid=>k_is)
  (case Qn1=>k_is)
  (case QnR=>k_is)
  (case Qnp=>k_is)
  (case Qoq=>k_is)
  (case QkD=>k_is)
  (case Qkv=>k_is)
  (case Qku=>k_is)
  (case Qko=>k_is)
  (case QnM=>k_is)
  (case QnB=>k_is)
  (case QnS=>k_is)
  (case Qop=>k_is)
  (case QnH=>k_is)
  (case Qno=>k_is)
  (case Qn0=>k_is)
  (case Qi0=>k_is)
  (case Qlz=>k_is)
  (case QlE=>k_is)
  (case Ql2=>k_is)
  (case QhN=>k_is)
  (case Qnn=>k_is)
  (case Qof=>k_is)
  (case QnV=>k_is)
  (case Qjf=>k_is)
  (case QiK=>k_is)
  (case QiT=>k_is)
  (case Qiv=>k_is)
  (case QfZ=>k_is)
  (case Qkm=>k_is)
  (case QjK=>k_is)
  (case Qkp=>k_is)
  (case QgV=>k_is)
  (case QDP=>k_is)
  (case QBM=>k_is)
  (case QCL=>k_is)
  (case Qxo=>k_is)
  (case QuS=>k_is)
  (case QuZ=>k_is)
  (case Qvz=>k_is)
  (case Qqd=>k_is)
  (case Qiw=>k_is)
  (case QiD=>k_is)
  (case QiB=>k_is)
  (case Qf9=>k_is)
  (case QH7=>k_is)
  (case QIb=>k_is)
  (case QIV=>k_is)
  (case QBD=>k_is)
  (case QiS=>k_is)
  (case Qiq=>k_is)
  (case Qiy=>k_is)
  (case Qf5=>k_is)
  (case Qe2=>k_is)
  (case Qoz=>k_is)
  (case QnU=>k_is)
  (case QdB=>k_is)
  (case Qu7=>k_is)
  (case QuW=>k_is)
  (case QvS=>k_is)
  (case QpL=>k_is)
  (case QvK=>k_is)
  (case Qu1=>k_is)
  (case QvL=>k_is)
  (case Qqk=>k_is)
  (case t_servedh=>k_is)
  (case QqU=>k_is)
  (case Qq9=>k_is)
  (case Qqg=>k_is)
  (case QkV=>k_is)
  (case Qhf=>k_is)
  (case Qg6=>k_is)
  (case Qha=>k_is)
  (case Qer=>k_is)
  (case QjR=>k_is)
  (case Qkd=>k_is)
  (case Qke=>k_is)
  (case Qg1=>k_is)
  (case QIx=>k_is)
  (case QIN=>k_is)
  (case QIn=>k_is)
  (case QJw=>k_is)
  (case z_len=>k_is)
  (case z_range=>k_is)
  (case z_int=>k_is)
  (case z_enumerate=>k_is)
  (case z_isinstance=>k_is)
  (case z_list=>k_is)
  (case z_set=>k_is)
  (case z_str=>k_is)
  (case z_all=>k_is)
  (case z_bool=>k_is)
  (case z_tuple=>k_is)
  (case z_any=>k_is)
  (case z_zip=>k_is)
  (case c_MOST_SIGNS=>k_is)
  (case c_LETTERS=>k_is)
  (case c_MOST_CLERKS=>k_is)
  (case c_MOST_ENTRIES=>k_is)
  (case c_MOST_DOORS=>k_is)
  (case c_MOST_OUTS=>k_is)
  (case c_MOST_SENT=>k_is)
  (case c_MOST_ROWS=>k_is)
  (case QjZ=>kit_is)
  (case Qox=>kit_is)
  (case Qor=>kit_is)
  (case Qkl=>kit_is)
  (case Qos=>kit_is)
  (case Qhy=>kit_is)
  (case Qj5=>kit_is)
  (case Qkk=>kit_is)
  (case Qh2=>kit_is)
  (case Qj7=>kit_is)
  (case Qkn=>kit_is)
  (case Qov=>kit_is)
  (case QnO=>kit_is)
  (case QkA=>kit_is)
  (case Qn7=>kit_is)
  (case Qkw=>kit_is)
  (case QoD=>kit_is)
  (case Qoj=>kit_is)
  (case Qkh=>kit_is)
  (case Qoy=>kit_is)
