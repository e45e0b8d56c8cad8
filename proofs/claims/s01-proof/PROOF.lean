import PyProof.Rows.All
import VacolaSpec
import Wide.All
import OpenK.AllK
import Wide.FinOn
import PyProof.EqAt
import PyProof.EqKinds
import PyProof.TupleCall
import KE.BitLaws
import Open.SpecLaws
import KE.OsHead
import KE.OsGo
import KE.KLam
import PyProof.StationsW
import PyProof.InstStore
import PyProof.ExcArgsOwn
import PyProof.ExcInit
import PyProof.EvalArms
import PyProof.Rows.Own
import PyProof.InstStoreFacts
import PyProof.ExcAttrAll.Exception
import PyProof.ExcBaseAll.Exception
import PySem.Challenge.RW_fieldplan_s01_answers
import PyProof.EqLayable
import KE.KIntText
import KE.KNestM
import KE.KListMore
import PyVacola
set_option Elab.async false
set_option linter.all false
set_option maxRecDepth 100000
set_option maxHeartbeats 4000000
namespace PySem.W.Fast
def tw9553723909010624315:=0
def tw15246909941526130072:=0
def tw9894425226877355893:=0
def tw2393510189167544140:=0
def tw15524030390177551486:=0
def tw15811074718713422860:=0
def tw4046965709681295398:=0
def tw9097092371894835082:=0
def tw8866823503050733299:=0
def tw7865049816134425134:=0
def tw217176082921595690:=0
def tw10255469760190650343:=0
def tw13039671394008715346:=0
def tw14810688952716449843:=0
def tw4806071187490895415:=0
def tw6171196911797081047:=0
def tw2385507050275687306:=0
def tw12791553362266607843:=0
def tw6035573810981514139:=0
def tw10172354430051857066:=0
def tw10620087677059156981:=0
def tw7871816049502804167:=0
def tw16350556918573123652:=0
def tw10523082486758006670:=0
def tw9383447827608514803:=0
def tw16654236973153501974:=0
def tw14061116201175621824:=0
def tw2530855198492615926:=0
def tw9663570063930833764:=0
def tw8534257335600273173:=0
def tw15179103734616453966:=0
def tw5603176313587411892:=0
def tw15278691536248062359:=0
def tw5666758292340161647:=0
def tw17406579747890030017:=0
def tw17100350883035613647:=0
def tw11199398179047847229:=0
def tw3331729473670059633:=0
def tw1233560843533961625:=0
def tw14528820303889279245:=0
def tw9274018311193875906:=0
def tw16179604517932277376:=0
def tw3007313637506896694:=0
def tw7053125941984587168:=0
def tw10382622737375523284:=0
def tw11895993782361353547:=0
def tw8330736773086413551:=0
def tw7517553546557969305:=0
def tw11462109096031194863:=0
def tw6157565352121620795:=0
def tw9910056477806589065:=0
def tw10561874104096252340:=0
def tw13967049151337897103:=0
def tw15538195255933820942:=0
def tw15459595820765677046:=0
def tw7609595704484562894:=0
def tw13063514566130881671:=0
def tw5527336543329824078:=0
def tw1195640911533918888:=0
def tw11118362187213899398:=0
def tw11342480642135918548:=0
def tw872535259517265873:=0
def tw2693174984497305737:=0
def tw751521366405912948:=0
def tw16695403542112771567:=0
def tw417365262819036:=0
def tw9321714644413678772:=0
def tw3077437801925230190:=0
def tw9788144265086757094:=0
def tw13010087806710313681:=0
def tw6987970290655949500:=0
def tw7599314046193725441:=0
def tw13312215632038442110:=0
def tw901688968961248641:=0
def tw7079047434887350516:=0
def tw12850856670558395565:=0
def tw17466902430338202814:=0
def tw1988487616119256906:=0
def tw8676385262653313856:=0
def tw13447470819024386779:=0
def tw10351477828716851608:=0
def tw3620558588658596904:=0
def tw2532179811453255461:=0
def tw8169572545955351427:=0
def tw12244846332244471069:=0
def tw7320291017596870576:=0
def tw4642914712639080413:=0
def tw4376173692425198178:=0
def tw11432333348904212262:=0
def tw12137446271513651233:=0
def tw1579257155745814221:=0
def tw9276369938902097414:=0
def tw15449020817210224957:=0
def tw14908150085283314536:=0
def tw10769257789309409059:=0
def tw10307375129920678165:=0
def tw17254434667241268214:=0
def tw1009209107643354478:=0
def tw8724657571793799579:=0
def tw10190816252026823282:=0
def tw9381976262422019978:=0
def tw14521490542818417273:=0
def tw1314973694165915881:=0
def tw7260104011812582430:=0
def tw16913553817548405129:=0
def tw13723865836429164664:=0
def tw14773326885416347546:=0
def tw15429933140486653281:=0
def tw11055448568887638847:=0
def tw6782765849353048340:=0
def tw6531524451677388099:=0
def tw9932587135091188158:=0
def tw4975994094162094361:=0
def tw1242431392212656278:=0
def tw1638954113150741522:=0
def tw17322510301181014731:=0
def tw8867111931040575776:=0
def tw4579958304113960942:=0
def tw1235247894289013937:=0
def tw4030049361746825863:=0
def tw7451193195129161479:=0
def tw12804788036802677265:=0
def tw6934479985966842949:=0
def tw1602129611901069931:=0
def tw17398300150114608822:=0
def tw13218207540908889011:=0
def tw8050609575951666187:=0
def tw333921361598905319:=0
def tw14521161469995193780:=0
def tw11657255259107116304:=0
def tw8466370815318761099:=0
def tw4771645295534017366:=0
def tw4614390493959440666:=0
def tw12679776343907359816:=0
def tw3431477284063740109:=0
def tw13907576498830310296:=0
def tw12754172881726504327:=0
def tw13452144469355254535:=0
def tw11239355536979400759:=0
def tw544129526094953719:=0
def tw8406674103651552546:=0
def tw8979872554586622240:=0
def tw5527772415970139940:=0
def tw4381540621543857466:=0
def tw1184411274204566981:=0
def tw11277998625173116166:=0
def tw16455658821134211890:=0
def tw13330498903778381154:=0
def tw7143149674819689255:=0
def tw14672650577869177489:=0
def tw12045859615599068121:=0
def tw2325932269855573865:=0
def tw8925660770151781075:=0
def tw4701013172381191954:=0
def tw6102424453098245537:=0
def tw5164862924998532770:=0
def tw12178881591401029073:=0
def tw16190528336375305541:=0
def tw10551411253807075143:=0
def tw17226724864772721525:=0
def tw16786210592351714117:=0
def tw286469927704068984:=0
def tw2523951800912721386:=0
def tw9267626800269025553:=0
def tw14610574398888538761:=0
def tw13756570761764204919:=0
def tw16070859310958800816:=0
def tw8792512700225470397:=0
def tw6090460350506009528:=0
def tw5828606940449901597:=0
def tw9398569293056423680:=0
def tw4695012318900848977:=0
def tw17766445601723110840:=0
def tw6924708114722532510:=0
def tw7431082406016315623:=0
def tw15321303678248158:=0
def tw15053177318084321585:=0
def tw3408331087759666306:=0
def tw13438195141054490679:=0
def tw3854273440674421763:=0
def tw14789478897103099838:=0
def tw5769744629243162050:=0
def tw18202824859306506375:=0
def tw16965242137292242693:=0
def tw3571187144805126625:=0
def tw5485253963878149271:=0
def tw13670736629062448644:=0
def tw6946035405847152380:=0
def tw6393398066584599353:=0
def tw7910975767939570781:=0
def tw10123029755161419325:=0
def tw201776209925121507:=0
def tw12941951988957412323:=0
def tw10349034672093015447:=0
def tw3719752238345224437:=0
def tw12995360366233751996:=0
def tw12400722052839274387:=0
def tw2494915689825611402:=0
def tw5679340288682551416:=0
def tw3308708912967101301:=0
def tw3890250535476015284:=0
def tw7570457786369644546:=0
def tw6746767551040248607:=0
def tw2925548537510630783:=0
def tw14890245741960070389:=0
end PySem.W.Fast
theorem Vp.said:PySem.Challenge.rw_fieldplan_s01_answers.wellSaid=true:=by decide+kernel
section
namespace Vp
open Vacola
abbrev Rd:=Nat→Bool→List Head→Nat→Text→Except Fault (Fields×Text)
def dZ(rd:Rd)(depth used:Nat)(t3:Text):Except Fault (Kind×Text):=
 match t3 with
 |123::r=>if DEEP≤depth then faultAt 7 t3 else do
   let(fs,s)←rd (depth+1) false [] used r
   .ok (.group false fs,s)
 |60::r=>if DEEP≤depth then faultAt 7 t3 else do
   let(fs,s)←rd (depth+1) true [] used r
   .ok (.group true fs,s)
 |_=>(readLeaf used t3).map fun x=>(.leaf x.1,x.2)
def fK(rd:Rd)(depth:Nat)(choice:Bool)(before:List Head)(used:Nat)(t:Text):Except Fault ((Head×Kind)×Text):=do
 let(number,t1)←readNumber before t
 let(name,t2)←readName before t1
 let(mode,t3)←readMode choice t2
 let(kind,t4)←dZ rd depth used t3
 if mode=.keyed∧(keyOf kind).isNone=true then faultAt 6 t2
 else do
  let(dflt,t5)←readDefault choice mode kind t4
  .ok (({number:=number,name:=name,mode:=mode,dflt:=dflt},kind),t5)
def dS(rd:Rd)(depth:Nat)(choice:Bool)(before:List Head)(used:Nat)(t5:Text):Except Fault (Fields×Text):=
 match t5 with
 |[]=>faultAt 1 t5
 |c::r=>if c=59 then rd depth choice before used r else if c=closeSign choice then .ok (.nil,r)else faultAt 1 t5
def iK(rd:Rd)(depth:Nat)(choice:Bool)(before:List Head)(used:Nat)(t:Text):Except Fault (Fields×Text):=do
 let(x,t5)←fK rd depth choice before used t
 let(rest,s)←dS rd depth choice (x.1::before) (used+leavesKind x.2) t5
 .ok (.cons x.1 x.2 rest,s)
theorem cQ{A B:Type}(x:A)(f:A→Except Fault B):(Except.ok x>>=f)=f x:=rfl
theorem rP(fuel depth:Nat)(choice:Bool)(before:List Head)(used:Nat)(t:Text):
  readFields (fuel+1) depth choice before used t=iK (readFields fuel) depth choice before used t:=by
 unfold readFields iK fK;cases h1:readNumber before t with
 |error e=>rfl
 |ok x1=>
  obtain⟨n,t1⟩:=x1;simp only[cQ];cases h2:readName before t1 with
  |error e=>rfl
  |ok x2=>
   obtain⟨nm,t2⟩:=x2;simp only[cQ];cases h3:readMode choice t2 with
   |error e=>rfl
   |ok x3=>
    obtain⟨m,t3⟩:=x3;simp only[cQ];show(dZ (readFields fuel) depth used t3>>=_)=_;cases h4:dZ (readFields fuel) depth used t3 with
    |error e=>rfl
    |ok x4=>
     obtain⟨k,t4⟩:=x4;simp only[cQ];split
     ·rfl
     ·cases h5:readDefault choice m k t4 with
      |error e=>rfl
      |ok x5=>
       obtain⟨d,t5⟩:=x5;simp only[cQ,dS];cases t5 with
       |nil=>rfl
       |cons c r=>
        dsimp only;split
        ·rfl
        ·split
         ·rfl
         ·rfl
theorem CU(p:Nat→Bool):∀t:Text,(t.dropWhile p).length≤t.length
 |[]=>Nat.le_refl _
 |c::r=>by
  rw[List.dropWhile_cons];split
  ·exact Nat.le_succ_of_le (CU p r)
  ·exact Nat.le_refl _
theorem oF(p:Nat→Bool)(t:Text):(t.takeWhile p).length+(t.dropWhile p).length=t.length:=by
 have h:=congrArg List.length (List.takeWhile_append_dropWhile (p:=p) (l:=t))
 rwa[List.length_append]at h
theorem oG{t:Text}{n:Nat}{r:Text}(h:numberRun t=some (n,r)):
  t.takeWhile isDigit≠[]∧(t.takeWhile isDigit).head?≠some 48∧(t.takeWhile isDigit).length≤3∧n=worth (t.takeWhile isDigit)∧r=t.dropWhile isDigit:=by
 unfold numberRun at h;dsimp only at h;split at h
 ·cases h
 ·rename_i q
  cases h;refine⟨fun e=>q (.inl e),fun e=>q (.inr (.inl e)),?_,rfl,rfl⟩;rcases Nat.lt_or_ge 3 (t.takeWhile isDigit).length with z|z
  ·exact(q (.inr (.inr z))).elim
  ·exact z
theorem AA{t:Text}{n:Nat}{r:Text}(h:numberRun t=some (n,r)):r.length<t.length:=by
 obtain⟨h1,_,_,_,rfl⟩:=oG h;have:=oF isDigit t;have h0:0<(t.takeWhile isDigit).length:=List.length_pos_iff.mpr h1;omega
theorem oH{b:List Head}{t:Text}{n:Nat}{r:Text}(h:readNumber b t=.ok (n,r)):r.length<t.length:=by
 unfold readNumber at h;split at h
 ·cases h
 ·rename_i n' r' q
  split at h
  ·cases h;exact AA q
  ·split at h
   ·cases h;exact AA q
   ·cases h
theorem oJ{b:List Head}{t:Text}{n:Text}{r:Text}(h:readName b t=.ok (n,r)):r.length≤t.length:=by
 unfold readName at h;dsimp only at h;split at h
 ·cases h
 ·split at h
  ·cases h
  ·cases h;exact CU _ _
theorem oK{c:Bool}{t:Text}{n:Mode}{r:Text}(h:readMode c t=.ok (n,r)):r.length<t.length:=by
 unfold readMode at h;split at h
 ·cases h
 ·split at h
  ·cases h
  ·split at h
   ·cases h
   ·cases h;simp
theorem CV{t r:Text}{lo hi:Nat}{mk:Nat→Leaf}{l:Leaf}{s:Text}(h:sized t r lo hi mk=.ok (l,s)):s.length<r.length:=by
 unfold sized at h;split at h
 ·cases h
 ·rename_i q
  split at h
  ·cases h;exact AA q
  ·cases h
def gD(t:Text):Except Fault (Leaf×Text):=match t with
  |98::r=>.ok (.bit,r)
  |105::r=>sized t r 2 64 .int
  |116::r=>sized t r 1 999 .text
  |_=>faultAt 1 t
theorem AB(used:Nat)(t:Text):readLeaf used t=(gD t>>=fun x=>if LEAVES≤used then faultAt 8 t else .ok x):=rfl
theorem HZ{t:Text}{l:Leaf}{s:Text}(h:gD t=.ok (l,s)):s.length<t.length:=by
 unfold gD at h;split at h
 ·cases h;simp
 ·have:=CV h;simp only[List.length_cons];omega
 ·have:=CV h;simp only[List.length_cons];omega
 ·cases h
theorem AD{used:Nat}{t:Text}{l:Leaf}{s:Text}(h:readLeaf used t=.ok (l,s)):gD t=.ok (l,s)∧used<LEAVES:=by
 rw[AB]at h;cases e:gD t with
 |error f=>rw[e]at h;cases h
 |ok x=>
  rw[e,cQ]at h;split at h
  ·cases h
  ·rename_i q
   cases h;exact⟨rfl,Nat.lt_of_not_le q⟩
theorem H_:∀{t:Text}{x r:Text},readQuoted t=some (x,r)→r.length<t.length:=by
 intro t
 induction t using readQuoted.induct with
 |case1=>intro x r h;simp[readQuoted]at h
 |case2 r=>intro x r' h;simp[readQuoted]at h;obtain⟨_,rfl⟩:=h;simp
 |case3 a b r x y hx hy hp=>intro z r' h;simp[readQuoted,hx,hy,hp]at h
 |case4 a b r x y hx hy hp ih=>
  intro z r' h;simp only[readQuoted,hx,hy,hp]at h;cases e:readQuoted r with
  |none=>rw[e]at h;simp at h
  |some w=>
   rw[e]at h;simp at h;have:=ih (x:=w.1) (r:=w.2) e;obtain⟨_,rfl⟩:=h;simp only[List.length_cons];omega
 |case5 a b r hn=>
  intro z r' h;rw[readQuoted]at h;split at h
  ·rename_i x y hx hy
   exact(hn x y hx hy).elim
  ·cases h
 |case6 c r h1 h2 hp ih=>
  intro z r' h;rw[readQuoted]at h
  ·rw[if_pos hp]at h
   cases e:readQuoted r with
   |none=>rw[e]at h;simp at h
   |some w=>
    rw[e]at h;simp at h;have:=ih (x:=w.1) (r:=w.2) e;obtain⟨_,rfl⟩:=h;simp only[List.length_cons];omega
  ·exact h1
  ·exact h2
 |case7 c r h1 h2 hp=>
  intro z r' h;rw[readQuoted]at h
  ·rw[if_neg hp]at h;cases h
  ·exact h1
  ·exact h2
theorem CW{t:Text}{n:Nat}{r:Text}(h:digitRun t=some (n,r)):
  t.takeWhile isDigit≠[]∧((t.takeWhile isDigit).head?=some 48→(t.takeWhile isDigit).length≤1)∧n=worth (t.takeWhile isDigit)∧r=t.dropWhile isDigit:=by
 unfold digitRun at h;dsimp only at h;split at h
 ·cases h
 ·rename_i q
  cases h;refine⟨fun e=>q (.inl e),fun e=>?_,rfl,rfl⟩;rcases Nat.lt_or_ge 1 (t.takeWhile isDigit).length with z|z
  ·exact(q (.inr ⟨e,z⟩)).elim
  ·exact z
theorem CY{t:Text}{n:Nat}{r:Text}(h:digitRun t=some (n,r)):r.length<t.length:=by
 obtain⟨h1,_,_,rfl⟩:=CW h;have:=oF isDigit t;have h0:0<(t.takeWhile isDigit).length:=List.length_pos_iff.mpr h1;omega
theorem Ia{l:Leaf}{t:Text}{v:Lit}{r:Text}(h:readLit l t=some (v,r)):r.length<t.length:=by
 unfold readLit at h;split at h
 ·cases h;simp
 ·cases h;simp
 ·cases h
 ·rename_i r0
  split at h
  ·rename_i q
   split at h
   ·cases h
   ·cases h;have:=CY q;simp only[List.length_cons];omega
  ·cases h
 ·cases e:digitRun t with
  |none=>rw[e]at h;cases h
  |some w=>rw[e]at h;simp at h;obtain⟨_,rfl⟩:=h;exact CY (n:=w.1) (r:=w.2) e
 ·rename_i r0
  cases e:readQuoted r0 with
  |none=>rw[e]at h;cases h
  |some w=>rw[e]at h;simp at h;obtain⟨_,rfl⟩:=h;have:=H_ (x:=w.1) (r:=w.2) e;simp only[List.length_cons];omega
 ·cases h
theorem Ib{c:Bool}{m:Mode}{k:Kind}{t:Text}{d:Option Lit}{r:Text}(h:readDefault c m k t=.ok (d,r)):r.length≤t.length:=by
 unfold readDefault at h;split at h
 ·split at h
  ·split at h
   ·cases h
   ·rename_i q
    split at h
    ·cases h;have:=Ia q;simp only[List.length_cons];omega
    ·cases h
  ·cases h
 ·cases h;exact Nat.le_refl _
def j3(rd:Rd):Prop:=∀d c b u t fs s,rd d c b u t=.ok (fs,s)→s.length<t.length
theorem Ic{rd:Rd}(S:j3 rd){d u:Nat}{t:Text}{k:Kind}{s:Text}(h:dZ rd d u t=.ok (k,s)):s.length<t.length:=by
 unfold dZ at h;split at h
 ·rename_i r
  split at h
  ·cases h
  ·cases e:rd (d+1) false [] u r with
   |error f=>rw[e]at h;cases h
   |ok x=>rw[e]at h;cases h;have:=S _ _ _ _ _ _ _ e;simp only[List.length_cons];omega
 ·rename_i r
  split at h
  ·cases h
  ·cases e:rd (d+1) true [] u r with
   |error f=>rw[e]at h;cases h
   |ok x=>rw[e]at h;cases h;have:=S _ _ _ _ _ _ _ e;simp only[List.length_cons];omega
 ·cases e:readLeaf u t with
  |error f=>rw[e]at h;cases h
  |ok x=>rw[e]at h;cases h;exact HZ (AD e).1
theorem rQ{rd:Rd}{d:Nat}{c:Bool}{b:List Head}{u:Nat}{t:Text}{x:Head×Kind}{t5:Text}(h:fK rd d c b u t=.ok (x,t5)):
  ∃t1 t2 t3 t4,readNumber b t=.ok (x.1.number,t1)∧readName b t1=.ok (x.1.name,t2)∧readMode c t2=.ok (x.1.mode,t3)∧dZ rd d u t3=.ok (x.2,t4)∧
   ¬(x.1.mode=.keyed∧(keyOf x.2).isNone=true)∧readDefault c x.1.mode x.2 t4=.ok (x.1.dflt,t5):=by
 unfold fK at h;cases h1:readNumber b t with
 |error e=>rw[h1]at h;cases h
 |ok x1=>
  obtain⟨n,t1⟩:=x1;rw[h1]at h;simp only[cQ]at h;cases h2:readName b t1 with
  |error e=>rw[h2]at h;cases h
  |ok x2=>
   obtain⟨nm,t2⟩:=x2;rw[h2]at h;simp only[cQ]at h;cases h3:readMode c t2 with
   |error e=>rw[h3]at h;cases h
   |ok x3=>
    obtain⟨m,t3⟩:=x3;rw[h3]at h;simp only[cQ]at h;cases h4:dZ rd d u t3 with
    |error e=>rw[h4]at h;cases h
    |ok x4=>
     obtain⟨k,t4⟩:=x4;rw[h4]at h;simp only[cQ]at h;split at h
     ·cases h
     ·rename_i q
      cases h5:readDefault c m k t4 with
      |error e=>rw[h5]at h;cases h
      |ok x5=>
       obtain⟨dd,t5'⟩:=x5;rw[h5]at h;simp only[cQ]at h;cases h;exact⟨t1,t2,t3,t4,rfl,h2,h3,h4,q,h5⟩
theorem mF{rd:Rd}(S:j3 rd){d:Nat}{c:Bool}{b:List Head}{u:Nat}{t:Text}{x:Head×Kind}{t5:Text}(h:fK rd d c b u t=.ok (x,t5)):t5.length<t.length:=by
 obtain⟨t1,t2,t3,t4,h1,h2,h3,h4,_,h5⟩:=rQ h;have:=oH h1;have:=oJ h2;have:=oK h3;have:=Ic S h4;have:=Ib h5;omega
theorem Ie{rd:Rd}(S:j3 rd){d:Nat}{c:Bool}{b:List Head}{u:Nat}{t:Text}{fs:Fields}{s:Text}(h:dS rd d c b u t=.ok (fs,s)):s.length<t.length:=by
 unfold dS at h;split at h
 ·cases h
 ·split at h
  ·have:=S _ _ _ _ _ _ _ h;simp only[List.length_cons];omega
  ·split at h
   ·cases h;simp
   ·cases h
theorem oM{rd:Rd}{d:Nat}{c:Bool}{b:List Head}{u:Nat}{t:Text}{fs:Fields}{s:Text}(h:iK rd d c b u t=.ok (fs,s)):
  ∃x t5 rest,fK rd d c b u t=.ok (x,t5)∧dS rd d c (x.1::b) (u+leavesKind x.2) t5=.ok (rest,s)∧fs=.cons x.1 x.2 rest:=by
 unfold iK at h;cases h1:fK rd d c b u t with
 |error e=>rw[h1]at h;cases h
 |ok x1=>
  obtain⟨x,t5⟩:=x1;rw[h1]at h;simp only[cQ]at h;cases h2:dS rd d c (x.1::b) (u+leavesKind x.2) t5 with
  |error e=>rw[h2]at h;cases h
  |ok x2=>
   obtain⟨rest,s'⟩:=x2;rw[h2]at h;simp only[cQ]at h;cases h;exact⟨x,t5,rest,rfl,h2,rfl⟩
theorem Ig{rd:Rd}(S:j3 rd){d:Nat}{c:Bool}{b:List Head}{u:Nat}{t:Text}{fs:Fields}{s:Text}(h:iK rd d c b u t=.ok (fs,s)):s.length<t.length:=by
 obtain⟨x,t5,rest,h1,h2,_⟩:=oM h;have:=mF S h1;have:=Ie S h2;omega
theorem rR:∀fuel,j3 (readFields fuel)
 |0=>fun d c b u t fs s h=>by unfold readFields at h;cases h
 |f+1=>fun d c b u t fs s h=>by rw[rP]at h;exact Ig (rR f) h
theorem Ih{r1 r2:Rd}(S:j3 r1){t:Text}(e:∀d c b u s,s.length<t.length→r1 d c b u s=r2 d c b u s)(d:Nat)(c:Bool)(b:List Head)(u:Nat):
  fK r1 d c b u t=fK r2 d c b u t:=by
 unfold fK;cases h1:readNumber b t with
 |error e=>rfl
 |ok x1=>
  obtain⟨n,t1⟩:=x1;simp only[cQ];cases h2:readName b t1 with
  |error e=>rfl
  |ok x2=>
   obtain⟨nm,t2⟩:=x2;simp only[cQ];cases h3:readMode c t2 with
   |error e=>rfl
   |ok x3=>
    obtain⟨m,t3⟩:=x3;simp only[cQ];have l1:=oH h1;have l2:=oJ h2;have l3:=oK h3
    have hk:dZ r1 d u t3=dZ r2 d u t3:=by
     unfold dZ;split
     ·rw[e _ _ _ _ _ (by simp only[List.length_cons]at l3;omega)]
     ·rw[e _ _ _ _ _ (by simp only[List.length_cons]at l3;omega)]
     ·rfl
    rw[hk]
theorem CZ{r1 r2:Rd}(S:j3 r1){t:Text}(e:∀d c b u s,s.length<t.length→r1 d c b u s=r2 d c b u s)(d:Nat)(c:Bool)(b:List Head)(u:Nat):
  iK r1 d c b u t=iK r2 d c b u t:=by
 unfold iK;rw[←Ih S e];cases h1:fK r1 d c b u t with
 |error e=>rfl
 |ok x1=>
  obtain⟨x,t5⟩:=x1;simp only[cQ];have l:=mF S h1
  have ha:dS r1 d c (x.1::b) (u+leavesKind x.2) t5=dS r2 d c (x.1::b) (u+leavesKind x.2) t5:=by
   unfold dS;split
   ·rfl
   ·rw[e _ _ _ _ _ (by simp only[List.length_cons]at l;omega)]
  rw[ha]
theorem C0:∀(f1 f2:Nat)(d:Nat)(c:Bool)(b:List Head)(u:Nat)(t:Text),t.length<f1→t.length<f2→readFields f1 d c b u t=readFields f2 d c b u t
 |0,_,_,_,_,_,_,h,_=>absurd h (Nat.not_lt_zero _)
 |_+1,0,_,_,_,_,_,_,h=>absurd h (Nat.not_lt_zero _)
 |f1+1,f2+1,d,c,b,u,t,h1,h2=>by
  rw[rP,rP];exact CZ (rR f1) (fun d c b u s hs=>C0 f1 f2 d c b u s (by omega) (by omega)) d c b u
def RF:Rd:=fun d c b u t=>readFields (t.length+1) d c b u t
theorem C5(f:Nat){d:Nat}{c:Bool}{b:List Head}{u:Nat}{t:Text}(h:t.length<f):readFields f d c b u t=RF d c b u t:=C0 _ _ _ _ _ _ _ h (Nat.lt_succ_self _)
theorem rS:j3 RF:=fun _ _ _ _ _ _ _ h=>rR _ _ _ _ _ _ _ _ h
theorem mG(d:Nat)(c:Bool)(b:List Head)(u:Nat)(t:Text):RF d c b u t=iK RF d c b u t:=by
 show readFields (t.length+1) d c b u t=_;rw[rP];exact CZ (rR _) (fun d c b u s hs=>C5 _ hs) d c b u
theorem mH(t:Text):readSchema t=if MOST<t.length then .error {kind:=10,left:=t.length-MOST}else match t with
  |123::r=>(RF 1 false [] 0 r>>=fun x=>if x.2=[]then .ok x.1 else faultAt 1 x.2)
  |_=>faultAt 1 t:=by
 unfold readSchema;split
 ·rfl
 ·split
  ·rename_i r
   rw[C5 _ (by simp only[List.length_cons];omega)];rfl
  ·rename_i h
   split
   ·exact(h _ rfl).elim
   ·rfl
theorem oN:∀(f n:Nat)(acc:Text),digitsBefore f n acc=digitsBefore f n []++acc
 |0,_,_=>rfl
 |f+1,n,acc=>by
  unfold digitsBefore;split
  ·rfl
  ·rw[oN f,oN f (n/10) [48+n%10],List.append_assoc];rfl
theorem C6:∀(f g n:Nat),n<f→n<g→digitsBefore f n []=digitsBefore g n []
 |0,_,_,h,_=>absurd h (Nat.not_lt_zero _)
 |_+1,0,_,_,h=>absurd h (Nat.not_lt_zero _)
 |f+1,g+1,n,h1,h2=>by
  unfold digitsBefore;split
  ·rfl
  ·rename_i q
   rw[oN f,oN g,C6 f g (n/10) (by omega) (by omega)]
theorem rV{n:Nat}(h:n<10):decimal n=[48+n]:=by
 unfold decimal digitsBefore;rw[if_pos h]
theorem AE{n:Nat}(h:10≤n):decimal n=decimal (n/10)++[48+n%10]:=by
 show digitsBefore (n+1) n []=digitsBefore (n/10+1) (n/10) []++_;rw[digitsBefore,if_neg (by omega),oN,C6 n (n/10+1) (n/10) (by omega) (by omega)]
theorem rW(r:Text)(c:Nat):worth (r++[c])=10*worth r+(c-48):=by
 unfold worth;rw[List.foldl_append];rfl
theorem mJ{c:Nat}:isDigit c=true↔48≤c∧c≤57:=by
 unfold isDigit;rw[Bool.and_eq_true,decide_eq_true_iff,decide_eq_true_iff]
theorem C7:∀(r:Text)(n:Nat),1≤n→1≤r.foldl (fun n c=>10*n+(c-48)) n
 |[],_,h=>h
 |c::r,n,h=>by
  rw[List.foldl_cons];exact C7 r _ (by omega)
theorem rX{c:Nat}{r:Text}(h:isDigit c=true)(h0:c≠48):1≤worth (c::r):=by
 have:=mJ.mp h;unfold worth;rw[List.foldl_cons];exact C7 r _ (by omega)
theorem snoc_cases:∀(l:Text),l=[]∨∃r c,l=r++[c]
 |[]=>.inl rfl
 |a::l=>by
  rcases snoc_cases l with e|⟨r,c,e⟩
  ·exact .inr ⟨[],a,by rw[e];rfl⟩
  ·exact .inr ⟨a::r,c,by rw[e];rfl⟩
theorem C8:∀(k:Nat)(run:Text),run.length=k→run≠[]→(∀c∈run,isDigit c=true)→(run.head?=some 48→run.length≤1)→decimal (worth run)=run:=by
 intro k
 induction k with
 |zero=>intro run hl hn;exact absurd (List.length_eq_zero_iff.mp hl) hn
 |succ k ih=>
  intro run hl hn hd h0;rcases snoc_cases run with e|⟨r,c,rfl⟩
  ·exact absurd e hn
  ·have hc:=mJ.mp (hd c (by simp))
   rw[rW];cases r with
   |nil=>
    show decimal (10*0+(c-48))=[c];rw[rV (by omega)]
    congr 1;omega
   |cons a r=>
    have ha:a≠48:=fun e=>by
     have:=h0 (by rw[e];rfl);rw[List.length_append]at this;simp at this
    have hw:=rX (r:=r) (hd a (by simp)) ha;have hi:=ih (a::r) (by rw[List.length_append]at hl;simpa using hl) (by simp) (fun x hx=>hd x (List.mem_append_left _ hx)) (fun e=>absurd (Option.some.inj e) ha);rw[AE (by omega)];have e1:(10*worth (a::r)+(c-48))/10=worth (a::r):=by omega
    have e2:48+(10*worth (a::r)+(c-48))%10=c:=by omega
    rw[e1,e2,hi]
theorem takeWhile_all(p:Nat→Bool):∀(t:Text),∀c∈t.takeWhile p,p c=true
 |[],c,h=>by simp at h
 |a::t,c,h=>by
  rw[List.takeWhile_cons]at h;split at h
  ·rename_i q
   rcases List.mem_cons.mp h with e|e
   ·rw[e];exact q
   ·exact takeWhile_all p t c e
  ·simp at h
theorem AF{t:Text}{n:Nat}{r:Text}(h:numberRun t=some (n,r)):t=decimal n++r:=by
 obtain⟨h1,h2,h3,rfl,rfl⟩:=oG h;rw[C8 _ _ rfl h1 (takeWhile_all _ _) (fun e=>absurd e h2),List.takeWhile_append_dropWhile]
theorem C9{t:Text}{n:Nat}{r:Text}(h:digitRun t=some (n,r)):t=decimal n++r:=by
 obtain⟨h1,h2,rfl,rfl⟩:=CW h;rw[C8 _ _ rfl h1 (takeWhile_all _ _) h2,List.takeWhile_append_dropWhile]
theorem Ii{b:List Head}{t:Text}{n:Nat}{r:Text}(h:readNumber b t=.ok (n,r)):t=decimal n++r:=by
 unfold readNumber at h;split at h
 ·cases h
 ·rename_i n' r' q
  split at h
  ·cases h;exact AF q
  ·split at h
   ·cases h;exact AF q
   ·cases h
theorem Ij{b:List Head}{t:Text}{n:Text}{r:Text}(h:readName b t=.ok (n,r)):t=n++r:=by
 unfold readName at h;dsimp only at h;split at h
 ·cases h
 ·split at h
  ·cases h
  ·cases h;exact(List.takeWhile_append_dropWhile).symm
theorem C_{c:Nat}{m:Mode}(h:modeOf c=some m):showMode m=c:=by
 unfold modeOf at h
 repeat' (split at h)
 all_goals first|(cases h;simp only[showMode];omega)|cases h
theorem Ik{c:Bool}{t:Text}{m:Mode}{r:Text}(h:readMode c t=.ok (m,r)):t=showMode m::r:=by
 unfold readMode at h;split at h
 ·cases h
 ·split at h
  ·cases h
  ·rename_i q
   split at h
   ·cases h
   ·cases h;rw[C_ q]
theorem Dc{t r:Text}{lo hi:Nat}{mk:Nat→Leaf}{l:Leaf}{s:Text}(h:sized t r lo hi mk=.ok (l,s)):∃n,l=mk n∧r=decimal n++s:=by
 unfold sized at h;split at h
 ·cases h
 ·rename_i q
  split at h
  ·cases h;exact⟨_,rfl,AF q⟩
  ·cases h
theorem Il{t:Text}{l:Leaf}{s:Text}(h:gD t=.ok (l,s)):t=showLeaf l++s:=by
 unfold gD at h;split at h
 ·cases h;rfl
 ·obtain⟨n,rfl,rfl⟩:=Dc h;rfl
 ·obtain⟨n,rfl,rfl⟩:=Dc h;rfl
 ·cases h
theorem AG{a x:Nat}(h:hexOf a=some x):x<16∧hexSign x=a:=by
 unfold hexOf at h;split at h
 ·rename_i q
  have:=mJ.mp q;cases h;refine⟨by omega,?_⟩;unfold hexSign;rw[if_pos (by omega)];omega
 ·split at h
  ·cases h
   refine⟨by omega,?_⟩;unfold hexSign;rw[if_neg (by omega)];omega
  ·cases h
theorem Im:∀{t:Text}{x r:Text},readQuoted t=some (x,r)→t=x.flatMap showByte++34::r:=by
 intro t
 induction t using readQuoted.induct with
 |case1=>intro x r h;simp[readQuoted]at h
 |case2 r=>intro x r' h;simp[readQuoted]at h;obtain⟨rfl,rfl⟩:=h;rfl
 |case3 a b r x y hx hy hp=>intro z r' h;simp[readQuoted,hx,hy,hp]at h
 |case4 a b r x y hx hy hp ih=>
  intro z r' h;simp only[readQuoted,hx,hy,hp]at h;cases e:readQuoted r with
  |none=>rw[e]at h;simp at h
  |some w=>
   rw[e]at h;simp at h;have i:=ih (x:=w.1) (r:=w.2) e;obtain⟨rfl,rfl⟩:=h;obtain⟨x1,x2⟩:=AG hx;obtain⟨y1,y2⟩:=AG hy;have e1:(16*x+y)/16=x:=by omega
   have e2:(16*x+y)%16=y:=by omega
   rw[List.flatMap_cons]
   have hs:showByte (16*x+y)=[92,a,b]:=by
    unfold showByte;rw[if_neg hp,e1,e2,x2,y2]
   rw[hs,List.append_assoc,←i];rfl
 |case5 a b r hn=>
  intro z r' h;rw[readQuoted]at h;split at h
  ·rename_i x y hx hy
   exact(hn x y hx hy).elim
  ·cases h
 |case6 c r h1 h2 hp ih=>
  intro z r' h;rw[readQuoted]at h
  ·rw[if_pos hp]at h
   cases e:readQuoted r with
   |none=>rw[e]at h;simp at h
   |some w=>
    rw[e]at h;simp at h;have i:=ih (x:=w.1) (r:=w.2) e;obtain⟨rfl,rfl⟩:=h;rw[List.flatMap_cons];have hs:showByte c=[c]:=by unfold showByte;rw[if_pos hp]
    rw[hs,List.append_assoc,←i];rfl
  ·exact h1
  ·exact h2
 |case7 c r h1 h2 hp=>
  intro z r' h;rw[readQuoted]at h
  ·rw[if_neg hp]at h;cases h
  ·exact h1
  ·exact h2
theorem Dd{l:Leaf}{t:Text}{v:Lit}{r:Text}(h:readLit l t=some (v,r)):t=showLit v++r:=by
 unfold readLit at h;split at h
 ·cases h;rfl
 ·cases h;rfl
 ·cases h
 ·rename_i r0
  split at h
  ·rename_i n s q
   split at h
   ·cases h
   ·rename_i hn
    cases h;show _=decimalInt _++_;unfold decimalInt;rw[if_pos (by omega),C9 q,Int.natAbs_neg,Int.natAbs_natCast];rfl
  ·cases h
 ·cases e:digitRun t with
  |none=>rw[e]at h;cases h
  |some w=>
   rw[e]at h;simp at h;obtain⟨rfl,rfl⟩:=h;show _=decimalInt _++_;unfold decimalInt;rw[if_neg (by omega),Int.natAbs_natCast];exact C9 e
 ·rename_i r0
  cases e:readQuoted r0 with
  |none=>rw[e]at h;cases h
  |some w=>
   rw[e]at h;simp at h;obtain⟨rfl,rfl⟩:=h;show _=showStr _++_;unfold showStr;rw[Im (x:=w.1) (r:=w.2) e];simp
 ·cases h
theorem Io{c:Bool}{m:Mode}{k:Kind}{t:Text}{h0:Head}{r:Text}(h:readDefault c m k t=.ok (h0.dflt,r)):t=showDefault h0++r:=by
 unfold showDefault;unfold readDefault at h;split at h
 ·split at h
  ·split at h
   ·cases h
   ·rename_i q
    split at h
    ·simp at h
     obtain⟨e,rfl⟩:=h;rw[←e,Dd q];rfl
    ·cases h
  ·cases h
 ·simp at h
  obtain⟨e,rfl⟩:=h;rw[←e];rfl
def De(rd:Rd)(n:Nat):Prop:=∀d c b u t fs s,t.length<n→rd d c b u t=.ok (fs,s)→t=showFields fs++closeSign c::s
theorem Ip{rd:Rd}{n:Nat}(S:De rd n){d u:Nat}{t:Text}{k:Kind}{s:Text}(hl:t.length≤n)(h:dZ rd d u t=.ok (k,s)):t=showKind k++s:=by
 unfold dZ at h;split at h
 ·rename_i r
  simp only[List.length_cons]at hl;split at h
  ·cases h
  ·cases e:rd (d+1) false [] u r with
   |error f=>rw[e]at h;cases h
   |ok x=>
    rw[e]at h;cases h;rw[S _ _ _ _ _ _ _ (by omega) e];simp[showKind,openSign,closeSign]
 ·rename_i r
  simp only[List.length_cons]at hl;split at h
  ·cases h
  ·cases e:rd (d+1) true [] u r with
   |error f=>rw[e]at h;cases h
   |ok x=>
    rw[e]at h;cases h;rw[S _ _ _ _ _ _ _ (by omega) e];simp[showKind,openSign,closeSign]
 ·cases e:readLeaf u t with
  |error f=>rw[e]at h;cases h
  |ok x=>
   rw[e]at h;cases h;rw[Il (AD e).1];simp[showKind]
def Df:Fields→Text
 |.nil=>[]
 |.cons h k r=>59::showFields (.cons h k r)
theorem AH:∀n,De RF n
 |0=>fun _ _ _ _ _ _ _ h=>absurd h (Nat.not_lt_zero _)
 |n+1=>fun d c b u t fs s hl h=>by
  rw[mG]at h;obtain⟨x,t5,rest,h1,h2,rfl⟩:=oM h;have l5:=mF rS h1;obtain⟨t1,t2,t3,t4,a1,a2,a3,a4,_,a5⟩:=rQ h1;have m1:=oH a1;have m2:=oJ a2;have m3:=oK a3;rw[Ii a1,Ij a2,Ik a3,Ip (AH n) (by omega) a4,Io a5]
  have tl:t5=Df rest++closeSign c::s:=by
   clear h h1 a5;cases t5 with
   |nil=>cases h2
   |cons c0 r0=>
    simp only[List.length_cons]at l5;dsimp only[dS]at h2;by_cases hc:c0=59
    ·rw[if_pos hc]at h2
     subst hc;have i:=AH n _ _ _ _ _ _ _ (by omega) h2;cases rest with
     |nil=>
      exfalso;rw[mG]at h2;obtain⟨_,_,_,_,_,q⟩:=oM h2;cases q
     |cons g j q=>rw[i];rfl
    ·rw[if_neg hc]at h2
     by_cases hd:c0=closeSign c
     ·rw[if_pos hd]at h2
      cases h2;rw[hd];rfl
     ·rw[if_neg hd]at h2
      cases h2
  rw[tl];cases rest<;>simp[showFields,showHead,Df]
theorem Iq{d:Nat}{c:Bool}{b:List Head}{u:Nat}{t:Text}{fs:Fields}{s:Text}(h:RF d c b u t=.ok (fs,s)):t=showFields fs++closeSign c::s:=AH _ _ _ _ _ _ _ _ (Nat.lt_succ_self _) h
theorem AI{t:Text}{fs:Fields}(h:readSchema t=.ok fs):showSchema fs=t:=by
 rw[mH]at h;split at h
 ·cases h
 ·split at h
  ·rename_i r _
   cases e:RF 1 false [] 0 r with
   |error f=>rw[e]at h;cases h
   |ok x=>
    obtain⟨gs,s⟩:=x;rw[e,cQ]at h;dsimp only at h;split at h
    ·rename_i hs
     cases h;subst hs;rw[Iq e];rfl
    ·cases h
  ·cases h
mutual
inductive TK where
 |leaf (l:Leaf) (k fl:Nat)
 |group (c:Bool) (k fl:Nat) (fs:TF)
inductive TF where
 |nil
 |cons (h:Head) (f nm da:Nat) (k:TK) (rest:TF)
end
mutual
def TK.kd:TK→Kind
 |.leaf l _ _=>.leaf l
 |.group c _ _ fs=>.group c fs.fs
def TF.fs:TF→Fields
 |.nil=>.nil
 |.cons h _ _ _ k r=>.cons h k.kd r.fs
end
def TK.at:TK→Nat
 |.leaf _ k _=>k
 |.group _ k _ _=>k
def TK.fl:TK→Nat
 |.leaf _ _ fl=>fl
 |.group _ _ fl _=>fl
def TK.sub:TK→TF
 |.leaf _ _ _=>.nil
 |.group _ _ _ fs=>fs
structure Fi where
 h:Head
 f:Nat
 nm:Nat
 da:Nat
 k:TK
def TF.items:TF→List Fi
 |.nil=>[]
 |.cons h f nm da k r=>⟨h,f,nm,da,k⟩::r.items
def TF.of:List Fi→TF
 |[]=>.nil
 |x::r=>.cons x.h x.f x.nm x.da x.k (TF.of r)
theorem TF.fL:∀t:TF,TF.of t.items=t
 |.nil=>rfl
 |.cons h f nm da k r=>by unfold TF.items TF.of;rw[TF.fL r]
theorem TF.gV:∀l:List Fi,(TF.of l).items=l
 |[]=>rfl
 |x::r=>by unfold TF.of TF.items;rw[TF.gV r]
def TF.as(t:TF):List Nat:=t.items.map (·.f)
def dU:Option Lit→Nat→List Nat
 |some (.str _),da=>[da]
 |_,_=>[]
mutual
def TK.fp:TK→List Nat
 |.leaf _ k fl=>[k,fl]
 |.group _ k fl fs=>k::fl::fs.fp
def TF.fp:TF→List Nat
 |.nil=>[]
 |.cons h f nm da k r=>(f::nm::(dU h.dflt da++k.fp))++r.fp
end
def Fi.fp(x:Fi):List Nat:=x.f::x.nm::(dU x.h.dflt x.da++x.k.fp)
theorem TF.kY:∀t:TF,t.fp=t.items.flatMap Fi.fp
 |.nil=>rfl
 |.cons h f nm da k r=>by rw[TF.fp,TF.items,List.flatMap_cons,←TF.kY r];rfl
theorem TF.fM:∀t:TF,t.fs.list=t.items.map fun x=>(x.h,x.k.kd)
 |.nil=>rfl
 |.cons h f nm da k r=>by rw[TF.fs,Fields.list,TF.items,List.map_cons,TF.fM r]
theorem TF.Dg(h:Head)(f nm da:Nat)(k:TK)(r:TF):(TF.cons h f nm da k r).as=f::r.as:=rfl
theorem TF.i_(t:TF):t.as.length=t.items.length:=List.length_map _
def TF.snoc(t:TF)(x:Fi):TF:=TF.of (t.items++[x])
theorem TF.mK(t:TF)(x:Fi):(t.snoc x).items=t.items++[x]:=TF.gV _
theorem TF.Ir(t:TF)(x:Fi):(t.snoc x).as=t.as++[x.f]:=by unfold TF.as;rw[TF.mK,List.map_append];rfl
theorem TF.Dh(t:TF)(x:Fi):(t.snoc x).fp=t.fp++x.fp:=by
 rw[TF.kY,TF.mK,List.flatMap_append,←TF.kY];simp
def c6:Fields→Fields→Fields
 |.nil,g=>g
 |.cons h k r,g=>.cons h k (c6 r g)
theorem rY:∀f:Fields,c6 f .nil=f
 |.nil=>rfl
 |.cons h k r=>by rw[c6,rY r]
theorem Di:∀f g i:Fields,c6 (c6 f g) i=c6 f (c6 g i)
 |.nil,_,_=>rfl
 |.cons h k r,g,i=>by rw[c6,c6,c6,Di r g i]
theorem TF.rZ:∀(l m:List Fi),(TF.of (l++m)).fs=c6 (TF.of l).fs (TF.of m).fs
 |[],_=>rfl
 |x::l,m=>by
  show Fields.cons x.h x.k.kd (TF.of (l++m)).fs=c6 (Fields.cons x.h x.k.kd (TF.of l).fs) _;rw[TF.rZ l m];rfl
theorem TF.Dj(t:TF)(x:Fi):(t.snoc x).fs=c6 t.fs (.cons x.h x.k.kd .nil):=by
 unfold TF.snoc;rw[TF.rZ,TF.fL];rfl
section
variable{S:Type}(m:Head→S→Bool)
def bq:List S→TF→Option (List Fi)
 |[],_=>some []
 |s::p,t=>match t.items.find? fun x=>m x.h s with
  |none=>none
  |some x=>(bq p x.k.sub).map fun l=>x::l
end
def aW(h:Head)(n:Int):Bool:=(h.number:Int)==n
def gm(h:Head)(s:Text):Bool:=h.name==s
theorem AJ{A B:Type}(g:A→B)(p:B→Bool):∀l:List A,(l.map g).find? p=(l.find? fun x=>p (g x)).map g
 |[]=>rfl
 |x::l=>by
  rw[List.map_cons,List.find?_cons,List.find?_cons];cases p (g x)
  ·exact AJ g p l
  ·rfl
theorem r8(n:Int)(t:TF):t.fs.byNumber n=(t.items.find? fun x=>aW x.h n).map fun x=>(x.h,x.k.kd):=by
 unfold Fields.byNumber;rw[TF.fM,AJ];rfl
theorem Iu(n:Text)(t:TF):t.fs.byName n=(t.items.find? fun x=>gm x.h n).map fun x=>(x.h,x.k.kd):=by
 unfold Fields.byName;rw[TF.fM,AJ];rfl
theorem oO:∀(p:List Int)(t:TF),atPath p t.fs=((bq aW p t).bind List.getLast?).map fun x=>(x.h,x.k.kd)
 |[],t=>rfl
 |n::p,t=>by
  rw[atPath,r8,bq];cases e:t.items.find? fun x=>aW x.h n with
  |none=>rfl
  |some x=>
   dsimp only[Option.map_some];by_cases hp:p=[]
   ·subst hp;rfl
   ·rw[if_neg hp]
    cases hk:x.k with
    |leaf l k fl=>
     dsimp only[TK.kd,TK.sub];cases p with
     |nil=>exact absurd rfl hp
     |cons s p=>rfl
    |group c k fl fs=>
     dsimp only[TK.kd,TK.sub];rw[oO p fs];cases p with
     |nil=>exact absurd rfl hp
     |cons s p=>
      cases e2:bq aW (s::p) fs with
      |none=>rfl
      |some l=>
       cases l with
       |nil=>
        exfalso;rw[bq]at e2;split at e2
        ·cases e2
        ·rename_i y _
         cases e3:bq aW p y.k.sub<;>rw[e3]at e2<;>cases e2
       |cons y l=>simp
theorem oQ{S:Type}{m:Head→S→Bool}{p:List S}{t:TF}{l:List Fi}(h:bq m p t=some l):l.length=p.length:=by
 induction p generalizing t l with
 |nil=>cases h;rfl
 |cons s p ih=>
  rw[bq]at h;split at h
  ·cases h
  ·rename_i y _
   cases e3:bq m p y.k.sub with
   |none=>rw[e3]at h;cases h
   |some l'=>rw[e3]at h;cases h;rw[List.length_cons,ih e3];rfl
theorem Dl:∀(p:List Int)(t:TF),namesAt p t.fs=(bq aW p t).bind fun l=>if l.isEmpty then none else some (l.map fun x=>x.h.name)
 |[],t=>rfl
 |n::p,t=>by
  rw[namesAt,r8,bq];cases e:t.items.find? fun x=>aW x.h n with
  |none=>rfl
  |some x=>
   dsimp only[Option.map_some];by_cases hp:p=[]
   ·subst hp;rfl
   ·rw[if_neg hp]
    cases hk:x.k with
    |leaf l k fl=>
     dsimp only[TK.kd,TK.sub];cases p with
     |nil=>exact absurd rfl hp
     |cons s p=>rfl
    |group c k fl fs=>
     dsimp only[TK.kd,TK.sub];rw[Dl p fs];cases e2:bq aW p fs with
     |none=>rfl
     |some l=>
      have:=oQ e2;cases l with
      |nil=>cases p with
       |nil=>exact absurd rfl hp
       |cons s p=>cases this
      |cons y l=>rfl
theorem Dm:∀(p:List Text)(t:TF),pathOf p t.fs=(bq gm p t).bind fun l=>if l.isEmpty then none else some (l.map fun x=>x.h.number)
 |[],t=>rfl
 |n::p,t=>by
  rw[pathOf,Iu,bq];cases e:t.items.find? fun x=>gm x.h n with
  |none=>rfl
  |some x=>
   dsimp only[Option.map_some];by_cases hp:p=[]
   ·subst hp;rfl
   ·rw[if_neg hp]
    cases hk:x.k with
    |leaf l k fl=>
     dsimp only[TK.kd,TK.sub];cases p with
     |nil=>exact absurd rfl hp
     |cons s p=>rfl
    |group c k fl fs=>
     dsimp only[TK.kd,TK.sub];rw[Dm p fs];cases e2:bq gm p fs with
     |none=>rfl
     |some l=>
      have:=oQ e2;cases l with
      |nil=>cases p with
       |nil=>exact absurd rfl hp
       |cons s p=>cases this
      |cons y l=>rfl
def ja(t:TF)(acc:List Fi):TF:=match acc.getLast? with
 |none=>t
 |some x=>x.k.sub
theorem AK{S:Type}(m:Head→S→Bool):∀(p:List S)(t:TF)(acc:List Fi)(s:S),bq m p t=some acc→
  ∀q,bq m (p++s::q) t=((ja t acc).items.find? fun x=>m x.h s).bind fun x=>(bq m q x.k.sub).map fun l=>acc++x::l
 |[],t,acc,s,h,q=>by
  cases h;show bq m (s::q) t=_;rw[bq];show _=(t.items.find? fun x=>m x.h s).bind _;cases(t.items.find? fun x=>m x.h s)<;>rfl
 |r::p,t,acc,s,h,q=>by
  rw[bq]at h;split at h
  ·cases h
  ·rename_i y hy
   cases e3:bq m p y.k.sub with
   |none=>rw[e3]at h;cases h
   |some l'=>
    rw[e3]at h;cases h;show bq m (r::(p++s::q)) t=_;rw[bq,hy];dsimp only;rw[AK m p y.k.sub l' s e3 q]
    have ec:ja t (y::l')=ja y.k.sub l':=by
     unfold ja;cases l' with
     |nil=>rfl
     |cons z l'=>rw[List.getLast?_cons_cons,List.getLast?_eq_some_getLast (by simp)]
    rw[ec];cases((ja y.k.sub l').items.find? fun x=>m x.h s)with
    |none=>rfl
    |some x=>
     dsimp only[Option.bind_some];cases bq m q x.k.sub<;>rfl
def TF.fN(n:Int)(g:TK→TK):TF→TF
 |.nil=>.nil
 |.cons h f nm da k r=>if(h.number:Int)=n then .cons h f nm da (g k) r else .cons h f nm da k (r.fN n g)
def TK.b_:List Int→TK→Option TK
 |[],t=>match t with
  |.leaf _ _ _=>none
  |.group c k fl fs=>some (.group c k fl fs)
 |n::p,t=>(t.sub.items.find? fun x=>aW x.h n).bind fun x=>x.k.b_ p
def TK.fS:List Int→(TK→TK)→TK→TK
 |[],g,t=>g t
 |n::p,g,t=>match t with
  |.leaf l k fl=>.leaf l k fl
  |.group c k fl fs=>.group c k fl (fs.fN n fun kk=>kk.fS p g)
theorem kZ(p:List Int)(l:Leaf)(k fl:Nat):TK.b_ p (.leaf l k fl)=none:=by
 cases p<;>rfl
theorem TK.r9{g:TK→TK}{t':TK}(hg:(g t').at=t'.at):∀(p:List Int)(t:TK),t.b_ p=some t'→(t.fS p g).at=t.at
 |[],.leaf _ _ _,h=>by cases h
 |[],.group c k fl fs,h=>by cases h;exact hg
 |_::_,.leaf _ _ _,_=>rfl
 |_::_,.group _ _ _ _,_=>rfl
theorem ir{h:Head}{n:Int}:aW h n=true↔(h.number:Int)=n:=by
 unfold aW;exact beq_iff_eq
theorem AL{n:Int}{g:TK→TK}{K:Kind}:∀(fs:TF)(x:Fi),(fs.items.find? fun y=>aW y.h n)=some x→(g x.k).kd=K→fs.fs.change n (fun h _=>(h,K))=(fs.fN n g).fs
 |.nil,_,e,_=>by cases e
 |.cons h f nm da kk r,x,e,hK=>by
  rw[TF.fs,Fields.change,TF.fN];rw[TF.items,List.find?_cons]at e;by_cases hn:(h.number:Int)=n
  ·rw[if_pos hn,if_pos hn]
   rw[show aW h n=true from ir.mpr hn]at e;cases e;rw[TF.fs,hK]
  ·rw[if_neg hn,if_neg hn]
   rw[show aW h n=false from Bool.eq_false_iff.mpr fun z=>hn (ir.mp z)]at e;rw[TF.fs,AL r x e hK]
theorem Dn{G:Fields→Fields}{g:TK→TK}(hg:∀c k fl fs,(g (.group c k fl fs)).kd=.group c (G fs.fs)):
  ∀(p:List Int)(c:Bool)(k fl:Nat)(fs:TF),(inGroup G p fs.fs).map (fun f=>Kind.group c f)=((TK.group c k fl fs).b_ p).map fun _=>((TK.group c k fl fs).fS p g).kd
 |[],c,k,fl,fs=>by
  show some _=some _;rw[show((TK.group c k fl fs).fS [] g)=g (TK.group c k fl fs)from rfl,hg]
 |n::p,c,k,fl,fs=>by
  rw[inGroup,r8];show _=Option.map _ ((fs.items.find? fun x=>aW x.h n).bind fun x=>x.k.b_ p);cases e:fs.items.find? fun x=>aW x.h n with
  |none=>rfl
  |some x=>
   dsimp only[Option.map_some,Option.bind_some];cases hk:x.k with
   |leaf l k' fl'=>rw[kZ];rfl
   |group c' k' fl' gs=>
    dsimp only[TK.kd];have ih:=Dn hg p c' k' fl' gs;cases e1:(TK.group c' k' fl' gs).b_ p with
    |none=>
     rw[e1]at ih;cases e2:inGroup G p gs.fs with
     |none=>rfl
     |some f=>rw[e2]at ih;cases ih
    |some t'=>
     rw[e1]at ih;cases e2:inGroup G p gs.fs with
     |none=>rw[e2]at ih;cases ih
     |some f=>
      rw[e2]at ih;have ih':Kind.group c' f=((TK.group c' k' fl' gs).fS p g).kd:=Option.some.inj ih;show some (Kind.group c _)=some (Kind.group c (fs.fN n fun kk=>kk.fS p g).fs)
      congr 2
      exact AL fs x e (by rw[hk];exact ih'.symm)
theorem Iv{G:Fields→Fields}{p:List Int}{c:Bool}{k fl:Nat}{fs:TF}(h:(TK.group c k fl fs).b_ p=none):inGroup G p fs.fs=none:=by
 have z:=Dn (G:=id) (g:=id) (fun _ _ _ _=>rfl) p c k fl fs;rw[h]at z
 have e1:inGroup id p fs.fs=none:=by
  cases e:inGroup id p fs.fs with
  |none=>rfl
  |some f=>rw[e]at z;cases z
 clear z h
 have:∀(p:List Int)(f:Fields),(inGroup id p f).isSome=(inGroup G p f).isSome:=by
  intro p
  induction p with
  |nil=>intro f;rfl
  |cons n p ih=>
   intro f;rw[inGroup,inGroup];split
   ·rename_i c' gs _
    have:=ih gs;cases e1:inGroup id p gs<;>cases e2:inGroup G p gs<;>rw[e1,e2]at this<;>first|rfl|cases this
   ·rfl
 have t:=this p fs.fs;rw[e1]at t;cases e:inGroup G p fs.fs with
 |none=>rfl
 |some f=>rw[e]at t;cases t
theorem Dq:∀(p:List Int)(t:TK),p≠[]→t.b_ p=((bq aW p t.sub).bind List.getLast?).bind fun x=>match x.k with
  |.leaf _ _ _=>none
  |.group c k fl fs=>some (.group c k fl fs)
 |[],_,h=>absurd rfl h
 |n::p,t,_=>by
  show(t.sub.items.find? fun x=>aW x.h n).bind (fun x=>x.k.b_ p)=_;rw[bq];cases e:t.sub.items.find? fun x=>aW x.h n with
  |none=>rfl
  |some x=>
   dsimp only[Option.bind_some];cases p with
   |nil=>rfl
   |cons s p=>
    rw[Dq (s::p) x.k (by simp)];cases e2:bq aW (s::p) x.k.sub with
    |none=>rfl
    |some l=>
     have:=oQ e2;cases l with
     |nil=>cases this
     |cons y l=>simp
theorem Dr:∀(p:List Int)(t:TK)(l:List Fi)(x:Fi),p≠[]→bq aW p t.sub=some l→l.getLast?=some x→
  ∃t' n,t.b_ p.dropLast=some t'∧p.getLast?=some n∧t'.sub.items.find? (fun y=>aW y.h n)=some x
 |[],_,_,_,h,_,_=>absurd rfl h
 |[n],t,l,x,_,h,hx=>by
  rw[bq]at h;split at h
  ·cases h
  ·rename_i y hy
   cases h;cases hx;cases t with
   |leaf _ _ _=>cases hy
   |group c k fl fs=>exact⟨_,n,rfl,rfl,hy⟩
 |n::s::p,t,l,x,_,h,hx=>by
  rw[bq]at h;split at h
  ·cases h
  ·rename_i y hy
   cases e:bq aW (s::p) y.k.sub with
   |none=>rw[e]at h;cases h
   |some l'=>
    rw[e]at h;cases h;have hl:=oQ e
    have hx':l'.getLast?=some x:=by
     cases l' with
     |nil=>cases hl
     |cons z l'=>rw[List.getLast?_cons_cons]at hx;exact hx
    obtain⟨t',m,a1,a2,a3⟩:=Dr (s::p) y.k l' x (by simp) e hx';refine⟨t',m,?_,?_,a3⟩
    ·show(t.sub.items.find? fun x=>aW x.h n).bind (fun x=>x.k.b_ (s::p).dropLast)=_
     rw[hy];exact a1
    ·rw[List.getLast?_cons_cons];exact a2
theorem gE{t:TF}{x:Fi}(h:x∈t.items){b:Nat}(hb:b∈x.fp):b∈t.fp:=by
 rw[TF.kY,List.mem_flatMap];exact⟨x,h,hb⟩
theorem k9{x:Fi}{b:Nat}(hb:b∈x.k.fp):b∈x.fp:=List.mem_cons_of_mem _ (List.mem_cons_of_mem _ (List.mem_append_right _ hb))
theorem oR:∀(p:List Int)(t t':TK),t.b_ p=some t'→∀b∈t'.fp,b∈t.fp
 |[],.leaf _ _ _,t',h=>by cases h
 |[],.group c k fl fs,t',h=>by cases h;exact fun b hb=>hb
 |n::p,t,t',h=>by
  have h:(t.sub.items.find? fun x=>aW x.h n).bind (fun x=>x.k.b_ p)=some t':=h;cases e:t.sub.items.find? fun x=>aW x.h n with
  |none=>rw[e]at h;cases h
  |some x=>
   rw[e]at h;intro b hb;have:=oR p x.k t' h b hb;have hm:=List.mem_of_find?_eq_some e;cases t with
   |leaf _ _ _=>cases hm
   |group c k fl fs=>exact List.mem_cons_of_mem _ (List.mem_cons_of_mem _ (gE hm (k9 this)))
def iu:Leaf→Prop
 |.bit=>True
 |.int n=>2≤n∧n≤64
 |.text n=>1≤n∧n≤999
def r_:Option Lit→Prop
 |none=>True
 |some (.num z)=>z.natAbs<2^64
 |some (.str s)=>(∀c∈s,c<256)∧s.length≤999
structure gW(h:Head):Prop where
 lo:1≤h.number
 hi:h.number≤999
 nm:h.name.length≤12
 nb:∀c∈h.name,c<256
 n0:h.name≠[]
 df:r_ h.dflt
mutual
def cS:Kind→Nat→Prop
 |.leaf l,_=>iu l
 |.group _ fs,d=>1≤d∧fs≠.nil∧cH fs (d-1)
def cH:Fields→Nat→Prop
 |.nil,_=>True
 |.cons h k r,d=>gW h∧cS k d∧cH r d∧∀x∈r.list,h.number<x.1.number
end
theorem Iw:∀(k:Nat)(l:Text),l.length=k→(∀c∈l,isDigit c=true)→worth l<10^k:=by
 intro k
 induction k with
 |zero=>intro l hl _;rw[List.length_eq_zero_iff.mp hl];decide
 |succ k ih=>
  intro l hl hd;rcases snoc_cases l with e|⟨r,c,rfl⟩
  ·rw[e]at hl;cases hl
  ·have hc:=mJ.mp (hd c (by simp))
   have hl':r.length=k:=by simpa using hl
   have i:=ih r hl' fun x hx=>hd x (List.mem_append_left _ hx)
   rw[rW,Nat.pow_succ];omega
theorem mL{t:Text}{n:Nat}{r:Text}(h:numberRun t=some (n,r)):1≤n∧n≤999:=by
 obtain⟨h1,h2,h3,rfl,_⟩:=oG h;have hd:=takeWhile_all isDigit t;constructor
 ·cases e:t.takeWhile isDigit with
  |nil=>exact absurd e h1
  |cons c l=>
   rw[e]at h2 hd;exact rX (hd c List.mem_cons_self) fun z=>h2 (by rw[z];rfl)
 ·have:=Iw _ _ rfl hd
  have h4:(10:Nat)^(t.takeWhile isDigit).length≤10^3:=Nat.pow_le_pow_right (by decide) h3;omega
theorem Iz{b:List Head}{t:Text}{n:Nat}{r:Text}(h:readNumber b t=.ok (n,r)):1≤n∧n≤999∧∀g∈b.head?,g.number<n:=by
 unfold readNumber at h;split at h
 ·cases h
 ·rename_i n' r' q
  split at h
  ·cases h;exact⟨(mL q).1,(mL q).2,fun g hg=>by cases hg⟩
  ·split at h
   ·rename_i g _ z
    cases h;exact⟨(mL q).1,(mL q).2,fun g hg=>by cases hg;exact z⟩
   ·cases h
theorem IA{c:Nat}(h:nameSign c=true):c<256:=by
 unfold nameSign isLow isDigit at h;simp only[Bool.or_eq_true,Bool.and_eq_true,decide_eq_true_iff,beq_iff_eq]at h;omega
theorem Ds{s:Text}(h:goodName s=true):s.length≤12∧(∀c∈s,c<256)∧s≠[]:=by
 unfold goodName at h;split at h
 ·cases h
 ·simp only[Bool.and_eq_true,decide_eq_true_iff]at h
  refine⟨h.2,fun c hc=>IA ?_,by simp⟩;exact List.all_eq_true.mp h.1.2 c hc
theorem IB{b:List Head}{t:Text}{n:Text}{r:Text}(h:readName b t=.ok (n,r)):goodName n=true∧∀g∈b,g.name≠n:=by
 unfold readName at h;dsimp only at h;split at h
 ·cases h
 ·rename_i q
  split at h
  ·cases h
  ·rename_i z
   cases h;refine⟨by simpa using q,fun g hg e=>z ?_⟩;rw[List.any_eq_true];exact⟨g,hg,by rw[e];exact beq_self_eq_true _⟩
theorem IC{t:Text}{l:Leaf}{s:Text}(h:gD t=.ok (l,s)):iu l:=by
 have sz:∀{t r:Text}{lo hi:Nat}{mk:Nat→Leaf}{l:Leaf}{s:Text},sized t r lo hi mk=.ok (l,s)→∃n,l=mk n∧lo≤n∧n≤hi:=by
  intro t r lo hi mk l s h;unfold sized at h;split at h
  ·cases h
  ·split at h
   ·rename_i z;cases h;exact⟨_,rfl,z⟩
   ·cases h
 unfold gD at h;split at h
 ·cases h;trivial
 ·obtain⟨n,rfl,q⟩:=sz h;exact q
 ·obtain⟨n,rfl,q⟩:=sz h;exact q
 ·cases h
theorem Dt{a x:Nat}(h:hexOf a=some x):x<16:=(AG h).1
theorem ID:∀{t:Text}{x r:Text},readQuoted t=some (x,r)→∀c∈x,c<256:=by
 intro t
 induction t using readQuoted.induct with
 |case1=>intro x r h;simp[readQuoted]at h
 |case2 r=>intro x r' h;simp[readQuoted]at h;obtain⟨rfl,rfl⟩:=h;simp
 |case3 a b r x y hx hy hp=>intro z r' h;simp[readQuoted,hx,hy,hp]at h
 |case4 a b r x y hx hy hp ih=>
  intro z r' h;simp only[readQuoted,hx,hy,hp]at h;cases e:readQuoted r with
  |none=>rw[e]at h;simp at h
  |some w=>
   rw[e]at h;simp at h;have i:=ih (x:=w.1) (r:=w.2) e;obtain⟨rfl,rfl⟩:=h;have:=Dt hx;have:=Dt hy;intro c hc;rcases List.mem_cons.mp hc with e|e
   ·omega
   ·exact i c e
 |case5 a b r hn=>
  intro z r' h;rw[readQuoted]at h;split at h
  ·rename_i x y hx hy
   exact(hn x y hx hy).elim
  ·cases h
 |case6 c r h1 h2 hp ih=>
  intro z r' h;rw[readQuoted]at h
  ·rw[if_pos hp]at h
   cases e:readQuoted r with
   |none=>rw[e]at h;simp at h
   |some w=>
    rw[e]at h;simp at h;have i:=ih (x:=w.1) (r:=w.2) e;obtain⟨rfl,rfl⟩:=h;intro c' hc;rcases List.mem_cons.mp hc with e|e
    ·unfold plain at hp
     simp only[Bool.and_eq_true,decide_eq_true_iff]at hp;omega
    ·exact i c' e
  ·exact h1
  ·exact h2
 |case7 c r h1 h2 hp=>
  intro z r' h;rw[readQuoted]at h
  ·rw[if_neg hp]at h;cases h
  ·exact h1
  ·exact h2
theorem Du{l:Leaf}{t:Text}{v:Lit}{s:Text}(hl:iu l)(h:readLit l t=some (v,s))(hf:fits l v=true):r_ (some v):=by
 cases v with
 |num z=>
  show z.natAbs<2^64;cases l with
  |bit=>
   unfold fits at hf;simp only[Bool.or_eq_true,beq_iff_eq]at hf;rcases hf with rfl|rfl<;>decide
  |int n=>
   unfold fits at hf;simp only[Bool.and_eq_true,decide_eq_true_iff]at hf;obtain⟨h1,h2⟩:=(show 2≤n∧n≤64 from hl);have h3:(2:Nat)^(n-1)≤2^63:=Nat.pow_le_pow_right (by decide) (by omega);have h4:((2:Int)^(n-1))=(((2:Nat)^(n-1):Nat):Int):=by simp
   rw[h4]at hf;omega
  |text n=>unfold fits at hf;cases hf
 |str x=>
  cases l with
  |bit=>unfold fits at hf;cases hf
  |int n=>unfold fits at hf;cases hf
  |text n=>
   unfold fits at hf;have hf':x.length≤n:=of_decide_eq_true hf;obtain⟨_,h2⟩:=(show 1≤n∧n≤999 from hl);refine⟨?_,by omega⟩;cases t with
   |nil=>simp[readLit]at h
   |cons c r=>
    by_cases hc:c=34
    ·subst hc
     simp only[readLit]at h;cases e:readQuoted r with
     |none=>rw[e]at h;cases h
     |some w=>
      rw[e]at h;simp at h;obtain⟨rfl,rfl⟩:=h;exact ID (x:=w.1) (r:=w.2) e
    ·simp[readLit,hc]at h
theorem IE{c:Bool}{m:Mode}{k:Kind}{t:Text}{v:Option Lit}{r:Text}{d:Nat}(hk:cS k d)(h:readDefault c m k t=.ok (v,r)):r_ v:=by
 unfold readDefault at h;split at h
 ·split at h
  ·split at h
   ·cases h
   ·rename_i q
    split at h
    ·rename_i hf
     cases h;exact Du (show iu _ from hk) q hf
    ·cases h
  ·cases h
 ·cases h;trivial
def AM(rd:Rd)(n:Nat):Prop:=∀d c b u t fs s,t.length<n→d≤6→u≤40→rd d c b u t=.ok (fs,s)→fs≠.nil∧cH fs (6-d)∧(∀x∈fs.list,∀g∈b.head?,g.number<x.1.number)∧u+leavesFields fs≤40
theorem Dv{rd:Rd}{n:Nat}(S:AM rd n){d u:Nat}{t:Text}{k:Kind}{s:Text}(hl:t.length≤n)(hd:d≤6)(hu:u≤40)(h:dZ rd d u t=.ok (k,s)):cS k (6-d)∧u+leavesKind k≤40:=by
 unfold dZ at h;split at h
 ·rename_i r
  simp only[List.length_cons]at hl;split at h
  ·cases h
  ·rename_i hD
   cases e:rd (d+1) false [] u r with
   |error f=>rw[e]at h;cases h
   |ok x=>
    rw[e]at h;cases h;have hD':d<6:=Nat.lt_of_not_le hD;obtain⟨a1,a2,_,a4⟩:=S _ _ _ _ _ _ _ (by omega) (by omega) hu e;refine⟨⟨by omega,a1,?_⟩,a4⟩;rw[show 6-d-1=6-(d+1) by omega];exact a2
 ·rename_i r
  simp only[List.length_cons]at hl;split at h
  ·cases h
  ·rename_i hD
   cases e:rd (d+1) true [] u r with
   |error f=>rw[e]at h;cases h
   |ok x=>
    rw[e]at h;cases h;have hD':d<6:=Nat.lt_of_not_le hD;obtain⟨a1,a2,_,a4⟩:=S _ _ _ _ _ _ _ (by omega) (by omega) hu e;refine⟨⟨by omega,a1,?_⟩,a4⟩;rw[show 6-d-1=6-(d+1) by omega];exact a2
 ·cases e:readLeaf u t with
  |error f=>rw[e]at h;cases h
  |ok x=>
   rw[e]at h;cases h;obtain⟨q1,q2⟩:=AD e;exact⟨IC q1,q2⟩
theorem Dy{rd:Rd}{n:Nat}(S:AM rd n){d:Nat}{c:Bool}{b:List Head}{u:Nat}{t:Text}{x:Head×Kind}{t5:Text}(hl:t.length≤n)(hd:d≤6)(hu:u≤40)(h:fK rd d c b u t=.ok (x,t5)):
  gW x.1∧cS x.2 (6-d)∧(∀g∈b.head?,g.number<x.1.number)∧u+leavesKind x.2≤40:=by
 obtain⟨t1,t2,t3,t4,a1,a2,a3,a4,_,a5⟩:=rQ h;have m1:=oH a1;have m2:=oJ a2;have m3:=oK a3;obtain⟨n1,n2,n3⟩:=Iz a1;obtain⟨g1,g2,g3⟩:=Ds (IB a2).1;obtain⟨k1,k2⟩:=Dv S (by omega) hd hu a4;exact⟨⟨n1,n2,g1,g2,g3,IE k1 a5⟩,k1,n3,k2⟩
theorem oS:∀n,AM RF n
 |0=>fun _ _ _ _ _ _ _ h=>absurd h (Nat.not_lt_zero _)
 |n+1=>fun d c b u t fs s hl hd hu h=>by
  rw[mG]at h;obtain⟨x,t5,rest,h1,h2,rfl⟩:=oM h;have l5:=mF rS h1;obtain⟨w1,w2,w3,w4⟩:=Dy (oS n) (by omega) hd hu h1
  have key:cH rest (6-d)∧(∀y∈rest.list,x.1.number<y.1.number)∧u+leavesKind x.2+leavesFields rest≤40:=by
   cases t5 with
   |nil=>cases h2
   |cons c0 r0=>
    simp only[List.length_cons]at l5;dsimp only[dS]at h2;by_cases hc:c0=59
    ·rw[if_pos hc]at h2
     obtain⟨_,b2,b3,b4⟩:=oS n _ _ _ _ _ _ _ (by omega) hd w4 h2;exact⟨b2,fun y hy=>b3 y hy x.1 rfl,b4⟩
    ·rw[if_neg hc]at h2
     by_cases hd':c0=closeSign c
     ·rw[if_pos hd']at h2
      cases h2;exact⟨trivial,fun y hy=>(by cases hy),w4⟩
     ·rw[if_neg hd']at h2
      cases h2
  refine⟨by simp,⟨w1,w2,key.1,key.2.1⟩,fun y hy g hg=>?_,?_⟩
  ·have hg':=w3 g hg
   rcases List.mem_cons.mp (show y∈(x.1,x.2)::rest.list from hy)with e|e
   ·rw[e];exact hg'
   ·have:=key.2.1 y e;omega
  ·show u+(leavesKind x.2+leavesFields rest)≤40
   omega
structure Wf(fs:Fields):Prop where
 ne:fs≠.nil
 wf:cH fs 5
 lv:leavesFields fs≤40
 len:(showSchema fs).length≤2000
 by_:∀c∈showSchema fs,True
theorem iw{t:Text}{fs:Fields}(h:readSchema t=.ok fs):Wf fs:=by
 have hs:=AI h;rw[mH]at h;split at h
 ·cases h
 ·rename_i hlen
  split at h
  ·rename_i r
   cases e:RF 1 false [] 0 r with
   |error f=>rw[e]at h;cases h
   |ok x=>
    obtain⟨gs,s⟩:=x;rw[e,cQ]at h;dsimp only at h;split at h
    ·cases h
     obtain⟨a1,a2,_,a4⟩:=oS _ _ _ _ _ _ _ _ (Nat.lt_succ_self _) (by decide) (by decide) e;refine⟨a1,a2,by omega,?_,fun _ _=>trivial⟩;rw[hs];exact Nat.le_of_not_lt hlen
    ·cases h
  ·cases h
def iL(neg:Bool)(t:Text):Option (Lit×Text):=match digitRun t with
 |none=>none
 |some (n,s)=>if neg=true∧n=0 then none else some (.num (if neg=true then-(n:Int)else(n:Int)),s)
theorem IF(b:Nat)(t:Text):readLit (.int b) (45::t)=iL true t:=by
 unfold iL;rw[readLit];cases digitRun t with
 |none=>rfl
 |some x=>
  obtain⟨n,s⟩:=x;dsimp only;by_cases h:n=0
  ·rw[if_pos h,if_pos ⟨rfl,h⟩]
  ·rw[if_neg h,if_neg (fun z=>h z.2)];rfl
theorem Dz(b:Nat){t:Text}(h:t.head?≠some 45):readLit (.int b) t=iL false t:=by
 unfold iL
 have e:readLit (.int b) t=(digitRun t).map fun x=>(.num (x.1:Int),x.2):=by
  cases t with
  |nil=>rfl
  |cons c r=>
   rw[readLit];intro r' z;exact h (by rw[z];rfl)
 rw[e];cases digitRun t with
 |none=>rfl
 |some x=>
  obtain⟨n,s⟩:=x;dsimp only[Option.map_some];rw[if_neg (fun z=>Bool.false_ne_true z.1)];rfl
theorem IG{neg:Bool}{t:Text}(h:t.takeWhile isDigit=[]):iL neg t=none:=by
 unfold iL digitRun;dsimp only;rw[if_pos (.inl h)]
theorem II{neg:Bool}{t:Text}(h:(t.takeWhile isDigit).head?=some 48)(h2:1<(t.takeWhile isDigit).length∨neg=true):iL neg t=none:=by
 unfold iL digitRun;dsimp only;by_cases h1:1<(t.takeWhile isDigit).length
 ·rw[if_pos (.inr ⟨h,h1⟩)]
 ·have hn:neg=true:=h2.resolve_left h1
  have e:t.takeWhile isDigit=[48]:=by
   cases e:t.takeWhile isDigit with
   |nil=>rw[e]at h;cases h
   |cons c l=>
    rw[e]at h h1;cases h;cases l with
    |nil=>rfl
    |cons x l=>simp at h1
  rw[e];rw[if_neg (by rintro(z|⟨_,z⟩)<;>simp at z)];dsimp only;rw[if_pos ⟨hn,rfl⟩]
theorem IJ{neg:Bool}{t:Text}(h0:t.takeWhile isDigit≠[])(h:(t.takeWhile isDigit).head?=some 48→¬(1<(t.takeWhile isDigit).length)∧neg=false):
  iL neg t=some (.num (if neg=true then-(worth (t.takeWhile isDigit):Int)else(worth (t.takeWhile isDigit):Int)),t.dropWhile isDigit):=by
 unfold iL digitRun;dsimp only;rw[if_neg (by rintro(z|⟨z1,z2⟩);exact h0 z;exact(h z1).1 z2)];dsimp only;rw[if_neg];rintro⟨z1,z2⟩;have hd:=takeWhile_all isDigit t;cases e:t.takeWhile isDigit with
 |nil=>exact h0 e
 |cons c l=>
  rw[e]at h z2 hd
  have hc:c≠48:=fun z=>by
   have:=(h (by rw[z];rfl)).2;rw[z1]at this;cases this
  have:=rX (r:=l) (hd c List.mem_cons_self) hc;omega
theorem IK:∀(k:Nat)(l:Text),l.length=k+1→(∀c∈l,isDigit c=true)→l.head?≠some 48→10^k≤worth l:=by
 intro k
 induction k with
 |zero=>
  intro l hl hd h0;cases l with
  |nil=>cases hl
  |cons c l=>exact rX (hd c List.mem_cons_self) fun z=>h0 (by rw[z];rfl)
 |succ k ih=>
  intro l hl hd h0;rcases snoc_cases l with e|⟨r,c,rfl⟩
  ·rw[e]at hl;cases hl
  ·have hl':r.length=k+1:=by simpa using hl
   have i:=ih r hl' (fun x hx=>hd x (List.mem_append_left _ hx)) (by
    cases r with
    |nil=>cases hl'
    |cons x r=>exact h0)
   rw[rW,Nat.pow_succ];omega
theorem IL{b:Nat}(hb:b≤64){z:Int}(h:10^19≤z.natAbs):fits (.int b) (.num z)=false:=by
 show(decide (-(2^(b-1):Int)≤z)&&decide (z<(2^(b-1):Int)))=false;have h3:(2:Nat)^(b-1)≤2^63:=Nat.pow_le_pow_right (by decide) (by omega);have h4:((2:Int)^(b-1))=(((2:Nat)^(b-1):Nat):Int):=by simp
 rw[h4,Bool.and_eq_false_iff,decide_eq_false_iff_not,decide_eq_false_iff_not];omega
theorem IM{t:Text}(h:2000<t.length):readSchema t=.error {kind:=10,left:=t.length-2000}:=by
 rw[mH,if_pos (show MOST<t.length from h)];rfl
theorem IP{r:Text}(h:¬2000<(123::r).length):readSchema (123::r)=(RF 1 false [] 0 r>>=fun x=>if x.2=[]then .ok x.1 else faultAt 1 x.2):=by
 rw[mH,if_neg (show¬MOST<(123::r).length from h)];rfl
theorem IQ{t:Text}(h:¬2000<t.length)(h2:∀r,t≠123::r):readSchema t=.error {kind:=1,left:=t.length}:=by
 rw[mH,if_neg (show¬MOST<t.length from h)];split
 ·exact absurd rfl (h2 _)
 ·rfl
mutual
def dF:Kind→Nat→Prop
 |.leaf l,_=>iu l
 |.group _ fs,d=>1≤d∧fO fs (d-1)
def fO:Fields→Nat→Prop
 |.nil,_=>True
 |.cons h k r,d=>gW h∧dF k d∧fO r d
end
mutual
theorem cS.wr:∀{k:Kind}{d:Nat},cS k d→dF k d
 |.leaf _,_,h=>h
 |.group _ fs,_,⟨h1,_,h3⟩=>⟨h1,h3.wr⟩
theorem cH.wr:∀{fs:Fields}{d:Nat},cH fs d→fO fs d
 |.nil,_,_=>trivial
 |.cons _ k r,_,⟨h1,h2,h3,_⟩=>⟨h1,h2.wr,h3.wr⟩
end
mutual
theorem dF.mono:∀{k:Kind}{d d':Nat},dF k d→d≤d'→dF k d'
 |.leaf _,_,_,h,_=>h
 |.group _ fs,_,_,⟨h1,h2⟩,hd=>⟨by omega,h2.mono (by omega)⟩
theorem fO.mono:∀{fs:Fields}{d d':Nat},fO fs d→d≤d'→fO fs d'
 |.nil,_,_,_,_=>trivial
 |.cons _ k r,_,_,⟨h1,h2,h3⟩,hd=>⟨h1,h2.mono hd,h3.mono hd⟩
end
theorem sf:∀{fs:Fields}{d:Nat},fO fs d↔∀x∈fs.list,gW x.1∧dF x.2 d
 |.nil,_=>by
  constructor
  ·intro _ x hx;cases hx
  ·intro _;trivial
 |.cons h k r,d=>by
  rw[fO,sf (fs:=r),Fields.list,List.forall_mem_cons,and_assoc]
def cW:List Text→Text
 |[]=>[]
 |[x]=>x
 |x::y::r=>x++59::cW (y::r)
theorem DA:∀(l:List Text)(x:Text),l≠[]→cW (l++[x])=cW l++59::x
 |[],_,h=>absurd rfl h
 |[y],x,_=>rfl
 |y::z::r,x,_=>by
  show y++59::cW ((z::r)++[x])=(y++59::cW (z::r))++59::x;rw[DA (z::r) x (by simp)];simp
def cK(h:Head)(k:Kind):Text:=showHead h++(showKind k++showDefault h)
theorem sj:∀fs:Fields,showFields fs=cW (fs.list.map fun x=>cK x.1 x.2)
 |.nil=>by rw[showFields];rfl
 |.cons h k .nil=>by simp[showFields,Fields.list,cW,cK]
 |.cons h k (.cons g j r)=>by
  have ih:=sj (.cons g j r);rw[showFields,ih];simp[Fields.list,cW,cK]
theorem AN:∀(l:List Text)(i:Nat),(cW (l.take i)).length≤(cW l).length
 |[],i=>by simp[cW]
 |[x],0=>by simp[cW]
 |[x],i+1=>by simp[cW]
 |x::y::r,0=>by simp[cW]
 |x::y::r,1=>by simp[cW]
 |x::y::r,i+2=>by
  have ih:=AN (y::r) (i+1);show(x++59::cW ((y::r).take (i+1))).length≤(x++59::cW (y::r)).length;rw[List.length_append,List.length_append,List.length_cons,List.length_cons];omega
theorem sq:∀(l:List Text)(x:Text),x∈l→x.length≤(cW l).length
 |[],_,h=>by cases h
 |[y],x,h=>by rw[List.mem_singleton.mp h];exact Nat.le_refl _
 |y::z::r,x,h=>by
  show x.length≤(y++59::cW (z::r)).length;rw[List.length_append,List.length_cons];rcases List.mem_cons.mp h with e|e
  ·rw[e];omega
  ·have:=sq (z::r) x e;omega
theorem AO(c:Bool)(p:List Nat)(r d:Nat):∀fs:Fields,columnsFields fs c p r d=fs.list.flatMap fun x=>columnsKind x.2 (p++[x.1.number]) (r+repOf x.1.mode) (d+defOf c x.1.mode)
 |.nil=>by rw[columnsFields];rfl
 |.cons h k rest=>by rw[columnsFields,AO c p r d rest,Fields.list,List.flatMap_cons]
mutual
theorem IS:∀(k:Kind)(p:List Nat)(r d:Nat),(columnsKind k p r d).length=leavesKind k
 |.leaf _,_,_,_=>by rw[columnsKind,leavesKind];rfl
 |.group c fs,p,r,d=>by rw[columnsKind,leavesKind];exact sr fs c p r d
theorem sr:∀(fs:Fields)(c:Bool)(p:List Nat)(r d:Nat),(columnsFields fs c p r d).length=leavesFields fs
 |.nil,_,_,_,_=>by rw[columnsFields,leavesFields];rfl
 |.cons h k rest,c,p,r,d=>by rw[columnsFields,leavesFields,List.length_append,IS k,sr rest]
end
theorem DB:∀fs:Fields,leavesFields fs=(fs.list.map fun x=>leavesKind x.2).sum
 |.nil=>by rw[leavesFields];rfl
 |.cons h k r=>by rw[leavesFields,DB r,Fields.list,List.map_cons,List.sum_cons]
theorem DE:∀(l:List Nat)(i:Nat)(x:Nat),l[i]? =some x→(l.take i).sum+x≤l.sum
 |[],i,x,h=>by simp at h
 |y::l,0,x,h=>by simp at h;subst h;simp
 |y::l,i+1,x,h=>by
  rw[List.take_succ_cons,List.sum_cons,List.sum_cons];have:=DE l i x (by simpa using h);omega
mutual
def gX:Kind→Nat
 |.leaf _=>1
 |.group _ fs=>1+dP fs
def dP:Fields→Nat
 |.nil=>0
 |.cons _ k r=>max (gX k) (dP r)
end
theorem su:∀{fs:Fields}{x:Head×Kind},x∈fs.list→gX x.2≤dP fs
 |.nil,_,h=>by cases h
 |.cons h k r,x,hx=>by
  rw[dP];rcases List.mem_cons.mp (show x∈(h,k)::r.list from hx)with e|e
  ·rw[e];exact Nat.le_max_left _ _
  ·exact Nat.le_trans (su e) (Nat.le_max_right _ _)
mutual
theorem dF.hgt:∀{k:Kind}{d:Nat},dF k d→gX k≤d+1
 |.leaf _,_,_=>by rw[gX];omega
 |.group _ fs,d,⟨h1,h2⟩=>by rw[gX];have:=h2.hgt;omega
theorem fO.hgt:∀{fs:Fields}{d:Nat},fO fs d→dP fs≤d+1
 |.nil,_,_=>by rw[dP];omega
 |.cons _ k r,d,⟨_,h2,h3⟩=>by rw[dP];exact Nat.max_le.mpr ⟨h2.hgt,h3.hgt⟩
end
theorem cH.mem:∀{fs:Fields}{d:Nat}{x:Head×Kind},cH fs d→x∈fs.list→gW x.1∧cS x.2 d
 |.nil,_,_,_,h=>by cases h
 |.cons h k r,d,x,⟨h1,h2,h3,_⟩,hx=>by
  rcases List.mem_cons.mp (show x∈(h,k)::r.list from hx)with e|e
  ·rw[e];exact⟨h1,h2⟩
  ·exact h3.mem e
def jD(cur:Text):List Text→List Text
 |[]=>[cur]
 |s::l=>(cur++s)::l
theorem DF(t:Text):splitDots t≠[]:=by
 cases t with
 |nil=>simp[splitDots]
 |cons c r=>
  unfold splitDots;split
  ·simp
  ·split<;>simp
theorem DG{l:List Text}(h:l≠[]):jD [] l=l:=by
 cases l with
 |nil=>exact absurd rfl h
 |cons s l=>rfl
theorem IT(cur:Text)(r:Text):jD cur (splitDots (46::r))=cur::splitDots r:=by
 rw[splitDots,if_pos rfl,jD,List.append_nil]
theorem IU(cur:Text){c:Nat}(h:c≠46)(r:Text):jD cur (splitDots (c::r))=jD (cur++[c]) (splitDots r):=by
 rw[splitDots,if_neg h];cases splitDots r with
 |nil=>rfl
 |cons s l=>simp[jD]
theorem DI:∀{fs:Fields}{d:Nat},cH fs d→∀n,(∀x∈fs.list,n<x.1.number)→fs.list.length+n≤max n 999
 |.nil,_,_,n,_=>by simp[Fields.list];omega
 |.cons h k r,d,⟨h1,_,h3,h4⟩,n,hn=>by
  have:=DI h3 h.number h4;have:=h1.hi;have:n<h.number:=hn (h,k) (by simp[Fields.list]);simp only[Fields.list,List.length_cons];omega
theorem IV{fs:Fields}{d:Nat}(h:cH fs d):fs.list.length≤999:=by
 have:=DI h 0 (fun x hx=>by have:=(h.mem hx).1.lo;omega);omega
theorem cS.sub:∀{t:TK}{d:Nat},cS t.kd d→cH t.sub.fs (d-1)
 |.leaf _ _ _,_,_=>trivial
 |.group _ _ _ _,_,⟨_,_,h⟩=>h
theorem cH.item{t:TF}{d:Nat}{x:Fi}(h:cH t.fs d)(hx:x∈t.items):gW x.h∧cS x.k.kd d:=h.mem (x:=(x.h,x.k.kd)) (by rw[TF.fM];exact List.mem_map_of_mem hx)
theorem oU{t:TF}{d:Nat}(h:cH t.fs d):t.items.length≤999:=by
 have:=IV h;rw[TF.fM,List.length_map]at this;exact this
theorem DJ:∀(l:List Text)(x:Text),l≠[]→joinDots (l++[x])=joinDots l++46::x
 |[],_,h=>absurd rfl h
 |[y],x,_=>rfl
 |y::z::l,x,_=>by
  have ih:=DJ (z::l) x (by simp);have e1:joinDots (y::z::l)=y++46::joinDots (z::l):=by rw[joinDots];simp
  have e2:joinDots (y::(z::l++[x]))=y++46::joinDots (z::l++[x]):=by rw[joinDots];simp
  rw[e1,List.cons_append,e2,ih];simp
def fj{A:Type}(q:A→Bool):List A→Nat→List Nat
 |[],_=>[]
 |x::r,k=>if q x then k::fj q r (k+1)else fj q r (k+1)
theorem DK{A:Type}(q:A→Bool):∀(l m:List A)(k:Nat),fj q (l++m) k=fj q l k++fj q m (k+l.length)
 |[],m,k=>by simp[fj]
 |x::l,m,k=>by
  rw[List.cons_append,fj,DK q l m (k+1),fj];have e:k+1+l.length=k+(x::l).length:=by simp;omega
  rw[e];split<;>simp
theorem sy{A:Type}(q:A→Bool):∀(l:List A)(k:Nat),(fj q l k).length=(l.filter q).length
 |[],k=>rfl
 |x::l,k=>by
  rw[fj,List.filter_cons];split
  ·rw[List.length_cons,List.length_cons,sy q l (k+1)]
  ·exact sy q l (k+1)
theorem DM{A:Type}(q:A→Bool):∀(l:List A)(k:Nat),(∃x∈l,q x=true)→(fj q l k).head?=some (k+l.findIdx q)
 |[],k,⟨x,h,_⟩=>by cases h
 |x::l,k,⟨y,h,hy⟩=>by
  rw[fj,List.findIdx_cons];cases hx:q x with
  |true=>simp
  |false=>
   have:∃x∈l,q x=true:=by
    rcases List.mem_cons.mp h with rfl|h
    ·rw[hx]at hy;cases hy
    ·exact⟨y,h,hy⟩
   rw[if_neg (by simp),DM q l (k+1) this];simp;omega
mutual
theorem DN:∀(k:Kind)(p:List Nat)(r d:Nat),∀c∈columnsKind k p r d,p<+:c.path
 |.leaf l,p,r,d,c,h=>by
  rw[columnsKind]at h;rw[List.mem_singleton.mp h];exact List.prefix_refl _
 |.group ch fs,p,r,d,c,h=>by
  rw[columnsKind]at h;exact DO fs ch p r d c h
theorem DO:∀(fs:Fields)(ch:Bool)(p:List Nat)(r d:Nat),∀c∈columnsFields fs ch p r d,p<+:c.path
 |.nil,_,_,_,_,c,h=>by rw[columnsFields]at h;cases h
 |.cons hd k rest,ch,p,r,d,c,h=>by
  rw[columnsFields]at h;rcases List.mem_append.mp h with h|h
  ·exact(List.prefix_append _ _).trans (DN k _ _ _ c h)
  ·exact DO rest ch p r d c h
end
theorem DP:∀(k:Kind)(n:Nat),cS k n→∀(p:List Nat)(r d:Nat),∃c,c∈columnsKind k p r d
 |.leaf l,_,_,p,r,d=>⟨_,by rw[columnsKind];exact List.mem_cons_self⟩
 |.group ch .nil,n,⟨_,h,_⟩,p,r,d=>absurd rfl h
 |.group ch (.cons hd k rest),n,⟨_,_,h⟩,p,r,d=>by
  obtain⟨c,hc⟩:=DP k (n-1) h.2.1 (p++[hd.number]) (r+repOf hd.mode) (d+defOf ch hd.mode);exact⟨c,by rw[columnsKind,columnsFields];exact List.mem_append_left _ hc⟩
theorem DQ{fs:TF}{x:Fi}(hx:x∈fs.items)(ch:Bool)(p:List Nat)(r d:Nat):∀c∈columnsKind x.k.kd (p++[x.h.number]) (r+repOf x.h.mode) (d+defOf ch x.h.mode),c∈columnsFields fs.fs ch p r d:=by
 intro c hc;rw[AO,TF.fM,List.flatMap_map];exact List.mem_flatMap.mpr ⟨x,hx,hc⟩
theorem DR{S:Type}{m:Head→S→Bool}:∀(ss:List S)(t:TF)(acc:List Fi)(n:Nat),bq m ss t=some acc→acc≠[]→cH t.fs n→∀(ch:Bool)(p:List Nat)(r d:Nat),∃c∈columnsFields t.fs ch p r d,(p++acc.map fun x=>x.h.number)<+:c.path
 |[],t,acc,n,h,hne,_,ch,p,r,d=>by
  cases h;exact absurd rfl hne
 |s::ss,t,acc,n,h,hne,hw,ch,p,r,d=>by
  rw[bq]at h;cases hf:t.items.find? fun x=>m x.h s with
  |none=>rw[hf]at h;cases h
  |some x=>
   rw[hf]at h;have hx:=List.mem_of_find?_eq_some hf;have hwx:=(hw.item hx).2;obtain⟨l,hl,rfl⟩:=Option.map_eq_some_iff.mp h;by_cases e:l=[]
   ·subst e
    obtain⟨c,hc⟩:=DP x.k.kd n hwx (p++[x.h.number]) (r+repOf x.h.mode) (d+defOf ch x.h.mode);exact⟨c,DQ hx ch p r d c hc,DN _ _ _ _ c hc⟩
   ·cases hk:x.k with
    |leaf lf k fl=>
     rw[hk]at hl;cases ss with
     |nil=>cases hl;exact absurd rfl e
     |cons s' ss=>cases hl
    |group ch' k fl gs=>
     rw[hk]at hl hwx;obtain⟨c,hc,hp⟩:=DR ss gs l (n-1) hl e hwx.2.2 ch' (p++[x.h.number]) (r+repOf x.h.mode) (d+defOf ch x.h.mode);refine⟨c,DQ hx ch p r d c ?_,?_⟩
     ·rw[hk]
      show c∈columnsKind (.group ch' gs.fs) _ _ _;rw[columnsKind];exact hc
     ·rw[List.append_assoc]at hp;exact hp
theorem DS{S:Type}{m:Head→S→Bool}:∀(ss:List S)(t:TF)(acc:List Fi),bq m ss t=some acc→acc.length≤dP t.fs
 |[],t,acc,h=>by cases h;exact Nat.zero_le _
 |s::ss,t,acc,h=>by
  rw[bq]at h;cases hf:t.items.find? fun x=>m x.h s with
  |none=>rw[hf]at h;cases h
  |some x=>
   rw[hf]at h;have hx:=List.mem_of_find?_eq_some hf;obtain⟨l,hl,rfl⟩:=Option.map_eq_some_iff.mp h;have ih:=DS ss x.k.sub l hl;have hh:=su (fs:=t.fs) (x:=(x.h,x.k.kd)) (by rw[TF.fM];exact List.mem_map_of_mem hx);dsimp only at hh
   have:dP x.k.sub.fs+1≤gX x.k.kd:=by
    cases x.k with
    |leaf _ _ _=>show dP .nil+1≤1;rw[dP];exact Nat.le_refl _
    |group c k fl fs=>show dP fs.fs+1≤1+dP fs.fs;omega
   rw[List.length_cons];omega
theorem IW{p q:List Nat}:decide (q.take p.length=p)=p.isPrefixOf q:=by
 rw[Bool.eq_iff_iff];simp only[decide_eq_true_iff,List.isPrefixOf_iff_prefix];constructor
 ·intro h;rw[←h];exact List.take_prefix _ _
 ·intro h
  obtain⟨r,rfl⟩:=h;simp
mutual
theorem IY:∀(k:Kind)(p:List Nat)(r d:Nat),∀c∈columnsKind k p r d,c.path.length+1≤p.length+gX k
 |.leaf l,p,r,d,c,h=>by
  rw[columnsKind]at h;rw[List.mem_singleton.mp h,gX];exact Nat.le_refl _
 |.group ch fs,p,r,d,c,h=>by
  rw[columnsKind]at h;have:=AQ fs ch p r d c h;rw[gX];omega
theorem AQ:∀(fs:Fields)(ch:Bool)(p:List Nat)(r d:Nat),∀c∈columnsFields fs ch p r d,c.path.length≤p.length+dP fs
 |.nil,_,_,_,_,c,h=>by rw[columnsFields]at h;cases h
 |.cons hd k rest,ch,p,r,d,c,h=>by
  rw[columnsFields]at h;rw[dP];rcases List.mem_append.mp h with h|h
  ·have:=IY k _ _ _ c h
   rw[List.length_append]at this;have e:([hd.number]:List Nat).length=1:=rfl;rw[e]at this;have:=Nat.le_max_left (gX k) (dP rest);omega
  ·have:=AQ rest ch p r d c h
   have:=Nat.le_max_right (gX k) (dP rest);omega
end
mutual
def AR:Kind→Prop
 |.leaf _=>True
 |.group _ fs=>mO fs
def mO:Fields→Prop
 |.nil=>True
 |.cons h k r=>(h.mode=.keyed→(keyOf k).isSome=true)∧AR k∧mO r
end
def AS(rd:Rd)(n:Nat):Prop:=∀d c b u t fs s,t.length<n→rd d c b u t=.ok (fs,s)→mO fs
theorem IZ{rd:Rd}{n:Nat}(S:AS rd n){d u:Nat}{t:Text}{k:Kind}{s:Text}(hl:t.length≤n)(h:dZ rd d u t=.ok (k,s)):AR k:=by
 unfold dZ at h;split at h
 ·rename_i r
  simp only[List.length_cons]at hl;split at h
  ·cases h
  ·cases e:rd (d+1) false [] u r with
   |error f=>rw[e]at h;cases h
   |ok x=>
    rw[e]at h;cases h;exact S _ _ _ _ _ _ _ (by omega) e
 ·rename_i r
  simp only[List.length_cons]at hl;split at h
  ·cases h
  ·cases e:rd (d+1) true [] u r with
   |error f=>rw[e]at h;cases h
   |ok x=>
    rw[e]at h;cases h;exact S _ _ _ _ _ _ _ (by omega) e
 ·cases e:readLeaf u t with
  |error f=>rw[e]at h;cases h
  |ok x=>rw[e]at h;cases h;trivial
theorem I_{rd:Rd}{n:Nat}(S:AS rd n){d:Nat}{c:Bool}{b:List Head}{u:Nat}{t:Text}{x:Head×Kind}{t5:Text}(hl:t.length≤n)(h:fK rd d c b u t=.ok (x,t5)):(x.1.mode=.keyed→(keyOf x.2).isSome=true)∧AR x.2:=by
 obtain⟨t1,t2,t3,t4,a1,a2,a3,a4,a6,a5⟩:=rQ h;have m1:=oH a1;have m2:=oJ a2;have m3:=oK a3;refine⟨fun e=>?_,IZ S (by omega) a4⟩;cases hk:keyOf x.2 with
 |none=>exact absurd ⟨e,by rw[hk];rfl⟩ a6
 |some _=>rfl
theorem AU:∀n,AS RF n
 |0=>fun _ _ _ _ _ _ _ h=>absurd h (Nat.not_lt_zero _)
 |n+1=>fun d c b u t fs s hl h=>by
  rw[mG]at h;obtain⟨x,t5,rest,h1,h2,rfl⟩:=oM h;have l5:=mF rS h1;obtain⟨w1,w2⟩:=I_ (AU n) (by omega) h1;refine⟨w1,w2,?_⟩;cases t5 with
  |nil=>cases h2
  |cons c0 r0=>
   simp only[List.length_cons]at l5;dsimp only[dS]at h2;by_cases hc:c0=59
   ·rw[if_pos hc]at h2
    exact AU n _ _ _ _ _ _ _ (by omega) h2
   ·rw[if_neg hc]at h2
    by_cases hd':c0=closeSign c
    ·rw[if_pos hd']at h2
     cases h2;trivial
    ·rw[if_neg hd']at h2
     cases h2
theorem Ja{t:Text}{fs:Fields}(h:readSchema t=.ok fs):mO fs:=by
 rw[mH]at h;split at h
 ·cases h
 ·rename_i hlen
  split at h
  ·rename_i r
   cases e:RF 1 false [] 0 r with
   |error f=>rw[e]at h;cases h
   |ok x=>
    obtain⟨gs,s⟩:=x;rw[e,cQ]at h;dsimp only at h;split at h
    ·cases h
     exact AU _ _ _ _ _ _ _ _ (Nat.lt_succ_self _) e
    ·cases h
  ·cases h
def strip(n:Nat)(ps:List (List Nat)):List (List Nat):=ps.filterMap fun p=>match p with
 |m::q=>if m=n then some q else none
 |[]=>none
theorem AV{n:Nat}{ps:List (List Nat)}{q:List Nat}:q∈strip n ps↔n::q∈ps:=by
 unfold strip;rw[List.mem_filterMap];constructor
 ·rintro⟨p,hp,e⟩
  cases p with
  |nil=>cases e
  |cons m r=>
   dsimp only at e;split at e
   ·rename_i z
    cases e;rw[←z];exact hp
   ·cases e
 ·intro h
  exact⟨n::q,h,by dsimp only;rw[if_pos rfl]⟩
def iM:Fields→Option Nat
 |.nil=>none
 |.cons h _ _=>some h.number
def jE(m:Mode)(old new:Kind):Mode:=match old,new with
 |.group _ gs,.group _ gs'=>if m=.keyed∧iM gs'≠iM gs then .many else m
 |_,_=>m
mutual
def fZ(ps:List (List Nat)):Kind→Kind
 |.leaf l=>.leaf l
 |.group c fs=>.group c (bD ps fs)
def bD(ps:List (List Nat)):Fields→Fields
 |.nil=>.nil
 |.cons h k r=>if strip h.number ps=[]then bD ps r else .cons {h with mode:=jE h.mode k (fZ (strip h.number ps) k)} (fZ (strip h.number ps) k) (bD ps r)
end
theorem DT:∀fs:Fields,bD [] fs=.nil
 |.nil=>by rw[bD]
 |.cons h k r=>by
  have:strip h.number []=[]:=rfl;rw[bD,if_pos this];exact DT r
theorem DU(ps:List (List Nat)):∀f g:Fields,bD ps (c6 f g)=c6 (bD ps f) (bD ps g)
 |.nil,g=>by rw[c6,bD,c6]
 |.cons h k r,g=>by
  rw[c6,bD,bD,DU ps r g];split
  ·rfl
  ·rw[c6]
mutual
def iN:Kind→List (List Nat)
 |.leaf _=>[[]]
 |.group _ fs=>eY fs
def eY:Fields→List (List Nat)
 |.nil=>[]
 |.cons h k r=>(iN k).map (h.number::·)++eY r
end
mutual
theorem Jb:∀(k:Kind)(p:List Nat)(r d:Nat),(columnsKind k p r d).map (·.path)=(iN k).map (p++·)
 |.leaf l,p,r,d=>by rw[columnsKind,iN];simp
 |.group c fs,p,r,d=>by rw[columnsKind,iN];exact AW fs c p r d
theorem AW:∀(fs:Fields)(c:Bool)(p:List Nat)(r d:Nat),(columnsFields fs c p r d).map (·.path)=(eY fs).map (p++·)
 |.nil,_,_,_,_=>by rw[columnsFields,eY];rfl
 |.cons h k rest,c,p,r,d=>by
  rw[columnsFields,eY,List.map_append,List.map_append,Jb k,AW rest,List.map_map];simp
end
theorem mP:∀(fs:Fields)(q:List Nat),q∈eY fs→∃n r,q=n::r∧∃x∈fs.list,x.1.number=n
 |.nil,q,h=>by rw[eY]at h;cases h
 |.cons h k rest,q,hq=>by
  rw[eY]at hq;rcases List.mem_append.mp hq with z|z
  ·obtain⟨r,_,rfl⟩:=List.mem_map.mp z
   exact⟨_,r,rfl,(h,k),List.mem_cons_self,rfl⟩
  ·obtain⟨n,r,rfl,x,hx,e⟩:=mP rest q z
   exact⟨n,r,rfl,x,List.mem_cons_of_mem _ hx,e⟩
def f6(ps:List (List Nat))(fs:Fields):Prop:=∀n q,n::q∈ps→(∃x∈fs.list,x.1.number=n)→n::q∈eY fs
theorem f6.head{ps:List (List Nat)}{h:Head}{k:Kind}{r:Fields}{d:Nat}(L:f6 ps (.cons h k r))(w:cH (.cons h k r) d):∀q∈strip h.number ps,q∈iN k:=fun q hq=>by
 have z:=L h.number q (AV.mp hq) ⟨(h,k),List.mem_cons_self,rfl⟩;rw[eY]at z;rcases List.mem_append.mp z with z|z
 ·obtain⟨q',h1,h2⟩:=List.mem_map.mp z
  cases h2;exact h1
 ·obtain⟨n,q',e,x,hx,en⟩:=mP r _ z
  cases e;have:=w.2.2.2 x hx;omega
theorem f6.tail{ps:List (List Nat)}{h:Head}{k:Kind}{r:Fields}{d:Nat}(L:f6 ps (.cons h k r))(w:cH (.cons h k r) d):f6 ps r:=fun n q hq ⟨x,hx,e⟩=>by
 have z:=L n q hq ⟨x,List.mem_cons_of_mem _ hx,e⟩;rw[eY]at z;rcases List.mem_append.mp z with z|z
 ·obtain⟨q',h1,h2⟩:=List.mem_map.mp z
  cases h2;have:=w.2.2.2 x hx;omega
 ·exact z
theorem f6.group{ps:List (List Nat)}{fs:Fields}(h:∀q∈ps,q∈eY fs):f6 ps fs:=fun n q hq _=>h _ hq
theorem AX{ps:List (List Nat)}:∀{fs:Fields}{n:Nat}{q:List Nat},n::q∈ps→(∃x∈fs.list,x.1.number=n)→bD ps fs≠.nil
 |.nil,_,_,_,⟨_,hx,_⟩=>by cases hx
 |.cons h k r,n,q,hq,⟨x,hx,e⟩=>by
  rw[bD];split
  ·rename_i z
   rcases List.mem_cons.mp (show x∈(h,k)::r.list from hx)with rfl|hx
   ·have:q∈strip h.number ps:=AV.mpr (by rw[show h.number=n from e];exact hq)
    rw[z]at this;cases this
   ·exact AX hq ⟨x,hx,e⟩
  ·simp
theorem Jc{ps:List (List Nat)}{h:Head}{k:Kind}{r:Fields}{d:Nat}(w:cH (.cons h k r) d)(hs:strip h.number ps=[])(n:Nat)(e:iM (bD ps (.cons h k r))=some n):n≠h.number:=by
 have go:∀(fs:Fields),(∀x∈fs.list,h.number<x.1.number)→∀n,iM (bD ps fs)=some n→h.number<n:=by
  intro fs
  induction hl:fs.list generalizing fs with
  |nil=>
   intro _ n e;cases fs with
   |nil=>rw[bD]at e;cases e
   |cons _ _ _=>cases hl
  |cons y l ih=>
   intro hx n e;cases fs with
   |nil=>cases hl
   |cons h1 k1 r1=>
    cases hl;rw[bD]at e;split at e
    ·exact ih r1 rfl (fun x hx'=>hx x (List.mem_cons_of_mem _ hx')) n e
    ·cases e;exact hx (h1,k1) List.mem_cons_self
 rw[bD,if_pos hs]at e;have:=go r w.2.2.2 n e;omega
theorem Jd{m:Mode}{c:Bool}{gs:Fields}{ps:List (List Nat)}{d:Nat}(w:cH gs d)(hk:m=.keyed→(keyOf (.group c gs)).isSome=true):keepMode m (.group c gs) (.group c (bD ps gs))=jE m (.group c gs) (.group c (bD ps gs)):=by
 unfold keepMode jE;by_cases hm:m=.keyed
 ·have hk:=hk hm
  have iff:((keyOf (.group c gs)).map fun x=>x.1.number)≠((keyOf (.group c (bD ps gs))).map fun x=>x.1.number)↔iM (bD ps gs)≠iM gs:=by
   cases c with
   |true=>cases hk
   |false=>
    match gs,w,hk with
    |.cons h (.group _ _) r,_,hk=>cases hk
    |.nil,_,hk=>cases hk
    |.cons h (.leaf l) r,w,hk=>
     have h1:h.mode=.one:=by
      by_cases z:h.mode=.one
      ·exact z
      ·rw[keyOf,if_neg z]at hk;cases hk
     have e1:keyOf (.group false (.cons h (.leaf l) r))=some (h,l):=by rw[keyOf,if_pos h1]
     rw[e1];by_cases hs:strip h.number ps=[]
     ·have f1:=Jc w hs
      constructor
      ·intro _ z
       exact f1 h.number z rfl
      ·intro _ z
       cases e2:bD ps (.cons h (.leaf l) r)with
       |nil=>rw[e2]at z;cases z
       |cons h2 k2 r2=>
        have f2:=f1 h2.number (by rw[e2];rfl);rw[e2]at z;cases k2 with
        |group _ _=>cases z
        |leaf l2=>
         rw[keyOf]at z;split at z
         ·exact f2 (Option.some.inj z).symm
         ·cases z
     ·have e2:bD ps (.cons h (.leaf l) r)=.cons {h with mode:=jE h.mode (.leaf l) (.leaf l)} (.leaf l) (bD ps r):=by
       rw[bD,if_neg hs,fZ]
      have e3:jE h.mode (.leaf l) (.leaf l)=h.mode:=rfl;rw[e3]at e2;rw[e2];constructor
      ·intro z
       refine absurd ?_ z;rw[keyOf,if_pos h1]
      ·intro z
       exact absurd rfl z
  by_cases hz:iM (bD ps gs)≠iM gs
  ·rw[if_pos ⟨hm,iff.mpr hz⟩]
   dsimp only;rw[if_pos ⟨hm,hz⟩]
  ·rw[if_neg (fun z=>hz (iff.mp z.2))]
   dsimp only;rw[if_neg (fun z=>hz z.2)]
 ·rw[if_neg (fun z=>hm z.1)]
  dsimp only;rw[if_neg (fun z=>hm z.1)]
theorem Je(m:Mode)(l:Leaf):keepMode m (.leaf l) (.leaf l)=m:=by
 unfold keepMode;rw[if_neg (fun z=>z.2 rfl)]
theorem AY:∀(fs:Fields)(kept ps:List (List Nat))(p:List Nat)(d:Nat),cH fs d→mO fs→(∀q∈eY fs,p++q∈kept↔q∈ps)→f6 ps fs→keepFields kept fs p=bD ps fs
 |.nil,kept,ps,p,d,_,_,_,_=>by rw[keepFields,bD]
 |.cons h k r,kept,ps,p,d,w,ky,hi,L=>by
  have hr:=AY r kept ps p d w.2.2.1 ky.2.2 (fun q hq=>hi q (by rw[eY];exact List.mem_append_right _ hq)) (L.tail w);have hL:=L.head w
  have hi':∀q∈iN k,(p++[h.number])++q∈kept↔q∈strip h.number ps:=fun q hq=>by
   rw[AV,←hi (h.number::q) (by rw[eY];exact List.mem_append_left _ (List.mem_map_of_mem hq)),List.append_assoc];rfl
  rw[keepFields,bD,hr];cases k with
  |leaf l=>
   have hiff:(p++[h.number])∈kept↔[]∈strip h.number ps:=by
    have:=hi' [] (by rw[iN];exact List.mem_cons_self);rw[List.append_nil]at this;exact this
   rw[keepKind];by_cases hs:strip h.number ps=[]
   ·rw[if_pos hs,if_neg]
    rw[List.contains_iff_mem,hiff,hs];simp
   ·obtain⟨q,hq⟩:=List.exists_mem_of_ne_nil _ hs
    have:=hL q hq;rw[iN,List.mem_singleton]at this;subst this;rw[if_neg hs,if_pos (List.contains_iff_mem.mpr (hiff.mpr hq)),fZ];dsimp only;rw[Je];rfl
  |group c gs=>
   have w2:cH gs (d-1):=w.2.1.2.2;have hg:=AY gs kept (strip h.number ps) (p++[h.number]) (d-1) w2 ky.2.1 hi' (f6.group hL);rw[keepKind,hg,fZ];by_cases hs:strip h.number ps=[]
   ·rw[if_pos hs,hs,DT]
   ·rw[if_neg hs]
    obtain⟨q,hq⟩:=List.exists_mem_of_ne_nil _ hs;obtain⟨n,q',rfl,hx⟩:=mP gs q (hL q hq);have ne:=AX hq hx;have hm:=Jd (m:=h.mode) (c:=c) (ps:=strip h.number ps) w2 ky.1;cases e:bD (strip h.number ps) gs with
    |nil=>exact absurd e ne
    |cons h1 k1 r1=>
     rw[e]at hm;dsimp only;rw[hm]
mutual
theorem DV(ps:List (List Nat)):∀k:Kind,(showKind (fZ ps k)).length≤(showKind k).length
 |.leaf l=>by rw[fZ];exact Nat.le_refl _
 |.group c fs=>by
  have:=DW ps fs;rw[fZ,showKind,showKind];simp;omega
theorem DW(ps:List (List Nat)):∀fs:Fields,(showFields (bD ps fs)).length≤(showFields fs).length
 |.nil=>by rw[bD];exact Nat.le_refl _
 |.cons h k r=>by
  have hr:=DW ps r
  have e1:(showFields (.cons h k r)).length=(showHead h).length+(showKind k).length+(showDefault h).length+(match r with|.nil=>0|.cons _ _ _=>1+(showFields r).length):=by
   cases r<;>simp[showFields]<;>omega
  rw[bD];split
  ·rw[e1]
   cases r with
   |nil=>
    rw[show showFields .nil=[] by rw[showFields]]at hr;simp at hr⊢;rw[hr];simp
   |cons _ _ _=>dsimp only;omega
  ·have hk:=DV (strip h.number ps) k
   generalize hj:fZ (strip h.number ps) k=j at hk;generalize jE h.mode k j=m;have eh:(showHead {h with mode:=m}).length=(showHead h).length:=by unfold showHead;simp
   have ed:showDefault {h with mode:=m}=showDefault h:=rfl;rw[e1];cases hs:bD ps r with
   |nil=>simp[showFields,eh,ed];omega
   |cons h2 k2 r2=>
    cases r with
    |nil=>rw[bD]at hs;cases hs
    |cons h3 k3 r3=>
     rw[hs]at hr;rw[showFields];simp[eh,ed];omega
end
theorem DX{h:Head}(w:gW h)(m:Mode):gW {h with mode:=m}:=⟨w.lo,w.hi,w.nm,w.nb,w.n0,w.df⟩
mutual
theorem DY(ps:List (List Nat)):∀(k:Kind)(d:Nat),dF k d→dF (fZ ps k) d
 |.leaf l,d,h=>by rw[fZ];exact h
 |.group c fs,d,h=>by rw[fZ];exact⟨h.1,AZ ps fs (d-1) h.2⟩
theorem AZ(ps:List (List Nat)):∀(fs:Fields)(d:Nat),fO fs d→fO (bD ps fs) d
 |.nil,d,_=>by rw[bD];trivial
 |.cons h k r,d,w=>by
  rw[bD];split
  ·exact AZ ps r d w.2.2
  ·exact⟨DX w.1 _,DY _ k d w.2.1,AZ ps r d w.2.2⟩
end
def cX(x:Fi):List Fi→List Fi
 |[]=>[x]
 |y::l=>if x.h.number≤y.h.number then x::y::l else y::cX x l
def cT:List Fi→List Fi→List Fi
 |[],l=>l
 |x::a,l=>cT a (cX x l)
theorem DZ(x:Fi):∀l:List Fi,(TF.of (cX x l)).fs=(TF.of l).fs.insert x.h x.k.kd
 |[]=>rfl
 |y::l=>by
  rw[cX];show _=Fields.insert x.h x.k.kd (.cons y.h y.k.kd (TF.of l).fs);rw[Fields.insert];split
  ·rfl
  ·show Fields.cons y.h y.k.kd (TF.of (cX x l)).fs=_
   rw[DZ x l]
theorem D0:∀(a l:List Fi),(TF.of (cT a l)).fs=(TF.of a).fs.merge (TF.of l).fs
 |[],l=>rfl
 |x::a,l=>by
  rw[cT,D0 a (cX x l),DZ];rfl
theorem D4:∀(a l:List Fi)(x:Fi),cT (a++[x]) l=cX x (cT a l)
 |[],l,x=>rfl
 |y::a,l,x=>by
  show cT (a++[x]) (cX y l)=cX x (cT a (cX y l));exact D4 a (cX y l) x
theorem D5{x y:Fi}:∀{l:List Fi},y∈cX x l↔y=x∨y∈l
 |[]=>by simp[cX]
 |z::l=>by
  rw[cX];split
  ·simp
  ·rw[List.mem_cons,D5 (l:=l),List.mem_cons]
   constructor
   ·rintro(h|h|h)
    ·exact .inr (.inl h)
    ·exact .inl h
    ·exact .inr (.inr h)
   ·rintro(h|h|h)
    ·exact .inr (.inl h)
    ·exact .inl h
    ·exact .inr (.inr h)
theorem sD{y:Fi}:∀{a l:List Fi},y∈cT a l↔y∈a∨y∈l
 |[],l=>by simp[cT]
 |x::a,l=>by
  rw[cT,sD (a:=a),D5,List.mem_cons];constructor
  ·rintro(h|h|h)
   ·exact .inl (.inr h)
   ·exact .inl (.inl h)
   ·exact .inr h
  ·rintro((h|h)|h)
   ·exact .inr (.inl h)
   ·exact .inl h
   ·exact .inr (.inr h)
theorem D6(x:Fi):∀l:List Fi,(cX x l).length=l.length+1
 |[]=>rfl
 |y::l=>by
  rw[cX];split
  ·rfl
  ·rw[List.length_cons,D6 x l];rfl
theorem D7:∀a l:List Fi,(cT a l).length=a.length+l.length
 |[],l=>by simp[cT]
 |x::a,l=>by rw[cT,D7 a,D6];simp;omega
def e7(x:Fi):List Fi→Nat
 |[]=>0
 |y::l=>if x.h.number≤y.h.number then 0 else e7 x l+1
theorem D8(x:Fi):∀l:List Fi,e7 x l≤l.length
 |[]=>Nat.le_refl _
 |y::l=>by
  rw[e7];split
  ·exact Nat.zero_le _
  ·have:=D8 x l;simp;omega
theorem D9(x:Fi):∀l:List Fi,cX x l=l.take (e7 x l)++x::l.drop (e7 x l)
 |[]=>rfl
 |y::l=>by
  rw[cX,e7];split
  ·rfl
  ·rw[D9 x l];rfl
theorem D_(x:Fi):∀(l:List Fi)(i:Nat)(y:Fi),i<e7 x l→l[i]? =some y→y.h.number<x.h.number
 |[],i,y,h,_=>by simp[e7]at h
 |z::l,i,y,h,e=>by
  rw[e7]at h;split at h
  ·omega
  ·rename_i hz
   match i,e with
   |0,e=>cases e;omega
   |i+1,e=>exact D_ x l i y (by omega) e
theorem Ea(x:Fi):∀(l:List Fi)(y:Fi),l[e7 x l]? =some y→¬y.h.number<x.h.number
 |[],y,e=>by simp at e
 |z::l,y,e=>by
  rw[e7]at e;split at e
  ·rename_i hz
   cases e;omega
  ·exact Ea x l y e
theorem Eb{n:Int}:∀(l:List Fi)(d:Nat),cH (TF.of l).fs d→(TF.of (l.filter fun y=>decide ((y.h.number:Int)≠n))).fs=(TF.of l).fs.remove n
 |[],_,_=>rfl
 |y::l,d,w=>by
  rw[List.filter_cons];show _=Fields.remove n (.cons y.h y.k.kd (TF.of l).fs);rw[Fields.remove];by_cases hn:(y.h.number:Int)=n
  ·rw[if_pos hn,if_neg (by simp[hn])]
   have:l.filter (fun y=>decide ((y.h.number:Int)≠n))=l:=by
    rw[List.filter_eq_self];intro z hz;have:=w.2.2.2 (z.h,z.k.kd) (by rw[TF.fM,TF.gV];exact List.mem_map_of_mem hz);dsimp only at this;rw[decide_eq_true_iff];omega
   rw[this]
  ·rw[if_neg hn,if_pos (by simp[hn])]
   show Fields.cons y.h y.k.kd (TF.of (l.filter _)).fs=_;rw[Eb l d w.2.2.1]
def cU(n:Int)(x:Fi):List Fi→List Fi
 |[]=>[]
 |y::l=>if(y.h.number:Int)=n then x::l else y::cU n x l
theorem Ec(n:Int)(x:Fi):∀l:List Fi,(TF.of (cU n x l)).fs=(TF.of l).fs.change n fun _ _=>(x.h,x.k.kd)
 |[]=>rfl
 |y::l=>by
  rw[cU];show _=Fields.change n _ (.cons y.h y.k.kd (TF.of l).fs);rw[Fields.change];split
  ·rfl
  ·show Fields.cons y.h y.k.kd (TF.of (cU n x l)).fs=_
   rw[Ec n x l]
theorem Ed{n:Int}{x y:Fi}:∀{l:List Fi},(l.find? fun z=>aW z.h n)=some y→x.f=y.f→(cU n x l).map (·.f)=l.map (·.f)
 |[],h,_=>by cases h
 |z::l,h,e=>by
  rw[cU];rw[List.find?_cons]at h;by_cases hn:(z.h.number:Int)=n
  ·rw[show aW z.h n=true from ir.mpr hn]at h
   cases h;rw[if_pos hn,List.map_cons,List.map_cons,e]
  ·rw[show aW z.h n=false from Bool.eq_false_iff.mpr fun w=>hn (ir.mp w)]at h
   rw[if_neg hn,List.map_cons,List.map_cons,Ed h e]
theorem Ef{n:Int}{x z:Fi}:∀{l:List Fi},z∈cU n x l→z=x∨z∈l
 |[],h=>by cases h
 |y::l,h=>by
  rw[cU]at h;split at h
  ·rcases List.mem_cons.mp h with h|h
   ·exact .inl h
   ·exact .inr (List.mem_cons_of_mem _ h)
  ·rcases List.mem_cons.mp h with h|h
   ·exact .inr (by rw[h];exact List.mem_cons_self)
   ·rcases Ef h with h|h
    ·exact .inl h
    ·exact .inr (List.mem_cons_of_mem _ h)
theorem oV{G:Fields→Fields}{g':TK}{c0:Bool}{k0 fl0:Nat}{gs:TF}(hg:g'.kd=.group c0 (G gs.fs)):
  ∀(p:List Int)(c:Bool)(k fl:Nat)(fs:TF),(TK.group c k fl fs).b_ p=some (.group c0 k0 fl0 gs)→∃f,inGroup G p fs.fs=some f∧((TK.group c k fl fs).fS p fun _=>g').kd=.group c f
 |[],c,k,fl,fs,h=>by
  cases h;exact⟨_,rfl,hg⟩
 |n::p,c,k,fl,fs,h=>by
  rw[inGroup,r8];have h':((fs.items.find? fun x=>aW x.h n).bind fun x=>x.k.b_ p)=some (.group c0 k0 fl0 gs):=h;cases e:fs.items.find? fun x=>aW x.h n with
  |none=>rw[e]at h';cases h'
  |some x=>
   rw[e,Option.bind_some]at h';cases hk:x.k with
   |leaf l k' fl'=>rw[hk,kZ]at h';cases h'
   |group c' k' fl' hs=>
    rw[hk]at h';obtain⟨f,h1,h2⟩:=oV hg p c' k' fl' hs h';refine⟨fs.fs.change n fun h _=>(h,.group c' f),?_,?_⟩
    ·dsimp only[Option.map_some]
     rw[hk];show(inGroup G p hs.fs).map _=_;rw[h1];rfl
    ·show Kind.group c (fs.fN n fun kk=>kk.fS p fun _=>g').fs=_
     rw[←AL (K:=.group c' f) fs x e (by rw[hk];exact h2)]
theorem Eg{n:Int}{g:TK→TK}{D:Nat}:∀(fs:TF)(d:Nat)(x:Fi),(fs.items.find? fun y=>aW y.h n)=some x→fO fs.fs d→d≤D→dF (g x.k).kd D→fO (fs.fN n g).fs D
 |.nil,_,_,e,_,_,_=>by cases e
 |.cons h f nm da kk r,d,x,e,w,hd,hK=>by
  rw[TF.fN];rw[TF.items,List.find?_cons]at e;by_cases hn:(h.number:Int)=n
  ·rw[if_pos hn]
   rw[show aW h n=true from ir.mpr hn]at e;cases e;exact⟨w.1,hK,w.2.2.mono hd⟩
  ·rw[if_neg hn]
   rw[show aW h n=false from Bool.eq_false_iff.mpr fun z=>hn (ir.mp z)]at e;exact⟨w.1,w.2.1.mono hd,Eg r d x e w.2.2 hd hK⟩
theorem sE{g' g0:TK}{d':Nat}(hg:dF g'.kd d'):∀(p:List Int)(t:TK)(d:Nat),t.b_ p=some g0→dF t.kd d→dF (t.fS p fun _=>g').kd (d+d')
 |[],t,d,_,_=>hg.mono (by omega)
 |n::p,.leaf l k fl,d,h,_=>by rw[kZ]at h;cases h
 |n::p,.group c k fl fs,d,h,w=>by
  have h':((fs.items.find? fun x=>aW x.h n).bind fun x=>x.k.b_ p)=some g0:=h;cases e:fs.items.find? fun x=>aW x.h n with
  |none=>rw[e]at h';cases h'
  |some x=>
   rw[e,Option.bind_some]at h';have w':1≤d∧fO fs.fs (d-1):=w;have wx:dF x.k.kd (d-1):=(sf.mp w'.2 (x.h,x.k.kd) (by rw[TF.fM];exact List.mem_map_of_mem (List.mem_of_find?_eq_some e))).2;have ih:=sE hg p x.k (d-1) h' wx;show 1≤d+d'∧fO (fs.fN n fun kk=>kk.fS p fun _=>g').fs (d+d'-1);exact⟨by omega,Eg fs (d-1) x e w'.2 (by omega) (ih.mono (by omega))⟩
theorem gn(h:Head)(k:Kind)(r:Fields):(showFields (.cons h k r)).length=(cK h k).length+(match r with|.nil=>0|.cons _ _ _=>1+(showFields r).length):=by
 unfold cK;cases r<;>simp[showFields]<;>omega
theorem Eh(h:Head)(k:Kind)(r:Fields):(showFields (.cons h k r)).length≤(cK h k).length+1+(showFields r).length:=by
 rw[gn];cases r
 ·simp;omega
 ·dsimp only;omega
theorem A0(h:Head)(k:Kind)(r:Fields):(cK h k).length+(showFields r).length≤(showFields (.cons h k r)).length:=by
 rw[gn];cases r
 ·rw[showFields];simp
 ·dsimp only;omega
theorem Ei(h:Head)(k j:Kind):(cK h j).length+(showKind k).length=(cK h k).length+(showKind j).length:=by
 unfold cK;simp;omega
theorem Ej{n:Int}{g:TK→TK}:∀(fs:TF)(x:Fi),(fs.items.find? fun y=>aW y.h n)=some x→(showFields (fs.fN n g).fs).length+(showKind x.k.kd).length=(showFields fs.fs).length+(showKind (g x.k).kd).length
 |.nil,_,e=>by cases e
 |.cons h f nm da kk r,x,e=>by
  rw[TF.fN];rw[TF.items,List.find?_cons]at e;by_cases hn:(h.number:Int)=n
  ·rw[if_pos hn]
   rw[show aW h n=true from ir.mpr hn]at e;cases e;rw[TF.fs,TF.fs,gn,gn];have:=Ei h kk.kd (g kk).kd;dsimp only;omega
  ·rw[if_neg hn]
   rw[show aW h n=false from Bool.eq_false_iff.mpr fun z=>hn (ir.mp z)]at e;have ih:=Ej (g:=g) r x e;rw[TF.fs,TF.fs,gn,gn];cases hr:r with
   |nil=>rw[hr]at e;cases e
   |cons h2 f2 nm2 da2 k2 r2=>
    rw[hr]at ih
    have z1:∃h3 k3 r3,((TF.cons h2 f2 nm2 da2 k2 r2).fN n g).fs=.cons h3 k3 r3:=by
     rw[TF.fN];split
     ·exact⟨_,_,_,rfl⟩
     ·exact⟨_,_,_,rfl⟩
    obtain⟨h3,k3,r3,z1⟩:=z1;rw[z1]at ih⊢;have z2:(TF.cons h2 f2 nm2 da2 k2 r2).fs=.cons h2 k2.kd r2.fs:=rfl;rw[z2]at ih⊢;dsimp only;omega
theorem sG{g' g0:TK}:∀(p:List Int)(t:TK),t.b_ p=some g0→(showKind (t.fS p fun _=>g').kd).length+(showKind g0.kd).length=(showKind t.kd).length+(showKind g'.kd).length
 |[],.leaf l k fl,h=>by cases h
 |[],.group c k fl fs,h=>by
  cases h;show(showKind g'.kd).length+_=_;omega
 |n::p,.leaf l k fl,h=>by rw[kZ]at h;cases h
 |n::p,.group c k fl fs,h=>by
  have h':((fs.items.find? fun x=>aW x.h n).bind fun x=>x.k.b_ p)=some g0:=h;cases e:fs.items.find? fun x=>aW x.h n with
  |none=>rw[e]at h';cases h'
  |some x=>
   rw[e,Option.bind_some]at h';have ih:=sG (g':=g') p x.k h';have z:=Ej (g:=fun kk=>kk.fS p fun _=>g') fs x e;show(showKind (.group c (fs.fN n fun kk=>kk.fS p fun _=>g').fs)).length+_=(showKind (.group c fs.fs)).length+_;rw[showKind,showKind];simp only[List.length_cons,List.length_append];omega
theorem Ek(x:Fi):∀l:List Fi,(showFields (TF.of (cX x l)).fs).length≤(showFields (TF.of l).fs).length+(cK x.h x.k.kd).length+1
 |[]=>by
  have:=Eh x.h x.k.kd .nil;show(showFields (.cons x.h x.k.kd .nil)).length≤(showFields .nil).length+_+1;rw[showFields]at this⊢;omega
 |y::l=>by
  rw[cX];split
  ·have:=Eh x.h x.k.kd (TF.of (y::l)).fs
   show(showFields (.cons x.h x.k.kd (TF.of (y::l)).fs)).length≤_;omega
  ·have ih:=Ek x l
   show(showFields (.cons y.h y.k.kd (TF.of (cX x l)).fs)).length≤(showFields (.cons y.h y.k.kd (TF.of l).fs)).length+_+1;rw[gn,gn];cases l with
   |nil=>
    have e:(TF.of (cX x [])).fs=.cons x.h x.k.kd .nil:=rfl;rw[e];have:=gn x.h x.k.kd .nil;dsimp only at this⊢;show _+(1+_)≤_+0+_+1;omega
   |cons z l=>
    have e:∃a b c,(TF.of (cX x (z::l))).fs=.cons a b c:=by
     rw[cX];split
     ·exact⟨_,_,_,rfl⟩
     ·exact⟨_,_,_,rfl⟩
    obtain⟨a,b,c,e⟩:=e;rw[e]at ih⊢;have e2:(TF.of (z::l)).fs=.cons z.h z.k.kd (TF.of l).fs:=rfl;rw[e2]at ih⊢;dsimp only;omega
theorem El:∀(a l:List Fi),(showFields (TF.of (cT a l)).fs).length≤(showFields (TF.of l).fs).length+(showFields (TF.of a).fs).length+a.length
 |[],l=>by rw[cT];omega
 |x::a,l=>by
  have ih:=El a (cX x l);have z:=Ek x l;have y:=A0 x.h x.k.kd (TF.of a).fs;rw[cT];have e:(TF.of (x::a)).fs=.cons x.h x.k.kd (TF.of a).fs:=rfl;rw[e,List.length_cons];omega
theorem Em(q:Fi→Bool):∀l:List Fi,(showFields (TF.of (l.filter q)).fs).length≤(showFields (TF.of l).fs).length
 |[]=>Nat.le_refl _
 |y::l=>by
  have ih:=Em q l;have z:=A0 y.h y.k.kd (TF.of l).fs;rw[List.filter_cons];have e:(TF.of (y::l)).fs=.cons y.h y.k.kd (TF.of l).fs:=rfl;split
  ·have e3:(TF.of (y::l.filter q)).fs=.cons y.h y.k.kd (TF.of (l.filter q)).fs:=rfl
   rw[e,e3,gn,gn];cases hf:l.filter q with
   |nil=>dsimp only[TF.of,TF.fs];omega
   |cons z r=>
    cases hl:l with
    |nil=>rw[hl]at hf;cases hf
    |cons u v=>
     rw[hf,hl]at ih;have a1:(TF.of (z::r)).fs=.cons z.h z.k.kd (TF.of r).fs:=rfl;have a2:(TF.of (u::v)).fs=.cons u.h u.k.kd (TF.of v).fs:=rfl;rw[a1,a2]at ih⊢;dsimp only;omega
  ·rw[e];omega
theorem En(n:Int)(x:Fi):∀l:List Fi,(showFields (TF.of (cU n x l)).fs).length≤(showFields (TF.of l).fs).length+(cK x.h x.k.kd).length
 |[]=>by rw[cU];omega
 |y::l=>by
  rw[cU];have e:(TF.of (y::l)).fs=.cons y.h y.k.kd (TF.of l).fs:=rfl;split
  ·have e3:(TF.of (x::l)).fs=.cons x.h x.k.kd (TF.of l).fs:=rfl
   rw[e,e3,gn,gn];omega
  ·have ih:=En n x l
   have e3:(TF.of (y::cU n x l)).fs=.cons y.h y.k.kd (TF.of (cU n x l)).fs:=rfl;rw[e,e3,gn,gn];cases l with
   |nil=>dsimp only[cU,TF.of,TF.fs];omega
   |cons z l=>
    have e:∃a b c,(TF.of (cU n x (z::l))).fs=.cons a b c:=by
     rw[cU];split
     ·exact⟨_,_,_,rfl⟩
     ·exact⟨_,_,_,rfl⟩
    obtain⟨a,b,c,e⟩:=e;rw[e]at ih⊢;have e2:(TF.of (z::l)).fs=.cons z.h z.k.kd (TF.of l).fs:=rfl;rw[e2]at ih⊢;dsimp only;omega
theorem A1{l:List Fi}{d:Nat}(h:∀x∈l,gW x.h∧dF x.k.kd d):fO (TF.of l).fs d:=sf.mpr fun y hy=>by
 rw[TF.fM,TF.gV]at hy;obtain⟨x,hx,rfl⟩:=List.mem_map.mp hy;exact h x hx
mutual
theorem Eo:∀{k:Kind}{d d':Nat},cS k d→d≤d'→cS k d'
 |.leaf _,_,_,h,_=>h
 |.group _ fs,_,_,⟨h1,h2,h3⟩,hd=>⟨by omega,h2,Ep h3 (by omega)⟩
theorem Ep:∀{fs:Fields}{d d':Nat},cH fs d→d≤d'→cH fs d'
 |.nil,_,_,_,_=>trivial
 |.cons _ k r,_,_,⟨h1,h2,h3,h4⟩,hd=>⟨h1,Eo h2 hd,Ep h3 hd,h4⟩
end
theorem Er:∀(p:List Int)(t g0:TK),t.b_ p=some g0→(showKind g0.kd).length≤(showKind t.kd).length
 |[],.leaf _ _ _,_,h=>by cases h
 |[],.group c k fl fs,g0,h=>by cases h;exact Nat.le_refl _
 |n::p,.leaf _ _ _,g0,h=>by rw[kZ]at h;cases h
 |n::p,.group c k fl fs,g0,h=>by
  have h':((fs.items.find? fun x=>aW x.h n).bind fun x=>x.k.b_ p)=some g0:=h;cases e:fs.items.find? fun x=>aW x.h n with
  |none=>rw[e]at h';cases h'
  |some x=>
   rw[e,Option.bind_some]at h';have ih:=Er p x.k g0 h'
   have b4:(cK x.h x.k.kd).length≤(showFields fs.fs).length:=by
    rw[sj];exact sq _ _ (List.mem_map.mpr ⟨(x.h,x.k.kd),by rw[TF.fM];exact List.mem_map_of_mem (List.mem_of_find?_eq_some e),rfl⟩)
   have b5:(showKind x.k.kd).length≤(cK x.h x.k.kd).length:=by unfold cK;simp;omega
   show _≤(showKind (.group c fs.fs)).length;rw[showKind];simp;omega
end Vp
end
namespace L2
open PySem PySem.Spec PyProof.Rows
abbrev Key:=Sum Int Str
def Es:Key→Value→Bool
 |.inl k,v=>Value.isInt k v
 |.inr x,v=>Value.isStrOf x v
def Jf(w:World):Key→Int
 |.inl k=>hashInt k
 |.inr x=>hashStr w x
theorem jF:∀{k:Key}{v:Value},Es k v=true→(∃i t,k=Sum.inl i∧v=Value.int i t)∨(∃x t,k=Sum.inr x∧v=Value.str x t)
 |.inl i,v,h=>by
  obtain⟨t,e⟩:=Value.isInt_shape (k:=i) (v:=v) h;exact .inl ⟨i,t,rfl,e⟩
 |.inr x,v,h=>by
  obtain⟨t,e⟩:=Value.isStrOf_shape (x:=x) (v:=v) h;exact .inr ⟨x,t,rfl,e⟩
theorem Jg(a b:Int):decide ((Sum.inl a:Key)=Sum.inl b)=(a==b):=by
 by_cases e:a=b
 ·subst e;simp
 ·have h:¬(Sum.inl a:Key)=Sum.inl b:=fun q=>e (Sum.inl.inj q)
  rw[decide_eq_false h];exact(beq_eq_false_iff_ne.mpr e).symm
theorem Jh(a b:Str):decide ((Sum.inr a:Key)=Sum.inr b)=decide (a=b):=by
 by_cases e:a=b
 ·subst e;simp
 ·have h:¬(Sum.inr a:Key)=Sum.inr b:=fun q=>e (Sum.inr.inj q)
  rw[decide_eq_false h,decide_eq_false e]
theorem Ji(a:Int)(b:Str):decide ((Sum.inl a:Key)=Sum.inr b)=false:=decide_eq_false (fun q=>nomatch q)
theorem Jj(a:Str)(b:Int):decide ((Sum.inr a:Key)=Sum.inl b)=false:=decide_eq_false (fun q=>nomatch q)
def Et(prog:Program)(w:World):PySem.KeyKind prog w Key where
 is:=Es
 hash:=Jf w
 inj:=fun v a b ha hb=>by
  rcases jF ha with⟨i,t,rfl,rfl⟩|⟨x,t,rfl,rfl⟩
  ·rcases jF hb with⟨j,u,rfl,e⟩|⟨y,u,rfl,e⟩
   ·injection e with e1 _;rw[e1]
   ·exact nomatch e
  ·rcases jF hb with⟨j,u,rfl,e⟩|⟨y,u,rfl,e⟩
   ·exact nomatch e
   ·injection e with e1 _;rw[e1]
 byValue:=fun k v h=>by
  rcases jF h with⟨i,t,rfl,rfl⟩|⟨x,t,rfl,rfl⟩<;>rfl
 pyHash:=fun hv h=>by
  rcases jF hv with⟨i,t,rfl,rfl⟩|⟨x,t,rfl,rfl⟩
  ·exact wpAny_pyHash_int h
  ·exact wpAny_pyHash_str h
 eqBool:=fun hu hv h=>by
  rcases jF hu with⟨i,t,rfl,rfl⟩|⟨x,t,rfl,rfl⟩
  ·rcases jF hv with⟨j,u,rfl,rfl⟩|⟨y,u,rfl,rfl⟩
   ·rw[Jg]at h;exact wpAny_eqBool_int h
   ·rw[Ji]at h;exact SeqAt.EqAt.int_str i t y u _ _ _ _ h
  ·rcases jF hv with⟨j,u,rfl,rfl⟩|⟨y,u,rfl,rfl⟩
   ·rw[Jj]at h;exact SeqAt.EqAt.str_int x t j u _ _ _ _ h
   ·rw[Jh]at h;exact wpAny_eqBool_str h
 «strs»:=fun k x t v h=>by
  rcases jF h with⟨i,u,rfl,e⟩|⟨y,u,rfl,e⟩
  ·exact nomatch e
  ·injection e with e1 _
   subst e1;cases v<;>rfl
end L2
namespace L2
open PySem PySem.Spec PyProof.Rows
inductive V where
 |aP|bl (b:Bool)|int (i:Int)|str (x:Str)|fk (b:Array UInt8)|fq (b:UInt64)|ref (a:Addr)|ty (n:String)
 deriving DecidableEq
def RelV:V→Value→Prop
 |.aP,u=>u=Value.none
 |.bl b,u=>u=Value.bool b
 |.int i,u=>∃t,u=Value.int i t
 |.str x,u=>∃t,u=Value.str x t
 |.fk b,u=>∃t,u=Value.bytes b t
 |.fq b,u=>∃t,u=Value.float b t
 |.ref a,u=>u=Value.ref a
 |.ty n,u=>u=Value.type n
abbrev Vals:List V→List Value→Prop:=Paired RelV
theorem Vals.length{xs:List V}{us:List Value}(r:Vals xs us):xs.length=us.length:=Paired.length r
theorem Vals.get:∀{xs:List V}{us:List Value}{i:Nat}{x:V},Vals xs us→xs[i]? =some x→∃u,us[i]? =some u∧RelV x u
 |_,_,_,_,.nil,e=>by simp at e
 |_,_,0,_,.cons r _,e=>by simp at e;subst e;exact⟨_,rfl,r⟩
 |_,_,i+1,x,.cons _ t,e=>by
  obtain⟨u,h1,h2⟩:=Vals.get (i:=i) (x:=x) t (by simpa using e);exact⟨u,by simpa using h1,h2⟩
theorem Vals.append:∀{xs ys:List V}{us ws:List Value},Vals xs us→Vals ys ws→Vals (xs++ys) (us++ws)
 |_,_,_,_,.nil,s=>s
 |_,_,_,_,.cons r t,s=>.cons r (Vals.append t s)
theorem Vals.take:∀{xs:List V}{us:List Value}(n:Nat),Vals xs us→Vals (xs.take n) (us.take n)
 |_,_,0,_=>.nil
 |_,_,_+1,.nil=>.nil
 |_,_,n+1,.cons r t=>.cons r (Vals.take n t)
theorem Vals.drop:∀{xs:List V}{us:List Value}(n:Nat),Vals xs us→Vals (xs.drop n) (us.drop n)
 |_,_,0,r=>r
 |_,_,_+1,.nil=>.nil
 |_,_,n+1,.cons _ t=>Vals.drop n t
def fP:Option V→Option Value→Prop
 |some v,some u=>RelV v u
 |none,none=>True
 |_,_=>False
def KV{κ:Type}:List (κ×V)→List (κ×Value)→Prop:=Paired fun(p:κ×V) (q:κ×Value)=>p.1=q.1∧RelV p.2 q.2
def kV:Key→V
 |.inl i=>.int i
 |.inr x=>.str x
inductive HO where
 |lst (xs:List V)
 |tup (xs:List V)
 |dK (kvs:List (Key×V))|dT (kvs:List (List Key×V))
 |set (S:Int→Bool) (n:Nat)
 |ins (C dx:Addr) (fs:List (Str×V))
 |own (x:Addr)
 |xd (fs:List (Str×V))
 |met (f x:Addr)
 |sI (lo hi:Int)
 |c7 (o:Obj) (u:HO)
 |cV (ps:Array Value)
 |ext (φ:Heap→Prop)
abbrev Hp:=Addr→Option HO
def upd(H:Hp)(a:Addr)(o:HO):Hp:=fun b=>if b=a then some o else H b
theorem aj{H:Hp}{a:Addr}{o:HO}:upd H a o a=some o:=by unfold upd;rw[if_pos rfl]
theorem au{H:Hp}{a b:Addr}{o:HO}(h:b≠a):upd H a o b=H b:=by unfold upd;rw[if_neg h]
theorem dQ{H:Hp}{a:Addr}{o u:HO}:upd (upd H a o) a u=upd H a u:=by
 funext b;unfold upd;split<;>rfl
theorem iO{H:Hp}{a b:Addr}{o u:HO}(h:H a=some o)(h':H b=some u)(d:o≠u):a≠b:=by
 intro e;subst e;rw[h]at h';exact d (Option.some.inj h')
theorem aV{H:Hp}{a b:Addr}{o:HO}(h:H a=some o)(h':H b=none):a≠b:=by
 intro e;subst e;rw[h]at h';cases h'
section
variable(P:Program)(w:World)
def cO(H:Hp)(h:Heap)(a:Addr):HO→Prop
 |.lst xs=>xs.length≤sizeLine∧∃(its:List Value)(n:Nat),Vals xs its∧h.get? a=some {cls:=.type "list",data:=.seq its.toArray n}
 |.tup xs=>xs.length≤sizeLine∧∃its:List Value,Vals xs its∧IsTup h a its.toArray
 |.dK kvs=>kvs.length≤sizeLine∧(a==sysModules)=false∧∃vs,KV kvs vs∧h.DictOf (Et P w) a vs
 |.dT kvs=>kvs.length≤sizeLine∧(a==sysModules)=false∧∃xs:List (List Key×Addr×Value),
   Paired (fun(p:List Key×V) (q:List Key×Addr×Value)=>p.1=q.1∧H q.2.1=some (.tup (p.1.map kV))∧RelV p.2 q.2.2) kvs xs∧
   ∃o es ep,h.get? a=some o∧o.ExactDict∧o.data=.dict es ep∧es.toList=xs.map (entryOfKey (tupleKind (Et P w)))∧(xs.map (·.1)).Nodup
 |.set S n=>h.SetOf (intKind P w) a S n
 |.ins C dx fs=>H dx=some (.own a)∧fs.length≤1000∧dx≠a∧h.get? a=some (PySem.W.instObj C dx)∧
   ∃mA,h.Ns1 dx mA∧(∀f,fP (fs.lookup f) (mA f))∧PySem.Within mA (fs.map (·.1))
 |.own _=>∃o,h.get? a=some o
 |.xd fs=>∃mA,h.Ns1 a mA∧∀f,fP (fs.lookup f) (mA f)
 |.sI lo hi=>∃t u v,h.get? a=some {cls:=.type "range",data:=.fields #[.int lo t,.int hi u,.int 1 v]}
 |.c7 o u=>h.get? a=some o∧cO H h a u
 |.cV ps=>h.get? a=some {cls:=.none,data:=.fields ps}
 |.met f x=>h.get? a=some (PySem.W.methodObj (.ref f) (.ref x))
 |.ext φ=>φ h∧(∃o,h.get? a=some o)∧∀h1 h2:Heap,φ h1→(∀o,h1.get? a=some o→h2.get? a=some o)→φ h2
def cy(H:Hp)(h:Heap):Prop:=∀a o,H a=some o→cO P w H h a o
end
section
variable{P:Program}{w:World}{H H':Hp}{h h':Heap}{a:Addr}{o:HO}
theorem cO.lt(x:cO P w H h a o):a<h.objs.size:=by
 cases o with
 |lst xs=>obtain⟨_,_,_,_,e⟩:=x;exact Heap.lt_size e
 |tup xs=>obtain⟨_,_,_,p⟩:=x;exact p.lt
 |dK kvs=>obtain⟨_,_,_,_,o,_,_,e,_⟩:=x;exact Heap.lt_size e
 |dT kvs=>obtain⟨_,_,_,_,o,_,_,e,_⟩:=x;exact Heap.lt_size e
 |set S n=>obtain⟨o,_,_,_,e,_⟩:=x;exact Heap.lt_size e
 |ins C dx fs=>obtain⟨_,_,_,e,_⟩:=x;exact Heap.lt_size e
 |own y=>obtain⟨_,e⟩:=x;exact Heap.lt_size e
 |xd fs=>obtain⟨_,⟨_,_,_,e,_⟩,_⟩:=x;exact Heap.lt_size e
 |sI lo hi=>obtain⟨_,_,_,e⟩:=x;exact Heap.lt_size e
 |c7 ob u=>obtain⟨e,_⟩:=x;exact Heap.lt_size e
 |cV ps=>exact Heap.lt_size (show h.get? a=some _ from x)
 |met f y=>exact Heap.lt_size (show h.get? a=some _ from x)
 |ext φ=>obtain⟨_,⟨_,e⟩,_⟩:=x;exact Heap.lt_size e
theorem Paired.Eu{α β:Type}{F G:α→β→Prop}:∀{l₁:List α}{l₂:List β},Paired F l₁ l₂→(∀a b,F a b→G a b)→Paired G l₁ l₂
 |_,_,.nil,_=>.nil
 |_,_,.cons r t,f=>.cons (f _ _ r) (Paired.Eu t f)
theorem cO.stay(x:cO P w H h a o)(k:∀b u,(b=a∨H b=some (.own a))→h.get? b=some u→h'.get? b=some u)
  (ho:∀b,H b=some (.own a)→H' b=some (.own a))(ht:∀b xs,H b=some (.tup xs)→H' b=some (.tup xs)):cO P w H' h' a o:=by
 induction o with
 |lst xs=>obtain⟨z,its,n,r,e⟩:=x;exact⟨z,its,n,r,k _ _ (.inl rfl) e⟩
 |tup xs=>obtain⟨z,its,r,ob,e,c⟩:=x;exact⟨z,its,r,ob,k _ _ (.inl rfl) e,c⟩
 |dK kvs=>obtain⟨z,y,vs,r,ob,es,ep,e,c⟩:=x;exact⟨z,y,vs,r,ob,es,ep,k _ _ (.inl rfl) e,c⟩
 |dT kvs=>
  obtain⟨z,y,xs,r,ob,es,ep,e,c⟩:=x;exact⟨z,y,xs,Paired.Eu r fun p q z=>⟨z.1,ht _ _ z.2.1,z.2.2⟩,ob,es,ep,k _ _ (.inl rfl) e,c⟩
 |set S n=>obtain⟨ob,es,ep,t,e,c⟩:=x;exact⟨ob,es,ep,t,k _ _ (.inl rfl) e,c⟩
 |ins C dx fs=>
  obtain⟨d,z,ne,e,mA,⟨od,es,ep,e2,c⟩,r⟩:=x;exact⟨ho _ d,z,ne,k _ _ (.inl rfl) e,mA,⟨od,es,ep,k _ _ (.inr d) e2,c⟩,r⟩
 |own y=>obtain⟨ob,e⟩:=x;exact⟨ob,k _ _ (.inl rfl) e⟩
 |xd fs=>obtain⟨mA,⟨od,es,ep,e,c⟩,r⟩:=x;exact⟨mA,⟨od,es,ep,k _ _ (.inl rfl) e,c⟩,r⟩
 |sI lo hi=>obtain⟨t,u,v,e⟩:=x;exact⟨t,u,v,k _ _ (.inl rfl) e⟩
 |c7 ob u ih=>obtain⟨e,q⟩:=x;exact⟨k _ _ (.inl rfl) e,ih q⟩
 |cV ps=>
  have e:h.get? a=some {cls:=.none,data:=.fields ps}:=x;show h'.get? a=some {cls:=.none,data:=.fields ps};exact k a _ (.inl rfl) e
 |met f y=>
  have e:h.get? a=some (PySem.W.methodObj (.ref f) (.ref y)):=x;show h'.get? a=some (PySem.W.methodObj (.ref f) (.ref y));exact k a _ (.inl rfl) e
 |ext φ=>obtain⟨p,⟨o,e⟩,st⟩:=x;exact⟨st _ _ p fun o q=>k _ _ (.inl rfl) q,⟨o,k _ _ (.inl rfl) e⟩,st⟩
theorem cy.lt(x:cy P w H h)(e:H a=some o):a<h.objs.size:=(x a o e).lt
theorem cy.fresh(x:cy P w H h)(e:h.objs.size≤a):H a=none:=by
 cases q:H a with
 |none=>rfl
 |some u=>exact absurd (Nat.lt_of_lt_of_le (x.lt q) e) (Nat.lt_irrefl _)
theorem cy.kept(x:cy P w H h)(k:∀b u,h.get? b=some u→h'.get? b=some u):cy P w H h':=fun a o e=>
 (x a o e).stay (fun b u _ q=>k b u q) (fun _ q=>q) fun _ _ q=>q
theorem cy.laid(x:cy P w H h)(k:∀b u,h.get? b=some u→h'.get? b=some u)(hp:h.objs.size≤a)(new:cO P w (upd H a o) h' a o):cy P w (upd H a o) h':=fun b u e=>by
 have hn:=x.fresh hp;by_cases hb:b=a
 ·subst hb;rw[aj]at e;cases e;exact new
 ·rw[au hb]at e
  exact(x b u e).stay (fun c v _ q=>k c v q) (fun c q=>by rw[au (aV q hn)];exact q) fun c xs q=>by rw[au (aV q hn)];exact q
end
def Rd(H:Hp)(a:Addr)(u:HO):Prop:=H a=some u∨∃o,H a=some (.c7 o u)
theorem Rd.ok{P:Program}{w:World}{H:Hp}{h:Heap}{a:Addr}{u:HO}(r:Rd H a u)(x:cy P w H h):cO P w H h a u:=by
 rcases r with r|⟨o,r⟩
 ·exact x a u r
 ·obtain⟨_,q⟩:=x a _ r
  exact q
def sJ:Option HO→Prop
 |some (.lst _)=>True
 |some (.dK _)=>True
 |some (.dT _)=>True
 |some (.set _ _)=>True
 |some (.ins _ _ _)=>True
 |some (.ext _)=>True
 |_=>False
section
variable{P:Program}{w:World}{H:Hp}{h h':Heap}{x e:Addr}{o':HO}
theorem cy.write(ok:cy P w H h)(mu:sJ (H x))(he:e=x∨H e=some (.own x))(k:∀b u,b≠e→h.get? b=some u→h'.get? b=some u)(heo:∃u,h'.get? e=some u)
  (new:cO P w (upd H x o') h' x o'):cy P w (upd H x o') h':=fun b u q=>by
 have nown:∀c y,H c=some (.own y)→c≠x:=fun c y r z=>by subst z;rw[r]at mu;exact mu
 have ntup:∀c xs,H c=some (.tup xs)→c≠x:=fun c xs r z=>by subst z;rw[r]at mu;exact mu
 by_cases hb:b=x
 ·subst hb;rw[aj]at q;cases q;exact new
 ·rw[au hb]at q
  by_cases hbe:b=e
  ·have q':H b=some (.own x):=by
    rcases he with z|z
    ·exact absurd (hbe.trans z) hb
    ·rw[hbe];exact z
   rw[q]at q';cases q';obtain⟨v,hv⟩:=heo;exact⟨v,by rw[hbe];exact hv⟩
  ·refine(ok b u q).stay (fun c v hc r=>k c v ?_ r) (fun c r=>by rw[au (nown c b r)];exact r) fun c xs r=>by rw[au (ntup c xs r)];exact r
   rcases hc with rfl|hc
   ·exact hbe
   ·rintro rfl
    rcases he with z|z
    ·exact nown c b hc z
    ·rw[hc]at z;cases z;exact hb rfl
end
structure Un(fs ex:List Addr)(H H':Hp)(h h':Heap):Prop where
 keep:∀b o,h.get? b=some o→H b=none→b∉fs→b∉ex→h'.get? b=some o
 slot:∀b o,h.get? b=some o→H b=none→b∈fs→b∉ex→∃sl,h'.get? b=some {o with slots:=sl}
 free:∀b o,h.get? b=some o→H b=none→b∉ex→H' b=none
 there:∀b o,h.get? b=some o→b∉ex→∃o',h'.get? b=some o'
 tups:∀b xs,H b=some (.tup xs)→H' b=some (.tup xs)
 d7:∀b o u,H b=some (.c7 o u)→H' b=some (.c7 o u)
 d8:∀b ps,H b=some (.cV ps)→∃more,H' b=some (.cV (ps++more))
section
variable{fs fs' ex ex':List Addr}{H H1 H2:Hp}{h h1 h2 h':Heap}{a x e:Addr}{o:HO}
theorem Un.any(u:Un fs ex H H1 h h1){b:Addr}{ob:Obj}(q:h.get? b=some ob)(n:H b=none)(hx:b∉ex):∃sl,h1.get? b=some {ob with slots:=sl}:=by
 by_cases hb:b∈fs
 ·exact u.slot b ob q n hb hx
 ·exact⟨ob.slots,u.keep b ob q n hb hx⟩
theorem Un.trans(a:Un fs ex H H1 h h1)(b:Un fs ex H1 H2 h1 h2):Un fs ex H H2 h h2 where
 keep:=fun c ob q n hc hx=>b.keep c ob (a.keep c ob q n hc hx) (a.free c ob q n hx) hc hx
 slot:=fun c ob q n hc hx=>by
  obtain⟨sl,e1⟩:=a.slot c ob q n hc hx;obtain⟨sl',e2⟩:=b.slot c _ e1 (a.free c ob q n hx) hc hx;exact⟨sl',e2⟩
 free:=fun c ob q n hx=>by
  obtain⟨o',e1⟩:=a.there c ob q hx;exact b.free c o' e1 (a.free c ob q n hx) hx
 there:=fun c ob q hx=>by
  obtain⟨o',e1⟩:=a.there c ob q hx;exact b.there c o' e1 hx
 tups:=fun c xs q=>b.tups c xs (a.tups c xs q)
 d7:=fun c ob xs q=>b.d7 c ob xs (a.d7 c ob xs q)
 d8:=fun c ps q=>by
  obtain⟨m1,e1⟩:=a.d8 c ps q;obtain⟨m2,e2⟩:=b.d8 c _ e1;exact⟨m1++m2,by rw[e2,Array.append_assoc]⟩
theorem Un.kept(k:∀b u,h.get? b=some u→h'.get? b=some u):Un fs ex H H h h':=
 ⟨fun b ob q _ _ _=>k b ob q,fun b ob q _ _ _=>⟨ob.slots,k b ob q⟩,fun _ _ _ n _=>n,fun b ob q _=>⟨ob,k b ob q⟩,fun _ _ q=>q,fun _ _ _ q=>q,fun _ ps q=>⟨#[],by rw[q];simp⟩⟩
theorem Un.refl:Un fs ex H H h h:=Un.kept fun _ _ q=>q
theorem Un.laid(k:∀b u,h.get? b=some u→h'.get? b=some u)(hp:h.objs.size≤a)(hn:H a=none):Un fs ex H (upd H a o) h h' where
 keep:=fun b u q _ _ _=>k b u q
 slot:=fun b u q _ _ _=>⟨u.slots,k b u q⟩
 free:=fun b u q n _=>by rw[au (Nat.ne_of_lt (Nat.lt_of_lt_of_le (Heap.lt_size q) hp))];exact n
 there:=fun b u q _=>⟨u,k b u q⟩
 tups:=fun b xs q=>by rw[au (aV q hn)];exact q
 d7:=fun b u xs q=>by rw[au (aV q hn)];exact q
 d8:=fun b ps q=>⟨#[],by rw[au (aV q hn),q];simp⟩
theorem Un.write(mu:sJ (H x))(he:e=x∨H e=some (.own x))(k:∀b u,b≠e→h.get? b=some u→h'.get? b=some u)(heo:∃u,h'.get? e=some u):Un fs ex H (upd H x o) h h':=by
 have hx:∀b,H b=none→b≠x:=fun b n z=>by subst z;rw[n]at mu;exact mu
 have hb:∀b,H b=none→b≠e:=fun b n z=>by
  subst z;rcases he with r|r
  ·exact hx b n r
  ·rw[n]at r;cases r
 have hm:∀b u,H b=some u→¬sJ (some u)→b≠x:=fun b u q nm z=>by subst z;rw[q]at mu;exact nm mu
 refine⟨fun b u q n _ _=>k b u (hb b n) q,fun b u q n _ _=>⟨u.slots,k b u (hb b n) q⟩,fun b u q n _=>by rw[au (hx b n)];exact n,fun b u q _=>?_,
  fun b xs q=>by rw[au (hm b _ q fun z=>z)];exact q,fun b u xs q=>by rw[au (hm b _ q fun z=>z)];exact q,fun b ps q=>⟨#[],by rw[au (hm b _ q fun z=>z),q];simp⟩⟩
 by_cases hbe:b=e
 ·subst hbe;exact heo
 ·exact⟨u,k b u hbe q⟩
theorem Un.mono(u:Un fs ex H H1 h h1)(hs:∀b∈fs,b∈fs')(hx:∀b∈ex,b∈ex'):Un fs' ex' H H1 h h1:=
 ⟨fun b ob q n hb he=>u.keep b ob q n (fun z=>hb (hs b z)) fun z=>he (hx b z),fun _ _ q n _ he=>u.any q n fun z=>he (hx _ z),fun b ob q n he=>u.free b ob q n fun z=>he (hx b z),fun b ob q he=>u.there b ob q fun z=>he (hx b z),u.tups,u.d7,u.d8⟩
end
def sL(h:Heap)(H:Hp):List Addr:=(List.range h.objs.size).filter fun a=>(H a).isSome
def jb(h:Heap)(H:Hp):Heap:=PySem.W.hideAll h (sL h H)
theorem Jk(h:Heap)(H:Hp):(jb h H).objs.size=h.objs.size:=PySem.W.hideAll_size _ _
theorem Jl{h:Heap}{H:Hp}{b:Addr}{o:Obj}(e:h.get? b=some o)(n:H b=none):(jb h H).get? b=some o:=
 PySem.W.hideAll_get _ e fun hm=>by
  have q:(H b).isSome=true:=(List.mem_filter.mp hm).2;rw[n]at q;simp at q
theorem Jm{h:Heap}{H:Hp}{b:Addr}{o:Obj}(e:(jb h H).get? b=some o):h.get? b=some o∧H b=none:=by
 have e':h.get? b=some o:=PySem.W.of_hideAll (sL h H) e;refine⟨e',?_⟩;cases q:H b with
 |none=>rfl
 |some x=>
  have hm:b∈sL h H:=List.mem_filter.mpr ⟨List.mem_range.mpr (Heap.lt_size e'),by simp[q]⟩;have z:(jb h H).get? b=none:=PySem.W.hideAll_none (sL h H) hm;rw[z]at e;cases e
end L2
namespace L2
open PySem PySem.Spec PyProof.Rows
structure Mod(K:PySem.W.Frag)(mg:Str→Option Value)(base:Heap):Prop where
 jc:K.In base
 glob:base.Ns mainGlobals mg
 blt:∃mb,base.Ns builtinsNs mb∧∀x:Str,x≠"__name__"→mb x=bootBuiltins x
 nolimit:base.NoLimit
structure Cx where
 prog:Program
 w:World
 K:PySem.W.Frag
 mg:Str→Option Value
 base:Heap
 A:Around
 N:List Str
 cR:Shared
 j4:Hp
 env:Env
 outer:List Env
 stack:List Env
 ex:List Addr
 fn:Str→Bool
 calm:Bool
 pn:List (Addr×Obj)
 xe:Value→Shared→Prop
def frs(l:List Env):List Addr:=l.filterMap (·.frame)
abbrev Cx.fs(X:Cx):List Addr:=frs X.outer
def oW(sc:Scope)(x:Str):Prop:=sc.names.lookup x=some .local∨sc.names.lookup x=some .cell∨sc.names.lookup x=some .free
def Loc(sc:Scope)(x:Str):Prop:=sc.names.lookup x=some .local∨sc.names.lookup x=some .cell
def Look(env:Env)(h:Heap)(m:Str→Option Value)(x:Str)(u:Value):Prop:=
 (env.kindOf x=some .local∧m x=some u)∨((env.kindOf x=some .cell∨env.kindOf x=some .free)∧∃c,env.cells.lookup x=some c∧h.IsCell c (some u))
structure Cx.Ok(X:Cx):Prop where
 mod:Mod X.K X.mg X.base
 kind:X.env.scope.kind=.function
 glob:X.env.globals=mainGlobals
 blt:X.env.builtins=builtinsNs
 above:X.cR.heap.objs.size≤X.env.locals
 inj:∀x y c,X.env.cells.lookup x=some c→X.env.cells.lookup y=some c→x=y
 has:∀x,(X.env.kindOf x=some .cell∨X.env.kindOf x=some .free)→∃c,X.env.cells.lookup x=some c
 j5:∀x c,X.fn x=true→X.env.cells.lookup x=some c→X.cR.heap.objs.size≤c
 hd:X.calm=true→X.A.handled=none
 frames:X.A.frames=some X.stack
 stk:X.stack=X.outer∨(X.stack=X.env::X.outer∧X.env.frame=some X.env.locals)
 k_:∀b∈X.ex,b≠X.env.locals∧∀x c,X.env.cells.lookup x=some c→c≠b
 bs:∀b o,X.base.get? b=some o→X.cR.heap.get? b=some o∧X.j4 b=none
 gp:X.base.objs.size≤X.cR.heap.objs.size
 j6:∀b o,X.base.get? b=some o→b∉X.ex
 j7:∀b∈X.ex,b∉X.fs
 fz:X.cR.heap.FunFrames X.base X.outer
 gY:∀b∈X.fs,X.j4 b=none
structure Inv(X:Cx)(pins:List (Addr×Obj))(σ:List (Option V))(H:Hp)(s:Shared):Prop where
 ok:X.Ok
 os:s.os=X.cR.os
 bare:AllBare s.gens
 base:Un X.fs X.ex X.j4 H X.cR.heap s.heap
 loc:∃m,s.heap.Ns X.env.locals m∧∀(i:Nat)(x:Str)(v:V),X.N[i]? =some x→σ[i]? =some (some v)→oW X.env.scope x→∃u,RelV v u∧Look X.env s.heap m x u
 cell:∀x c,X.env.cells.lookup x=some c→∃v,s.heap.IsCell c v
 free:H X.env.locals=none
 d9:∀x c,X.env.cells.lookup x=some c→H c=none
 pin:∀p∈X.pn++pins,s.heap.get? p.1=some p.2∧H p.1=none∧p.1≠X.env.locals∧p.1∉X.fs∧∀v,p.2.data≠.cell v
 hok:cy X.prog X.w H s.heap
 len:σ.length=X.N.length
section
variable{X:Cx}{pins:List (Addr×Obj)}{σ:List (Option V)}{H H':Hp}{s:Shared}{h':Heap}
theorem Cx.Ok.Jo(ok:X.Ok){b:Addr}{o:Obj}(e:X.base.get? b=some o):b∉X.fs:=fun hb=>by
 have:=(ok.fz.mem hb).1;rw[e]at this;cases this
theorem Inv.bs(I:Inv X pins σ H s):∀b o,X.base.get? b=some o→s.heap.get? b=some o∧H b=none:=fun b o e=>
 ⟨I.base.keep b o (I.ok.bs b o e).1 (I.ok.bs b o e).2 (I.ok.Jo e) (I.ok.j6 b o e),I.base.free b o (I.ok.bs b o e).1 (I.ok.bs b o e).2 (I.ok.j6 b o e)⟩
theorem Inv.bk(I:Inv X pins σ H s):∀b o,X.base.get? b=some o→s.heap.get? b=some o:=fun b o e=>(I.bs b o e).1
theorem Inv.mod(I:Inv X pins σ H s):Mod X.K X.mg X.base:=I.ok.mod
theorem Inv.cz(I:Inv X pins σ H s):X.K.In s.heap:=I.ok.mod.jc.keeps I.bk
theorem Inv.lt(I:Inv X pins σ H s):X.env.locals<s.heap.objs.size:=let⟨_,hn,_⟩:=I.loc;hn.lt
theorem Inv.sz(I:Inv X pins σ H s):X.cR.heap.objs.size≤s.heap.objs.size:=Nat.le_trans I.ok.above (Nat.le_of_lt I.lt)
theorem Inv.Jp(I:Inv X pins σ H s){a:Addr}(h:s.heap.objs.size≤a):a∉X.fs:=fun hb=>by
 obtain⟨_,o,ho,_⟩:=I.ok.fz.mem hb;exact absurd (Nat.lt_of_lt_of_le (Heap.lt_size ho) (Nat.le_trans I.sz h)) (Nat.lt_irrefl _)
theorem Inv.iP(I:Inv X pins σ H s):∀x c,X.env.cells.lookup x=some c→c≠X.env.locals:=fun x c e z=>by
 obtain⟨v,o,ho,hd⟩:=I.cell x c e;obtain⟨m,⟨o',es,ep,ho',hd',_⟩,_⟩:=I.loc;rw[z,ho']at ho;cases ho;rw[hd']at hd;cases hd
theorem Inv.fz(I:Inv X pins σ H s):s.heap.FunFrames X.base X.outer:=by
 have all:∀(l:List Env),(∀b∈frs l,b∈X.fs)→X.cR.heap.FunFrames X.base l→s.heap.FunFrames X.base l:=by
  intro l
  induction l with
  |nil=>intro _ _;trivial
  |cons env r ih=>
   intro hs hl;obtain⟨hk,⟨L,o,hf,hn,ho,hd⟩,hr⟩:=hl;have hL:L∈X.fs:=hs L (by unfold frs;rw[List.filterMap_cons,hf];exact List.mem_cons_self);obtain⟨sl,e⟩:=I.base.slot L o ho (I.ok.gY L hL) hL fun z=>I.ok.j7 L z hL
   exact⟨hk,⟨L,_,hf,hn,e,hd⟩,ih (fun b hb=>hs b (by unfold frs;rw[List.filterMap_cons,hf];exact List.mem_cons_of_mem _ hb)) hr⟩
 exact all X.outer (fun _ hb=>hb) I.ok.fz
theorem Inv.stack(I:Inv X pins σ H s):s.heap.FunFrames X.base X.stack:=by
 rcases I.ok.stk with e|⟨e,hf⟩
 ·rw[e];exact I.fz
 ·rw[e]
  obtain⟨m,hn,_⟩:=I.loc;refine .cons (by rw[I.ok.kind];decide) hf hn ?_ I.fz;exact Heap.get?_none_of_le (Nat.le_trans I.ok.gp I.ok.above)
theorem Inv.mQ(I:Inv X pins σ H s):∀b∈frs X.stack,b∈X.env.locals::X.fs:=fun b hb=>by
 rcases I.ok.stk with e|⟨e,hf⟩
 ·rw[e]at hb;exact List.mem_cons_of_mem _ hb
 ·rw[e]at hb
  unfold frs at hb;rw[List.filterMap_cons,hf]at hb;exact hb
theorem Inv.A2(I:Inv X pins σ H s):∀b∈frs X.stack,H b=none:=fun b hb=>by
 rcases List.mem_cons.mp (I.mQ b hb)with e|hb
 ·rw[e];exact I.free
 ·obtain⟨_,o,ho,_⟩:=I.ok.fz.mem hb
  exact I.base.free b o ho (I.ok.gY b hb) fun z=>I.ok.j7 b z hb
theorem Inv.step{g':Array GenState}{t':Nat}{d':Drawn}{ch:List Addr}(I:Inv X pins σ H s)
  (hch:∀b∈ch,(b∈X.ex∨X.cR.heap.objs.size≤b)∧b≠X.env.locals∧(∀x c,X.env.cells.lookup x=some c→c≠b)∧∀p∈X.pn++pins,p.1≠b)
  (keep:∀b o,b≠X.env.locals→b∉X.fs→b∉ch→s.heap.get? b=some o→H b=none→h'.get? b=some o)
  (slot:∀b o,b≠X.env.locals→b∈X.fs→b∉ch→s.heap.get? b=some o→H b=none→∃sl,h'.get? b=some {o with slots:=sl})(free:∀b o,b∉ch→s.heap.get? b=some o→H b=none→H' b=none)
  (there:∀b o,b∉ch→s.heap.get? b=some o→∃o',h'.get? b=some o')
  (tups:∀b xs,H b=some (.tup xs)→H' b=some (.tup xs))(d7:∀b o u,H b=some (.c7 o u)→H' b=some (.c7 o u))(d8:∀b ps,H b=some (.cV ps)→∃more,H' b=some (.cV (ps++more)))
  (ns:∀m,s.heap.Ns X.env.locals m→h'.Ns X.env.locals m)(hok:cy X.prog X.w H' h')(hg:AllBare g'):
  Inv X pins σ H' {s with heap:=h',gens:=g',drawn:=d',toks:=t'}:=by
 have neL:∀b o,X.cR.heap.get? b=some o→b≠X.env.locals:=fun b o e=>Nat.ne_of_lt (Nat.lt_of_lt_of_le (Heap.lt_size e) I.ok.above)
 have neC:∀b o,X.cR.heap.get? b=some o→b∉X.ex→b∉ch:=fun b o e hx hb=>by
  rcases(hch b hb).1 with z|z
  ·exact hx z
  ·exact absurd (Nat.lt_of_lt_of_le (Heap.lt_size e) z) (Nat.lt_irrefl _)
 have cellK:∀x c,X.env.cells.lookup x=some c→∀v,s.heap.IsCell c v→h'.IsCell c v:=fun x c e v ⟨o,ho,hd⟩=>by
  have nch:c∉ch:=fun z=>(hch c z).2.2.1 x c e rfl
  by_cases hc:c∈X.fs
  ·obtain⟨sl,q⟩:=slot c o (I.iP x c e) hc nch ho (I.d9 x c e)
   exact⟨_,q,hd⟩
  ·exact⟨o,keep c o (I.iP x c e) hc nch ho (I.d9 x c e),hd⟩
 refine⟨I.ok,I.os,hg,⟨fun b o e n hb hx=>?_,fun b o e n hb hx=>?_,fun b o e n hx=>?_,fun b o e hx=>?_,fun b xs e=>tups b xs (I.base.tups b xs e),fun b o xs e=>d7 b o xs (I.base.d7 b o xs e),fun b ps e=>?_⟩,?_,fun x c e=>?_,?_,fun x c e=>?_,fun p hp=>?_,hok,I.len⟩
 ·exact keep b o (neL b o e) hb (neC b o e hx) (I.base.keep b o e n hb hx) (I.base.free b o e n hx)
 ·obtain⟨sl,e1⟩:=I.base.slot b o e n hb hx
  obtain⟨sl',e2⟩:=slot b _ (neL b o e) hb (neC b o e hx) e1 (I.base.free b o e n hx);exact⟨sl',e2⟩
 ·obtain⟨o',e1⟩:=I.base.there b o e hx
  exact free b o' (neC b o e hx) e1 (I.base.free b o e n hx)
 ·obtain⟨o',e1⟩:=I.base.there b o e hx
  exact there b o' (neC b o e hx) e1
 ·obtain⟨m1,e1⟩:=I.base.d8 b ps e
  obtain⟨m2,e2⟩:=d8 b _ e1;exact⟨m1++m2,by rw[e2,Array.append_assoc]⟩
 ·obtain⟨m,hn,hl⟩:=I.loc
  refine⟨m,ns m hn,fun i x v e1 e2 e3=>?_⟩;obtain⟨u,r,l⟩:=hl i x v e1 e2 e3;refine⟨u,r,?_⟩;rcases l with l|⟨k,c,e,z⟩
  ·exact .inl l
  ·exact .inr ⟨k,c,e,cellK x c e _ z⟩
 ·obtain⟨v,z⟩:=I.cell x c e
  exact⟨v,cellK x c e v z⟩
 ·obtain⟨m,⟨o,_,_,ho,_⟩,_⟩:=I.loc
  exact free _ o (fun z=>(hch _ z).2.1 rfl) ho I.free
 ·obtain⟨v,o,ho,hd⟩:=I.cell x c e
  exact free c o (fun z=>(hch c z).2.2.1 x c e rfl) ho (I.d9 x c e)
 ·obtain⟨e,n,ne,nf,d⟩:=I.pin p hp
  have nch:p.1∉ch:=fun z=>(hch p.1 z).2.2.2 p hp rfl
  exact⟨keep p.1 p.2 ne nf nch e n,free p.1 p.2 nch e n,ne,nf,d⟩
theorem Inv.un{t':Nat}(I:Inv X pins σ H s)(u:Un X.fs [] H H' s.heap h')(hok:cy X.prog X.w H' h'):Inv X pins σ H' {s with heap:=h',toks:=t'}:=by
 obtain⟨m,⟨o,es,ep,ho,r⟩,_⟩:=id I.loc;obtain⟨sl,hL⟩:=u.any ho I.free (by simp)
 exact I.step (g':=s.gens) (d':=s.drawn) (ch:=[]) (fun _ z=>nomatch z) (fun b o _ hb _ e n=>u.keep b o e n hb (by simp)) (fun b o _ hb _ e n=>u.slot b o e n hb (by simp)) (fun b o _ e n=>u.free b o e n (by simp)) (fun b o _ e=>u.there b o e (by simp)) u.tups u.d7 u.d8 (fun m' hm=>by
  obtain⟨o',es',ep',ho',r'⟩:=hm;rw[ho]at ho';cases ho';exact⟨_,es',ep',hL,r'⟩) hok I.bare
theorem Inv.call{g':Array GenState}{t':Nat}{d':Drawn}{ch:List Addr}(I:Inv X pins σ H s)(u:Un (frs X.stack) ch H H' s.heap h')(hok:cy X.prog X.w H' h')(hg:AllBare g')
  (hch:∀b∈ch,(b∈X.ex∨X.cR.heap.objs.size≤b)∧b≠X.env.locals∧(∀x c,X.env.cells.lookup x=some c→c≠b)∧∀p∈X.pn++pins,p.1≠b):
  Inv X pins σ H' {s with heap:=h',gens:=g',drawn:=d',toks:=t'}:=by
 obtain⟨m,⟨o,es,ep,ho,r⟩,_⟩:=id I.loc;obtain⟨sl,hL⟩:=u.any ho I.free fun z=>(hch _ z).2.1 rfl
 exact I.step (ch:=ch) hch (fun b o hL hb hc e n=>u.keep b o e n (fun z=>(List.mem_cons.mp (I.mQ b z)).elim hL hb) hc) (fun b o _ _ hc e n=>u.any e n hc) (fun b o hc e n=>u.free b o e n hc) (fun b o hc e=>u.there b o e hc) u.tups u.d7 u.d8 (fun m' hm=>by
  obtain⟨o',es',ep',ho',r'⟩:=hm;rw[ho]at ho';cases ho';exact⟨_,es',ep',hL,r'⟩) hok hg
theorem Inv.turned{t':Nat}{it:Addr}(I:Inv X pins σ H s)(k:∀b o,b≠it→s.heap.get? b=some o→h'.get? b=some o)(hn:H it=none)(hL:it≠X.env.locals)
  (h1:it∈X.ex∨X.cR.heap.objs.size≤it)(h2:∀x c,X.env.cells.lookup x=some c→c≠it)(h3:∀p∈X.pn++pins,p.1≠it):Inv X pins σ H {s with heap:=h',toks:=t'}:=by
 have nit:∀b u,H b=some u→b≠it:=fun b u e z=>by rw[z,hn]at e;cases e
 refine I.step (g':=s.gens) (d':=s.drawn) (ch:=[it]) (fun b hb=>?_) (fun b o _ _ hc e _=>k b o (fun z=>hc (by simp[z])) e) (fun b o _ _ hc e _=>⟨o.slots,k b o (fun z=>hc (by simp[z])) e⟩) (fun _ _ _ _ n=>n)
  (fun b o hc e=>⟨o,k b o (fun z=>hc (by simp[z])) e⟩) (fun _ _ e=>e) (fun _ _ _ e=>e) (fun b ps e=>⟨#[],by rw[e];simp⟩) (fun m hm=>?_) (fun b u e=>?_) I.bare
 ·have e:b=it:=by simpa using hb
  subst e;exact⟨h1,hL,h2,h3⟩
 ·obtain⟨o,es,ep,ho,r⟩:=hm
  exact⟨o,es,ep,k _ o (Ne.symm hL) ho,r⟩
 ·refine(I.hok b u e).stay (fun c v hc q=>k c v ?_ q) (fun _ q=>q) fun _ _ q=>q
  rcases hc with z|z
  ·rw[z];exact nit b u e
  ·exact nit c _ z
theorem Inv.tok(I:Inv X pins σ H s)(t:Nat):Inv X pins σ H {s with toks:=t}:=I.un (h':=s.heap) (t':=t) Un.refl I.hok
theorem Inv.kept{t':Nat}(I:Inv X pins σ H s)(k:∀b u,s.heap.get? b=some u→h'.get? b=some u):Inv X pins σ H {s with heap:=h',toks:=t'}:=I.un (Un.kept k) (I.hok.kept k)
theorem Inv.laid{a:Addr}{o:HO}{t':Nat}(I:Inv X pins σ H s)(k:∀b u,s.heap.get? b=some u→h'.get? b=some u)(hp:s.heap.objs.size≤a)(new:cO X.prog X.w (upd H a o) h' a o):
  Inv X pins σ (upd H a o) {s with heap:=h',toks:=t'}:=I.un (Un.laid k hp (I.hok.fresh hp)) (I.hok.laid k hp new)
theorem Inv.write{x e:Addr}{o:HO}{t':Nat}(I:Inv X pins σ H s)(mu:sJ (H x))(he:e=x∨H e=some (.own x))(k:∀b u,b≠e→s.heap.get? b=some u→h'.get? b=some u)(heo:∃u,h'.get? e=some u)
  (new:cO X.prog X.w (upd H x o) h' x o):Inv X pins σ (upd H x o) {s with heap:=h',toks:=t'}:=I.un (Un.write mu he k heo) (I.hok.write mu he k heo new)
theorem Inv.weak{σ':List (Option V)}(I:Inv X pins σ H s)(hl:σ'.length=σ.length)(w:∀(i:Nat) v,σ'[i]? =some (some v)→σ[i]? =some (some v)):Inv X pins σ' H s:=
 ⟨I.ok,I.os,I.bare,I.base,let⟨m,hn,hl'⟩:=I.loc;⟨m,hn,fun i x v e1 e2 e3=>hl' i x v e1 (w i v e2) e3⟩,I.cell,I.free,I.d9,I.pin,I.hok,hl.trans I.len⟩
theorem Inv.Ew{pins':List (Addr×Obj)}(I:Inv X pins σ H s)(h:∀p∈pins',s.heap.get? p.1=some p.2∧H p.1=none∧p.1≠X.env.locals∧p.1∉X.fs∧∀v,p.2.data≠.cell v):Inv X pins' σ H s:=
 ⟨I.ok,I.os,I.bare,I.base,I.loc,I.cell,I.free,I.d9,fun p hp=>(List.mem_append.mp hp).elim (fun z=>I.pin p (List.mem_append_left _ z)) (h p),I.hok,I.len⟩
theorem A3{N:List Str}(hN:N.Nodup){i j:Nat}{x:Str}(a:N[i]? =some x)(b:N[j]? =some x):i=j:=by
 obtain⟨h1,e1⟩:=List.getElem?_eq_some_iff.mp a;obtain⟨h2,e2⟩:=List.getElem?_eq_some_iff.mp b;exact(List.getElem_inj hN).mp (e1.trans e2.symm)
theorem Ey{M:Model}{A:Around}{E:Value→Shared→Prop}{i:Nat}{x:Str}{v:V}{u:Value}{Q:Unit→Shared→Prop}(I:Inv X pins σ H s)(hN:X.N.Nodup)(hi:X.N[i]? =some x)(hx:Loc X.env.scope x)(r:RelV v u)
  (h:∀s',Inv X pins (σ.set i (some v)) H s'→(∃a,Heap.SameBut a s.heap s'.heap∧(a=X.env.locals∨X.env.cells.lookup x=some a))→Q () s')(hf:X.fn x=true∨X.env.scope.names.lookup x=some .local:=by first|exact .inl rfl|exact .inr rfl|assumption):wpAny M A (storeName X.env x u) Q E s:=by
 obtain⟨m,hn,hl⟩:=id I.loc;have hcls:(X.env.scope.kind==.class||(X.env.scope.kind==.module&&X.env.locals !=X.env.globals))=false:=by rw[I.ok.kind];rfl
 have hiσ:i<σ.length:=by rw[I.len];exact(List.getElem?_eq_some_iff.mp hi).1
 have iP:=I.iP
 have tracked:∀{a:Addr}{h':Heap},(∃o,s.heap.get? a=some o∧H a=none)→Heap.SameBut a s.heap h'→cy X.prog X.w H h':=fun{a h'} ha hs b ob e=>by
  obtain⟨_,_,hfree⟩:=ha;refine(I.hok b ob e).stay (fun c w' hc q=>(hs.2 c ?_).trans q) (fun _ q=>q) fun _ _ q=>q
  rintro rfl;rcases hc with rfl|hc
  ·rw[hfree]at e;cases e
  ·rw[hfree]at hc;cases hc
 rcases hx with hk|hk
 ·refine wpAny_storeName_local hk hn (fun h' hn' hs=>?_) hcls
  obtain⟨oL,_,_,hoL,_⟩:=id hn;refine h _ ⟨I.ok,I.os,I.bare,⟨fun b o e n hb hx=>?_,fun b o e n hb hx=>?_,I.base.free,fun b o e hx=>?_,I.base.tups,I.base.d7,I.base.d8⟩,⟨_,hn',fun j y v' e1 e2 e3=>?_⟩,fun y c e=>?_,I.free,I.d9,fun p hp=>?_,tracked ⟨oL,hoL,I.free⟩ hs,by simpa using I.len⟩ ⟨_,hs,.inl rfl⟩
  ·exact(hs.2 b (Nat.ne_of_lt (Nat.lt_of_lt_of_le (Heap.lt_size e) I.ok.above))).trans (I.base.keep b o e n hb hx)
  ·obtain⟨sl,e1⟩:=I.base.slot b o e n hb hx
   exact⟨sl,(hs.2 b (Nat.ne_of_lt (Nat.lt_of_lt_of_le (Heap.lt_size e) I.ok.above))).trans e1⟩
  ·obtain⟨o',e1⟩:=I.base.there b o e hx
   exact⟨o',(hs.2 b (Nat.ne_of_lt (Nat.lt_of_lt_of_le (Heap.lt_size e) I.ok.above))).trans e1⟩
  ·by_cases hj:j=i
   ·subst hj
    rw[hi]at e1;cases e1;rw[List.getElem?_set_self hiσ]at e2;cases e2;exact⟨u,r,.inl ⟨hk,by simp⟩⟩
   ·rw[List.getElem?_set_ne (Ne.symm hj)]at e2
    obtain⟨u',r',q⟩:=hl j y v' e1 e2 e3;refine⟨u',r',?_⟩;rcases q with⟨k,e⟩|⟨k,c,e,z⟩
    ·refine .inl ⟨k,?_⟩
     have:y≠x:=fun e=>hj (A3 hN e1 (e▸hi))
     simp[this,e]
    ·exact .inr ⟨k,c,e,z.sameBut hs (iP y c e)⟩
  ·obtain⟨w',z⟩:=I.cell y c e
   exact⟨w',z.sameBut hs (iP y c e)⟩
  ·obtain⟨e,n,ne,nf,d⟩:=I.pin p hp
   exact⟨(hs.2 p.1 ne).trans e,n,ne,nf,d⟩
 ·have hfn:X.fn x=true:=by
   rcases hf with z|z
   ·exact z
   ·rw[z]at hk;cases hk
  obtain⟨c,hc⟩:=I.ok.has x (.inl hk);obtain⟨w',z⟩:=I.cell x c hc;refine wpAny_storeName_cell I.ok.kind hk hc z (fun h' hc' hs=>?_);obtain⟨oc,hoc,hocd⟩:=id z;refine h {s with heap:=h'} ⟨I.ok,I.os,I.bare,⟨fun b o e n hb hx=>?_,fun b o e n hb hx=>?_,I.base.free,fun b o e hx=>?_,I.base.tups,I.base.d7,I.base.d8⟩,⟨m,hn.sameBut hs (Ne.symm (iP x c hc)),fun j y v' e1 e2 e3=>?_⟩,fun y c' e=>?_,I.free,I.d9,fun p hp=>?_,tracked ⟨oc,hoc,I.d9 x c hc⟩ hs,by simpa using I.len⟩ ⟨c,hs,.inr hc⟩
  ·exact(hs.2 b (Nat.ne_of_lt (Nat.lt_of_lt_of_le (Heap.lt_size e) (I.ok.j5 x c hfn hc)))).trans (I.base.keep b o e n hb hx)
  ·obtain⟨sl,e1⟩:=I.base.slot b o e n hb hx
   exact⟨sl,(hs.2 b (Nat.ne_of_lt (Nat.lt_of_lt_of_le (Heap.lt_size e) (I.ok.j5 x c hfn hc)))).trans e1⟩
  ·obtain⟨o',e1⟩:=I.base.there b o e hx
   exact⟨o',(hs.2 b (Nat.ne_of_lt (Nat.lt_of_lt_of_le (Heap.lt_size e) (I.ok.j5 x c hfn hc)))).trans e1⟩
  ·by_cases hj:j=i
   ·subst hj
    rw[hi]at e1;cases e1;rw[List.getElem?_set_self hiσ]at e2;cases e2;exact⟨u,r,.inr ⟨.inl hk,c,hc,hc'⟩⟩
   ·rw[List.getElem?_set_ne (Ne.symm hj)]at e2
    obtain⟨u',r',q⟩:=hl j y v' e1 e2 e3;refine⟨u',r',?_⟩;rcases q with q|⟨k,c',e,z'⟩
    ·exact .inl q
    ·refine .inr ⟨k,c',e,z'.sameBut hs ?_⟩
     rintro rfl;exact hj (A3 hN e1 (I.ok.inj _ _ _ e hc▸hi))
  ·by_cases hcc:c'=c
   ·subst hcc;exact⟨_,hc'⟩
   ·obtain⟨w2,z2⟩:=I.cell y c' e
    exact⟨w2,z2.sameBut hs hcc⟩
  ·obtain⟨e,n,ne,nf,d⟩:=I.pin p hp
   refine⟨(hs.2 p.1 ?_).trans e,n,ne,nf,d⟩;intro q;rw[q,hoc]at e;have q':oc=p.2:=Option.some.inj e;exact d w' (by rw[←q'];exact hocd)
theorem A4{M:Model}{A:Around}{E:Value→Shared→Prop}{i:Nat}{x:Str}{v:V}{u:Value}{Q:Unit→Shared→Prop}(I:Inv X pins σ H s)(hN:X.N.Nodup)(hi:X.N[i]? =some x)(hx:Loc X.env.scope x)(r:RelV v u)
  (h:∀s',Inv X pins (σ.set i (some v)) H s'→Q () s')(hf:X.fn x=true∨X.env.scope.names.lookup x=some .local:=by first|exact .inl rfl|exact .inr rfl|assumption):wpAny M A (storeName X.env x u) Q E s:=
 Ey I hN hi hx r (fun s' I' _=>h s' I') hf
theorem Inv.Ez{s':Shared}{ch:List Addr}(I:Inv X pins σ H s)(ho:s'.os=s.os)(u:Un (frs X.stack) ch H H' s.heap s'.heap)(hok:cy X.prog X.w H' s'.heap)(hg:AllBare s'.gens)
  (hch:∀b∈ch,(b∈X.ex∨X.cR.heap.objs.size≤b)∧b≠X.env.locals∧(∀x c,X.env.cells.lookup x=some c→c≠b)∧∀p∈X.pn++pins,p.1≠b):Inv X pins σ H' s':=by
 obtain⟨h',g',d',t',o'⟩:=s';have e:o'=s.os:=ho;subst e;exact I.call (g':=g') (t':=t') (d':=d') u hok hg hch
end
abbrev XK:=Value→Option Addr→Hp→Prop
abbrev St:=List (Option V)
abbrev VK:=V→Hp→Prop
abbrev TE:=St→Hp→VK→Prop
abbrev TT:=St→Hp→(Bool→Hp→Prop)→Prop
abbrev TA:=St→Hp→(List V→Hp→Prop)→Prop
structure Ends where
 nx:St→Hp→Prop
 rt:VK
 bk:St→Hp→Prop:=fun _ _=>False
 ct:St→Hp→Prop:=fun _ _=>False
abbrev TS:=Ends→St→Hp→Prop
inductive EP(X:Cx)(pins:List (Addr×Obj))(σ:St)(Q:VK)(u:Value)(s':Shared):Prop|mk:∀v H',Inv X pins σ H' s'→RelV v u→Q v H'→EP X pins σ Q u s'
inductive TP(X:Cx)(pins:List (Addr×Obj))(σ:St)(Q:Bool→Hp→Prop)(b:Bool)(s':Shared):Prop|mk:∀H',Inv X pins σ H' s'→Q b H'→TP X pins σ Q b s'
inductive AP(X:Cx)(pins:List (Addr×Obj))(σ:St)(Q:List V→Hp→Prop)(us:List Value)(s':Shared):Prop|mk:∀vs H',Inv X pins σ H' s'→Vals vs us→Q vs H'→AP X pins σ Q us s'
def SP(X:Cx)(pins:List (Addr×Obj))(D:Ends)(f:Flow)(s':Shared):Prop:=
 match f with
 |.next=>∃σ' H',Inv X pins σ' H' s'∧D.nx σ' H'
 |.brk=>∃σ' H',Inv X pins σ' H' s'∧D.bk σ' H'
 |.cont=>∃σ' H',Inv X pins σ' H' s'∧D.ct σ' H'
 |.ret u=>∃v σ' H',Inv X pins σ' H' s'∧RelV v u∧D.rt v H'
def PE(X:Cx)(e:Expr)(t:TE):Prop:=
 ∀(pins:List (Addr×Obj))(s:Shared)(σ:St)(H:Hp)(Q:VK),Inv X pins σ H s→t σ H Q→wpAny (model X.prog X.w) X.A (eval e X.env) (EP X pins σ Q) X.xe s
def PT(X:Cx)(e:Expr)(t:TT):Prop:=
 ∀(pins:List (Addr×Obj))(s:Shared)(σ:St)(H:Hp)(Q:Bool→Hp→Prop),Inv X pins σ H s→t σ H Q→wpAny (model X.prog X.w) X.A (isTrue e X.env (eval e X.env)) (TP X pins σ Q) X.xe s
def PW(X:Cx)(e:Expr)(t:TT):Prop:=
 ∀(whole:Sem Value)(pins:List (Addr×Obj))(s:Shared)(σ:St)(H:Hp)(Q:Bool→Hp→Prop),Inv X pins σ H s→t σ H Q→wpAny (model X.prog X.w) X.A (isTrue e X.env whole) (TP X pins σ Q) X.xe s
theorem PW.pt{X:Cx}{e:Expr}{t:TT}(h:PW X e t):PT X e t:=h _
def PA(X:Cx)(es:List Expr)(t:TA):Prop:=
 ∀(pos:Pos)(pins:List (Addr×Obj))(s:Shared)(σ:St)(H:Hp)(Q:List V→Hp→Prop),Inv X pins σ H s→t σ H Q→wpAny (model X.prog X.w) X.A (spliced (backTo pos (starEach es X.env))) (AP X pins σ Q) X.xe s
def PS(X:Cx)(st:Stmt)(t:TS):Prop:=
 ∀(pins:List (Addr×Obj))(s:Shared)(σ:St)(H:Hp)(D:Ends),Inv X pins σ H s→t D σ H→wpAny (model X.prog X.w) X.A (exec st X.env) (SP X pins D) X.xe s
def fB(X:Cx)(st:List Stmt)(t:TS):Prop:=
 ∀(pins:List (Addr×Obj))(s:Shared)(σ:St)(H:Hp)(D:Ends),Inv X pins σ H s→t D σ H→wpAny (model X.prog X.w) X.A (execs st X.env) (SP X pins D) X.xe s
theorem bh{α:Type}{t:Sem α}{Q Q':α→Shared→Prop}{M:Model}{A:Around}{E:Value→Shared→Prop}{s:Shared}(h:wpAny M A t Q E s)(hQ:∀a s,Q a s→Q' a s):wpAny M A t Q' E s:=wpAny_mono h hQ fun _ _ x=>x
end L2
namespace L2
open PySem PySem.Spec PyProof.Rows
section
variable{X:Cx}
inductive gq(i:Nat)(σ:St)(H:Hp)(Q:VK):Prop
 |mk:∀v,σ[i]? =some (some v)→Q v H→gq i σ H Q
def tC(v:V):TE:=fun _ H Q=>Q v H
theorem Jq{i:Nat}{x:Str}{pos:Pos}(hN:X.N[i]? =some x)(hv:oW X.env.scope x)(hd:(x==("__debug__":Str))=false:=by decide)(hcd:(x==("__classdict__":Str))=false:=by decide):PE X (.Name x pos) (gq i):=by
 intro pins s σ H Q I h;obtain⟨v,e,h⟩:=h;obtain⟨m,hn,hl⟩:=I.loc;obtain⟨u,r,l⟩:=hl i x v hN e hv;have fin:EP X pins σ Q u s:=⟨v,H,I,r,h⟩;rcases l with⟨hk,hm⟩|⟨hk,c,hc,hcell⟩
 ·exact wpAny_Name (wpAny_loadName_local I.ok.kind hk hn hm fin) hd
 ·rcases hk with hk|hk
  ·exact wpAny_Name (wpAny_loadName_cell I.ok.kind hk hc hcell fin) hd
  ·exact wpAny_Name (wpAny_loadName_free I.ok.kind hk hc hcell fin hcd) hd
theorem aN{i j pos}:PE X (.Constant (.int i) j pos) (tC (.int i)):=fun _ _ _ H _ I h=>wpAny_Constant_int ⟨.int i,H,I.tok _,⟨_,rfl⟩,h⟩
theorem EA{b j pos}:PE X (.Constant (.bool b) j pos) (tC (.bl b)):=fun _ _ _ H _ I h=>Constant_bool ⟨.bl b,H,I,rfl,h⟩
theorem jd{j pos}:PE X (.Constant .none j pos) (tC .aP):=fun _ _ _ H _ I h=>Constant_none ⟨.aP,H,I,rfl,h⟩
def Gl(X:Cx)(x:Str):Prop:=X.env.kindOf x=some .globalImplicit
theorem j8{E:Value→Shared→Prop}{pins:List (Addr×Obj)}{s:Shared}{σ:St}{H:Hp}{x:Str}{u:Value}{pos:Pos}{Q:Value→Shared→Prop}(I:Inv X pins σ H s)(hg:Gl X x)(hm:X.mg x=some u)(h:Q u s)
  (hd:(x==("__debug__":Str))=false:=by decide):wpAny (model X.prog X.w) X.A (eval (.Name x pos) X.env) Q E s:=
 Calls.Name_function_global I.ok.kind hg (Calls.loadGlobal_global (by rw[I.ok.glob];exact I.mod.glob.keeps I.bk) hm h) hd
theorem oX{E:Value→Shared→Prop}{pins:List (Addr×Obj)}{s:Shared}{σ:St}{H:Hp}{x:Str}{u:Value}{pos:Pos}{Q:Value→Shared→Prop}(I:Inv X pins σ H s)(hg:Gl X x)(hm:X.mg x=none)(hv:bootBuiltins x=some u)(h:Q u s)
  (hn:x≠"__name__":=by decide)(hd:(x==("__debug__":Str))=false:=by decide):wpAny (model X.prog X.w) X.A (eval (.Name x pos) X.env) Q E s:=by
 obtain⟨mb,h1,h2⟩:=I.mod.blt;exact Calls.Name_function_global I.ok.kind hg (Calls.loadGlobal_builtin (by rw[I.ok.glob];exact I.mod.glob.keeps I.bk) hm (by rw[I.ok.blt];exact h1.keeps I.bk) ((h2 x hn).trans hv) h) hd
theorem A5{x:Str}{v:V}{u:Value}{pos:Pos}(hg:Gl X x)(hm:X.mg x=some u)(r:RelV v u)(hd:(x==("__debug__":Str))=false:=by decide):PE X (.Name x pos) (tC v):=
 fun _ _ _ H _ I h=>j8 I hg hm ⟨v,H,I,r,h⟩ hd
theorem Jr{x:Str}{v:V}{u:Value}{pos:Pos}(hg:Gl X x)(hm:X.mg x=none)(hv:bootBuiltins x=some u)(r:RelV v u)(hn:x≠"__name__":=by decide)(hd:(x==("__debug__":Str))=false:=by decide):PE X (.Name x pos) (tC v):=
 fun _ _ _ H _ I h=>oX I hg hm hv ⟨v,H,I,r,h⟩ hn hd
variable{a b:Expr}{ta tb:TE}{pos:Pos}
def PC(X:Cx)(op:CmpOp)(a b:Expr)(t:TE):Prop:=
 ∀(pins:List (Addr×Obj))(s:Shared)(σ:St)(H:Hp)(Q:VK),Inv X pins σ H s→t σ H Q→
  wpAny (model X.prog X.w) X.A (eval a X.env) (fun v s₁=>wpAny (model X.prog X.w) X.A (eval b X.env) (fun u s₂=>wpAny (model X.prog X.w) X.A (compareOp op v u) (EP X pins σ Q) X.xe s₂) X.xe s₁) X.xe s
theorem Js(b:Expr){op:CmpOp}(h:op≠.In)(h2:op≠.NotIn):behindInMarks op b=false:=by
 have e1:(op==CmpOp.In)=false:=by cases op<;>first|rfl|exact absurd rfl h
 have e2:(op==CmpOp.NotIn)=false:=by cases op<;>first|rfl|exact absurd rfl h2
 cases b<;>simp[behindInMarks,e1,e2]
def Jt(ta:TE):TE:=fun σ H Q=>ta σ H fun x H1=>Q (.bl (decide (x=.aP))) H1
def Ju(ta:TE):TE:=fun σ H Q=>ta σ H fun x H1=>Q (.bl (!decide (x=.aP))) H1
theorem RelV.EB{x:V}{v:Value}(r:RelV x v):(v==Value.none)=decide (x=.aP):=by
 cases x with
 |aP=>cases r;rfl
 |bl _=>cases r;rfl
 |int _=>obtain⟨t,rfl⟩:=r;rfl
 |str _=>obtain⟨t,rfl⟩:=r;rfl
 |fk _=>obtain⟨t,rfl⟩:=r;rfl
 |fq _=>obtain⟨t,rfl⟩:=r;rfl
 |ref _=>cases r;rfl
 |ty _=>cases r;rfl
theorem je{j pos'}(ha:PE X a ta):PC X .Is a (.Constant .none j pos') (Jt ta):=by
 intro pins s σ H Q I h;refine bh (ha pins s σ H _ I h) fun v s1 ⟨x,H1,I1,r1,q1⟩=>?_
 exact Constant_none (is_none_gen ⟨.bl _,H1,I1,by rw[r1.EB];rfl,q1⟩)
theorem Jv{j pos'}(ha:PE X a ta):PC X .IsNot a (.Constant .none j pos') (Ju ta):=by
 intro pins s σ H Q I h;refine bh (ha pins s σ H _ I h) fun v s1 ⟨x,H1,I1,r1,q1⟩=>?_
 exact Constant_none (isnot_none_gen ⟨.bl _,H1,I1,by rw[r1.EB];rfl,q1⟩)
inductive A6(Q:Bool→Hp→Prop)(x:V)(H:Hp):Prop
 |mk:∀c,x=.bl c→Q c H→A6 Q x H
def tB(t:TE):TT:=fun σ H Q=>t σ H (A6 Q)
theorem iQ{op:CmpOp}{t:TE}(h:PC X op a b t)(h1:behindInMarks op b=false:=by first|exact Js _ (by decide) (by decide)|rfl):PT X (.Compare a [op] [b] pos) (tB t):=by
 intro pins s σ H Q I hw;refine wpAny_isTrue_Compare1 (bh (h pins s σ H _ I hw) fun v s1 h1=>bh h1 fun u s2 h2=>bh h2 fun c s3 ⟨x,H1,I1,r1,q1⟩=>?_) h1;obtain⟨d,rfl,q⟩:=q1;cases r1;exact wpAny_truthy_bool ⟨H1,I1,q⟩
theorem c9{e:Expr}{t:TE}(h:PE X e t)(he:∀whole,isTrue e X.env whole=(do let v←whole;standAt e.pos;holding [v] (truthy v)):=by intro _;rfl):PT X e (tB t):=by
 intro pins s σ H Q I hw;refine isTrue_plain (bh (h pins s σ H _ I hw) fun v s1 ⟨x,H1,I1,r1,q1⟩=>?_) (he _);obtain⟨d,rfl,q⟩:=q1;cases r1;exact wpAny_truthy_bool ⟨H1,I1,q⟩
variable{tA tB':TT}{rest:List Expr}
def Jw(t u:TT):TT:=fun σ H Q=>t σ H fun c H1=>if c=true then u σ H1 Q else Q false H1
def EC(t u:TT):TT:=fun σ H Q=>t σ H fun c H1=>if c=true then Q true H1 else u σ H1 Q
def Jx(t:TT):TT:=fun σ H Q=>t σ H fun c H1=>Q (!c) H1
theorem j9(ha:PT X a tA):PW X (.BoolOp .And [a] pos) tA:=by
 intro wh pins s σ H Q I h;refine isTrue_and (bh (ha pins s σ H Q I h) fun c s1 e=>?_);cases c with
 |true=>exact isTrue_and_nil e
 |false=>exact e
theorem iR(ha:PT X a tA):PW X (.BoolOp .Or [a] pos) tA:=by
 intro wh pins s σ H Q I h;refine isTrue_or (bh (ha pins s σ H Q I h) fun c s1 e=>?_);cases c with
 |false=>exact isTrue_or_nil e
 |true=>exact e
theorem j_(ha:PT X a tA)(hb:PW X (.BoolOp .And (b::rest) pos) tB'):PW X (.BoolOp .And (a::b::rest) pos) (Jw tA tB'):=by
 intro wh pins s σ H Q I h;refine isTrue_and (bh (ha pins s σ H _ I h) fun c s1 ⟨H1,I1,q1⟩=>?_);cases c with
 |true=>exact hb wh pins s1 σ H1 Q I1 q1
 |false=>exact⟨H1,I1,q1⟩
theorem f7(ha:PT X a tA)(hb:PW X (.BoolOp .Or (b::rest) pos) tB'):PW X (.BoolOp .Or (a::b::rest) pos) (EC tA tB'):=by
 intro wh pins s σ H Q I h;refine isTrue_or (bh (ha pins s σ H _ I h) fun c s1 ⟨H1,I1,q1⟩=>?_);cases c with
 |true=>exact⟨H1,I1,q1⟩
 |false=>exact hb wh pins s1 σ H1 Q I1 q1
theorem jf(ha:PT X a tA):PT X (.UnaryOp .Not a pos) (Jx tA):=by
 intro pins s σ H Q I h;exact isTrue_not (bh (ha pins s σ H (fun c H1=>Q (!c) H1) I h) fun c s1 ⟨H1,I1,q1⟩=>⟨H1,I1,q1⟩)
def Jy(ta tb:TE):TE:=fun σ H Q=>ta σ H fun x H1=>∃c,x=.bl c∧if c=true then tb σ H1 Q else Q (.bl false) H1
def Jz(ta tb:TE):TE:=fun σ H Q=>ta σ H fun x H1=>∃c,x=.bl c∧if c=true then Q (.bl true) H1 else tb σ H1 Q
theorem A7{op}{t:TE}(h:PE X a t):PE X (.BoolOp op [a] pos) t:=fun pins s σ H Q I hw=>BoolOp_one (h pins s σ H Q I hw)
theorem A8(ha:PE X a ta)(hb:PE X (.BoolOp .And (b::rest) pos) tb):PE X (.BoolOp .And (a::b::rest) pos) (Jy ta tb):=by
 intro pins s σ H Q I h;refine BoolOp_and (bh (ha pins s σ H _ I h) fun v s1 ⟨x,H1,I1,r1,q1⟩=>?_);obtain⟨c,rfl,q1⟩:=q1;cases r1;refine wpAny_truthy_bool ?_;cases c with
 |true=>exact hb pins s1 σ H1 Q I1 q1
 |false=>exact⟨.bl false,H1,I1,rfl,q1⟩
theorem ED(ha:PE X a ta)(hb:PE X (.BoolOp .Or (b::rest) pos) tb):PE X (.BoolOp .Or (a::b::rest) pos) (Jz ta tb):=by
 intro pins s σ H Q I h;refine BoolOp_or (bh (ha pins s σ H _ I h) fun v s1 ⟨x,H1,I1,r1,q1⟩=>?_);obtain⟨c,rfl,q1⟩:=q1;cases r1;refine wpAny_truthy_bool ?_;cases c with
 |false=>exact hb pins s1 σ H1 Q I1 q1
 |true=>exact⟨.bl true,H1,I1,rfl,q1⟩
def JA(t:TT)(ta tb:TE):TE:=fun σ H Q=>t σ H fun c H1=>if c=true then ta σ H1 Q else tb σ H1 Q
theorem A9{c:Expr}(hc:PT X c tA)(ha:PE X a ta)(hb:PE X b tb):PE X (.IfExp c a b pos) (JA tA ta tb):=by
 intro pins s σ H Q I h;refine wpAny_IfExp (bh (hc pins s σ H _ I h) fun d s1 ⟨H1,I1,q1⟩=>?_);cases d with
 |true=>exact ha pins s1 σ H1 Q I1 q1
 |false=>exact hb pins s1 σ H1 Q I1 q1
end
end L2
namespace L2
open PySem PySem.Spec PyProof.Rows
def ay(K:PySem.W.Frag)(H:Hp)(a:Addr)(xs:List V):Prop:=
 Rd H a (.lst xs)∨
  ∃(o:Obj)(its:Array Value)(n:Nat),K.lookup a=some o∧o.cls=.type "list"∧o.dict=none∧o.data=.seq its n∧its.size≤sizeLine∧Vals xs its.toList
def dW(K:PySem.W.Frag)(H:Hp)(a:Addr)(xs:List V):Prop:=
 Rd H a (.tup xs)∨
  ∃(o:Obj)(its:Array Value)(n:Nat),K.lookup a=some o∧o.cls=.type "tuple"∧o.data=.seq its n∧its.size≤sizeLine∧Vals xs its.toList
def JB:Value→Option V
 |.none=>some .aP
 |.bool b=>some (.bl b)
 |.int i _=>some (.int i)
 |.str x _=>some (.str x)
 |.bytes b _=>some (.fk b)
 |.float b _=>some (.fq b)
 |.ref a=>some (.ref a)
 |.type n=>some (.ty n)
 |_=>none
theorem RelV.abs{x:V}{u:Value}(r:RelV x u):JB u=some x:=by
 cases x with
 |aP=>cases r;rfl
 |bl _=>cases r;rfl
 |int _=>obtain⟨t,rfl⟩:=r;rfl
 |str _=>obtain⟨t,rfl⟩:=r;rfl
 |fk _=>obtain⟨t,rfl⟩:=r;rfl
 |fq _=>obtain⟨t,rfl⟩:=r;rfl
 |ref _=>cases r;rfl
 |ty _=>cases r;rfl
theorem RelV.inj{x y:V}{u:Value}(r:RelV x u)(q:RelV y u):x=y:=Option.some.inj (r.abs.symm.trans q.abs)
theorem Vals.inj:∀{xs ys:List V}{us:List Value},Vals xs us→Vals ys us→xs=ys
 |_,_,_,.nil,.nil=>rfl
 |_,_,_,.cons r t,.cons r' t'=>by rw[r.inj r',Vals.inj t t']
section
variable{X:Cx}{pins:List (Addr×Obj)}{σ:St}{H:Hp}{s:Shared}{a:Addr}{xs ys:List V}
theorem ay.of{K:PySem.W.Frag}(h:H a=some (.lst xs)):ay K H a xs:=.inl (.inl h)
theorem dW.of{K:PySem.W.Frag}(h:H a=some (.tup xs)):dW K H a xs:=.inl (.inl h)
theorem Inv.list(I:Inv X pins σ H s)(h:ay X.K H a xs):∃its:List Value,Vals xs its∧PlainL s.heap a its.toArray∧xs.length≤sizeLine:=by
 rcases h with h|⟨o,its,n,hk,hc,hd,hs,hz,r⟩
 ·obtain⟨z,its,n,r,e⟩:=h.ok I.hok
  exact⟨its,r,⟨_,n,e,rfl,rfl,rfl⟩,z⟩
 ·refine⟨its.toList,r,⟨o,n,I.cz a o hk,hc,hd,by simpa using hs⟩,?_⟩
  have e:=r.length;simp only[Array.length_toList]at e;omega
theorem Inv.tuple(I:Inv X pins σ H s)(h:dW X.K H a xs):∃its:List Value,Vals xs its∧IsTup s.heap a its.toArray∧xs.length≤sizeLine:=by
 rcases h with h|⟨o,its,n,hk,hc,hs,hz,r⟩
 ·obtain⟨z,its,r,p⟩:=h.ok I.hok
  exact⟨its,r,p,z⟩
 ·refine⟨its.toList,r,⟨o,I.cz a o hk,hc,n,by simpa using hs⟩,?_⟩
  have e:=r.length;simp only[Array.length_toList]at e;omega
theorem Inv.EE(I:Inv X pins σ H s)(h:ay X.K H a xs)(h':ay X.K H a ys):xs=ys:=by
 obtain⟨its,r,⟨o,n,e,_,_,d⟩,_⟩:=I.list h;obtain⟨its',r',⟨o',n',e',_,_,d'⟩,_⟩:=I.list h';rw[e]at e';cases e';rw[d]at d';injection d' with d1 _
 have:its=its':=by simpa using congrArg Array.toList d1
 subst this;exact r.inj r'
end
abbrev Cx.jg(X:Cx)(E:Value→Shared→Prop):Cx:={X with xe:=E}
abbrev Cx.mR(X:Cx):Cx:=X.jg fun _ _=>False
theorem Cx.Ok.jg{X:Cx}(ok:X.Ok)(E:Value→Shared→Prop):(X.jg E).Ok:=
 ⟨ok.mod,ok.kind,ok.glob,ok.blt,ok.above,ok.inj,ok.has,ok.j5,ok.hd,ok.frames,ok.stk,ok.k_,ok.bs,ok.gp,ok.j6,ok.j7,ok.fz,ok.gY⟩
theorem Cx.Ok.kg{X:Cx}{E:Value→Shared→Prop}(ok:(X.jg E).Ok):X.Ok:=
 ⟨ok.mod,ok.kind,ok.glob,ok.blt,ok.above,ok.inj,ok.has,ok.j5,ok.hd,ok.frames,ok.stk,ok.k_,ok.bs,ok.gp,ok.j6,ok.j7,ok.fz,ok.gY⟩
section
variable{X:Cx}{pins:List (Addr×Obj)}{σ:St}{H:Hp}{s:Shared}{E:Value→Shared→Prop}
theorem Inv.jg(I:Inv X pins σ H s)(E:Value→Shared→Prop):Inv (X.jg E) pins σ H s:=⟨I.ok.jg E,I.os,I.bare,I.base,I.loc,I.cell,I.free,I.d9,I.pin,I.hok,I.len⟩
theorem Inv.kg(I:Inv (X.jg E) pins σ H s):Inv X pins σ H s:=⟨I.ok.kg,I.os,I.bare,I.base,I.loc,I.cell,I.free,I.d9,I.pin,I.hok,I.len⟩
theorem SP.kg{D:Ends}{f:Flow}{s':Shared}(h:SP (X.jg E) pins D f s'):SP X pins D f s':=by
 cases f with
 |next=>obtain⟨σ',H',I,q⟩:=h;exact⟨σ',H',I.kg,q⟩
 |brk=>obtain⟨σ',H',I,q⟩:=h;exact⟨σ',H',I.kg,q⟩
 |cont=>obtain⟨σ',H',I,q⟩:=h;exact⟨σ',H',I.kg,q⟩
 |ret u=>obtain⟨v,σ',H',I,r,q⟩:=h;exact⟨v,σ',H',I.kg,r,q⟩
theorem fB.mR{st:List Stmt}{t:TS}(h:fB X.mR st t):fB X st t:=fun pins s σ H D I hw=>
 wpAny_mono (h pins s σ H D (I.jg _) hw) (fun _ _ q=>q.kg) fun _ _ z=>False.elim z
end
section
variable{X:Cx}{st:Stmt}{rest:List Stmt}{t u:TS}{e:Expr}{te:TE}{pos:Pos}
def mS:TS:=fun D σ H=>D.nx σ H
def jG(t u:TS):TS:=fun D σ H=>t {D with nx:=u D} σ H
theorem aX:fB X [] mS:=fun _ _ σ H _ I h=>wpAny_execs_nil ⟨σ,H,I,h⟩
theorem ai(h1:PS X st t)(h2:fB X rest u):fB X (st::rest) (jG t u):=by
 intro pins s σ H D I h;refine wpAny_execs_cons (bh (h1 pins s σ H {D with nx:=u D} I h) fun f s1 q=>?_);cases f with
 |next=>
  obtain⟨σ',H',I',q⟩:=q;exact h2 pins s1 σ' H' D I' q
 |ret v=>exact q
 |brk=>exact q
 |cont=>exact q
theorem aq(h1:PS X st t):fB X [st] t:=by
 intro pins s σ H D I h;refine wpAny_execs_cons (bh (h1 pins s σ H D I h) fun f s1 q=>?_);cases f with
 |next=>exact wpAny_execs_nil q
 |ret v=>exact q
 |brk=>exact q
 |cont=>exact q
theorem Inv.quiet{pins:List (Addr×Obj)}{σ:St}{H:Hp}{s:Shared}(I:Inv X pins σ H s):interactive X.env=false:=by simp[interactive,I.ok.kind]
def EF(te:TE):TS:=fun D σ H=>te σ H fun _ H1=>D.nx σ H1
theorem bS(he:PE X e te)(hs:swapsWith e none pos.line X.env=pure false:=by rfl):PS X (.Expr e pos) (EF te):=by
 intro pins s σ H D I h;exact wpAny_Expr_any (bh (he pins s σ H _ I h) fun v s1 ⟨x,H1,I1,r1,q1⟩=>⟨σ,H1,I1,q1⟩) I.quiet hs
def EG(te:TE):TS:=fun D σ H=>te σ H D.rt
theorem aB(he:PE X e te):PS X (.Return (some e) pos) (EG te):=by
 intro pins s σ H D I h;exact wpAny_Return_some (bh (he pins s σ H _ I h) fun v s1 ⟨x,H1,I1,r1,q1⟩=>⟨x,σ,H1,I1,r1,q1⟩)
def lg(c:TT)(t u:TS):TS:=fun D σ H=>c σ H fun b H1=>if b=true then t D σ H1 else u D σ H1
theorem aU{c:Expr}{a b:List Stmt}{tc:TT}(hc:PT X c tc)(ha:fB X a t)(hb:fB X b u):PS X (.If c a b pos) (lg tc t u):=by
 intro pins s σ H D I h;refine wpAny_If (bh (hc pins s σ H _ I h) fun d s1 ⟨H1,I1,q1⟩=>?_);cases d with
 |true=>exact ha pins s1 σ H1 D I1 q1
 |false=>exact hb pins s1 σ H1 D I1 q1
end
abbrev TG:=V→St→Hp→(St→Hp→Prop)→Prop
abbrev kh:=List V→St→Hp→(St→Hp→Prop)→Prop
def PG(X:Cx)(target:Expr)(t:TG):Prop:=
 ∀(pins:List (Addr×Obj))(s:Shared)(σ:St)(H:Hp)(v:V)(u:Value)(Q:St→Hp→Prop),Inv X pins σ H s→RelV v u→t v σ H Q→
  wpAny (model X.prog X.w) X.A (assign target X.env u) (fun _ s'=>∃σ' H',Inv X pins σ' H' s'∧Q σ' H') X.xe s
def oY(X:Cx)(ts:List Expr)(t:kh):Prop:=
 ∀(pins:List (Addr×Obj))(s:Shared)(σ:St)(H:Hp)(vs:List V)(us:List Value)(Q:St→Hp→Prop),Inv X pins σ H s→Vals vs us→t vs σ H Q→
  wpAny (model X.prog X.w) X.A (assignInOrder ((assignEach ts X.env).map (·.2)) us) (fun _ s'=>∃σ' H',Inv X pins σ' H' s'∧Q σ' H') X.xe s
section
variable{X:Cx}{pos:Pos}
def lu(i:Nat):TG:=fun v σ H Q=>Q (σ.set i (some v)) H
theorem dR{i:Nat}{x:Str}(hN:X.N.Nodup)(hi:X.N[i]? =some x)(hx:Loc X.env.scope x)(hf:X.fn x=true∨X.env.scope.names.lookup x=some .local:=by first|exact .inl rfl|exact .inr rfl|assumption):PG X (.Name x pos) (lu i):=by
 intro pins s σ H v u Q I r h;exact wpAny_assign_Name (A4 I hN hi hx r (fun s' I'=>⟨_,H,I',h⟩) hf)
def JC:kh:=fun vs σ H Q=>vs=[]∧Q σ H
def JD(t:TG)(u:kh):kh:=fun vs σ H Q=>∃v r,vs=v::r∧t v σ H fun σ' H'=>u r σ' H' Q
theorem EH:oY X [] JC:=by
 intro pins s σ H vs us Q I r h;obtain⟨e,h⟩:=h;subst e;cases r;exact assignInOrder_nil ⟨σ,H,I,h⟩
theorem sM{e:Expr}{es:List Expr}{t:TG}{u:kh}(h1:PG X e t)(h2:oY X es u)
  (hs:(assignEach (e::es) X.env).map (·.2)=assign e X.env::(assignEach es X.env).map (·.2):=by rfl):oY X (e::es) (JD t u):=by
 intro pins s σ H vs us Q I r h;obtain⟨v,vr,e1,h⟩:=h;subst e1;cases r with
 |cons r rr=>
  rw[hs];refine assignInOrder_cons (bh (h1 pins s σ H _ _ _ I r h) fun _ s1 ⟨σ1,H1,I1,q1⟩=>?_);exact h2 pins s1 σ1 H1 _ _ Q I1 rr q1
def EI(K:PySem.W.Frag)(n:Nat)(t:kh):TG:=fun v σ H Q=>∃a xs,v=.ref a∧dW K H a xs∧xs.length=n∧t xs σ H Q
theorem EJ{es:List Expr}{k:Nat}{t:kh}{n:Nat}(hc:X.calm=true)(h:oY X es t)
  (hn:(assignEach es X.env).length=n:=by rfl)(hst:(assignEach es X.env).findIdx? (·.1)=none:=by rfl):PG X (.Tuple es k pos) (EI X.K n t):=by
 intro pins s σ H v u Q I r hw;obtain⟨a,xs,e1,hq,hl,hw⟩:=hw;subst e1;cases r;obtain⟨its,rv,ht,hz⟩:=I.tuple hq;refine assign_Tuple_tuple (I.ok.hd hc) ht (by simp[hn,←hl,rv.length]) hst fun h' hx=>?_
 have I1:Inv X pins σ H {s with heap:=h'}:=I.kept (t':=s.toks) fun b o e=>hx b o (Nat.ne_of_lt (Heap.lt_size e)) e
 exact h pins _ σ H xs _ Q I1 (by simpa using rv) hw
def sN(te:TE)(g:TG):TS:=fun D σ H=>te σ H fun x H1=>g x σ H1 D.nx
theorem aO{i:Nat}{x:Str}{e:Expr}{te:TE}{pos':Pos}(hN:X.N.Nodup)(hi:X.N[i]? =some x)(hx:Loc X.env.scope x)(he:PE X e te)(hs:swapsWith e (some (.Name x pos')) pos.line X.env=pure false:=by rfl)(hf:X.fn x=true∨X.env.scope.names.lookup x=some .local:=by first|exact .inl rfl|exact .inr rfl|assumption):
  PS X (.Assign [.Name x pos'] e pos) (sN te (lu i)):=by
 intro pins s σ H D I h;refine wpAny_Assign_Name (bh (he pins s σ H _ I h) fun v s1 ⟨y,H1,I1,r1,q1⟩=>?_) hs;exact A4 I1 hN hi hx r1 (fun s2 I2=>⟨_,H1,I2,q1⟩) hf
end
section
variable{X:Cx}{pos:Pos}
def JE(c:TT)(tb:TS):TS:=fun D σ H=>∃W:Nat→St→Hp→Prop,(∃m,W m σ H)∧∀m σ H,W m σ H→
 c σ H fun b H1=>if b=true then∃N:St→Hp→Prop,(∀σ' H',N σ' H'→∃m',m'<m∧W m' σ' H')∧tb {D with nx:=N,ct:=N,bk:=D.nx} σ H1 else D.nx σ H1
theorem mT{c:Expr}{body:List Stmt}{tc:TT}{tb:TS}(hp:PassesOwn (model X.prog X.w) X.A X.env X.xe)(hc:PT X c tc)(hb:fB X body tb):PS X (.While c body [] pos) (JE tc tb):=by
 intro pins s σ H D I h;obtain⟨W,⟨m0,w0⟩,turn⟩:=h;refine wpAny_While (codeAny_whileLoop (fun n s'=>∃σ' H',Inv X pins σ' H' s'∧W n σ' H') ?_ m0 ⟨σ,H,I,w0⟩);rintro n s1 ⟨σ1,H1,I1,w1⟩;refine wpAny_passesOwn hp (bh (hc pins s1 σ1 H1 _ I1 (turn n σ1 H1 w1)) fun b s2 ⟨H2,I2,q2⟩=>?_);cases b with
 |true=>
  obtain⟨N,hN,q2⟩:=q2;rw[if_pos rfl];refine wpAny_passesOwn hp (bh (hb pins s2 σ1 H2 _ I2 q2) fun f s3 q3=>?_);cases f with
  |next=>
   obtain⟨σ3,H3,I3,n3⟩:=q3;obtain⟨m',hm,w3⟩:=hN σ3 H3 n3;exact⟨m',hm,σ3,H3,I3,w3⟩
  |cont=>
   obtain⟨σ3,H3,I3,n3⟩:=q3;obtain⟨m',hm,w3⟩:=hN σ3 H3 n3;exact⟨m',hm,σ3,H3,I3,w3⟩
  |brk=>exact q3
  |ret v=>exact q3
 |false=>
  rw[if_neg Bool.false_ne_true];exact wpAny_execs_nil ⟨σ1,H2,I2,q2⟩
end
structure It where
 go:Nat→Hp→Prop
 mU:Nat→Hp→V→Hp→Prop
 stop:Nat→Hp→Prop
def iS(X:Cx)(pins:List (Addr×Obj))(H:Hp)(b:Addr):Prop:=
 H b=none∧b≠X.env.locals∧b∉X.fs∧(b∈X.ex∨X.cR.heap.objs.size≤b)∧(∀x c,X.env.cells.lookup x=some c→c≠b)∧∀p∈X.pn++pins,p.1≠b
theorem Inv.oZ{X:Cx}{pins:List (Addr×Obj)}{σ:St}{H H':Hp}{s:Shared}{b:Addr}(I:Inv X pins σ H s)(hb:s.heap.objs.size≤b)(hn:H' b=none):iS X pins H' b:=by
 refine⟨hn,Nat.ne_of_gt (Nat.lt_of_lt_of_le I.lt hb),I.Jp hb,.inr (Nat.le_trans I.sz hb),fun x c e z=>?_,fun p hp z=>?_⟩
 ·obtain⟨v,q⟩:=I.cell x c e
  exact absurd (Nat.lt_of_lt_of_le q.lt (by rw[z];exact hb)) (Nat.lt_irrefl _)
 ·exact absurd (Nat.lt_of_lt_of_le (Heap.lt_size (I.pin p hp).1) (by rw[z];exact hb)) (Nat.lt_irrefl _)
structure Turn(P:Program)(w:World)(K:PySem.W.Frag)(tg:Expr)(J:It)(fp:List Addr)(it:Addr)(tn:Nat→Heap→Prop):Prop where
 mem:it∈fp
 obj:∀i h,tn i h→∀b∈fp,∃o,h.get? b=some o∧∀v,o.data≠.cell v
 keep:∀i h h',tn i h→(∀b∈fp,∀o,h.get? b=some o→h'.get? b=some o)→tn i h'
 item:∀(X:Cx),X.prog=P→X.w=w→X.K=K→X.calm=true→∀(i:Nat)(pins:List (Addr×Obj))(s:Shared)(σ:St)(H:Hp)(E:Value→Shared→Prop),Inv X pins σ H s→(∀b∈fp,iS X pins H b)→tn i s.heap→J.go i H→
  wpAny (model P w) X.A (pyNext (.ref it)) (fun r s1=>∃u,r=some u∧
   wpAny (model P w) X.A (letOwnedTupleGo tg (.ref it) u) (fun _ s2=>∃x H',Inv X pins σ H' s2∧RelV x u∧J.mU i H x H'∧tn (i+1) s2.heap∧∀b∈fp,H' b=none) E s1) E s
 done:∀(X:Cx),X.prog=P→X.w=w→X.K=K→X.calm=true→∀(i:Nat)(pins:List (Addr×Obj))(s:Shared)(σ:St)(H:Hp)(E:Value→Shared→Prop),Inv X pins σ H s→(∀b∈fp,iS X pins H b)→tn i s.heap→J.stop i H→
  wpAny (model P w) X.A (pyNext (.ref it)) (fun r s1=>r=none∧Inv X pins σ H s1) E s
 self:∀(A:Around)(i:Nat)(s:Shared)(Q:Value→Shared→Prop)(E:Value→Shared→Prop),tn i s.heap→Q (.ref it) s→wpAny (model P w) A (pyIter (.ref it)) Q E s
abbrev TI:=St→Hp→(It→Hp→Prop)→Prop
def A_(X:Cx)(pins:List (Addr×Obj))(σ:St)(tg:Expr)(R:It→Hp→Prop)(itv:Value)(s2:Shared):Prop:=
 ∃(it:Addr)(fp:List Addr)(tn:Nat→Heap→Prop)(J:It)(H':Hp),itv=.ref it∧Inv X pins σ H' s2∧Turn X.prog X.w X.K tg J fp it tn∧tn 0 s2.heap∧(∀b∈fp,iS X pins H' b)∧R J H'
def PI(X:Cx)(tg iter:Expr)(wi:TI):Prop:=
 ∀(pins:List (Addr×Obj))(s:Shared)(σ:St)(H:Hp)(R:It→Hp→Prop),Inv X pins σ H s→wi σ H R→
  wpAny (model X.prog X.w) X.A (eval iter X.env) (fun v s1=>wpAny (model X.prog X.w) X.A (pyIter v) (A_ X pins σ tg R) X.xe s1) X.xe s
theorem Ba{M:Model}{A:Around}{E:Value→Shared→Prop}{s:Shared}{tg:Expr}{it:Addr}{u:Value}{o:Obj}{n:String}{vs:Array Value}{Q:Unit→Shared→Prop}(ho:s.heap.get? it=some o)(hc:o.cls=.type n)(hd:o.data=.fields vs)
  (hn:["enumerate","zip","dict_itemiterator","dict_reverseitemiterator","odict_iterator","itertools.zip_longest","itertools.pairwise"].contains n=false)(hQ:Q () s):wpAny M A (letOwnedTupleGo tg (.ref it) u) Q E s:=by
 unfold letOwnedTupleGo
 cases tg<;>first
  |exact wpAny_pure hQ
  |(cases u<;>first
    |exact wpAny_pure hQ
    |(refine wpAny_bind (wpAny_load ho ?_)
      rw[hc,hd];show wpAny M A (if(["enumerate","zip","dict_itemiterator","dict_reverseitemiterator","odict_iterator","itertools.zip_longest","itertools.pairwise"].contains n&&vs[0]? ==some (rawInt _))=true then _ else _) Q E s;rw[if_neg (by intro h;rw[hn,Bool.false_and]at h;cases h)];exact wpAny_pure hQ))
def o4(K:PySem.W.Frag)(a:Addr):It:=
 ⟨fun i H=>∃xs x,ay K H a xs∧xs[i]? =some x,fun i H x H'=>H'=H∧∀xs,ay K H a xs→xs[i]? =some x,fun i H=>∃xs,ay K H a xs∧xs.length≤i⟩
def mV(lo:Int)(n:Nat):It:=⟨fun i _=>i<n,fun i H x H'=>H'=H∧x=.int (lo+i),fun i _=>n≤i⟩
theorem JF{P:Program}{w:World}{K:PySem.W.Frag}{tg:Expr}(a it:Addr):Turn P w K tg (o4 K a) [it] it (fun i h=>h.IsListIter it a i)where
 mem:=by simp
 obj:=fun i h st b hb=>by
  have e:b=it:=by simpa using hb
  subst e;obtain⟨o,e,c,d⟩:=st;exact⟨o,e,fun v z=>by rw[d]at z;cases z⟩
 keep:=fun i h h' st k=>st.at fun o e=>k it (by simp) o e
 item:=by
  intro X hP hw hK hc i pins s σ H E I hf st hg;subst hP hw hK;obtain⟨xs,x,hq,hx⟩:=hg;obtain⟨its,rv,p,hz⟩:=I.list hq;obtain⟨u,hu,ru⟩:=rv.get hx;obtain⟨f0,f1,f2,f3,f4,f5⟩:=hf it (by simp);refine wpAny_pyNext_list_item st p.isList (x:=u) (by simpa using hu) fun h' st' sb=>?_
  have I1:Inv X pins σ H {s with heap:=h'}:=I.turned (t':=s.toks) (fun b o hb e=>(sb.2 b hb).trans e) f0 f1 f3 f4 f5;obtain⟨o,e,c,d⟩:=id st';exact⟨u,rfl,Ba (s:={s with heap:=h'}) e c d (by decide) ⟨x,H,I1,ru,⟨rfl,fun ys hy=>by rw[I.EE hy hq];exact hx⟩,st',fun b hb=>(hf b hb).1⟩⟩
 done:=by
  intro X hP hw hK hc i pins s σ H E I hf st hg;subst hP hw hK;obtain⟨xs,hq,hx⟩:=hg;obtain⟨its,rv,p,hz⟩:=I.list hq;obtain⟨f0,f1,f2,f3,f4,f5⟩:=hf it (by simp);have hl:=rv.length;exact wpAny_pyNext_list_end (I.ok.hd hc) st p.isList (by simp;omega) fun h' eb=>⟨rfl,I.turned (t':=s.toks) (fun b o hb e=>eb b o hb e) f0 f1 f3 f4 f5⟩
 self:=fun _ _ _ _ _ st h=>wpAny_pyIter_listiter st h
theorem JG{P:Program}{w:World}{K:PySem.W.Frag}{tg:Expr}(it:Addr)(lo:Int)(n:Nat):Turn P w K tg (mV lo n) [it] it (fun i h=>IsRangeIter h it (lo+(i:Nat)*1) ((n:Int)-(i:Nat)) 1)where
 mem:=by simp
 obj:=fun i h st b hb=>by
  have e:b=it:=by simpa using hb
  subst e
  exact⟨_,st,fun v z=>by
   have z':Data.fields _=Data.cell v:=z;cases z'⟩
 keep:=fun i h h' st k=>k it (by simp) _ st
 item:=by
  intro X hP hw hK hc i pins s σ H E I hf st hg;subst hP hw hK;obtain⟨f0,f1,f2,f3,f4,f5⟩:=hf it (by simp);have W:=Walks.range (prog:=X.prog) (w:=X.w) (I.ok.hd hc) it lo 1 n;refine W.item i s _ _ hg st fun v h' tk hv st' kk=>?_
  obtain⟨t,rfl⟩:=hv;have I1:Inv X pins σ H {s with heap:=h',toks:=tk}:=I.turned (fun b o hb e=>kk b o (by simpa using hb) e) f0 f1 f3 f4 f5;refine⟨_,rfl,Ba (s:={s with heap:=h',toks:=tk}) (n:="range_iterator") st' rfl rfl (by decide) ⟨.int (lo+i),H,I1,⟨t,?_⟩,⟨rfl,rfl⟩,st',fun b hb=>(hf b hb).1⟩⟩;rw[Int.mul_one]
 done:=by
  intro X hP hw hK hc i pins s σ H E I hf st hg;subst hP hw hK;obtain⟨f0,f1,f2,f3,f4,f5⟩:=hf it (by simp);exact wpAny_pyNext_range_end (I.ok.hd hc) st (by have:n≤i:=hg;omega) fun h' eb=>⟨rfl,I.turned (t':=s.toks) (fun b o hb e=>eb b o hb e) f0 f1 f3 f4 f5⟩
 self:=fun _ _ _ _ _ st h=>wpAny_pyIter_rangeiter st h
end L2
namespace L2
open PySem PySem.Spec PyProof.Rows
section
variable{X:Cx}{tg:Expr}
def EK(K:PySem.W.Frag)(tl:TE):TI:=fun σ H R=>tl σ H fun x H1=>∃a,x=.ref a∧(∃xs,ay K H1 a xs)∧R (o4 K a) H1
theorem gu{l:Expr}{tl:TE}(hl:PE X l tl):PI X tg l (EK X.K tl):=by
 intro pins s σ H R I h;refine bh (hl pins s σ H _ I h) fun v s1 ⟨x,H1,I1,r1,q1⟩=>?_
 obtain⟨a,e,⟨xs,hq⟩,q⟩:=q1;subst e;cases r1;obtain⟨its,rv,p,hz⟩:=I1.list hq;refine wpAny_pyIter_list p.isList ?_;refine⟨s1.heap.objs.size,[s1.heap.objs.size],_,_,H1,rfl,I1.kept (t':=s1.toks) fun b o e=>Heap.get?_push_of_some _ e,JF a _,⟨_,Heap.get?_push_size _ rfl,rfl,rfl⟩,fun b hb=>?_,q⟩;have e:b=s1.heap.objs.size:=by simpa using hb
 subst e;exact I1.oZ (Nat.le_refl _) (I1.hok.fresh (Nat.le_refl _))
theorem JH{pins:List (Addr×Obj)}{σ:St}{H:Hp}{s:Shared}{R:It→Hp→Prop}{E:Value→Shared→Prop}{lo hi:Int}{t u v:Tok}{tk:Nat}(I:Inv X pins σ H s)(h1:-(2^62)≤lo)(h2:lo<2^62)(h3:-(2^62)≤hi)(h4:hi<2^62)
  (q:R (mV lo (hi-lo).toNat) H):wpAny (model X.prog X.w) X.A (pyIter (.ref s.heap.objs.size)) (A_ X pins σ tg R) E {s with heap:=s.heap.push {cls:=.type "range",data:=.fields #[.int lo t,.int hi u,.int 1 v]},toks:=tk}:=by
 refine wpAny_pyIter_range (IsRange.new ..) (small_one h1 h2 h3 h4) ?_;have I1:Inv X pins σ H {s with heap:=s.heap.push {cls:=.type "range",data:=.fields #[.int lo t,.int hi u,.int 1 v]},toks:=tk}:=I.kept fun b o e=>Heap.get?_push_of_some _ e
 refine⟨(s.heap.push {cls:=.type "range",data:=.fields #[.int lo t,.int hi u,.int 1 v]}).objs.size,[(s.heap.push {cls:=.type "range",data:=.fields #[.int lo t,.int hi u,.int 1 v]}).objs.size],_,_,H,rfl,
  I1.kept (t':=tk) fun b o e=>Heap.get?_push_of_some _ e,JG _ lo (hi-lo).toNat,?_,fun b hb=>?_,q⟩
 ·have e1:lo+((0:Nat):Int)*1=lo:=by simp
  have e2:(((hi-lo).toNat:Nat):Int)-((0:Nat):Int)=Builtin.Range.rangeSize lo hi 1:=by rw[rangeSize_one];split<;>omega
  show IsRangeIter _ _ (lo+((0:Nat):Int)*1) ((((hi-lo).toNat:Nat):Int)-((0:Nat):Int)) 1;rw[e1,e2];exact Heap.get?_push_size _ rfl
 ·have e:b=(s.heap.push {cls:=.type "range",data:=.fields #[.int lo t,.int hi u,.int 1 v]}).objs.size:=by simpa using hb
  subst e;exact I1.oZ (Nat.le_refl _) (I1.hok.fresh (Nat.le_refl _))
def JI(ta:TA):TI:=fun σ H R=>ta σ H fun vs H1=>∃j:Int,vs=[.int j]∧-(2^62)≤j∧j<2^62∧R (mV 0 j.toNat) H1
theorem Bb{a:Expr}{ta:TA}{p pos:Pos}(hg:Gl X "range")(hm:X.mg "range"=none)(ha:PA X [a] ta)(hs:starEach [a] X.env=[(false,eval a X.env)]:=by rfl):PI X tg (.Call (.Name "range" p) [a] [] pos) (JI ta):=by
 intro pins s σ H R I h;refine Call_ (oX I hg hm boot_range (PyProof.Rows.callWith_type1 (bh (ha pos pins s σ H _ I h) fun us s1 ⟨vs,H1,I1,r1,q1⟩=>?_) hs rfl));obtain⟨j,e,q1,q2,q⟩:=q1;subst e;cases r1 with
 |cons r rr=>
  cases rr;obtain⟨t,rfl⟩:=r;exact call_range_1 (JH I1 (by omega) (by omega) q1 q2 (by simpa using q))
def JJ(wi:TI)(g:TG)(tb:TS):TS:=fun D σ H=>wi σ H fun J H1=>∃W:Nat→Nat→St→Hp→Prop,(∃m,W 0 m σ H1)∧∀i m σ H,W i m σ H→
 (J.stop i H∧D.nx σ H)∨(J.go i H∧∃N:St→Hp→Prop,(∀σ' H',N σ' H'→∃m',m'<m∧W (i+1) m' σ' H')∧∀x H',J.mU i H x H'→g x σ H' fun σ2 H2=>tb {D with nx:=N,ct:=N,bk:=D.nx} σ2 H2)
def o5(fp:List Addr)(h:Heap):List (Addr×Obj):=fp.filterMap fun b=>(h.get? b).map fun o=>(b,o)
theorem Bc{fp:List Addr}{h:Heap}{b:Addr}{o:Obj}(hb:b∈fp)(e:h.get? b=some o):(b,o)∈o5 fp h:=List.mem_filterMap.mpr ⟨b,hb,by rw[e];rfl⟩
theorem JK{fp:List Addr}{h:Heap}{p:Addr×Obj}(hp:p∈o5 fp h):p.1∈fp∧h.get? p.1=some p.2:=by
 obtain⟨b,hb,e⟩:=List.mem_filterMap.mp hp;cases q:h.get? b with
 |none=>rw[q]at e;cases e
 |some o=>
  rw[q]at e;have e':(b,o)=p:=Option.some.inj e;subst e';exact⟨hb,q⟩
theorem Inv.pinned{pins:List (Addr×Obj)}{σ:St}{H:Hp}{s:Shared}{fp:List Addr}(I:Inv X pins σ H s)(hf:∀b∈fp,iS X pins H b)(ho:∀b∈fp,∃o,s.heap.get? b=some o∧∀v,o.data≠.cell v):Inv X (pins++o5 fp s.heap) σ H s:=
 I.Ew fun p hp=>(List.mem_append.mp hp).elim (fun z=>I.pin p (List.mem_append_right _ z)) fun z=>by
  obtain⟨hb,e⟩:=JK z;obtain⟨f0,f1,f2,_⟩:=hf p.1 hb;obtain⟨o,e',d⟩:=ho p.1 hb;rw[e]at e';cases e';exact⟨e,f0,f1,f2,d⟩
theorem Inv.sO{pins pl:List (Addr×Obj)}{σ:St}{H:Hp}{s:Shared}(I:Inv X (pins++pl) σ H s):Inv X pins σ H s:=I.Ew fun p hp=>I.pin p (List.mem_append_right _ (List.mem_append_left _ hp))
theorem gZ{iter:Expr}{body:List Stmt}{wi:TI}{g:TG}{tb:TS}{pos:Pos}(hp:PassesOwn (model X.prog X.w) X.A X.env X.xe)(hc:X.calm=true)(hi:PI X tg iter wi)(hg:PG X tg g)(hb:fB X body tb)
  (hs:∀x,foldedSetIterable iter X.env x=pure x:=by intro _;rfl):PS X (.For tg iter body [] pos) (JJ wi g tb):=by
 intro pins s σ H D I h;refine wpAny_For (bh (hi pins s σ H _ I h) fun v s1 h1=>bh h1 fun itv s2 h2=>?_) hs;obtain⟨it,fp,tn,J,H2,e,I2,T,st2,f2,W,⟨m0,w0⟩,turn⟩:=h2;subst e;have stat:∀{H':Hp},(∀b∈fp,H' b=none)→∀b∈fp,iS X pins H' b:=fun hn b hb=>⟨hn b hb,(f2 b hb).2⟩
 refine codeAny_forLoop_any (fun n s'=>∃i σ' H',Inv X pins σ' H' s'∧tn i s'.heap∧(∀b∈fp,H' b=none)∧W i n σ' H') ?_ m0 ⟨0,σ,H2,I2,st2,fun b hb=>(f2 b hb).1,w0⟩;rintro n s3 ⟨i,σ3,H3,I3,st3,fr3,w3⟩;rcases turn i n σ3 H3 w3 with⟨stop,qn⟩|⟨go,N,hN,step⟩
 ·refine wpAny_passesOwn hp (bh (T.done X rfl rfl rfl hc i pins s3 σ3 H3 X.xe I3 (stat fr3) st3 stop) fun r s4 ⟨hr,I4⟩=>?_)
  subst hr;exact wpAny_execs_nil ⟨σ3,H3,I4,qn⟩
 ·refine wpAny_passesOwn hp (bh (T.item X rfl rfl rfl hc i pins s3 σ3 H3 X.xe I3 (stat fr3) st3 go) fun r s4 ⟨u,hr,h4⟩=>?_)
  subst hr;refine wpAny_passesOwn hp (bh h4 fun _ s5 ⟨x,H5,I5,r5,y5,st5,fr5⟩=>?_);have I5':=I5.pinned (stat fr5) (T.obj _ _ st5);refine wpAny_passesOwn hp (bh (hg _ s5 σ3 H5 x u _ I5' r5 (step x H5 y5)) fun _ s6 ⟨σ6,H6,I6,q6⟩=>?_);refine wpAny_passesOwn hp (bh (hb _ s6 σ6 H6 _ I6 q6) fun f s7 q7=>?_)
  have again:∀{σ7:St}{H7:Hp},Inv X (pins++o5 fp s5.heap) σ7 H7 s7→N σ7 H7→∃m,m<n∧∃i σ' H',Inv X pins σ' H' s7∧tn i s7.heap∧(∀b∈fp,H' b=none)∧W i m σ' H':=fun{σ7 H7} I7 n7=>by
   obtain⟨m',hm,w7⟩:=hN σ7 H7 n7;refine⟨m',hm,i+1,σ7,H7,I7.sO,T.keep _ _ _ st5 fun b hb o e=>(I7.pin (b,o) (List.mem_append_right _ (List.mem_append_right _ (Bc hb e)))).1,fun b hb=>?_,w7⟩;obtain⟨o,e,d⟩:=T.obj _ _ st5 b hb;exact(I7.pin (b,o) (List.mem_append_right _ (List.mem_append_right _ (Bc hb e)))).2.1
  cases f with
  |next=>obtain⟨σ7,H7,I7,n7⟩:=q7;exact again I7 n7
  |cont=>obtain⟨σ7,H7,I7,n7⟩:=q7;exact again I7 n7
  |brk=>obtain⟨σ7,H7,I7,q7⟩:=q7;exact⟨σ7,H7,I7.sO,q7⟩
  |ret v=>obtain⟨x7,σ7,H7,I7,r7,q7⟩:=q7;exact⟨x7,σ7,H7,I7.sO,r7,q7⟩
end
theorem jH{K:PySem.W.Frag}{a:Addr}{xs:List V}{g:TG}{tb:TS}{D:Ends}{σ:St}{H:Hp}(Pv:Nat→St→Hp→Prop)(h0:Pv 0 σ H)(hl:∀i σ H,i≤xs.length→Pv i σ H→ay K H a xs)
  (hs:∀i x σ H,xs[i]? =some x→Pv i σ H→g x σ H fun σ2 H2=>tb {D with nx:=Pv (i+1),ct:=Pv (i+1),bk:=D.nx} σ2 H2)(hd:∀σ H,Pv xs.length σ H→D.nx σ H):
  ∃W:Nat→Nat→St→Hp→Prop,(∃m,W 0 m σ H)∧∀i m σ H,W i m σ H→
   ((o4 K a).stop i H∧D.nx σ H)∨((o4 K a).go i H∧∃N:St→Hp→Prop,(∀σ' H',N σ' H'→∃m',m'<m∧W (i+1) m' σ' H')∧∀x H',(o4 K a).mU i H x H'→g x σ H' fun σ2 H2=>tb {D with nx:=N,ct:=N,bk:=D.nx} σ2 H2):=by
 refine⟨fun i m σ H=>m=xs.length-i∧i≤xs.length∧Pv i σ H,⟨xs.length,by simp,Nat.zero_le _,h0⟩,?_⟩;rintro i m σ H ⟨rfl,hi,p⟩;have q:=hl i σ H hi p;by_cases hlt:i<xs.length
 ·refine .inr ⟨⟨xs,xs[i],q,by simp[hlt]⟩,Pv (i+1),fun σ' H' p'=>⟨xs.length-(i+1),by omega,rfl,hlt,p'⟩,fun x H' y=>?_⟩
  obtain⟨e,y⟩:=y;subst e;exact hs i x σ _ (y xs q) p
 ·have e:i=xs.length:=by omega
  subst e;exact .inl ⟨⟨xs,q,Nat.le_refl _⟩,hd σ H p⟩
theorem Be{lo:Int}{n:Nat}{g:TG}{tb:TS}{D:Ends}{σ:St}{H:Hp}(Pv:Nat→St→Hp→Prop)(h0:Pv 0 σ H)
  (hs:∀i σ H,i<n→Pv i σ H→g (.int (lo+i)) σ H fun σ2 H2=>tb {D with nx:=Pv (i+1),ct:=Pv (i+1),bk:=D.nx} σ2 H2)(hd:∀σ H,Pv n σ H→D.nx σ H):
  ∃W:Nat→Nat→St→Hp→Prop,(∃m,W 0 m σ H)∧∀i m σ H,W i m σ H→
   ((mV lo n).stop i H∧D.nx σ H)∨((mV lo n).go i H∧∃N:St→Hp→Prop,(∀σ' H',N σ' H'→∃m',m'<m∧W (i+1) m' σ' H')∧∀x H',(mV lo n).mU i H x H'→g x σ H' fun σ2 H2=>tb {D with nx:=N,ct:=N,bk:=D.nx} σ2 H2):=by
 refine⟨fun i m σ H=>m=n-i∧i≤n∧Pv i σ H,⟨n,by simp,Nat.zero_le _,h0⟩,?_⟩;rintro i m σ H ⟨rfl,hi,p⟩;by_cases hlt:i<n
 ·refine .inr ⟨hlt,Pv (i+1),fun σ' H' p'=>⟨n-(i+1),by omega,rfl,hlt,p'⟩,fun x H' y=>?_⟩
  obtain⟨e,y⟩:=y;subst e y;exact hs i σ _ hlt p
 ·have e:i=n:=by omega
  subst e;exact .inl ⟨Nat.le_refl _,hd σ H p⟩
end L2
namespace L2
open PySem PySem.Spec PyProof.Rows
abbrev R2:=V→V→Hp→VK→Prop
def c_(X:Cx)(f:Value→Value→Sem Value)(r:R2):Prop:=
 ∀(pins:List (Addr×Obj))(s:Shared)(σ:St)(H:Hp)(x y:V)(v u:Value)(Q:VK),Inv X pins σ H s→RelV x v→RelV y u→r x y H Q→
  wpAny (model X.prog X.w) X.A (f v u) (EP X pins σ Q) X.xe s
def Bf(X:Cx)(f:Value→Sem Value)(r:V→Hp→VK→Prop):Prop:=
 ∀(pins:List (Addr×Obj))(s:Shared)(σ:St)(H:Hp)(x:V)(v:Value)(Q:VK),Inv X pins σ H s→RelV x v→r x H Q→
  wpAny (model X.prog X.w) X.A (f v) (EP X pins σ Q) X.xe s
def iT(X:Cx)(f:Value)(r:List V→Hp→VK→Prop):Prop:=
 ∀(pins:List (Addr×Obj))(s:Shared)(σ:St)(H:Hp)(xs:List V)(us:List Value)(Q:VK),Inv X pins σ H s→Vals xs us→r xs H Q→
  wpAny (model X.prog X.w) X.A (call f us) (EP X pins σ Q) X.xe s
def ki(r:R2)(ta tb:TE):TE:=fun σ H Q=>ta σ H fun x H1=>tb σ H1 fun y H2=>r x y H2 Q
def JL(r:V→Hp→VK→Prop)(ta:TE):TE:=fun σ H Q=>ta σ H fun x H1=>r x H1 Q
inductive rI(C:Int→Int→Prop)(g:Int→Int→V)(x:V)(y:V)(H:Hp)(Q:VK):Prop
 |mk:∀i j,x=.int i→y=.int j→C i j→Q (g i j) H→rI C g x y H Q
inductive g4(g:Int→Int→V)(x:V)(y:V)(H:Hp)(Q:VK):Prop
 |mk:∀i j,x=.int i→y=.int j→Q (g i j) H→g4 g x y H Q
inductive rU(g:Int→V)(x:V)(H:Hp)(Q:VK):Prop
 |mk:∀i,x=.int i→Q (g i) H→rU g x H Q
section
variable{X:Cx}{a b c:Expr}{ta tb tc:TE}{pos:Pos}
theorem Bg(ha:PE X a ta)(hb:PE X b tb){pins:List (Addr×Obj)}{s:Shared}{σ:St}{H:Hp}{R:V→V→Hp→Prop}(I:Inv X pins σ H s)
  (h:ta σ H fun x H1=>tb σ H1 fun y H2=>R x y H2){Q:Value→Shared→Prop}{f:Value→Value→Sem Value}
  (hf:∀v u s2 x y H2,Inv X pins σ H2 s2→RelV x v→RelV y u→R x y H2→wpAny (model X.prog X.w) X.A (f v u) Q X.xe s2):
  wpAny (model X.prog X.w) X.A (eval a X.env) (fun v s₁=>wpAny (model X.prog X.w) X.A (eval b X.env) (fun u s₂=>wpAny (model X.prog X.w) X.A (f v u) Q X.xe s₂) X.xe s₁) X.xe s:=by
 refine bh (ha pins s σ H _ I h) fun v s1 ⟨x,H1,I1,r1,q1⟩=>?_
 refine bh (hb pins s1 σ H1 _ I1 q1) fun u s2 ⟨y,H2,I2,r2,q2⟩=>?_
 exact hf v u s2 x y H2 I2 r1 r2 q2
theorem bU{op:Operator}{r:R2}(ho:c_ X (binaryOp op) r)(ha:PE X a ta)(hb:PE X b tb):PE X (.BinOp a op b pos) (ki r ta tb):=by
 intro pins s σ H Q I h;exact wpAny_BinOp (Bg ha hb I h fun v u s2 x y H2 I2 rx ry q=>ho pins s2 σ H2 x y v u Q I2 rx ry q)
theorem sP{op:UnaryOp}{r:V→Hp→VK→Prop}(ho:Bf X (unaryOp op) r)(ha:PE X a ta):PE X (.UnaryOp op a pos) (JL r ta):=by
 intro pins s σ H Q I h;exact UnaryOp_ (bh (ha pins s σ H _ I h) fun v s1 ⟨x,H1,I1,r1,q1⟩=>ho pins s1 σ H1 x v Q I1 r1 q1)
theorem Bh{f:Value→Value→Sem Value}{C:Int→Int→Prop}{g:Int→Int→Int}
  (rule:∀(i j:Int)(t u:Tok)(s:Shared)(Q:Value→Shared→Prop)(E:Value→Shared→Prop),C i j→Q (.int (g i j) s.toks) {s with toks:=s.toks+1}→wpAny (model X.prog X.w) X.A (f (.int i t) (.int j u)) Q E s):
  c_ X f (rI C fun i j=>.int (g i j)):=by
 intro pins s σ H x y v u Q I rx ry h;obtain⟨i,j,rfl,rfl,hc,q⟩:=h;obtain⟨t,rfl⟩:=rx;obtain⟨t',rfl⟩:=ry;exact rule i j t t' s _ _ hc ⟨.int (g i j),H,I.tok _,⟨_,rfl⟩,q⟩
theorem EL{f:Value→Value→Sem Value}{g:Int→Int→Int}
  (rule:∀(i j:Int)(t u:Tok)(s:Shared)(Q:Value→Shared→Prop)(E:Value→Shared→Prop),Q (.int (g i j) s.toks) {s with toks:=s.toks+1}→wpAny (model X.prog X.w) X.A (f (.int i t) (.int j u)) Q E s):
  c_ X f (g4 fun i j=>.int (g i j)):=by
 intro pins s σ H x y v u Q I rx ry h;obtain⟨i,j,rfl,rfl,q⟩:=h;obtain⟨t,rfl⟩:=rx;obtain⟨t',rfl⟩:=ry;exact rule i j t t' s _ _ ⟨.int (g i j),H,I.tok _,⟨_,rfl⟩,q⟩
theorem sQ{f:Value→Value→Sem Value}{g:Int→Int→Bool}
  (rule:∀(i j:Int)(t u:Tok)(s:Shared)(Q:Value→Shared→Prop)(E:Value→Shared→Prop),Q (.bool (g i j)) s→wpAny (model X.prog X.w) X.A (f (.int i t) (.int j u)) Q E s):
  c_ X f (g4 fun i j=>.bl (g i j)):=by
 intro pins s σ H x y v u Q I rx ry h;obtain⟨i,j,rfl,rfl,q⟩:=h;obtain⟨t,rfl⟩:=rx;obtain⟨t',rfl⟩:=ry;exact rule i j t t' s _ _ ⟨.bl (g i j),H,I,rfl,q⟩
def JM(i j:Int):Prop:=0<j∧j<1073741824
def Bj(i j:Int):Prop:=(-(2^64)<i∧i<2^64)∨(-(2^64)<j∧j<2^64)
theorem Bj.ok{i j:Int}(h:Bj i j):IntMulOk i j:=by
 rcases h with⟨h1,h2⟩|⟨h1,h2⟩
 ·exact .of_left (intBits_le_64 h1 h2)
 ·exact .of_right (intBits_le_64 h1 h2)
theorem iU:c_ X (binaryOp .Add) (g4 fun i j=>.int (i+j)):=EL fun _ _ _ _ _ _ _ q=>add_int q
theorem kj:c_ X (binaryOp .Sub) (g4 fun i j=>.int (i-j)):=EL fun _ _ _ _ _ _ _ q=>sub_int q
theorem Bk:c_ X (binaryOp .Mult) (rI Bj fun i j=>.int (i*j)):=Bh fun _ _ _ _ _ _ _ hc q=>mul_int q hc.ok
theorem JN:c_ X (binaryOp .FloorDiv) (rI JM fun i j=>.int (i/j)):=Bh fun i j _ _ _ _ _ hc q=>by
 have h1:(0:Int)<j:=hc.1;have h2:j<1073741824:=hc.2;exact floordiv_int (by omega) (by rw[Int.fdiv_eq_ediv_of_nonneg i (by omega)];exact q) (.inl (PyProof.noPylong_small (by omega)))
theorem JO:c_ X (binaryOp .Mod) (rI (fun _ j=>0<j) fun i j=>.int (i%j)):=Bh fun i j _ _ _ _ _ hc q=>by
 have h1:(0:Int)<j:=hc;exact mod_int' (by omega) (by rw[Int.fmod_eq_emod_of_nonneg i (by omega)];exact q)
theorem JP{f:Value→Sem Value}{g:Int→Int}
  (rule:∀(i:Int)(t:Tok)(s:Shared)(Q:Value→Shared→Prop)(E:Value→Shared→Prop),Q (.int (g i) s.toks) {s with toks:=s.toks+1}→wpAny (model X.prog X.w) X.A (f (.int i t)) Q E s):
  Bf X f (rU fun i=>.int (g i)):=by
 intro pins s σ H x v Q I rx h;obtain⟨i,rfl,q⟩:=h;obtain⟨t,rfl⟩:=rx;exact rule i t s _ _ ⟨.int (g i),H,I.tok _,⟨_,rfl⟩,q⟩
theorem sR:Bf X (unaryOp .USub) (rU fun i=>.int (-i)):=JP fun _ _ _ _ _ q=>neg_int q
end
def EM:V→V→Bool
 |.aP,.aP=>true|.aP,.int _=>true|.int _,.aP=>true|.aP,.bl _=>true|.bl _,.aP=>true|.aP,.str _=>true|.str _,.aP=>true
 |.int _,.int _=>true|.bl _,.bl _=>true|.str _,.str _=>true|.fk _,.fk _=>true
 |.int _,.str _=>true|.str _,.int _=>true|.bl _,.str _=>true|.str _,.bl _=>true
 |_,_=>false
def o6:R2:=fun x y H Q=>EM x y=true∧Q (.bl (decide (x=y))) H
def JQ:R2:=fun x y H Q=>EM x y=true∧Q (.bl (!decide (x=y))) H
theorem EN{i j:Int}:decide (V.int i=V.int j)=(i==j):=by
 rw[Bool.eq_iff_iff];simp
theorem EO{i j:Bool}:decide (V.bl i=V.bl j)=(i==j):=by
 rw[Bool.eq_iff_iff];simp
theorem ER{i j:Str}:decide (V.str i=V.str j)=(i==j):=by
 rw[Bool.eq_iff_iff];simp
theorem ES{i j:Array UInt8}:decide (V.fk i=V.fk j)=(i.toList==j.toList):=by
 rw[Bool.eq_iff_iff];cases i;cases j;simp
section
variable{X:Cx}{a b c:Expr}{ta tb tc:TE}{pos:Pos}
theorem cP{pins:List (Addr×Obj)}{σ:St}{H:Hp}{s:Shared}{Q:VK}{k k':Bool}(I:Inv X pins σ H s)(q:Q (.bl k) H)(e:k=k'):EP X pins σ Q (.bool k') s:=by
 subst e;exact⟨.bl k,H,I,rfl,q⟩
theorem bF:c_ X (compareOp .Eq) o6:=by
 intro pins s σ H x y v u Q I rx ry h;obtain⟨hs,q⟩:=h;cases x with
 |aP=>
  cases rx;cases y with
  |aP=>cases ry;exact PySem.EqNone.eq_none_none (cP I q (by simp))
  |bl j=>cases ry;exact PySem.EqNone.eq_none_bool (cP I q (by simp))
  |int j=>obtain⟨t',rfl⟩:=ry;exact PySem.EqNone.eq_none_int (cP I q (by simp))
  |str j=>obtain⟨t',rfl⟩:=ry;exact PySem.EqNone.eq_none_str (cP I q (by simp))
  |_=>exact absurd (show false=true from hs) Bool.false_ne_true
 |bl i=>
  cases rx;cases y with
  |aP=>cases ry;exact PySem.EqNone.eq_bool_none (cP I q (by simp))
  |bl j=>cases ry;exact eq_bool (cP I q EO)
  |str j=>obtain⟨t',rfl⟩:=ry;exact PySem.EqMixed.eq_bool_str (cP I q (by simp))
  |_=>exact absurd (show false=true from hs) Bool.false_ne_true
 |int i=>
  obtain⟨t,rfl⟩:=rx;cases y with
  |aP=>cases ry;exact PySem.EqNone.eq_int_none (cP I q (by simp))
  |int j=>obtain⟨t',rfl⟩:=ry;exact eq_int (cP I q EN)
  |str j=>obtain⟨t',rfl⟩:=ry;exact PySem.EqMixed.eq_int_str (cP I q (by simp))
  |_=>exact absurd (show false=true from hs) Bool.false_ne_true
 |str i=>
  obtain⟨t,rfl⟩:=rx;cases y with
  |aP=>cases ry;exact PySem.EqNone.eq_str_none (cP I q (by simp))
  |bl j=>cases ry;exact PySem.EqMixed.eq_str_bool (cP I q (by simp))
  |int j=>obtain⟨t',rfl⟩:=ry;exact PySem.EqMixed.eq_str_int (cP I q (by simp))
  |str j=>obtain⟨t',rfl⟩:=ry;exact eq_str (cP I q ER)
  |_=>exact absurd (show false=true from hs) Bool.false_ne_true
 |fk i=>
  obtain⟨t,rfl⟩:=rx;cases y with
  |fk j=>obtain⟨t',rfl⟩:=ry;exact PySem.W.eq_bytes (cP I q ES)
  |_=>exact absurd (show false=true from hs) Bool.false_ne_true
 |_=>cases y<;>exact absurd (show false=true from hs) Bool.false_ne_true
theorem f9:c_ X (compareOp .NotEq) JQ:=by
 intro pins s σ H x y v u Q I rx ry h;obtain⟨hs,q⟩:=h;cases x with
 |aP=>
  cases rx;cases y with
  |aP=>cases ry;exact PySem.EqNone.ne_none_none (cP I q (by simp))
  |bl j=>cases ry;exact PySem.EqNone.ne_none_bool (cP I q (by simp))
  |int j=>obtain⟨t',rfl⟩:=ry;exact PySem.EqNone.ne_none_int (cP I q (by simp))
  |str j=>obtain⟨t',rfl⟩:=ry;exact PySem.EqNone.ne_none_str (cP I q (by simp))
  |_=>exact absurd (show false=true from hs) Bool.false_ne_true
 |bl i=>
  cases rx;cases y with
  |aP=>cases ry;exact PySem.EqNone.ne_bool_none (cP I q (by simp))
  |bl j=>cases ry;exact ne_bool (cP I q (congrArg not EO))
  |str j=>obtain⟨t',rfl⟩:=ry;exact PySem.EqMixed.ne_bool_str (cP I q (by simp))
  |_=>exact absurd (show false=true from hs) Bool.false_ne_true
 |int i=>
  obtain⟨t,rfl⟩:=rx;cases y with
  |aP=>cases ry;exact PySem.EqNone.ne_int_none (cP I q (by simp))
  |int j=>obtain⟨t',rfl⟩:=ry;exact ne_int (cP I q (congrArg not EN))
  |str j=>obtain⟨t',rfl⟩:=ry;exact PySem.EqMixed.ne_int_str (cP I q (by simp))
  |_=>exact absurd (show false=true from hs) Bool.false_ne_true
 |str i=>
  obtain⟨t,rfl⟩:=rx;cases y with
  |aP=>cases ry;exact PySem.EqNone.ne_str_none (cP I q (by simp))
  |bl j=>cases ry;exact PySem.EqMixed.ne_str_bool (cP I q (by simp))
  |int j=>obtain⟨t',rfl⟩:=ry;exact PySem.EqMixed.ne_str_int (cP I q (by simp))
  |str j=>obtain⟨t',rfl⟩:=ry;exact ne_str (cP I q (congrArg not ER))
  |_=>exact absurd (show false=true from hs) Bool.false_ne_true
 |fk i=>
  obtain⟨t,rfl⟩:=rx;cases y with
  |fk j=>obtain⟨t',rfl⟩:=ry;exact PySem.W.ne_bytes (cP I q (congrArg not ES))
  |_=>exact absurd (show false=true from hs) Bool.false_ne_true
 |_=>cases y<;>exact absurd (show false=true from hs) Bool.false_ne_true
theorem jh:c_ X (compareOp .Lt) (g4 fun i j=>.bl (decide (i<j))):=sQ fun _ _ _ _ _ _ _ q=>lt_int q
theorem gw:c_ X (compareOp .LtE) (g4 fun i j=>.bl (decide (i≤j))):=sQ fun _ _ _ _ _ _ _ q=>le_int q
theorem ji:c_ X (compareOp .Gt) (g4 fun i j=>.bl (decide (j<i))):=sQ fun _ _ _ _ _ _ _ q=>gt_int q
theorem ET:c_ X (compareOp .GtE) (g4 fun i j=>.bl (decide (j≤i))):=sQ fun _ _ _ _ _ _ _ q=>ge_int q
theorem aQ(b:Expr){op:CmpOp}(h:op≠.In:=by decide)(h2:op≠.NotIn:=by decide):behindInMarks op b=false:=by
 have e1:(op==CmpOp.In)=false:=by cases op<;>first|rfl|exact absurd rfl h
 have e2:(op==CmpOp.NotIn)=false:=by cases op<;>first|rfl|exact absurd rfl h2
 cases b<;>simp[behindInMarks,e1,e2]
theorem jI{op:CmpOp}{r:R2}(ho:c_ X (compareOp op) r)(ha:PE X a ta)(hb:PE X b tb)(hm:behindInMarks op b=false):PE X (.Compare a [op] [b] pos) (ki r ta tb):=by
 intro pins s σ H Q I h;exact wpAny_Compare1 (Bg ha hb I h fun v u s2 x y H2 I2 rx ry q=>ho pins s2 σ H2 x y v u Q I2 rx ry q) hm
def ko(t:TE):TT:=fun σ H Q=>t σ H (A6 Q)
theorem aY{op:CmpOp}{r:R2}(ho:c_ X (compareOp op) r)(ha:PE X a ta)(hb:PE X b tb)(hm:behindInMarks op b=false):PT X (.Compare a [op] [b] pos) (ko (ki r ta tb)):=by
 intro pins s σ H Q I h
 refine wpAny_isTrue_Compare1 (bh (ha pins s σ H _ I h) fun v s1 ⟨x,H1,I1,r1,q1⟩=>bh (hb pins s1 σ H1 _ I1 q1) fun u s2 ⟨y,H2,I2,r2,q2⟩=>
  bh (ho pins s2 σ H2 x y v u _ I2 r1 r2 q2) fun c s3 ⟨z,H3,I3,r3,k,e,q3⟩=>?_) hm
 subst e;cases r3;exact wpAny_truthy_bool ⟨H3,I3,q3⟩
def sS(r r':R2)(ta tb tc:TE):TE:=fun σ H Q=>ta σ H fun x H1=>tb σ H1 fun y H2=>r x y H2 fun z H3=>∃k,z=.bl k∧
 (if k=true then tc σ H3 fun w' H4=>r' y w' H4 Q else Q (.bl false) H3)
theorem sU{op op':CmpOp}{r r':R2}(ho:c_ X (compareOp op) r)(ho':c_ X (compareOp op') r')(ha:PE X a ta)(hb:PE X b tb)(hc:PE X c tc)
  (hm:lastMarks [op,op'] [b,c]=false:=by with_unfolding_all rfl):PE X (.Compare a [op,op'] [b,c] pos) (sS r r' ta tb tc):=by
 intro pins s σ H Q I h
 refine Compare_chain (bh (ha pins s σ H _ I h) fun v s1 ⟨x,H1,I1,r1,q1⟩=>chain_link (bh (hb pins s1 σ H1 _ I1 q1) fun u s2 ⟨y,H2,I2,r2,q2⟩=>
  bh (ho pins s2 σ H2 x y v u _ I2 r1 r2 q2) fun d s3 ⟨z,H3,I3,r3,k,e,q3⟩=>?_)) hm
 subst e;cases r3;refine wpAny_truthy_bool ?_;cases k with
 |false=>exact ite_ff ⟨.bl false,H3,I3,rfl,q3⟩
 |true=>exact ite_tt (chain_last (bh (hc pins s3 σ H3 _ I3 q3) fun w' s4 ⟨z',H4,I4,r4,q4⟩=>ho' pins s4 σ H4 y z' u w' Q I4 r2 r4 q4))
theorem sV{op op':CmpOp}{r r':R2}(ho:c_ X (compareOp op) r)(ho':c_ X (compareOp op') r')(ha:PE X a ta)(hb:PE X b tb)(hc:PE X c tc)
  (hm:lastMarks [op,op'] [b,c]=false:=by with_unfolding_all rfl):PT X (.Compare a [op,op'] [b,c] pos) (ko (sS r r' ta tb tc)):=by
 intro pins s σ H Q I h
 refine isTrue_chain (bh (ha pins s σ H _ I h) fun v s1 ⟨x,H1,I1,r1,q1⟩=>test_link (bh (hb pins s1 σ H1 _ I1 q1) fun u s2 ⟨y,H2,I2,r2,q2⟩=>
  bh (ho pins s2 σ H2 x y v u _ I2 r1 r2 q2) fun d s3 ⟨z,H3,I3,r3,k,e,q3⟩=>?_)) hm
 subst e;cases r3;refine wpAny_truthy_bool ?_;cases k with
 |false=>
  obtain⟨k',e',q'⟩:=q3;cases e';exact ite_ff ⟨H3,I3,q'⟩
 |true=>
  refine ite_tt (test_last (bh (hc pins s3 σ H3 _ I3 q3) fun w' s4 ⟨z',H4,I4,r4,q4⟩=>bh (ho' pins s4 σ H4 y z' u w' _ I4 r2 r4 q4) fun d' s5 ⟨z2,H5,I5,r5,k2,e2,q5⟩=>?_));subst e2;cases r5;exact wpAny_truthy_bool ⟨H5,I5,q5⟩
theorem sW:(sizeLine:Nat)<2^63:=by rw[sizeLine_eq];decide
theorem vals1{x:V}{us:List Value}(r:Vals [x] us):∃u,us=[u]∧RelV x u:=by
 cases r with
 |cons r1 r2=>cases r2;exact⟨_,rfl,r1⟩
theorem vals2{x y:V}{us:List Value}(r:Vals [x,y] us):∃u w',us=[u,w']∧RelV x u∧RelV y w':=by
 cases r with
 |cons r1 r2=>
  cases r2 with
  |cons r3 r4=>cases r4;exact⟨_,_,rfl,r1,r3⟩
theorem JR:iT X (.type "str") (fun xs H Q=>∃i,xs=[.int i]∧i.natAbs.log2<1920∧Q (.str (toString i)) H):=by
 intro pins s σ H xs us Q I r h;obtain⟨i,rfl,hz,q⟩:=h;obtain⟨u,rfl,t,rfl⟩:=vals1 r;exact PySem.P.str_of_int hz ⟨.str _,H,I.tok _,⟨_,rfl⟩,q⟩
theorem Bl:iT X (.builtin "ord") (fun xs H Q=>∃x,xs=[.str x]∧x.length=1∧Q (.int (x.cps.getD 0 0:Nat)) H):=by
 intro pins s σ H xs us Q I r h;obtain⟨x,rfl,hz,q⟩:=h;obtain⟨u,rfl,t,rfl⟩:=vals1 r;exact ord_of_one hz ⟨.int _,H,I.tok _,⟨_,rfl⟩,q⟩
end
end L2
namespace L2
open PySem PySem.Spec PyProof.Rows
structure ly(h:Heap)(x dx C:Addr)(mA:Str→Option Value):Prop where
 obj:h.get? x=some (PySem.W.instObj C dx)
 ns:h.Ns1 dx mA
 ne:dx≠x
theorem JS{h:Heap}{dx:Addr}{mA:Str→Option Value}(n:h.Ns1 dx mA):∃od,h.get? dx=some od∧∀name,PySem.W.lookIn name od=some (mA name):=by
 obtain⟨o,es,ep,ho,hd,hk,_,hm⟩:=n;refine⟨o,ho,fun name=>?_⟩;have e:=hm name;unfold nsFind findBy at e;rw[←Array.find?_toList]at e;unfold PySem.W.lookIn;rw[hd];dsimp only;split
 ·rename_i y q
  rw[q]at e;exact congrArg some e
 ·rename_i q
  rw[q]at e
  have a:es.toList.any (·.refKey)=false:=by
   rw[List.any_eq_false];intro y hy;obtain⟨z,t,hkey⟩:=hk y (Array.mem_toList_iff.mp hy);simp[DictEntry.refKey,hkey]
  have a':¬es.toList.any (·.refKey)=true:=by rw[a];exact Bool.false_ne_true
  rw[if_neg a'];exact congrArg some e
theorem ly.look{h:Heap}{x dx C:Addr}{mA:Str→Option Value}(I:ly h x dx C mA):∃od,PySem.W.InstAt h x (PySem.W.instObj C dx) C (some od)∧∀name,PySem.W.lookIn name od=some (mA name):=
 let⟨od,ho,hl⟩:=JS I.ns
 ⟨od,⟨I.obj,rfl,rfl,ho⟩,hl⟩
section
variable{prog:Program}{w:World}{A:Around}{E:Value→Shared→Prop}{s:Shared}{K:PySem.W.Frag}{x dx C f:Addr}{mA:Str→Option Value}{name:Str}{v:Value}
theorem get_map{expr:Bool}{Q:Value→Shared→Prop}(X:K.In s.heap)(I:ly s.heap x dx C mA)(hg:PySem.W.plainGet K C name=true)(hh:PySem.W.hasDictIn K C=true)
  (ha:PySem.W.findIn K (.ref C) name=some none)(hv:mA name=some v)(hv':PySem.W.handedIn v=true)(h:Q v {s with toks:=s.toks+1}):
  wpAny (model prog w) A (getAttr (.ref x) name expr) Q E s:=by
 obtain⟨od,J,hl⟩:=I.look;exact PySem.W.get_value X J (PySem.W.plainGet_of hg).1 (PySem.W.findObj_own hh ha rfl (by rw[hl,hv])) hv' h
theorem JT{pl:Sem Bool}{Q:Value×List Value→Shared→Prop}(X:K.In s.heap)(I:ly s.heap x dx C mA)(hg:PySem.W.plainGet K C name=true)
  (hf:PySem.W.findIn K (.ref C) name=some (some (.ref f)))(ht:PySem.W.isFn K (.ref f)=true)(hv:mA name=none)(h:Q (.ref f,[.ref x]) s):
  wpAny (model prog w) A (getMethod (.ref x) name pl) Q E s:=by
 obtain⟨od,J,hl⟩:=I.look;exact PySem.W.method_fn X J (PySem.W.plainGet_of hg).1 (PySem.W.plainGet_of hg).2 hf (beq_iff_eq.mp ht) (by show(PySem.W.lookIn name od).map (·.isSome)=some false;rw[hl,hv];rfl) h
theorem JU{ns:List Str}{Q:Unit→Shared→Prop}(X:K.In s.heap)(I:ly s.heap x dx C mA)
  (hs:PySem.W.findIn K (.ref C) "__setattr__"=some (some (.builtin "object.__setattr__")))(hp:PySem.W.plainOver K C=true)(ht:PySem.W.takerIn K C name=some none)(hh:PySem.W.hasDictIn K C=true)
  (hw:PySem.Within mA ns)(hsz:ns.length≤sizeLine)
  (h:∀h',ly h' x dx C (fun y=>if y=name then some v else mA y)→Heap.SameBut dx s.heap h'→Q () {s with heap:=h',toks:=s.toks+2}):
  wpAny (model prog w) A (setAttr (.ref x) name v) Q E s:=by
 obtain⟨od,J,hl⟩:=I.look;refine PySem.W.set_plain X J hs (PySem.W.osa_open (s:={s with toks:=s.toks+1}) (r:=none) X J hp ht fun b=>?_);obtain⟨cd,hc,hd'⟩:=PySem.W.any_some hh;have hx:s.heap.get? x=some ⟨.ref C,some dx,.plain,#[]⟩:=I.obj;refine wpAny_bind (wpAny_pure (wpAny_bind (wpAny_bind (wpAny_loadPart hx (wpAny_bind (PySem.W.Looks.here (s:={s with toks:=s.toks+1}) (PySem.W.looks_clsIn X hc) ?_))))));rw[hd'];refine wpAny_pure (a:=some dx) (wpAny_bind (wpAny_pure (wpAny_bind ?_)));refine wpAny_nsSet1 (s:={s with toks:=s.toks+1}) I.ns fun h' hn2 hs2=>?_
 obtain⟨oD,esD,epD,hoD,hdD,hcD⟩:=hn2.count (PySem.Within.cons name v hw);refine wpAny_bind (wpAny_lookBehind hoD (by rw[hdD];exact pastItsLine_dict (Nat.le_trans hcD (by rw[List.length_cons];omega))) ?_);exact wpAny_pure (h _ ⟨(hs2.2 _ (Ne.symm I.ne)).trans I.obj,hn2,I.ne⟩ hs2)
theorem JV{R:Result→Shared→Prop}{vs:List Value}{kw:List (Str×Value)}(X:K.In s.heap)(hm:PySem.W.makesIn K C=true)
  (hi:PySem.W.findIn K (.ref C) "__init__"=some (some (.ref f)))(hf:PySem.W.typeIn K (.ref f)=some (.type "function"))
  (h:codeAny (model prog w) (A.under (.builtin "type.__call__" ⟨.ref C::vs,kw⟩)) (.call (.ref f) ⟨.ref (s.heap.objs.size+1)::vs,kw⟩) (PySem.W.InitBack (s.heap.objs.size+1) R)
   {s with heap:=(s.heap.push PySem.W.emptyDict).push (PySem.W.instObj C s.heap.objs.size)}):
  codeAny (model prog w) A (.call (.ref C) ⟨vs,kw⟩) R s:=by
 obtain⟨hh,g,d,t,os⟩:=s;exact PySem.W.make_core (PySem.W.makes_of X hm) (PySem.W.looks_findIn X hi) (fun self=>PySem.W.bind_fn X self hf) (.inl rfl) h
end
def d_(f:Str)(v:V):List (Str×V)→List (Str×V)
 |[]=>[(f,v)]
 |(g,x)::r=>if g=f then(g,v)::r else(g,x)::d_ f v r
theorem Bm(f g:Str)(v:V):∀fs:List (Str×V),(d_ f v fs).lookup g=if g=f then some v else fs.lookup g
 |[]=>by
  show List.lookup g [(f,v)]=_;by_cases h:g=f
  ·have hb:(g==f)=true:=beq_iff_eq.mpr h
   simp only[List.lookup,hb,if_pos h]
  ·have hb:(g==f)=false:=beq_eq_false_iff_ne.mpr h
   simp only[List.lookup,hb,if_neg h]
 |(k,x)::r=>by
  have ih:=Bm f g v r;rw[show d_ f v ((k,x)::r)=(if k=f then(k,v)::r else(k,x)::d_ f v r)from rfl];by_cases hk:k=f
  ·rw[if_pos hk]
   by_cases h:g=k
   ·have hb:(g==k)=true:=beq_iff_eq.mpr h
    simp only[List.lookup,hb,if_pos (h.trans hk)]
   ·have hb:(g==k)=false:=beq_eq_false_iff_ne.mpr h
    simp only[List.lookup,hb,if_neg (fun e:g=f=>h (e.trans hk.symm))]
  ·rw[if_neg hk]
   by_cases h:g=k
   ·have hb:(g==k)=true:=beq_iff_eq.mpr h
    simp only[List.lookup,hb,if_neg (fun e:g=f=>hk (h.symm.trans e))]
   ·have hb:(g==k)=false:=beq_eq_false_iff_ne.mpr h
    simp only[List.lookup,hb];exact ih
theorem o7(f:Str)(v:V):∀fs:List (Str×V),f∈(d_ f v fs).map (·.1)∧∀g,g∈fs.map (·.1)→g∈(d_ f v fs).map (·.1)
 |[]=>⟨by simp[d_],fun g h=>by simp at h⟩
 |(k,x)::r=>by
  obtain⟨i1,i2⟩:=o7 f v r;rw[show d_ f v ((k,x)::r)=(if k=f then(k,v)::r else(k,x)::d_ f v r)from rfl];by_cases hk:k=f
  ·rw[if_pos hk]
   subst hk;exact⟨by simp,fun g h=>by simpa using h⟩
  ·rw[if_neg hk]
   refine⟨?_,fun g h=>?_⟩
   ·rw[List.map_cons]
    exact List.mem_cons_of_mem _ i1
   ·rw[List.map_cons]at h⊢
    rcases List.mem_cons.mp h with e|e
    ·exact List.mem_cons.mpr (.inl e)
    ·exact List.mem_cons_of_mem _ (i2 g e)
theorem EU(f:Str)(v:V):∀fs:List (Str×V),(d_ f v fs).length≤fs.length+1
 |[]=>by simp[d_]
 |(k,x)::r=>by
  have ih:=EU f v r;rw[show d_ f v ((k,x)::r)=(if k=f then(k,v)::r else(k,x)::d_ f v r)from rfl];by_cases hk:k=f
  ·rw[if_pos hk,List.length_cons,List.length_cons];omega
  ·rw[if_neg hk,List.length_cons,List.length_cons];omega
theorem fP.some_of{v:V}{o:Option Value}(r:fP (some v) o):∃u,o=some u∧RelV v u:=by
 cases o with
 |none=>exact(show False from r).elim
 |some u=>exact⟨u,rfl,r⟩
theorem fP.none_of{o:Option Value}(r:fP none o):o=none:=by
 cases o with
 |none=>rfl
 |some u=>exact(show False from r).elim
theorem EV{v:V}{u:Value}(r:RelV v u):PySem.W.handedIn u=true:=by
 cases v with
 |aP=>cases(show u=Value.none from r);rfl
 |bl b=>cases(show u=Value.bool b from r);rfl
 |int i=>obtain⟨t,e⟩:=(show∃t,u=Value.int i t from r);cases e;rfl
 |str x=>obtain⟨t,e⟩:=(show∃t,u=Value.str x t from r);cases e;rfl
 |fk b=>obtain⟨t,e⟩:=(show∃t,u=Value.bytes b t from r);cases e;rfl
 |fq b=>obtain⟨t,e⟩:=(show∃t,u=Value.float b t from r);cases e;rfl
 |ref a=>cases(show u=Value.ref a from r);rfl
 |ty n=>cases(show u=Value.type n from r);rfl
section
variable{P:Program}{w:World}{H H':Hp}{h h':Heap}{a C dx:Addr}{fs fs':List (Str×V)}
theorem sX(hok:cy P w H h)(e:H a=some (.ins C dx fs)):∃mA,ly h a dx C mA∧(∀f,fP (fs.lookup f) (mA f))∧PySem.Within mA (fs.map (·.1))∧fs.length≤1000∧H dx=some (.own a):=by
 obtain⟨d,z,ne,ob,mA,n,r,q⟩:=(show cO P w H h a (.ins C dx fs)from hok a _ e);exact⟨mA,⟨ob,n,ne⟩,r,q,z,d⟩
end
structure dG(K:PySem.W.Frag)(C:Addr):Prop where
 pg:PySem.W.plainGet K C Str.empty=true
 hd:PySem.W.hasDictIn K C=true
 po:PySem.W.plainOver K C=true
 sa:PySem.W.findIn K (.ref C) "__setattr__"=some (some (.builtin "object.__setattr__"))
theorem dG.get{K:PySem.W.Frag}{C:Addr}(c:dG K C)(f:Str):PySem.W.plainGet K C f=true:=c.pg
def di(K:PySem.W.Frag)(C:Addr)(f:Str):Prop:=PySem.W.findIn K (.ref C) f=some none
theorem di.JW{K:PySem.W.Frag}{C:Addr}{f:Str}(n:di K C f):PySem.W.takerIn K C f=some none:=by
 unfold PySem.W.takerIn;rw[show PySem.W.findIn K (.ref C) f=some none from n];rfl
structure Meth(K:PySem.W.Frag)(C:Addr)(m:Str)(f:Addr):Prop where
 at_:PySem.W.findIn K (.ref C) m=some (some (.ref f))
 fn:PySem.W.isFn K (.ref f)=true
 kp:PySem.W.keepIn K (.ref f)=true
section
variable{X:Cx}{pins:List (Addr×Obj)}{σ:St}{H:Hp}{s:Shared}{a C dx:Addr}{fs:List (Str×V)}{f:Str}{v:V}{A:Around}{E:Value→Shared→Prop}
theorem JX{b:Bool}{Q:Value→Shared→Prop}(I:Inv X pins σ H s)(e:H a=some (.ins C dx fs))(c:dG X.K C)(n:di X.K C f)(l:fs.lookup f=some v)
  (h:∀u s',Inv X pins σ H s'→RelV v u→Q u s'):wpAny (model X.prog X.w) A (getAttr (.ref a) f b) Q E s:=by
 obtain⟨mA,O,r,_,_,_⟩:=sX I.hok e;obtain⟨u,hu,ru⟩:=fP.some_of (v:=v) (o:=mA f) (by rw[←l];exact r f);exact get_map I.cz O (c.get f) c.hd n hu (EV ru) (h u _ (I.tok _) ru)
theorem EW{m:Str}{g:Addr}{pl:Sem Bool}{Q:Value×List Value→Shared→Prop}(I:Inv X pins σ H s)(e:H a=some (.ins C dx fs))(c:dG X.K C)(k:Meth X.K C m g)(l:fs.lookup m=none)
  (h:Q (.ref g,[.ref a]) s):wpAny (model X.prog X.w) A (getMethod (.ref a) m pl) Q E s:=by
 obtain⟨mA,O,r,_,_,_⟩:=sX I.hok e;have hn:mA m=none:=fP.none_of (by rw[←l];exact r m);exact JT I.cz O (c.get m) k.at_ k.fn hn h
theorem JY{y:V}{u:Value}{Q:Unit→Shared→Prop}(I:Inv X pins σ H s)(e:H a=some (.ins C dx fs))(c:dG X.K C)(n:di X.K C f)(hl:fs.length<1000)(ry:RelV y u)
  (h:∀s',Inv X pins σ (upd H a (.ins C dx (d_ f y fs))) s'→Q () s'):wpAny (model X.prog X.w) A (setAttr (.ref a) f u) Q E s:=by
 obtain⟨mA,O,r,wi,_,ho⟩:=sX I.hok e;have hz:(fs.map (·.1)).length≤sizeLine:=by rw[List.length_map,sizeLine_eq];omega
 refine JU I.cz O c.sa c.po n.JW c.hd wi hz fun h' O' sb=>h _ ?_
 have hd:∃o,h'.get? dx=some o:=let⟨o,_,_,e',_⟩:=O'.ns;⟨o,e'⟩
 refine I.write (x:=a) (e:=dx) (by rw[e];exact True.intro) (.inr ho) (fun b q hb z=>(sb.2 b hb).trans z) hd ?_;refine⟨by rw[au O.ne];exact ho,?_,O.ne,O'.obj,_,O'.ns,fun g=>?_,fun g hg=>?_⟩
 ·have:=EU f y fs;omega
 ·show fP ((d_ f y fs).lookup g) (if g=f then some u else mA g)
  rw[Bm];by_cases q:g=f
  ·rw[if_pos q,if_pos q];exact ry
  ·rw[if_neg q,if_neg q];exact r g
 ·by_cases q:g=f
  ·rw[q];exact(o7 f y fs).1
  ·refine(o7 f y fs).2 g (wi g fun z=>hg ?_)
   show(if g=f then some u else mA g)=none;rw[if_neg q];exact z
theorem Inv.made(I:Inv X pins σ H s):Inv X pins σ (upd (upd H s.heap.objs.size (.own (s.heap.objs.size+1))) (s.heap.objs.size+1) (.ins C s.heap.objs.size []))
  {s with heap:=(s.heap.push PySem.W.emptyDict).push (PySem.W.instObj C s.heap.objs.size)}:=by
 have e1:(s.heap.push PySem.W.emptyDict).get? s.heap.objs.size=some PySem.W.emptyDict:=Heap.get?_push_size s.heap rfl
 have e2:((s.heap.push PySem.W.emptyDict).push (PySem.W.instObj C s.heap.objs.size)).get? (s.heap.objs.size+1)=some (PySem.W.instObj C s.heap.objs.size):=by
  have:=Heap.get?_push_size (s.heap.push PySem.W.emptyDict) (o:=PySem.W.instObj C s.heap.objs.size) rfl
  rwa[Heap.size_push]at this
 have e3:(s.heap.push PySem.W.emptyDict).Ns s.heap.objs.size (fun _=>none):=⟨PySem.W.emptyDict,#[],_,e1,rfl,(fun e he=>absurd he (by simp)),fun _=>rfl⟩;have I1:=I.laid (a:=s.heap.objs.size) (o:=.own (s.heap.objs.size+1)) (h':=s.heap.push PySem.W.emptyDict) (t':=s.toks) (fun b u q=>Heap.get?_push_of_some _ q) (Nat.le_refl _) ⟨_,e1⟩;refine I1.laid (a:=s.heap.objs.size+1) (o:=.ins C s.heap.objs.size []) (t':=s.toks) (fun b u q=>Heap.get?_push_of_some _ q) (Nat.le_of_eq (Heap.size_push _ _)) ?_;have ne:s.heap.objs.size≠s.heap.objs.size+1:=Nat.ne_of_lt (Nat.lt_succ_self _);refine⟨by rw[au ne,aj],Nat.zero_le _,ne,e2,fun _=>none,(Heap.Ns1.of_empty e3).at fun o q=>Heap.get?_push_of_some _ q,fun _=>True.intro,fun y hy=>absurd rfl hy⟩
theorem EX{prog:Program}{w:World}{env:Env}{e:Expr}{f:Str}{pos:Pos}{s:Shared}{Q:Value→Shared→Prop}(hb:attributeBase e f env (eval e env)=eval e env)
  (h:wpAny (model prog w) A (eval e env) (fun o s₁=>wpAny (model prog w) A (getAttr o f true) Q E s₁) E s):wpAny (model prog w) A (eval (.Attribute e f pos) env) Q E s:=
 Attribute_any_ h (by rw[arm_eval_Attribute,hb])
end
inductive EY(K:PySem.W.Frag)(f:Str)(Q:VK)(x:V)(H:Hp):Prop
 |mk:∀a C dx fs v,x=.ref a→H a=some (.ins C dx fs)→dG K C→di K C f→fs.lookup f=some v→Q v H→EY K f Q x H
def sY(K:PySem.W.Frag)(ta:TE)(f:Str):TE:=fun σ H Q=>ta σ H (EY K f Q)
inductive EZ(K:PySem.W.Frag)(f:Str)(D:Ends)(σ:St)(y x:V)(H:Hp):Prop
 |mk:∀a C dx fs,x=.ref a→H a=some (.ins C dx fs)→dG K C→di K C f→fs.length<1000→D.nx σ (upd H a (.ins C dx (d_ f y fs)))→EZ K f D σ y x H
def Bo(K:PySem.W.Frag)(ta tv:TE)(f:Str):TS:=fun D σ H=>tv σ H fun y H1=>ta σ H1 (EZ K f D σ y)
section
variable{X:Cx}{o e value:Expr}{f:Str}{pos pos' tpos:Pos}{ta tv:TE}
theorem aD(he:PE X e ta)(hb:attributeBase e f X.env (eval e X.env)=eval e X.env):PE X (.Attribute e f pos) (sY X.K ta f):=by
 intro pins s σ H Q I h;refine EX hb (bh (he pins s σ H _ I h) fun u s1 ⟨x,H1,I1,rx,a,C,dx,fs,v,ex,ea,c,n,l,q⟩=>?_);subst ex;obtain rfl:u=Value.ref a:=rx;exact JX I1 ea c n l fun u' s2 I2 ru=>⟨v,H1,I2,ru,q⟩
theorem cM(ha:PE X o ta)(hv:PE X value tv)(hs:swapsWith value (some (.Attribute o f pos')) pos.line X.env=pure false):PS X (.Assign [.Attribute o f pos'] value pos) (Bo X.K ta tv f):=by
 intro pins s σ H D I h;refine plainObj_wpAny_Assign_Attribute (bh (hv pins s σ H _ I h) fun u s1 ⟨y,H1,I1,ry,q⟩=>bh (ha pins s1 σ H1 _ I1 q) fun ov s2 ⟨x,H2,I2,rx,a,C,dx,fs,ex,ea,c,n,l,q2⟩=>?_) hs;subst ex;obtain rfl:ov=Value.ref a:=rx;exact JY I2 ea c n l ry fun s3 I3=>⟨σ,_,I3,q2⟩
end
section
variable{X:Cx}{pins:List (Addr×Obj)}{σ:St}{H:Hp}{s:Shared}{A:Around}{E:Value→Shared→Prop}{Q:Value→Shared→Prop}{c:Value}{b:Bool}
inductive g5(K:PySem.W.Frag)(H:Hp):V→Value→Prop where
 |aP:g5 K H .aP (.type "NoneType")
 |bl (x:Bool):g5 K H (.bl x) (.type "bool")
 |int (i:Int):g5 K H (.int i) (.type "int")
 |str (x:Str):g5 K H (.str x) (.type "str")
 |fq (x:UInt64):g5 K H (.fq x) (.type "float")
 |lst {a:Addr} {xs:List V} (e:H a=some (.lst xs)):g5 K H (.ref a) (.type "list")
 |c7 {a:Addr} {o:Obj} {xs:List V} (e:H a=some (.c7 o (.lst xs))):g5 K H (.ref a) (.type "list")
 |tup {a:Addr} {xs:List V} (e:H a=some (.tup xs)):g5 K H (.ref a) (.type "tuple")
 |dK {a:Addr} {kvs:List (Key×V)} (e:H a=some (.dK kvs)):g5 K H (.ref a) (.type "dict")
 |dT {a:Addr} {kvs:List (List Key×V)} (e:H a=some (.dT kvs)):g5 K H (.ref a) (.type "dict")
 |ins {a C dx:Addr} {fs:List (Str×V)} (e:H a=some (.ins C dx fs)) (cl:dG K C) (ha:PySem.W.findIn K (.ref C) "__class__"=some (some (.builtin "object.__class__")))
   (hn:PySem.W.specialIn K (.builtin "object.__class__") "__get__"=some (some (.builtin "getset_descriptor.__get__"))) (htk:PySem.W.takesIn K (.builtin "object.__class__")=some true)
   (hm:PySem.W.mroIn K C (.type "object")=some true):g5 K H (.ref a) (.ref C)
theorem JZ{x:V}{u t:Value}(I:Inv X pins σ H s)(rx:RelV x u)(ty:g5 X.K H x t)(e:PySem.W.kitOne X.K t c=some b)(h:∀tk,Q (.bool b) {s with toks:=tk}):
  wpAny (model X.prog X.w) A (call (.builtin "isinstance") [u,c]) Q E s:=by
 cases ty with
 |aP=>cases(show u=Value.none from rx);exact PySem.W.kia_one PySem.W.kitx_none I.cz True.intro e (fun z=>nomatch z) h
 |bl y=>cases(show u=Value.bool y from rx);exact PySem.W.kia_one PySem.W.kitx_bool I.cz True.intro e (fun z=>nomatch z) h
 |int i=>obtain⟨t,q⟩:=(show∃t,u=Value.int i t from rx);cases q;exact PySem.W.kia_one PySem.W.kitx_int I.cz True.intro e (fun z=>nomatch z) h
 |str y=>obtain⟨t,q⟩:=(show∃t,u=Value.str y t from rx);cases q;exact PySem.W.kia_one PySem.W.kitx_str I.cz True.intro e (fun z=>nomatch z) h
 |fq y=>obtain⟨t,q⟩:=(show∃t,u=Value.float y t from rx);cases q;exact PySem.W.kia_one PySem.W.kitx_float I.cz True.intro e (fun z=>nomatch z) h
 |@lst a xs ea=>
  cases(show u=Value.ref a from rx);obtain⟨_,_,n,_,h1⟩:=(show cO X.prog X.w H s.heap a (.lst xs)from I.hok a _ ea);exact PySem.W.kia_one PySem.W.kitx_list I.cz ⟨_,h1,rfl⟩ e (fun z=>nomatch z) h
 |@c7 a ob xs ea=>
  cases(show u=Value.ref a from rx);obtain⟨_,_,_,n,_,h1⟩:=(show cO X.prog X.w H s.heap a (.c7 ob (.lst xs))from I.hok a _ ea);exact PySem.W.kia_one PySem.W.kitx_list I.cz ⟨_,h1,rfl⟩ e (fun z=>nomatch z) h
 |@tup a xs ea=>
  cases(show u=Value.ref a from rx);obtain⟨_,_,_,p⟩:=(show cO X.prog X.w H s.heap a (.tup xs)from I.hok a _ ea);obtain⟨o,h1,h2,_⟩:=p;exact PySem.W.kia_one PySem.W.kitx_tuple I.cz ⟨o,h1,h2⟩ e (fun z=>nomatch z) h
 |@dK a kvs ea=>
  cases(show u=Value.ref a from rx);obtain⟨_,_,vs,_,p⟩:=(show cO X.prog X.w H s.heap a (.dK kvs)from I.hok a _ ea);obtain⟨o,es,ep,h1,h2,_⟩:=p;exact PySem.W.kia_one PySem.W.kitx_dict I.cz ⟨o,h1,h2.1⟩ e (fun z=>nomatch z) h
 |@dT a kvs ea=>
  cases(show u=Value.ref a from rx);obtain⟨_,_,xs,_,o,es,ep,h1,h2,_⟩:=(show cO X.prog X.w H s.heap a (.dT kvs)from I.hok a _ ea);exact PySem.W.kia_one PySem.W.kitx_dict I.cz ⟨o,h1,h2.1⟩ e (fun z=>nomatch z) h
 |@ins a C dx fs ea cl ha hn htk hm=>
  cases(show u=Value.ref a from rx);obtain⟨mA,O,_⟩:=sX I.hok ea;obtain⟨od,J,_⟩:=O.look;exact PySem.W.kia_one (PySem.W.kitx_own (cl.get _) cl.hd ha hn htk hm) I.cz J e (fun z=>nomatch z) h
end
end L2
namespace L2
open PySem PySem.Spec PyProof.Rows
structure bX(k:Nat)(A:Around):Prop where
 hd:A.handled=none
 dp:A.depth+3*k+5<recursionLimit
 un:A.units+16*k+200<cLine
theorem bX.mono{j k:Nat}{A:Around}(r:bX k A)(h:j≤k):bX j A:=⟨r.hd,by have:=r.dp;omega,by have:=r.un;omega⟩
theorem bX.deeper{k:Nat}{A:Around}(r:bX (k+1) A)(env:Env):bX k (A.deeper env):=
 ⟨r.hd,by have:=r.dp;show A.depth+1+3*k+5<_;omega,by have:=r.un;show A.units+3+16*k+200<_;omega⟩
theorem J0{A:Around}{C:Addr}{us:List Value}{kw:List (Str×Value)}:(A.under (.builtin "type.__call__" ⟨.ref C::us,kw⟩)).depth=A.depth+1:=by
 first|rfl|simp[Around.under,Code.weight,Code.isCreation,Code.isGuard,Code.isCaller,Code.frames,Code.isFrame,guardIds]
theorem J1{A:Around}{C:Addr}{us:List Value}{kw:List (Str×Value)}:(A.under (.builtin "type.__call__" ⟨.ref C::us,kw⟩)).units=A.units+1:=by
 first|rfl|simp[Around.under,Code.cUnits,Code.frames,Code.isFrame]
theorem bX.make{k:Nat}{A:Around}(r:bX (k+1) A)(C:Addr)(us:List Value)(kw:List (Str×Value)):bX k (A.under (.builtin "type.__call__" ⟨.ref C::us,kw⟩)):=
 ⟨r.hd,by have:=r.dp;rw[J0];omega,by have:=r.un;rw[J1];omega⟩
theorem bX.depth{k:Nat}{A:Around}(r:bX k A):A.depth<recursionLimit:=by have:=r.dp;omega
theorem bX.units{k:Nat}{A:Around}(r:bX k A):A.units+64<cLine:=by have:=r.un;omega
def kq:TA:=fun _ H Q=>Q [] H
def kr(ta:TE)(tr:TA):TA:=fun σ H Q=>ta σ H fun x H1=>tr σ H1 fun xs H2=>Q (x::xs) H2
section
variable{X:Cx}{e:Expr}{es:List Expr}{te:TE}{t:TA}{pos:Pos}
theorem ah:PA X [] kq:=fun _ _ _ _ H Q I h=>Calls.spliced_nil ⟨[],H,I,.nil,h⟩
theorem aa(ha:PE X e te)(hr:PA X es t)(hs:starEach (e::es) X.env=(false,eval e X.env)::starEach es X.env:=by rfl):PA X (e::es) (kr te t):=by
 intro pos pins s σ H Q I h;rw[hs];show wpAny _ _ (spliced ((false,eval e X.env)::backTo pos (starEach es X.env))) _ _ s;refine Calls.spliced_cons (bh (ha pins s σ H _ I h) fun u s1 ⟨x,H1,I1,r1,q1⟩=>?_);exact bh (hr pos pins s1 σ H1 _ I1 q1) fun us s2 ⟨xs,H2,I2,r2,q2⟩=>⟨x::xs,H2,I2,.cons r1 r2,q2⟩
def J2(t:TA):TE:=fun σ H Q=>t σ H fun xs H1=>xs.length≤sizeLine∧∀p,H1 p=none→Q (.ref p) (upd H1 p (.tup xs))
def J3(t:TA):TE:=fun σ H Q=>t σ H fun xs H1=>xs.length≤sizeLine∧∀p,H1 p=none→Q (.ref p) (upd H1 p (.lst xs))
theorem Bp{x1}(h:PA X es t):PE X (.Tuple es x1 pos) (J2 t):=by
 intro pins s σ H Q I hq;refine wpAny_Tuple_spliced (bh (h pos pins s σ H _ I hq) fun us s1 ⟨xs,H1,I1,r,z,q⟩=>⟨by rw[←r.length];exact z,?_⟩);have hf:H1 s1.heap.objs.size=none:=I1.hok.fresh (Nat.le_refl _);refine⟨.ref s1.heap.objs.size,upd H1 s1.heap.objs.size (.tup xs),I1.laid (t':=s1.toks) (fun b u e=>Heap.get?_push_of_some _ e) (Nat.le_refl _) ?_,rfl,q _ hf⟩;exact⟨z,us,r,⟨_,Heap.get?_push_size _ rfl,rfl,_,rfl⟩⟩
theorem bM(h:PA X es t):PE X (.List es pos) (J3 t):=by
 intro pins s σ H Q I hq;refine wpAny_List_spliced (bh (h pos pins s σ H _ I hq) fun us s1 ⟨xs,H1,I1,r,z,q⟩=>⟨by rw[←r.length];exact z,?_⟩);have hf:H1 s1.heap.objs.size=none:=I1.hok.fresh (Nat.le_refl _);refine⟨.ref s1.heap.objs.size,upd H1 s1.heap.objs.size (.lst xs),I1.laid (t':=s1.toks) (fun b u e=>Heap.get?_push_of_some _ e) (Nat.le_refl _) ?_,rfl,q _ hf⟩;exact⟨z,us,0,r,Heap.get?_push_size _ rfl⟩
end
abbrev Sp:=List V→Hp→VK→XK→Prop
abbrev f_:=List Env→Hp→Shared→XK→Value→Shared→Prop
structure jJ(P:Program)(w:World)(K:PySem.W.Frag)(mg:Str→Option Value)(base:Heap)(A:Around)(outer:List Env)(s:Shared)(H:Hp):Prop where
 frames:A.frames=some outer
 mod:Mod K mg base
 bs:∀b o,base.get? b=some o→s.heap.get? b=some o∧H b=none
 gp:base.objs.size≤s.heap.objs.size
 fz:s.heap.FunFrames base outer
 gY:∀b∈frs outer,H b=none
 hok:cy P w H s.heap
 bare:AllBare s.gens
def CE(outer:List Env)(P:Program)(w:World)(H:Hp)(s:Shared)(Q:VK)(u:Value)(s':Shared):Prop:=
 ∃v H',s'.os=s.os∧AllBare s'.gens∧Un (frs outer) [] H H' s.heap s'.heap∧cy P w H' s'.heap∧RelV v u∧Q v H'
def CR(CX:f_)(outer:List Env)(P:Program)(w:World)(H:Hp)(s:Shared)(Q:VK)(E:XK)(r:Result)(s':Shared):Prop:=
 match r with
 |.ok (.ret u)=>CE outer P w H s Q u s'
 |.ok _=>False
 |.error e=>CX outer H s E e s'
structure aF(P:Program)(w:World)(K:PySem.W.Frag)(mg:Str→Option Value)(base:Heap)(CX:f_)(k:Nat)(f:Addr)(fd:FuncData)(ps:List Str)(sp:Sp):Prop where
 len:∀vs H Q E,sp vs H Q E→vs.length=ps.length
 run:∀(A:Around)(outer:List Env)(s:Shared)(H:Hp)(args:Args)(us:List Value)(vs:List V)(Q:VK)(E:XK),bX k A→jJ P w K mg base A outer s H→BindsTo s fd args (ps.zip us)→Vals vs us→sp vs H Q E→
  codeAny (model P w) A (.call (.ref f) args) (CR CX outer P w H s Q E) s
theorem jJ.make{P:Program}{w:World}{K:PySem.W.Frag}{mg:Str→Option Value}{base:Heap}{A:Around}{outer:List Env}{s:Shared}{H:Hp}(e:jJ P w K mg base A outer s H)(C:Addr)(us:List Value)(kw:List (Str×Value)):
  jJ P w K mg base (A.under (.builtin "type.__call__" ⟨.ref C::us,kw⟩)) outer s H:=⟨by first|exact e.frames|(simpa[Around.under,Code.envs,Code.isFrame,pushEnvs]using e.frames),e.mod,e.bs,e.gp,e.fz,e.gY,e.hok,e.bare⟩
section
variable{X:Cx}{pins:List (Addr×Obj)}{σ:St}{H:Hp}{s s':Shared}
theorem Inv.o8(I:Inv X pins σ H s):jJ X.prog X.w X.K X.mg X.base X.A X.stack s H:=
 ⟨I.ok.frames,I.ok.mod,I.bs,Nat.le_trans I.ok.gp I.sz,I.stack,I.A2,I.hok,I.bare⟩
theorem Inv.after{Q:VK}{u:Value}(I:Inv X pins σ H s)(h:CE X.stack X.prog X.w H s Q u s'):EP X pins σ Q u s':=by
 obtain⟨v,H',os,bare,un,hok,r,q⟩:=h;obtain⟨hh,g,d,t,os'⟩:=s';obtain rfl:os'=s.os:=os;exact⟨v,H',I.call (h':=hh) (g':=g) (d':=d) (t':=t) (ch:=[]) un hok bare (fun b z=>absurd z (by simp)),r,q⟩
end
def Bq(sp:Sp)(dvs:List V)(E:XK)(t:TA):TE:=fun σ H Q=>t σ H fun vs H1=>sp (vs++dvs) H1 Q E
inductive E1(C:Addr)(m:Str)(R:Hp→Prop)(x:V)(H:Hp):Prop
 |mk:∀a dx fs,x=.ref a→H a=some (.ins C dx fs)→fs.lookup m=none→R H→E1 C m R x H
def sZ(C:Addr)(m:Str)(sp:Sp)(dvs:List V)(E:XK)(ta:TE)(t:TA):TE:=fun σ H Q=>ta σ H fun x=>E1 C m (fun H1=>t σ H1 fun vs H2=>sp (x::(vs++dvs)) H2 Q E) x
def s_(C:Addr)(sp:Sp)(dvs:List V)(E:XK)(t:TA):TE:=fun σ H Q=>t σ H fun vs H1=>∀x dx,H1 x=none→H1 dx=none→dx≠x→
 sp (.ref x::(vs++dvs)) (upd (upd H1 dx (.own x)) x (.ins C dx [])) (fun v H2=>v=.aP∧Q (.ref x) H2) E
def Binds(K:PySem.W.Frag)(fd:FuncData)(ps:List Str)(ds:List Value):Prop:=
 ∀(s:Shared)(us:List Value),K.In s.heap→(us++ds).length=ps.length→BindsTo s fd ⟨us,[]⟩ (ps.zip (us++ds))
theorem Binds.all{K:PySem.W.Frag}{fd:FuncData}{ps:List Str}(h:∀us:List Value,us.length=ps.length→bindArgs fd ⟨us,[]⟩=pure (ps.zip us)):Binds K fd ps []:=fun s us _ hl=>by
 rw[List.append_nil]at hl⊢;exact .of_eq (h us hl)
def Passes(CX:f_)(X:Cx)(E:XK):Prop:=∀(pins:List (Addr×Obj))(σ:St)(H:Hp)(s:Shared)(e:Value)(s':Shared),Inv X pins σ H s→CX X.stack H s E e s'→X.xe e s'
section
variable{X:Cx}{CX:f_}{k:Nat}{f C:Addr}{fd:FuncData}{ps:List Str}{sp:Sp}{dvs:List V}{ds:List Value}{E:XK}{x m:Str}{p pos apos:Pos}{e o:Expr}{es:List Expr}{ta:TE}{t:TA}
theorem Br{pins:List (Addr×Obj)}{σ:St}{H:Hp}{s:Shared}{Q:VK}{us:List Value}{vs:List V}(F:aF X.prog X.w X.K X.mg X.base CX k f fd ps sp)(hr:bX k X.A)(hb:Binds X.K fd ps ds)(hd:Vals dvs ds)(hx:Passes CX X E)
  (I:Inv X pins σ H s)(r:Vals vs us)(h:sp (vs++dvs) H Q E):wpAny (model X.prog X.w) X.A (call (.ref f) us) (EP X pins σ Q) X.xe s:=by
 have r2:Vals (vs++dvs) (us++ds):=r.append hd;have hl:(us++ds).length=ps.length:=by rw[←r2.length];exact F.len _ _ _ _ h
 refine wpAny_call (codeAny_mono (F.run X.A X.stack s H ⟨us,[]⟩ (us++ds) (vs++dvs) Q E hr I.o8 (hb s us I.cz hl) r2 h) fun r s' hq=>?_);cases r with
 |error e=>exact hx pins σ H s e s' I hq
 |ok fl=>
  cases fl with
  |ret u=>exact I.after hq
  |next=>exact False.elim hq
  |brk=>exact False.elim hq
  |cont=>exact False.elim hq
theorem J4(F:aF X.prog X.w X.K X.mg X.base CX k f fd ps sp)(hr:bX k X.A)(hg:Gl X x)(hm:X.mg x=some (.ref f))(hk:PySem.W.keepIn X.K (.ref f)=true)(hb:Binds X.K fd ps ds)(hd:Vals dvs ds)(hx:Passes CX X E)
  (ha:PA X (e::es) t)(hdb:(x==("__debug__":Str))=false:=by decide)(he:starEach (e::es) X.env=(false,eval e X.env)::starEach es X.env:=by rfl)(hpl:(backTo pos (starEach es X.env)).any (·.1)=false:=by rfl):
  PE X (.Call (.Name x p) (e::es) [] pos) (Bq sp dvs E t):=by
 intro pins s σ H Q I h;refine wpAny_Call_Name_kw (j8 I hg hm ?_ hdb);refine PySem.W.callWith_K (h₀:=X.base) I.ok.mod.jc hk (bh (ha pos pins s σ H _ I h) fun us s1 ⟨vs,H1,I1,r,q⟩=>⟨I1.cz,?_⟩) he hpl;exact Br F hr hb hd hx I1 r q
theorem J5{pl:Sem Bool}(he:PE X o ta)(c:dG X.K C)(hm:Meth X.K C m f)(F:aF X.prog X.w X.K X.mg X.base CX k f fd ps sp)(hr:bX k X.A)(hb:Binds X.K fd ps ds)(hd:Vals dvs ds)(hx:Passes CX X E)(ha:PA X (e::es) t)
  (hst:starEach (e::es) X.env=(false,eval e X.env)::starEach es X.env:=by rfl)(hpl:(backTo pos (starEach es X.env)).any (·.1)=false:=by rfl)
  (ht:eval (.Call (.Attribute o m apos) (e::es) [] pos) X.env=(do
   let ov←eval o X.env
   standAt apos.atName
   let(f,first)←holding [ov] (getMethod ov m pl)
   callWith pos f first (backTo pos (starEach (e::es) X.env)) (backToKw pos (keywordEach [] X.env))):=by rfl):
  PE X (.Call (.Attribute o m apos) (e::es) [] pos) (sZ C m sp dvs E ta t):=by
 intro pins s σ H Q I h;refine PySem.W.methodCall_KW (pl:=pl) (bh (he pins s σ H _ I h) fun u s1 ⟨x,H1,I1,rx,a,dx,fs,ex,ea,l,q⟩=>?_) ht;subst ex;obtain rfl:u=Value.ref a:=rx;refine EW I1 ea c hm l ?_;refine PySem.W.callWith_K (first:=[.ref a]) (h₀:=X.base) I.ok.mod.jc hm.kp (bh (ha pos pins s1 σ H1 _ I1 q) fun us s2 ⟨vs,H2,I2,r,q2⟩=>⟨I2.cz,?_⟩) hst hpl;exact Br (us:=.ref a::us) (vs:=.ref a::vs) F hr hb hd hx I2 (.cons rfl r) q2
theorem J6{pl:Sem Bool}(he:PE X o ta)(c:dG X.K C)(hm:Meth X.K C m f)(F:aF X.prog X.w X.K X.mg X.base CX k f fd ps sp)(hr:bX k X.A)(hb:Binds X.K fd ps ds)(hd:Vals dvs ds)(hx:Passes CX X E)
  (ht:eval (.Call (.Attribute o m apos) [] [] pos) X.env=(do
   let ov←eval o X.env
   standAt apos.atName
   let(f,first)←holding [ov] (getMethod ov m pl)
   callWith pos f first (backTo pos (starEach [] X.env)) (backToKw pos (keywordEach [] X.env))):=by rfl):
  PE X (.Call (.Attribute o m apos) [] [] pos) (sZ C m sp dvs E ta kq):=by
 intro pins s σ H Q I h;refine PySem.W.methodCall_KW (pl:=pl) (bh (he pins s σ H _ I h) fun u s1 ⟨x,H1,I1,rx,a,dx,fs,ex,ea,l,q⟩=>?_) ht;subst ex;obtain rfl:u=Value.ref a:=rx;refine EW I1 ea c hm l ?_;exact PySem.W.callWith_K0 (first:=[.ref a]) I1.cz hm.kp (Br (us:=[.ref a]) (vs:=[.ref a]) F hr hb hd hx I1 (.cons rfl .nil) q)
structure Mk(K:PySem.W.Frag)(C f:Addr):Prop where
 makes:PySem.W.makesIn K C=true
 init:PySem.W.findIn K (.ref C) "__init__"=some (some (.ref f))
 fn:PySem.W.isFn K (.ref f)=true
 kp:PySem.W.keepIn K (.ref C)=true
theorem E2{pins:List (Addr×Obj)}{σ:St}{H:Hp}{s:Shared}{Q:VK}{us:List Value}{vs:List V}(M:Mk X.K C f)(F:aF X.prog X.w X.K X.mg X.base CX k f fd ps sp)(hr:bX (k+1) X.A)(hb:Binds X.K fd ps ds)(hd:Vals dvs ds)
  (hx:Passes CX X E)(I:Inv X pins σ H s)(r:Vals vs us)
  (h:∀x dx,H x=none→H dx=none→dx≠x→sp (.ref x::(vs++dvs)) (upd (upd H dx (.own x)) x (.ins C dx [])) (fun v H2=>v=.aP∧Q (.ref x) H2) E):
  wpAny (model X.prog X.w) X.A (call (.ref C) us) (EP X pins σ Q) X.xe s:=by
 have hq:=h (s.heap.objs.size+1) s.heap.objs.size (I.hok.fresh (Nat.le_succ _)) (I.hok.fresh (Nat.le_refl _)) (Nat.ne_of_lt (Nat.lt_succ_self _));have I2:=Inv.made (C:=C) I;have r2:Vals (V.ref (s.heap.objs.size+1)::(vs++dvs)) (Value.ref (s.heap.objs.size+1)::(us++ds)):=.cons rfl (r.append hd)
 have hl:(Value.ref (s.heap.objs.size+1)::us++ds).length=ps.length:=by
  have e:=r2.length;rw[F.len _ _ _ _ hq]at e;exact e.symm
 refine wpAny_call (JV (f:=f) I.cz M.makes M.init (beq_iff_eq.mp M.fn) (codeAny_mono (F.run _ X.stack _ _ ⟨Value.ref (s.heap.objs.size+1)::us,[]⟩ (Value.ref (s.heap.objs.size+1)::(us++ds)) _ _ E (hr.make C us [])
  (I2.o8.make C us []) (hb _ (Value.ref (s.heap.objs.size+1)::us) I2.cz hl) r2 hq) fun r s' hq'=>?_))
 cases r with
 |error e=>exact hx pins σ _ _ e s' I2 hq'
 |ok fl=>
  cases fl with
  |ret u=>
   obtain⟨v,H',I3,rv,ev,q3⟩:=I2.after hq';subst ev;exact⟨rv,⟨V.ref (s.heap.objs.size+1),H',I3,rfl,q3⟩⟩
  |next=>exact False.elim hq'
  |brk=>exact False.elim hq'
  |cont=>exact False.elim hq'
theorem J7(M:Mk X.K C f)(F:aF X.prog X.w X.K X.mg X.base CX k f fd ps sp)(hr:bX (k+1) X.A)(hg:Gl X x)(hm:X.mg x=some (.ref C))(hb:Binds X.K fd ps ds)(hd:Vals dvs ds)(hx:Passes CX X E)
  (ha:PA X (e::es) t)(hdb:(x==("__debug__":Str))=false:=by decide)(he:starEach (e::es) X.env=(false,eval e X.env)::starEach es X.env:=by rfl)(hpl:(backTo pos (starEach es X.env)).any (·.1)=false:=by rfl):
  PE X (.Call (.Name x p) (e::es) [] pos) (s_ C sp dvs E t):=by
 intro pins s σ H Q I h;refine wpAny_Call_Name_kw (j8 I hg hm ?_ hdb);refine PySem.W.callWith_K (h₀:=X.base) I.ok.mod.jc M.kp (bh (ha pos pins s σ H _ I h) fun us s1 ⟨vs,H1,I1,r,q⟩=>⟨I1.cz,?_⟩) he hpl;exact E2 M F hr hb hd hx I1 r q
theorem J8(M:Mk X.K C f)(F:aF X.prog X.w X.K X.mg X.base CX k f fd ps sp)(hr:bX (k+1) X.A)(hg:Gl X x)(hm:X.mg x=some (.ref C))(hb:Binds X.K fd ps ds)(hd:Vals dvs ds)(hx:Passes CX X E)
  (hdb:(x==("__debug__":Str))=false:=by decide):PE X (.Call (.Name x p) [] [] pos) (s_ C sp dvs E kq):=by
 intro pins s σ H Q I h;refine wpAny_Call_Name_kw (j8 I hg hm ?_ hdb);exact PySem.W.callWith_K0 I.cz M.kp (E2 (us:=[]) M F hr hb hd hx I .nil h)
end
structure aL(N P:List Str)(sc:Scope):Prop where
 kind:sc.kind=.function
 co:sc.isCoroutine=false
 gen:sc.isGenerator=false
 nd:N.Nodup
 pre:N.take P.length=P
 par:∀x∈P,sc.names.lookup x=some .local∨sc.names.lookup x=some .cell
 J9:∀y∈sc.names,y.2≠.free
theorem E3{kindOf:Str→Option NameKind}{x:Str}:∀{binds:List (Str×Value)}{m:Str→Option Value},(∀v,(x,v)∉binds)→bindL kindOf binds m x=m x
 |[],_,_=>rfl
 |(n,v)::r,m,h=>by
  unfold bindL;rw[E3 fun w hw=>h w (List.mem_cons_of_mem _ hw)];split
  ·have:x≠n:=by rintro rfl;exact h v List.mem_cons_self
   simp[this]
  ·rfl
theorem E4{kindOf:Str→Option NameKind}{x:Str}:∀{binds:List (Str×Value)}{m:Str→Option Value},(∀v,(x,v)∉binds)→bindC kindOf binds m x=m x
 |[],_,_=>rfl
 |(n,v)::r,m,h=>by
  unfold bindC;rw[E4 fun w hw=>h w (List.mem_cons_of_mem _ hw)];split
  ·rfl
  ·have:x≠n:=by rintro rfl;exact h v List.mem_cons_self
   simp[this]
theorem E5{kindOf:Str→Option NameKind}{x:Str}{v:Value}:∀{P:List Str}{vs:List Value}{i:Nat}{m:Str→Option Value},P.Nodup→P[i]? =some x→vs[i]? =some v→kindOf x=some .local→
  bindL kindOf (P.zip vs) m x=some v
 |[],_,_,_,_,h,_,_=>by simp at h
 |_::_,[],_,_,_,_,h,_=>by simp at h
 |p::P,w::vs,0,m,nd,h1,h2,hk=>by
  simp at h1 h2;subst h1;subst h2;show bindL kindOf ((p,w)::P.zip vs) m p=_;unfold bindL;rw[E3 fun v hv=>(List.nodup_cons.mp nd).1 (List.of_mem_zip hv).1,if_pos hk];simp
 |p::P,w::vs,i+1,m,nd,h1,h2,hk=>by
  show bindL kindOf ((p,w)::P.zip vs) m x=_;unfold bindL;exact E5 (i:=i) (List.nodup_cons.mp nd).2 (by simpa using h1) (by simpa using h2) hk
theorem E6{kindOf:Str→Option NameKind}{x:Str}{v:Value}:∀{P:List Str}{vs:List Value}{i:Nat}{m:Str→Option Value},P.Nodup→P[i]? =some x→vs[i]? =some v→kindOf x≠some .local→
  bindC kindOf (P.zip vs) m x=some v
 |[],_,_,_,_,h,_,_=>by simp at h
 |_::_,[],_,_,_,_,h,_=>by simp at h
 |p::P,w::vs,0,m,nd,h1,h2,hk=>by
  simp at h1 h2;subst h1;subst h2;show bindC kindOf ((p,w)::P.zip vs) m p=_;unfold bindC;rw[E4 fun v hv=>(List.nodup_cons.mp nd).1 (List.of_mem_zip hv).1,if_neg hk];simp
 |p::P,w::vs,i+1,m,nd,h1,h2,hk=>by
  show bindC kindOf ((p,w)::P.zip vs) m x=_;unfold bindC;exact E6 (i:=i) (List.nodup_cons.mp nd).2 (by simpa using h1) (by simpa using h2) hk
def start(N:List Str)(vs:List V):St:=vs.map some++List.replicate (N.length-vs.length) none
def iy(CX:f_)(P:Program)(w:World)(K:PySem.W.Frag)(mg:Str→Option Value)(base:Heap)(N:List Str)(qual:Str)(scope:Scope)(f:Addr)(cd:Value)(A:Around)(outer:List Env)(s:Shared)(H:Hp)(E:XK):Cx where
 prog:=P
 w:=w
 K:=K
 mg:=mg
 base:=base
 A:=A.deeper (envOfC qual scope s.heap.objs.size f cd)
 N:=N
 cR:=s
 j4:=H
 env:=envOfC qual scope s.heap.objs.size f cd
 outer:=outer
 stack:=envOfC qual scope s.heap.objs.size f cd::outer
 ex:=[]
 calm:=true
 fn:=fun _=>true
 pn:=[]
 xe:=fun e s'=>wpAny (model P w) (A.deeper (envOfC qual scope s.heap.objs.size f cd)) (leaving (envOfC qual scope s.heap.objs.size f cd) e) (fun _ s''=>CX outer H s E e s'') (fun e' s''=>CX outer H s E e' s'') s'
theorem E7{sc:Scope}{n:Nat}{x:Str}(h:sc.names.lookup x=some .cell):∃c,(cellsFrom n sc.names []).lookup x=some c:=by
 have q:=PySem.W.cellsFrom_some sc.names n [] (.inl h);exact Option.isSome_iff_exists.mp q
theorem J_{CX:f_}{P:Program}{w:World}{K:PySem.W.Frag}{mg:Str→Option Value}{base:Heap}{N ps:List Str}{qual:Str}{scope:Scope}{f:Addr}{cd:Value}{A:Around}{outer:List Env}{s s1:Shared}{H:Hp}{E:XK}{us:List Value}{vs:List V}
  (S:aL N ps scope)(hd:A.handled=none)(e0:jJ P w K mg base A outer s H)(hl:vs.length=ps.length)(r:Vals vs us)
  (x:InCallC s s.heap.objs.size (bindL (envOfC qual scope s.heap.objs.size f cd).kindOf (ps.zip us) fun _=>none) (cellsFrom (s.heap.objs.size+1) scope.names []) (bindC (envOfC qual scope s.heap.objs.size f cd).kindOf (ps.zip us) fun _=>none) s1):
  Inv (iy CX P w K mg base N qual scope f cd A outer s H E) [] (start N vs) H s1:=by
 have hpl:ps.length≤N.length:=by have:=congrArg List.length S.pre;rw[List.length_take]at this;omega
 obtain⟨h1,tk,rfl,hk⟩:=x.done;have noA:∀b:Addr,b∉(iy CX P w K mg base N qual scope f cd A outer s H E).ex:=fun b z=>absurd (show b∈([]:List Addr)from z) (by simp)
 refine⟨⟨e0.mod,S.kind,rfl,rfl,Nat.le_refl _,fun y z c h1 h2=>?_,fun y hy=>?_,fun y c _ h=>?_,fun _=>hd,Around.frames_deeper e0.frames,.inr ⟨rfl,rfl⟩,fun b z=>absurd z (noA b),e0.bs,e0.gp,fun b _ _=>noA b,fun b z=>absurd z (noA b),e0.fz,e0.gY⟩,
  rfl,e0.bare,Un.kept hk,⟨_,x.toInCall.ns,fun i y v h1 h2 h3=>?_⟩,fun y c h=>⟨_,x.cell y c h⟩,e0.hok.fresh (Nat.le_refl _),fun y c h=>?_,fun p hp=>absurd (show p∈([]:List (Addr×Obj))from hp) (by simp),e0.hok.kept hk,?_⟩
 ·exact name_of_addr x.apart (PySem.mem_of_lookup h1) (PySem.mem_of_lookup h2)
 ·have hy:scope.names.lookup y=some .cell∨scope.names.lookup y=some .free:=hy
  rcases hy with hy|hy
  ·exact E7 hy
  ·exact absurd rfl (S.J9 _ (PySem.mem_of_lookup hy))
 ·exact Nat.le_of_lt (x.above y c (PySem.mem_of_lookup h))
 ·have hi:i<vs.length:=by
   unfold start at h2;by_cases hi:i<vs.length
   ·exact hi
   ·rw[List.getElem?_append_right (by simpa using hi)]at h2
    rw[List.getElem?_replicate]at h2;split at h2<;>cases h2
  have ha:vs[i]? =some v:=by
   unfold start at h2;rw[List.getElem?_append_left (by simpa using hi),List.getElem?_map]at h2;cases e:vs[i]? with
   |none=>rw[e]at h2;cases h2
   |some a=>rw[e]at h2;cases h2;rfl
  obtain⟨u,hu,rv⟩:=r.get ha
  have hp:ps[i]? =some y:=by
   rw[←S.pre,List.getElem?_take_of_lt (by omega)];exact h1
  have ndP:ps.Nodup:=by rw[←S.pre];exact S.nd.sublist (List.take_sublist _ _)
  refine⟨u,rv,?_⟩;rcases S.par y (List.mem_of_getElem? hp)with k|k
  ·exact .inl ⟨k,E5 ndP hp hu k⟩
  ·obtain⟨c,e⟩:=E7 (n:=s.heap.objs.size+1) k
   refine .inr ⟨.inl k,c,e,?_⟩;have q:=x.cell y c e;rw[E6 ndP hp hu (by show scope.names.lookup y≠_;rw[k];decide)]at q;exact q
 ·exact e0.hok.fresh (Nat.le_of_lt (x.above y c (PySem.mem_of_lookup h)))
 ·unfold start
  show _=N.length;rw[List.length_append,List.length_map,List.length_replicate];omega
theorem Bs{CX:f_}{P:Program}{w:World}{K:PySem.W.Frag}{mg:Str→Option Value}{base:Heap}{k:Nat}{f:Addr}{name qual:Str}{params:Arguments}{body:List Stmt}{scope:Scope}{dV kV doc pm cdv ct oc:Value}{an od:Option Addr}
  {osl:Array (Option Value)}{N ps:List Str}{sp:Sp}(lk:K.lookup f=some ⟨oc,od,.func (PySem.W.fnOf name qual params body scope dV kV doc pm an cdv ct),osl⟩)(hcd:PySem.W.codeIn K cdv qual=true)(S:aL N ps scope)
  (len:∀vs H Q E,sp vs H Q E→vs.length=ps.length)
  (hbody:∀(A:Around)(outer:List Env)(s:Shared)(H:Hp)(vs:List V)(Q:VK)(E:XK),bX k (A.deeper (envOfC qual scope s.heap.objs.size f cdv))→sp vs H Q E→
   ∃t,fB (iy CX P w K mg base N qual scope f cdv A outer s H E) body t∧t {nx:=fun _ H'=>Q .aP H',rt:=Q} (start N vs) H):
  aF P w K mg base CX (k+1) f (PySem.W.fnOf name qual params body scope dV kV doc pm an cdv ct) ps sp:=by
 refine⟨len,fun A outer s H args us vs Q E hr e0 hb r hsp=>?_⟩;have hl:=len _ _ _ _ hsp;have KX:K.In s.heap:=e0.mod.jc.keeps fun b o e=>(e0.bs b o e).1
 have lim:s.heap.NoLimit:=e0.mod.nolimit.keeps fun b o e=>(e0.bs b o e).1
 have hkind:∀y∈ps.zip us,scope.names.lookup y.1=some .local∨(scope.names.lookup y.1=some .cell∧((cellsFrom (s.heap.objs.size+1) scope.names []).lookup y.1).isSome=true):=fun⟨n,v⟩ hy=>by
  rcases S.par n (List.of_mem_zip hy).1 with q|q
  ·exact .inl q
  ·exact .inr ⟨q,PySem.W.cellsFrom_some _ _ _ (.inl q)⟩
 refine codeAny_call_function hr.depth (KX _ _ lk) rfl S.co S.gen rfl (PySem.W.codeRec_of KX hcd) (hb _ _ _ _ ?_);refine wpAny_newFunctionEnv_cells S.kind hkind fun env he s1 x=>?_
 subst he;refine⟨lim.keeps x.toInCall.keep,codeAny_func ?_⟩;obtain⟨t,ht,hq⟩:=hbody A outer s H vs Q E (hr.deeper _) hsp;have I:Inv (iy CX P w K mg base N qual scope f cdv A outer s H E) [] (start N vs) H s1:=J_ S hr.hd e0 hl r x;refine wpAny_mono (ht [] s1 (start N vs) H _ I hq) (fun fl s' hs=>?_) fun e s' hs=>hs
 have fin:∀{σ':St}{H':Hp}{v:V}{u:Value},Inv (iy CX P w K mg base N qual scope f cdv A outer s H E) [] σ' H' s'→RelV v u→Q v H'→CE outer P w H s Q u s':=
  fun{σ' H' v u} J rv q=>⟨v,H',J.os,J.bare,J.base,J.hok,rv,q⟩
 cases fl with
 |ret u=>
  obtain⟨v,σ',H',J,rv,q⟩:=hs;exact fin J rv q
 |next=>
  obtain⟨σ',H',J,q⟩:=hs;exact fin (v:=V.aP) (u:=Value.none) J rfl q
 |brk=>
  obtain⟨_,_,_,q⟩:=hs;exact False.elim q
 |cont=>
  obtain⟨_,_,_,q⟩:=hs;exact False.elim q
end L2
namespace L2
open PySem PySem.Spec PyProof.Rows
section
variable{X:Cx}{x:Str}{p pos:Pos}{e:Expr}{es:List Expr}{t:TA}{id T:String}{r:List V→Hp→VK→Prop}
def Bt(r:List V→Hp→VK→Prop)(t:TA):TE:=fun σ H Q=>t σ H fun vs H1=>r vs H1 Q
theorem bP(hc:iT X (.builtin id) r)(hg:Gl X x)(hm:X.mg x=none)(hv:bootBuiltins x=some (.builtin id))(ha:PA X (e::es) t)(hn:x≠"__name__":=by decide)(hdb:(x==("__debug__":Str))=false:=by decide)
  (he:starEach (e::es) X.env=(false,eval e X.env)::starEach es X.env:=by rfl)(hpl:(backTo pos (starEach es X.env)).any (·.1)=false:=by rfl):PE X (.Call (.Name x p) (e::es) [] pos) (Bt r t):=by
 intro pins s σ H Q I h;refine wpAny_Call_Name_kw (oX I hg hm hv ?_ hn hdb);exact PyProof.Rows.callWith_builtin1 (bh (ha pos pins s σ H _ I h) fun us s1 ⟨vs,H1,I1,r1,q1⟩=>hc pins s1 σ H1 vs us Q I1 r1 q1) he hpl
theorem E8(hc:iT X (.type T) r)(hg:Gl X x)(hm:X.mg x=none)(hv:bootBuiltins x=some (.type T))(ha:PA X (e::es) t)(hn:x≠"__name__":=by decide)(hdb:(x==("__debug__":Str))=false:=by decide)
  (he:starEach (e::es) X.env=(false,eval e X.env)::starEach es X.env:=by rfl)(hpl:(backTo pos (starEach es X.env)).any (·.1)=false:=by rfl):PE X (.Call (.Name x p) (e::es) [] pos) (Bt r t):=by
 intro pins s σ H Q I h;refine wpAny_Call_Name_kw (oX I hg hm hv ?_ hn hdb);exact PyProof.Rows.callWith_type1 (bh (ha pos pins s σ H _ I h) fun us s1 ⟨vs,H1,I1,r1,q1⟩=>hc pins s1 σ H1 vs us Q I1 r1 q1) he hpl
end
end L2
namespace HT
open PySem PyProof.Rows
section
variable{prog:Program}{w:World}{A:Around}{E:Value→Shared→Prop}{s:Shared}
def dH(n d:Nat):Option Int→Nat
 |none=>d
 |some v=>if v<0 then(v+(n:Int)).toNat else min v.toNat n
theorem Bu(n d:Nat):dH n d none=d:=rfl
theorem tu(n d k:Nat):dH n d (some (k:Int))=min k n:=by
 show(if(k:Int)<0 then((k:Int)+(n:Int)).toNat else min (k:Int).toNat n)=min k n;rw[if_neg (by omega),Int.toNat_natCast]
end
end HT
namespace L2
open PySem PySem.Spec PyProof.Rows
abbrev TO:=St→Hp→(Option Int→Hp→Prop)→Prop
def PO(X:Cx)(e:Option Expr)(t:TO):Prop:=
 ∀(pins:List (Addr×Obj))(s:Shared)(σ:St)(H:Hp)(Q:Option Int→Hp→Prop),Inv X pins σ H s→t σ H Q→
  wpAny (model X.prog X.w) X.A (evalPart e X.env) (fun u s'=>∃o H',Inv X pins σ H' s'∧IsPart u o∧Q o H') X.xe s
def Ka:TO:=fun _ H Q=>Q none H
def Kc(t:TE):TO:=fun σ H Q=>t σ H fun x H1=>∃i,x=.int i∧Q (some i) H1
section
variable{X:Cx}{e:Expr}{te:TE}{lo hi:Option Expr}{tl th:TO}{pos p2:Pos}
theorem tw:PO X none Ka:=by
 intro pins s σ H Q I h;rw[evalPart_none];exact wpAny_pure ⟨none,H,I,.none,h⟩
theorem jj(h:PE X e te):PO X (some e) (Kc te):=by
 intro pins s σ H Q I hw;rw[evalPart_some];refine bh (h pins s σ H _ I hw) fun u s1 ⟨x,H1,I1,r1,q1⟩=>?_
 obtain⟨i,rfl,q⟩:=q1;obtain⟨t,rfl⟩:=r1;exact⟨some i,H1,I1,.int i t,q⟩
def Bv(X:Cx)(r:V→Option Int→Option Int→Hp→VK→Prop):Prop:=
 ∀(pins:List (Addr×Obj))(s:Shared)(σ:St)(H:Hp)(x:V)(v vl vu:Value)(lo hi:Option Int)(sl:Addr)(Q:VK),Inv X pins σ H s→RelV x v→s.heap.IsSliceOf sl vl vu .none→IsPart vl lo→IsPart vu hi→r x lo hi H Q→
  ∃T id,typeLookup (.type T) "__getitem__"=pure (some (.builtin id))∧s.TypeIs v T∧wpAny (model X.prog X.w) X.A (getItem v (.ref sl)) (EP X pins σ Q) X.xe s
def Kd(r:V→Option Int→Option Int→Hp→VK→Prop)(te:TE)(tl th:TO):TE:=fun σ H Q=>te σ H fun x H1=>tl σ H1 fun l H2=>th σ H2 fun u H3=>r x l u H3 Q
theorem lz{r:V→Option Int→Option Int→Hp→VK→Prop}(hr:Bv X r)(he:PE X e te)(hl:PO X lo tl)(hu:PO X hi th):PE X (.Subscript e (.Slice lo hi none p2) pos) (Kd r te tl th):=by
 intro pins s σ H Q I h;refine Subscript_ (bh (he pins s σ H _ I h) fun v s1 ⟨x,H1,I1,r1,q1⟩=>?_);refine wpAny_Slice (bh (hl pins s1 σ H1 _ I1 q1) fun vl s2 ⟨l,H2,I2,pl,q2⟩=>bh (hu pins s2 σ H2 _ I2 q2) fun vu s3 ⟨u,H3,I3,pu,q3⟩=>?_);rw[evalPart_none];refine wpAny_pure ?_;have I4:Inv X pins σ H3 {s3 with heap:=s3.heap.push {cls:=.type "slice",data:=.fields #[vl,vu,.none]}}:=I3.kept (t':=s3.toks) fun b ob q=>Heap.get?_push_of_some _ q
 obtain⟨T,id,hT,ht,hg⟩:=hr pins {s3 with heap:=s3.heap.push {cls:=.type "slice",data:=.fields #[vl,vu,.none]}} σ H3 x v vl vu l u s3.heap.objs.size Q I4 r1 (Heap.IsSliceOf.new ..) pl pu q3;show wpAny (model X.prog X.w) X.A (subscriptTail e (.Slice lo hi none p2) v (.ref s3.heap.objs.size)) (EP X pins σ Q) X.xe {s3 with heap:=s3.heap.push {cls:=.type "slice",data:=.fields #[vl,vu,.none]}};exact tail_any (ops:=[.ref s3.heap.objs.size,v]) ht hT hg (by with_unfolding_all rfl)
def eu(xs:List V)(lo hi:Option Int):List V:=(xs.drop (HT.dH xs.length 0 lo)).take (HT.dH xs.length xs.length hi-HT.dH xs.length 0 lo)
theorem Ke(xs:List V)(lo hi:Option Int):(eu xs lo hi).length≤xs.length:=by
 unfold eu;rw[List.length_take,List.length_drop];omega
end
end L2
namespace L2
open PySem PySem.Spec PyProof.Rows
def jK(n:Nat)(i:Int):Option Nat:=if 0≤i then(if i<n then some i.toNat else none)else if-(n:Int)≤i then some (i+n).toNat else none
def gF{α:Type}(xs:List α)(i:Int):Option α:=(jK xs.length i).bind fun j=>xs[j]?
theorem Kf{n:Nat}{i:Int}{j:Nat}(h:jK n i=some j):seqIndex? i n=some j∧j<n∧-(n:Int)≤i∧i<n:=by
 unfold jK at h;by_cases h0:0≤i
 ·rw[if_pos h0]at h
  by_cases h1:i<n
  ·rw[if_pos h1]at h
   have e:i.toNat=j:=Option.some.inj h;exact⟨by rw[seqIndex_of h0 h1,e],by omega,by omega,h1⟩
  ·rw[if_neg h1]at h;cases h
 ·rw[if_neg h0]at h
  by_cases h1:-(n:Int)≤i
  ·rw[if_pos h1]at h
   have e:(i+n).toNat=j:=Option.some.inj h;exact⟨by rw[seqIndex_neg (by omega) h1,e],by omega,h1,by omega⟩
  ·rw[if_neg h1]at h;cases h
theorem Bw{α:Type}{xs:List α}{i:Int}{v:α}(h:gF xs i=some v):∃j,seqIndex? i xs.length=some j∧xs[j]? =some v∧j<xs.length∧-(xs.length:Int)≤i∧i<xs.length:=by
 unfold gF at h;cases e:jK xs.length i with
 |none=>rw[e]at h;cases h
 |some j=>
  rw[e]at h;obtain⟨h1,h2,h3,h4⟩:=Kf e;exact⟨j,h1,h,h2,h3,h4⟩
theorem E9{α:Type}{xs:List α}{j:Nat}{v:α}(h:xs[j]? =some v):gF xs (j:Int)=some v:=by
 have hj:j<xs.length:=(List.getElem?_eq_some_iff.mp h).1
 have e:jK xs.length (j:Int)=some j:=by
  unfold jK;rw[if_pos (by omega),if_pos (by omega)];simp
 unfold gF;rw[e];exact h
theorem Kg{α:Type}(xs:List α)(v:α):gF (xs++[v]) (-1)=some v:=by
 have hl:(xs++[v]).length=xs.length+1:=by simp
 have e:jK (xs++[v]).length (-1)=some xs.length:=by
  unfold jK;rw[hl,if_neg (by decide),if_pos (by omega)]
  congr 1
  omega
 unfold gF;rw[e];show(xs++[v])[xs.length]? =some v;simp
def Kh(b:Expr):Prop:=∀o i,subscripted b false o i=operate [o,i] (getItem o i)
def o9(X:Cx)(r:R2):Prop:=
 ∀(value slice:Expr)(pins:List (Addr×Obj))(s:Shared)(σ:St)(H:Hp)(x y:V)(v u:Value)(Q:VK),Inv X pins σ H s→RelV x v→RelV y u→r x y H Q→
  subscripted slice false v u=operate [v,u] (getItem v u)→wpAny (model X.prog X.w) X.A (subscriptTail value slice v u) (EP X pins σ Q) X.xe s
def Kl(X:Cx)(id:String)(r:V→List V→Hp→VK→Prop):Prop:=
 ∀(pins:List (Addr×Obj))(s:Shared)(σ:St)(H:Hp)(x:V)(xs:List V)(v:Value)(us:List Value)(Q:VK),Inv X pins σ H s→RelV x v→Vals xs us→r x xs H Q→
  wpAny (model X.prog X.w) X.A (call (.builtin id) (v::us)) (EP X pins σ Q) X.xe s
section
variable{X:Cx}{a b:Expr}{ta tb:TE}{pos:Pos}
theorem bQ{r:R2}(hr:o9 X r)(ha:PE X a ta)(hb:PE X b tb)(hs:Kh b):PE X (.Subscript a b pos) (ki r ta tb):=by
 intro pins s σ H Q I h;exact Subscript_ (Bg ha hb I h fun v u s2 x y H2 I2 rx ry q=>hr a b pins s2 σ H2 x y v u Q I2 rx ry q (hs _ _))
inductive Bx(K:PySem.W.Frag)(x:V)(y:V)(H:Hp)(Q:VK):Prop
 |mk:∀p xs i v,x=.ref p→y=.int i→ay K H p xs→gF xs i=some v→Q v H→Bx K x y H Q
inductive E_(K:PySem.W.Frag)(x:V)(y:V)(H:Hp)(Q:VK):Prop
 |mk:∀p xs i v,x=.ref p→y=.int i→dW K H p xs→gF xs i=some v→Q v H→E_ K x y H Q
inductive Fc(x:V)(y:V)(H:Hp)(Q:VK):Prop
 |mk:∀z i c,x=.str z→y=.int i→z.length≤sizeLine→gF z.cps.toList i=some c→Q (.str ⟨#[c]⟩) H→Fc x y H Q
theorem cA:o9 X (Bx X.K):=by
 intro value slice pins s σ H x y v u Q I rx ry h hs;obtain⟨p,xs,i,z,rfl,rfl,hq,he,q⟩:=h;cases rx;obtain⟨t,rfl⟩:=ry;obtain⟨its,r,pl,hz⟩:=I.list hq;obtain⟨j,h1,h2,h3,h4,h5⟩:=Bw he;obtain⟨w,ew,rw'⟩:=r.get h2;have hl:=r.length;have hn:=sW;have fin:EP X pins σ Q w s:=⟨z,H,I,rw',q⟩;by_cases h0:0≤i
 ·have hj:i.toNat=j:=by
   rw[seqIndex_of h0 h5]at h1;exact Option.some.inj h1
  exact item_listR pl.isList h0 (by omega) (by rw[hj];simpa using ew) fin hs
 ·have hj:(i+(its.toArray.size:Int)).toNat=j:=by
   rw[seqIndex_neg (by omega) h4]at h1;rw[List.size_toArray,←hl];exact Option.some.inj h1
  exact subscriptTail_builtinR (x:=w) pl.isList.typeIs slot_list_getitem.lookup
   (wpAny_getItem_list_neg (Q:=fun r s'=>r=w∧EP X pins σ Q r s') pl.isList (by omega) (by rw[List.size_toArray]<;>omega) (by omega) (by rw[hj];simpa using ew) ⟨rfl,fin⟩) hs
theorem By:o9 X (E_ X.K):=by
 intro value slice pins s σ H x y v u Q I rx ry h hs;obtain⟨p,xs,i,z,rfl,rfl,hq,he,q⟩:=h;cases rx;obtain⟨t,rfl⟩:=ry;obtain⟨its,r,pl,hz⟩:=I.tuple hq;obtain⟨j,h1,h2,h3,h4,h5⟩:=Bw he;obtain⟨w,ew,rw'⟩:=r.get h2;have hl:=r.length;have hn:=sW;have fin:EP X pins σ Q w s:=⟨z,H,I,rw',q⟩
 exact subscriptTail_builtinR (x:=w) pl.typeIs slot_tuple_getitem.lookup
  (getItem_tuple (j:=j) (Q:=fun r s'=>r=w∧EP X pins σ Q r s') pl (by omega) (by omega) (by rw[List.size_toArray,←hl];exact h1) (by simpa using ew) ⟨rfl,fin⟩) hs
theorem Fd:o9 X Fc:=by
 intro value slice pins s σ H x y v u Q I rx ry h hs;obtain⟨z,i,c,rfl,rfl,hz,he,q⟩:=h;obtain⟨t,rfl⟩:=rx;obtain⟨t',rfl⟩:=ry;obtain⟨j,h1,h2,h3,h4,h5⟩:=Bw he;have hl:z.cps.toList.length=z.length:=by simp[Str.length]
 rw[hl]at h1 h4 h5;have hn:=sW
 exact tail_any (typeIs_str s z t) slot_str_getitem.lookup (getItem_str (c:=c) (by
  have e1:decide (i< -(2^63:Int))=false:=decide_eq_false (by omega);have e2:decide (i≥2^63)=false:=decide_eq_false (by omega);rw[e1,e2,Bool.or_false]) (by rw[h1];simpa using h2) ⟨.str ⟨#[c]⟩,H,I.tok _,⟨_,rfl⟩,q⟩) hs
theorem Km(lo hi:Option Int)(n:Nat):(sliceBounds lo hi none n).1=((HT.dH n 0 lo:Nat):Int)∧(sliceBounds lo hi none n).2.1=((HT.dH n n hi:Nat):Int)∧(sliceBounds lo hi none n).2.2=1:=by
 refine⟨?_,?_,rfl⟩
 ·cases lo with
  |none=>simp[sliceBounds,HT.dH]
  |some i=>
   simp only[sliceBounds,HT.dH,Option.getD_none,show(1:Int)>0 by decide,if_true];by_cases h:i<0
   ·simp only[h,if_true]<;>omega
   ·simp only[h,if_false]<;>omega
 ·cases hi with
  |none=>simp[sliceBounds,HT.dH]
  |some i=>
   simp only[sliceBounds,HT.dH,Option.getD_none,show(1:Int)>0 by decide,if_true];by_cases h:i<0
   ·simp only[h,if_true]<;>omega
   ·simp only[h,if_false]<;>omega
theorem Kn(its:List Value)(lo hi:Option Int):slicePick its.toArray lo hi none=((its.drop (HT.dH its.length 0 lo)).take (HT.dH its.length its.length hi-HT.dH its.length 0 lo)).toArray:=by
 obtain⟨h1,h2,h3⟩:=Km lo hi its.toArray.size;unfold slicePick;rw[h1,h2,h3];simp only[sliceRange_one,pick_run,List.size_toArray]<;>rfl
def Fe(K:PySem.W.Frag):V→Option Int→Option Int→Hp→VK→Prop:=fun x lo hi H Q=>∃a xs,x=.ref a∧ay K H a xs∧∀p,H p=none→Q (.ref p) (upd H p (.lst (eu xs lo hi)))
theorem mW:Bv X (Fe X.K):=by
 intro pins s σ H x v vl vu lo hi sl Q I rx hs pl pu h;obtain⟨a,xs,rfl,hx,q⟩:=h;cases rx;obtain⟨its,r,ht,hz⟩:=I.list hx;have hlen:=r.length;refine⟨"list",_,slot_list_getitem.lookup,ht.isList.typeIs,?_⟩;refine wpAny_getItem_list_slice ht.isList hs pl pu .none (by simp) ?_ (by rw[List.size_toArray]<;>omega);rw[Kn,←hlen];refine⟨.ref s.heap.objs.size,_,I.laid (t':=s.toks) (o:=.lst (eu xs lo hi)) (fun b ob q=>Heap.get?_push_of_some _ q) (Nat.le_refl _) ?_,rfl,q _ (I.hok.fresh (Nat.le_refl _))⟩;exact⟨Nat.le_trans (Ke xs lo hi) hz,_,0,(r.drop (HT.dH xs.length 0 lo)).take (HT.dH xs.length xs.length hi-HT.dH xs.length 0 lo),Heap.get?_push_size _ rfl⟩
def ku:V→Bool
 |.aP=>true
 |.bl _=>true
 |.int _=>true
 |.str _=>true
 |_=>false
def jk:V→V→Bool
 |.aP,.aP=>true
 |.bl a,.bl b=>a==b
 |.bl a,.int b=>(if a then 1 else 0)==b
 |.int a,.bl b=>a==(if b then 1 else 0)
 |.int a,.int b=>a==b
 |.str a,.str b=>a==b
 |_,_=>false
theorem Ko{A:Around}{s:Shared}{y x:V}{u v:Value}(ry:RelV y u)(rx:RelV x v)(fy:ku y=true)(fx:ku x=true):SeqAt.EqAt A s u v (jk y x):=by
 cases y with
 |aP=>
  cases ry;cases x with
  |aP=>cases rx;exact SeqAt.EqAt.same _
  |bl b=>cases rx;exact SeqAt.EqAt.none_bool b
  |int b=>obtain⟨t,rfl⟩:=rx;exact SeqAt.EqAt.none_int b t
  |str b=>obtain⟨t,rfl⟩:=rx;exact SeqAt.EqAt.none_str b t
  |_=>exact absurd (show false=true from fx) Bool.false_ne_true
 |bl a=>
  cases ry;cases x with
  |aP=>cases rx;exact SeqAt.EqAt.bool_none a
  |bl b=>cases rx;exact SeqAt.EqAt.bool_bool a b
  |int b=>obtain⟨t,rfl⟩:=rx;exact SeqAt.EqAt.bool_int a b t
  |str b=>obtain⟨t,rfl⟩:=rx;exact SeqAt.EqAt.bool_str a b t
  |_=>exact absurd (show false=true from fx) Bool.false_ne_true
 |int a=>
  obtain⟨t',rfl⟩:=ry;cases x with
  |aP=>cases rx;exact SeqAt.EqAt.int_none a t'
  |bl b=>cases rx;exact SeqAt.EqAt.int_bool a t' b
  |int b=>obtain⟨t,rfl⟩:=rx;exact SeqAt.EqAt.int_int a t' b t
  |str b=>obtain⟨t,rfl⟩:=rx;exact SeqAt.EqAt.int_str a t' b t
  |_=>exact absurd (show false=true from fx) Bool.false_ne_true
 |str a=>
  obtain⟨t',rfl⟩:=ry;cases x with
  |aP=>cases rx;exact SeqAt.EqAt.str_none a t'
  |bl b=>cases rx;exact SeqAt.EqAt.str_bool a t' b
  |int b=>obtain⟨t,rfl⟩:=rx;exact SeqAt.EqAt.str_int a t' b t
  |str b=>obtain⟨t,rfl⟩:=rx;exact SeqAt.EqAt.str_str a t' b t
  |_=>exact absurd (show false=true from fx) Bool.false_ne_true
 |_=>exact absurd (show false=true from fy) Bool.false_ne_true
def jL(x:V)(u:Value):Bool:=match u with
 |.none=>jk .aP x
 |.bool b=>jk (.bl b) x
 |.int i _=>jk (.int i) x
 |.str z _=>jk (.str z) x
 |_=>false
theorem Ff{x y:V}{u:Value}(r:RelV y u)(f:ku y=true):jL x u=jk y x:=by
 cases y with
 |aP=>cases r;rfl
 |bl b=>cases r;rfl
 |int i=>obtain⟨t,rfl⟩:=r;rfl
 |str z=>obtain⟨t,rfl⟩:=r;rfl
 |_=>exact absurd (show false=true from f) Bool.false_ne_true
theorem BA{x:V}:∀{xs:List V}{us:List Value},Vals xs us→xs.all ku=true→us.any (jL x)=xs.any fun y=>jk y x
 |_,_,.nil,_=>rfl
 |y::xs,u::us,.cons r t,f=>by
  rw[List.all_cons,Bool.and_eq_true]at f;rw[List.any_cons,List.any_cons,Ff r f.1,BA t f.2]
theorem BB{A:Around}{s:Shared}{x:V}{v:Value}(rx:RelV x v)(fx:ku x=true):∀{xs:List V}{us:List Value},Vals xs us→xs.all ku=true→∀u∈us,SeqAt.EqAt A s u v (jL x u)
 |_,_,.nil,_=>fun u hu=>by cases hu
 |y::xs,u::us,.cons r t,f=>fun u' hu=>by
  rw[List.all_cons,Bool.and_eq_true]at f;rcases List.mem_cons.mp hu with rfl|hu
  ·rw[Ff r f.1];exact Ko r rx f.1 fx
  ·exact BB rx fx t f.2 u' hu
def kC(x:V)(xs:List V):Bool:=xs.any fun y=>jk y x
inductive Fg(K:PySem.W.Frag)(neg:Bool)(x:V)(y:V)(H:Hp)(Q:VK):Prop
 |mk:∀p xs,y=.ref p→((ay K H p xs∨dW K H p xs))→ku x=true→xs.all ku=true→(Q (.bl (if neg then !kC x xs else kC x xs)) H)→Fg K neg x y H Q
theorem Fj:c_ X (compareOp .In) (Fg X.K false):=by
 intro pins s σ H x y v u Q I rx ry h;obtain⟨p,xs,rfl,hq,fx,fs,q⟩:=h;cases ry;rcases hq with hq|hq
 ·obtain⟨its,r,pl,hz⟩:=I.list hq
  refine SeqAt.in_listAt (jL x) pl.isList (fun w hw=>BB rx fx r fs w (by simpa using hw)) ⟨.bl _,H,I,rfl,?_⟩;rw[show its.toArray.any (jL x)=its.any (jL x) by simp,BA r fs];exact q
 ·obtain⟨its,r,pl,hz⟩:=I.tuple hq
  refine SeqAt.in_tupleAt (jL x) pl (fun w hw=>BB rx fx r fs w (by simpa using hw)) ⟨.bl _,H,I,rfl,?_⟩;rw[show its.toArray.any (jL x)=its.any (jL x) by simp,BA r fs];exact q
theorem cC:iT X (.builtin "len") (fun xs H Q=>∃p ys,xs=[.ref p]∧(ay X.K H p ys∨dW X.K H p ys)∧Q (.int ys.length) H):=by
 intro pins s σ H xs us Q I r h;obtain⟨p,ys,rfl,hq,q⟩:=h;obtain⟨u,rfl,rx⟩:=vals1 r;cases rx;have hn:=sW;rcases hq with hq|hq
 ·obtain⟨its,r',pl,hz⟩:=I.list hq
  have hlen:=r'.length;exact Calls.call_len_list pl.isList (by simp only[List.size_toArray]<;>omega) ⟨.int ys.length,H,I.tok _,⟨s.toks+1,by rw[List.size_toArray,hlen]⟩,q⟩
 ·obtain⟨its,r',pl,hz⟩:=I.tuple hq
  have hlen:=r'.length;exact len_tuple pl (by simp only[List.size_toArray]<;>omega) ⟨.int ys.length,H,I.tok _,⟨s.toks+1,by rw[List.size_toArray,hlen]⟩,q⟩
theorem Kp:iT X (.type "list") (fun xs H Q=>∃p ys,xs=[.ref p]∧(ay X.K H p ys∨dW X.K H p ys)∧∀l,H l=none→Q (.ref l) (upd H l (.lst ys))):=by
 intro pins s σ H xs us Q I r h;obtain⟨p,ys,rfl,hq,q⟩:=h;obtain⟨u,rfl,rx⟩:=vals1 r;cases rx
 have fin:∀(its:List Value),Vals ys its→ys.length≤sizeLine→∀(h':Heap)(c':Nat),(∀b o',s.heap.get? b=some o'→h'.get? b=some o')→
   h'.get? s.heap.objs.size=some {cls:=.type "list",dict:=none,data:=.seq its.toArray c',slots:=#[]}→EP X pins σ Q (.ref s.heap.objs.size) {s with heap:=h'}:=fun its r' hz h' c' kp e=>
  ⟨.ref s.heap.objs.size,_,I.laid (t':=s.toks) kp (Nat.le_refl _) (show cO X.prog X.w _ h' _ (.lst ys)from⟨hz,its,c',r',e⟩),rfl,q _ (I.hok.fresh (Nat.le_refl _))⟩
 rcases hq with hq|hq
 ·obtain⟨its,r',pl,hz⟩:=I.list hq
  have hlen:=r'.length;obtain⟨o,ho,hc,n,hd⟩:=pl.isList;exact call_list_seq p (.inl rfl) ho hc hd (fun h' c' kp e=>fin its r' hz h' c' kp e) (by simp only[List.size_toArray]<;>omega)
 ·obtain⟨its,r',pl,hz⟩:=I.tuple hq
  have hlen:=r'.length;obtain⟨o,ho,hc,n,hd⟩:=pl;exact call_list_seq p (.inr rfl) ho hc hd (fun h' c' kp e=>fin its r' hz h' c' kp e) (by simp only[List.size_toArray]<;>omega)
def Fl(K:PySem.W.Frag)(T:String)(x:V)(H:Hp):Prop:=match x with
 |.str _=>T="str"
 |.int _=>T="int"
 |.ref p=>(T="list"∧∃xs,ay K H p xs)∨(T="tuple"∧∃o,K.lookup p=some o∧o.cls=.type "tuple"∧o.dict=none)∨
   (T="dict"∧((∃kvs,H p=some (.dK kvs))∨∃kvs,H p=some (.dT kvs)))∨(T="set"∧∃S n,H p=some (.set S n))
 |_=>False
theorem Kq{pins:List (Addr×Obj)}{σ:St}{H:Hp}{s:Shared}{T:String}{x:V}{v:Value}(I:Inv X pins σ H s)(r:RelV x v)(ty:Fl X.K T x H):
  s.TypeIs v T∧∀a,v=.ref a→∃ob,s.heap.get? a=some ob∧ob.dict=none:=by
 cases x with
 |str z=>
  obtain⟨t,rfl⟩:=r;cases(show T="str"from ty);exact⟨typeIs_str s z t,fun _ e=>nomatch e⟩
 |int i=>
  obtain⟨t,rfl⟩:=r;cases(show T="int"from ty);exact⟨typeIs_int s i t,fun _ e=>nomatch e⟩
 |ref p=>
  cases r;rcases ty with⟨rfl,xs,hq⟩|⟨rfl,o,hk,hc,hd⟩|⟨rfl,hk⟩|⟨rfl,S,n,hk⟩
  ·obtain⟨its,_,pl,_⟩:=I.list hq
   refine⟨pl.isList.typeIs,fun a e=>?_⟩;cases e;obtain⟨o,n,e,c,hd,_⟩:=pl;exact⟨o,e,hd⟩
  ·refine⟨⟨o,I.cz p o hk,hc⟩,fun a e=>?_⟩
   cases e;exact⟨o,I.cz _ o hk,hd⟩
  ·have z:∃o,s.heap.get? p=some o∧o.ExactDict:=by
    rcases hk with⟨kvs,hk⟩|⟨kvs,hk⟩
    ·obtain⟨_,_,_,_,o,_,_,e,ex,_⟩:=I.hok p _ hk
     exact⟨o,e,ex⟩
    ·obtain⟨_,_,_,_,o,_,_,e,ex,_⟩:=I.hok p _ hk
     exact⟨o,e,ex⟩
   obtain⟨o,e,ex⟩:=z;refine⟨⟨o,e,ex.1⟩,fun a e2=>?_⟩;cases e2;exact⟨o,e,ex.2.1⟩
  ·obtain⟨o,_,_,_,e,ex,_⟩:=I.hok p _ hk
   refine⟨⟨o,e,ex.1⟩,fun a e2=>?_⟩;cases e2;exact⟨o,e,ex.2.1⟩
 |_=>exact False.elim ty
def Fo(K:PySem.W.Frag)(T:String)(r:V→List V→Hp→VK→Prop)(to:TE)(t:TA):TE:=fun σ H Q=>to σ H fun x H1=>Fl K T x H1∧t σ H1 fun xs H2=>r x xs H2 Q
variable{o e:Expr}{es:List Expr}{to:TE}{t:TA}{name:Str}{apos cpos:Pos}{T id:String}{r:V→List V→Hp→VK→Prop}
theorem eB(pa:PlainAttrs T)(slot:Slot T name id)(hty:typeOf (.builtin id)=pure (.type "method_descriptor"))(hm:Kl X id r)(ho:PE X o to)(ha:PA X (e::es) t)
  (hbase:attributeBase o name X.env (eval o X.env)=eval o X.env:=by rfl)
  (hfew:((backTo cpos (starEach (e::es) X.env)).all (fun x=>!x.1)&&(backToKw cpos (keywordEach [] X.env)).all (fun x=>x.1.isSome)
   &&decide ((e::es).length+([]:List Keyword).length+(if([]:List Keyword).isEmpty then 0 else 1)<30))=true:=by rfl)
  (hline:(apos.endLine==cpos.line)=true:=by rfl)(hs:starEach (e::es) X.env=(false,eval e X.env)::starEach es X.env:=by rfl)(hplain:(backTo cpos (starEach es X.env)).any (·.1)=false:=by rfl):
  PE X (.Call (.Attribute o name apos) (e::es) [] cpos) (Fo X.K T r to t):=by
 intro pins s σ H Q I h;refine wpAny_Call_method_late hbase hfew hline rfl (bh (ho pins s σ H _ I h) fun v s1 ⟨x,H1,I1,r1,ty,q1⟩=>?_);obtain⟨h1,h2⟩:=Kq I1 r1 ty;refine⟨T,id,pa,slot,hty,h1,h2,?_⟩;have hA:=ha cpos pins s1 σ H1 _ I1 q1;rw[hs]at hA⊢;refine Calls.callWith_builtin (by show(false||(backTo cpos (starEach es X.env)).any (·.1))=false;rw[hplain]<;>rfl) (Calls.evalArgs_plain ?_);exact bh hA fun us s2 ⟨vs,H2,I2,r2,q2⟩=>hm pins s2 σ H2 x vs v us Q I2 r1 r2 q2
end
end L2
namespace L2
open PySem PySem.Spec PyProof.Rows
def BC(X:Cx)(id:String)(r:V→List V→Hp→VK→Prop):Prop:=
 ∀(pins:List (Addr×Obj))(s:Shared)(σ:St)(H:Hp)(x:V)(xs:List V)(v:Value)(us:List Value)(Q:VK),Inv X pins σ H s→RelV x v→Vals xs us→r x xs H Q→
  wpAny (model X.prog X.w) X.A (call (.builtin id) (v::us)) (EP X pins σ Q) X.xe s
theorem Vals.one:∀{x:V}{us:List Value},Vals [x] us→∃u,us=[u]∧RelV x u
 |_,_,.cons r .nil=>⟨_,rfl,r⟩
section
variable{X:Cx}{pins:List (Addr×Obj)}{σ:St}{H:Hp}{s:Shared}{l b:Addr}{xs ys zs:List V}
theorem Inv.BD{its its':List Value}{n:Nat}{f:Array Value→Array Value}{t':Nat}(I:Inv X pins σ H s)(hH:H l=some (.lst xs))
  (e:s.heap.get? l=some {cls:=.type "list",data:=.seq its.toArray n})(hf:f its.toArray=its'.toArray)(hv:Vals ys its')(hz:ys.length≤sizeLine):
  Inv X pins σ (upd H l (.lst ys)) {s with heap:=s.heap.update l (Obj.mapSeq f),toks:=t'}:=by
 have q:=PySem.IsL.update e f;rw[hf]at q;refine I.write (x:=l) (e:=l) (by rw[hH];exact trivial) (.inl rfl) (fun b' u hb hu=>(Heap.get?_update_other s.heap (Obj.mapSeq f) (Ne.symm hb)).trans hu) ⟨_,q⟩ ?_;exact⟨hz,its',_,hv,q⟩
theorem Inv.Kr{its:List Value}{t':Nat}(I:Inv X pins σ H s)(hv:Vals ys its)(hz:ys.length≤sizeLine):
  Inv X pins σ (upd H s.heap.objs.size (.lst ys)) {s with heap:=s.heap.push {cls:=.type "list",data:=.seq its.toArray},toks:=t'}:=
 I.laid (fun _ _ q=>Heap.get?_push_of_some _ q) (Nat.le_refl _) ⟨hz,its,0,hv,Heap.get?_push_size _ rfl⟩
theorem Inv.fresh(I:Inv X pins σ H s):H s.heap.objs.size=none:=I.hok.fresh (Nat.le_refl _)
theorem Inv.mX(I:Inv X pins σ H s)(hH:H l=some (.lst xs)):xs.length≤sizeLine∧∃(its:List Value)(n:Nat),Vals xs its∧xs.length=its.length∧s.heap.get? l=some {cls:=.type "list",data:=.seq its.toArray n}:=by
 obtain⟨z,its,n,r,e⟩:=I.hok l _ hH;exact⟨z,its,n,r,r.length,e⟩
theorem Ks{n:Nat}(h:n≤sizeLine):Builtin.List.listTooLong n=false:=by
 unfold Builtin.List.listTooLong;exact decide_eq_false (by omega)
end
section
variable{X:Cx}
inductive BE(x:V)(vs:List V)(H:Hp)(Q:VK):Prop
 |mk:∀l xs y,x=.ref l→vs=[y]→H l=some (.lst xs)→xs.length<sizeLine→Q .aP (upd H l (.lst (xs++[y])))→BE x vs H Q
theorem gb:BC X "list.append" BE:=by
 intro pins s σ H x vs v us Q I rx rv h;obtain⟨l,xs,y,rfl,rfl,hH,hz,q⟩:=h;cases rx;obtain⟨u,rfl,ru⟩:=rv.one;obtain⟨z,its,n,r,hl,e⟩:=I.mX hH;refine call_meets F.slot_list_append ⟨_,e,rfl⟩ F.entry_list_append (F.args_list_append_2 _ _) (PySem.list_append l its.toArray n u (by rw[List.size_toArray];omega)) ⟨e,?_⟩;refine⟨.aP,_,I.BD (its':=its++[u]) hH e (by simp) (r.append (.cons ru .nil)) ?_,rfl,q⟩;rw[List.length_append,List.length_singleton];omega
inductive Fp(x:V)(vs:List V)(H:Hp)(Q:VK):Prop
 |mk:∀l b xs zs,x=.ref l→vs=[.ref b]→H l=some (.lst xs)→H b=some (.lst zs)→xs.length+zs.length≤sizeLine→Q .aP (upd H l (.lst (xs++zs)))→Fp x vs H Q
theorem tD:BC X "list.extend" Fp:=by
 intro pins s σ H x vs v us Q I rx rv h;obtain⟨l,b,xs,zs,rfl,rfl,hH,hB,hz,q⟩:=h;cases rx;obtain⟨u,rfl,ru⟩:=rv.one;cases ru;obtain⟨z,its,n,r,hl,e⟩:=I.mX hH;obtain⟨z2,its2,n2,r2,hl2,e2⟩:=I.mX hB;have hsz:its.toArray.size+its2.toArray.size≤sizeLine:=by rw[List.size_toArray,List.size_toArray];omega
 have hlong:¬(!its.toArray.isEmpty&&Builtin.List.listTooLong (its.toArray.size+its2.toArray.size))=true:=by
  rw[Ks hsz,Bool.and_false];exact Bool.false_ne_true
 refine call_meets F.slot_list_extend ⟨_,e,rfl⟩ F.entry_list_extend (F.args_list_extend_2 _ _)
  (AutoSeq1.list_extend_list_list_0 l its.toArray n b its2.toArray n2 hlong (by rw[List.size_toArray];omega) (by omega)) ⟨e,e2,?_⟩
 refine⟨.aP,_,I.BD (its':=its++its2) hH e (by simp) (r.append r2) ?_,rfl,q⟩;rw[List.length_append];omega
inductive Fq(x:V)(y:V)(H:Hp)(Q:VK):Prop
 |mk:∀l b xs zs,x=.ref l→y=.ref b→H l=some (.lst xs)→H b=some (.lst zs)→xs.length+zs.length≤sizeLine→(∀p,H p=none→Q (.ref p) (upd H p (.lst (xs++zs))))→Fq x y H Q
theorem gg:c_ X (binaryOp .Add) Fq:=by
 intro pins s σ H x y v u Q I rx ry h;obtain⟨l,b,xs,zs,rfl,rfl,hH,hB,hz,q⟩:=h;cases rx;cases ry;obtain⟨z,its,n,r,hl,e⟩:=I.mX hH;obtain⟨z2,its2,n2,r2,hl2,e2⟩:=I.mX hB;refine PySem.P.add_list e e2 ?_ (by rw[List.size_toArray,List.size_toArray];omega);have ea:its.toArray++its2.toArray=(its++its2).toArray:=by simp
 rw[ea];exact⟨.ref _,_,I.Kr (t':=s.toks) (r.append r2) (by rw[List.length_append];omega),rfl,q _ I.fresh⟩
end
end L2
namespace L2
open PySem PySem.Spec PyProof.Rows
theorem Vals.ints:∀{ns:List Int}{us:List Value},Vals (ns.map V.int) us→IntsAre us ns
 |[],us,h=>by
  rw[List.map_nil]at h;cases h;exact IntsAre.nil
 |n::ns,us,h=>by
  rw[List.map_cons]at h;cases h with
  |cons r t=>
   obtain⟨k,rfl⟩:=r;exact IntsAre.cons n k (Vals.ints t)
theorem Vals.Ft:∀{bs:List Bool}{us:List Value},Vals (bs.map V.bl) us→us=bs.map Value.bool
 |[],us,h=>by
  rw[List.map_nil]at h;cases h;rfl
 |b::bs,us,h=>by
  rw[List.map_cons]at h;cases h with
  |cons r t=>
   cases r;rw[Vals.Ft t,List.map_cons]
theorem Vals.BF{a:Addr}{us:List Value}(r:Vals [V.ref a] us):us=[Value.ref a]:=by
 cases r with
 |cons r t=>
  cases t;cases r;rfl
section
variable{prog:Program}{w:World}{A:Around}{E:Value→Shared→Prop}{s:Shared}{l:Addr}{its:List Value}{ns:List Int}{Q:Value→Shared→Prop}
theorem Ku(hh:A.handled=none)(hl:s.heap.IsList l its.toArray)(hi:IntsAre its ns)(hne:0<ns.length)
  (h:∀h' tk M t',(∀b o,s.heap.get? b=some o→h'.get? b=some o)→M∈ns→(∀a,a∈ns→a≤M)→Q (.int M t') {s with heap:=h',toks:=tk}):wpAny (model prog w) A (call (.builtin "max") [.ref l]) Q E s:=by
 obtain⟨xs,e⟩:=hi.allInts.items;have hn:numsOf (intItems xs).toList=ns:=by rw[←e];exact hi.numsOf
 rw[nums_intItems]at hn;subst hn;rw[e]at hl;have hsz:0<xs.size:=by simpa using hne
 refine PySem.max_intList hh hl hsz fun v h' tk hv hk=>?_
 obtain⟨t,rfl⟩:=intItems_at hv;obtain⟨h1,h2⟩:=argBest_gt (numAt xs) (xs.size-1);refine h h' tk _ t hk ?_ fun a ha=>?_
 ·rw[numAt_eq];exact PySem.getD_mem (by rw[List.length_map,Array.length_toList];omega)
 ·obtain⟨j,hj,rfl⟩:=mem_getD ha
  rw[List.length_map,Array.length_toList]at hj;rw[←numAt_eq];exact h2 j (by omega)
theorem Kv(hh:A.handled=none)(hl:s.heap.IsList l its.toArray)(hi:IntsAre its ns)(hne:0<ns.length)
  (h:∀h' tk M t',(∀b o,s.heap.get? b=some o→h'.get? b=some o)→M∈ns→(∀a,a∈ns→M≤a)→Q (.int M t') {s with heap:=h',toks:=tk}):wpAny (model prog w) A (call (.builtin "min") [.ref l]) Q E s:=by
 obtain⟨xs,e⟩:=hi.allInts.items;have hn:numsOf (intItems xs).toList=ns:=by rw[←e];exact hi.numsOf
 rw[nums_intItems]at hn;subst hn;rw[e]at hl;have hsz:0<xs.size:=by simpa using hne
 refine PySem.min_intList hh hl hsz fun v h' tk hv hk=>?_
 obtain⟨t,rfl⟩:=intItems_at hv;obtain⟨h1,h2⟩:=argBest_lt (numAt xs) (xs.size-1);refine h h' tk _ t hk ?_ fun a ha=>?_
 ·rw[numAt_eq];exact PySem.getD_mem (by rw[List.length_map,Array.length_toList];omega)
 ·obtain⟨j,hj,rfl⟩:=mem_getD ha
  rw[List.length_map,Array.length_toList]at hj;rw[←numAt_eq];exact h2 j (by omega)
end
section
variable{X:Cx}
inductive Fv(K:PySem.W.Frag)(vs:List V)(H:Hp)(Q:VK):Prop
 |mk:∀(a:Addr)(ns:List Int),vs=[V.ref a]→ay K H a (ns.map V.int)→0<ns.length→(∀m,m∈ns→(∀y,y∈ns→y≤m)→Q (.int m) H)→Fv K vs H Q
inductive Fw(K:PySem.W.Frag)(vs:List V)(H:Hp)(Q:VK):Prop
 |mk:∀(a:Addr)(ns:List Int),vs=[V.ref a]→ay K H a (ns.map V.int)→0<ns.length→(∀m,m∈ns→(∀y,y∈ns→m≤y)→Q (.int m) H)→Fw K vs H Q
theorem Kw(hc:X.calm=true):iT X (.builtin "max") (Fv X.K):=by
 intro pins s σ H vs us Q I r h;obtain⟨a,ns,rfl,hs,hne,q⟩:=h;obtain⟨its,rv,hl,_⟩:=I.list hs;rw[Vals.BF r];exact Ku (I.ok.hd hc) hl.isList rv.ints hne fun h' tk m t' hk h1 h2=>⟨.int _,H,I.kept hk,⟨_,rfl⟩,q m h1 h2⟩
theorem Ky(hc:X.calm=true):iT X (.builtin "min") (Fw X.K):=by
 intro pins s σ H vs us Q I r h;obtain⟨a,ns,rfl,hs,hne,q⟩:=h;obtain⟨its,rv,hl,_⟩:=I.list hs;rw[Vals.BF r];exact Kv (I.ok.hd hc) hl.isList rv.ints hne fun h' tk m t' hk h1 h2=>⟨.int _,H,I.kept hk,⟨_,rfl⟩,q m h1 h2⟩
end
theorem Kz{prog:Program}{w:World}{A:Around}{E:Value→Shared→Prop}{s:Shared}{l:Addr}{items:Array Value}{Q:Value→Shared→Prop}(hl:s.heap.IsList l items)
  (h:∀s₂:Shared,s₂={s with heap:=s.heap.push {cls:=.type "list_iterator",data:=.fields #[.ref l,.int 0 0]}}→
   (s₂.heap.IsListIter s.heap.objs.size l 0∧s₂.heap.IsList l items)→l≠s.heap.objs.size→Q (.ref s.heap.objs.size) s₂):wpAny (model prog w) A (pyIter (.ref l)) Q E s:=by
 have hlt:l<s.heap.objs.size:=by obtain⟨_,e,_⟩:=hl;exact Heap.lt_size e
 exact wpAny_pyIter_list hl (h _ rfl ⟨⟨_,Heap.get?_push_size _ rfl,rfl,rfl⟩,hl.push _⟩ (Nat.ne_of_lt hlt))
theorem KA{prog:Program}{w:World}{A:Around}{bs:List Bool}{its:List Value}(e:its=bs.map Value.bool):
  TruthOf prog w A (fun i v=>its.toArray[i]? =some v) (fun i=>bs.getD i false):=fun i v s Q E hv hq=>by
 have hv':its[i]? =some v:=by simpa using hv
 rw[e,List.getElem?_map]at hv';obtain⟨b,hb,rfl⟩:=Option.map_eq_some_iff.mp hv';have hg:bs.getD i false=b:=by rw[List.getD_eq_getElem?_getD,hb]<;>rfl
 have hq':Q (bs.getD i false) s:=hq;rw[hg]at hq';exact wpAny_truthy_bool hq'
theorem all_range:∀bs:List Bool,(List.range bs.length).all (fun i=>bs.getD i false)=bs.all id
 |[]=>rfl
 |b::bs=>by
  rw[List.length_cons,List.range_succ_eq_map,List.all_cons,List.all_map,List.all_cons,←all_range bs]
  all_goals rfl
section
variable{X:Cx}
inductive Fx(K:PySem.W.Frag)(vs:List V)(H:Hp)(Q:VK):Prop
 |mk:∀(a:Addr)(bs:List Bool),vs=[V.ref a]→ay K H a (bs.map V.bl)→Q (.bl (bs.all id)) H→Fx K vs H Q
theorem KC(hc:X.calm=true):iT X (.builtin "all") (Fx X.K):=by
 intro pins s σ H vs us Q I r h;obtain⟨a,bs,rfl,hs,q⟩:=h;obtain⟨its,rv,hl,_⟩:=I.list hs;rw[Vals.BF r];have hb:=rv.Ft;refine call_all_walk (Kz hl.isList fun s₂ e2 st hne=>?_);subst e2;refine⟨_,_,_,_,_,_,_,rfl,Walks.list (A:=X.A.in1) (I.ok.hd hc) _ a hne its.toArray,st,KA hb,fun h' tk hk=>?_⟩;refine⟨.bl _,H,I.kept fun b o eo=>hk b o (fun hmem=>?_) (Heap.get?_push_of_some _ eo),?_,q⟩
 ·rcases List.mem_cons.mp hmem with e1|hmem
  ·exact absurd (e1▸Heap.lt_size eo) (Nat.lt_irrefl _)
  ·cases hmem
 ·show Value.bool _=Value.bool _
  rw[←all_range,hb,List.size_toArray,List.length_map]
end
mutual
inductive Dp(K:PySem.W.Frag)(H:Hp):V→PyData→Prop
 |aP:Dp K H .aP .none
 |bl (b:Bool):Dp K H (.bl b) (.bool b)
 |int (i:Int):Dp K H (.int i) (.int i)
 |str (x:Str):Dp K H (.str x) (.str x)
 |lst {a:Addr} {xs:List V} {ds:List PyData}:ay K H a xs→lA K H xs ds→Dp K H (.ref a) (.list ds)
 |tup {a:Addr} {xs:List V} {ds:List PyData}:dW K H a xs→lA K H xs ds→Dp K H (.ref a) (.tuple ds)
inductive lA(K:PySem.W.Frag)(H:Hp):List V→List PyData→Prop
 |nil:lA K H [] []
 |cons {v:V} {vs:List V} {d:PyData} {ds:List PyData}:Dp K H v d→lA K H vs ds→lA K H (v::vs) (d::ds)
end
section
variable{X:Cx}{pins:List (Addr×Obj)}{σ:St}{H:Hp}{s:Shared}
mutual
theorem Dp.reads(I:Inv X pins σ H s):∀(d:PyData)(v:V)(u:Value),Dp X.K H v d→RelV v u→∃as,Reads s.heap u d as
 |.none,_,_,h,r=>by
  cases h;cases r;exact⟨_,Reads.none⟩
 |.bool b,_,_,h,r=>by
  cases h;cases r;exact⟨_,Reads.bool b⟩
 |.int i,_,_,h,r=>by
  cases h;obtain⟨t,rfl⟩:=r;exact⟨_,Reads.int i t⟩
 |.str x,_,_,h,r=>by
  cases h;obtain⟨t,rfl⟩:=r;exact⟨_,Reads.str x t⟩
 |.list ds,_,_,h,r=>by
  cases h with
  |lst hs ha=>
   cases r;obtain⟨its,rv,⟨o,n,ho,hc,_,hd⟩,_⟩:=I.list hs;obtain⟨as,hr⟩:=Dp.readsAll I ds _ its ha rv;exact⟨_,Reads.list ho hc hd hr⟩
 |.tuple ds,_,_,h,r=>by
  cases h with
  |tup hs ha=>
   cases r;obtain⟨its,rv,⟨o,ho,hc,n,hd⟩,_⟩:=I.tuple hs;obtain⟨as,hr⟩:=Dp.readsAll I ds _ its ha rv;exact⟨_,Reads.tuple ho hc hd hr⟩
 |.dict _,_,_,h,_=>by cases h
theorem Dp.readsAll(I:Inv X pins σ H s):∀(ds:List PyData)(vs:List V)(us:List Value),lA X.K H vs ds→Vals vs us→∃as,ReadsAll s.heap us ds as
 |[],_,_,h,r=>by
  cases h;cases r;exact⟨_,ReadsAll.nil⟩
 |d::ds,_,_,h,r=>by
  cases h with
  |cons h1 h2=>
   cases r with
   |cons r1 r2=>
    obtain⟨as,q1⟩:=Dp.reads I d _ _ h1 r1;obtain⟨bs,q2⟩:=Dp.readsAll I ds _ _ h2 r2;exact⟨_,ReadsAll.cons q1 q2⟩
end
end
section
variable{X:Cx}
inductive BG(K:PySem.W.Frag)(x:V)(y:V)(H:Hp)(Q:VK):Prop
 |mk:∀d e,Dp K H x d→Dp K H y e→SeqAt.shaped d=true→SeqAt.shaped e=true→Q (.bl (PyData.eqv d e)) H→BG K x y H Q
theorem Fy(hu:X.A.units+64<cLine):c_ X (compareOp .Eq) (BG X.K):=by
 intro pins s σ H x y v u Q I rx ry h;obtain⟨d,e,hd,he,sd,se,q⟩:=h;obtain⟨as,r1⟩:=Dp.reads I d x v hd rx;obtain⟨bs,r2⟩:=Dp.reads I e y u he ry;exact SeqAt.compareEq_shaped r1 r2 sd se hu ⟨.bl _,H,I,rfl,q⟩
end
end L2
namespace L2
open PySem PySem.Spec PyProof.Rows
abbrev Fz(h:Heap)(c:Addr)(v:Option Value):Prop:=h.IsCell c v
def KD(scope sc:Scope):Scope:=
 {scope with names:=scope.names.map fun(n,k)=>if(k==.free&&sc.kind==.function&&sc.names.lookup n==some .cell)then(n,.cell)else(n,k)}
def eF(cells:List (Str×Addr)):List (Str×NameKind)→List (Str×Addr)→List (Str×Addr)
 |[],acc=>acc
 |(n,k)::r,acc=>if k==.free then eF cells r ((n,(cells.lookup n).getD 0)::acc)else eF cells r acc
theorem FA(env:Env)(f:Str×NameKind→List (Str×Addr)→Sem (ForInStep (List (Str×Addr))))
  (hf:∀n k c,f (n,k) c=if k==.free then(do let a←cellOf env n;pure (.yield ((n,a)::c)))else pure (.yield c)):
  ∀(names:List (Str×NameKind))(acc:List (Str×Addr)),(∀y∈names,y.2=.free→∃c,env.cells.lookup y.1=some c)→forIn names acc f=pure (eF env.cells names acc)
 |[],acc,_=>by rw[List.forIn_nil];rfl
 |(n,k)::r,acc,h=>by
  rw[List.forIn_cons,hf];have ih:=fun acc=>FA env f hf r acc fun y hy=>h y (List.mem_cons_of_mem _ hy)
  unfold eF;by_cases hk:(k==NameKind.free)=true
  ·rw[if_pos hk,if_pos hk]
   obtain⟨c,hc⟩:=h (n,k) List.mem_cons_self (by simpa using hk);have e:cellOf env n=pure c:=by unfold cellOf;rw[hc]
   rw[e];have e2:(env.cells.lookup n).getD 0=c:=by rw[hc];rfl
   rw[e2];exact ih _
  ·rw[if_neg hk,if_neg hk]
   exact ih _
theorem KG{scope:Scope}{env:Env}(h:∀y∈scope.names,y.2=.free→∃c,env.cells.lookup y.1=some c):closureFor scope env=pure (eF env.cells scope.names []):=by
 simp only[closureFor];rw[FA env _ (fun n k c=>rfl) scope.names [] h];rfl
theorem mem_lookup{α:Type}:∀{l:List (Str×α)}{n:Str}{c:α},(n,c)∈l→∃c',l.lookup n=some c'
 |(k,v)::r,n,c,h=>by
  rw[List.lookup_cons];cases hb:n==k with
  |true=>exact⟨_,rfl⟩
  |false=>
   rcases List.mem_cons.mp h with e|h
   ·cases e;simp at hb
   ·exact mem_lookup h
theorem tE{cells:List (Str×Addr)}:∀{names:List (Str×NameKind)}{acc:List (Str×Addr)}{n:Str}{c:Addr},(n,c)∈eF cells names acc→(n,c)∈acc∨((n,.free)∈names∧c=(cells.lookup n).getD 0)
 |[],_,_,_,h=>.inl h
 |(m,k)::r,acc,n,c,h=>by
  unfold eF at h;split at h
  ·rename_i hk
   have hk:k=.free:=by simpa using hk
   rcases tE h with h|⟨h1,h2⟩
   ·rcases List.mem_cons.mp h with e|h
    ·cases e;exact .inr ⟨hk▸List.mem_cons_self,rfl⟩
    ·exact .inl h
   ·exact .inr ⟨List.mem_cons_of_mem _ h1,h2⟩
  ·rcases tE h with h|⟨h1,h2⟩
   ·exact .inl h
   ·exact .inr ⟨List.mem_cons_of_mem _ h1,h2⟩
theorem BH{cells:List (Str×Addr)}:∀{names:List (Str×NameKind)}{acc:List (Str×Addr)}{p:Str×Addr},p∈acc→p∈eF cells names acc
 |[],_,_,h=>h
 |(m,k)::r,acc,p,h=>by
  unfold eF;split
  ·exact BH (List.mem_cons_of_mem _ h)
  ·exact BH h
theorem BI{cells:List (Str×Addr)}:∀{names:List (Str×NameKind)}{acc:List (Str×Addr)}{n:Str},(n,.free)∈names→(n,(cells.lookup n).getD 0)∈eF cells names acc
 |(m,k)::r,acc,n,h=>by
  unfold eF;rcases List.mem_cons.mp h with e|h
  ·cases e
   exact BH List.mem_cons_self
  ·split
   ·exact BI h
   ·exact BI h
theorem o_:∀{names:List (Str×NameKind)}{h:Heap}{acc:List (Str×Addr)}{x:Str}{c:Addr},(x,c)∈cellsFrom h.objs.size names acc→
  (x,c)∈acc∨((x,.cell)∈names∧h.objs.size≤c∧Fz (pushCells h names) c none)
 |[],_,_,_,_,h=>.inl h
 |(n,k)::r,h,acc,x,c,hm=>by
  unfold cellsFrom at hm;unfold pushCells;split at hm
  ·rename_i hk
   rw[if_pos hk];have hk:k=.cell:=by simpa using hk
   rw[←Heap.size_push h {cls:=.type "cell",data:=.cell none}]at hm;rcases o_ hm with hm|⟨h1,h2,h3⟩
   ·rcases List.mem_cons.mp hm with e|hm
    ·cases e
     exact .inr ⟨hk▸List.mem_cons_self,Nat.le_refl _,_,pushCells_keeps r _ _ _ (Heap.get?_push_size _ rfl),rfl⟩
    ·exact .inl hm
   ·rw[Heap.size_push]at h2
    exact .inr ⟨List.mem_cons_of_mem _ h1,Nat.le_of_succ_le h2,h3⟩
  ·rename_i hk
   rw[if_neg hk];rcases o_ hm with hm|⟨h1,h2,h3⟩
   ·exact .inl hm
   ·exact .inr ⟨List.mem_cons_of_mem _ h1,h2,h3⟩
theorem tF:∀{names:List (Str×NameKind)}{n:Nat}{acc:List (Str×Addr)}{p:Str×Addr},p∈acc→p∈cellsFrom n names acc
 |[],_,_,_,h=>h
 |(m,k)::r,n,acc,p,h=>by
  unfold cellsFrom;split
  ·exact tF (List.mem_cons_of_mem _ h)
  ·exact tF h
theorem BJ:∀{names:List (Str×NameKind)}{n:Nat}{acc:List (Str×Addr)}{x:Str},(x,.cell)∈names→∃c,(x,c)∈cellsFrom n names acc
 |(m,k)::r,n,acc,x,h=>by
  unfold cellsFrom;rcases List.mem_cons.mp h with e|h
  ·cases e
   exact⟨n,tF List.mem_cons_self⟩
  ·split
   ·exact BJ h
   ·exact BJ h
theorem BK:∀{names:List (Str×NameKind)}{h:Heap}{acc:List (Str×Addr)}{x y:Str}{c:Addr},(∀p∈acc,p.2<h.objs.size)→(∀x y c,(x,c)∈acc→(y,c)∈acc→x=y)→
  (x,c)∈cellsFrom h.objs.size names acc→(y,c)∈cellsFrom h.objs.size names acc→x=y
 |[],_,_,_,_,_,_,hi,h1,h2=>hi _ _ _ h1 h2
 |(n,k)::r,h,acc,x,y,c,hl,hi,h1,h2=>by
  unfold cellsFrom at h1 h2;split at h1
  ·rename_i hk
   rw[if_pos hk]at h2;rw[←Heap.size_push h {cls:=.type "cell",data:=.cell none}]at h1 h2;refine BK (h:=h.push _) (fun p hp=>?_) (fun x y c a b=>?_) h1 h2
   ·rw[Heap.size_push]
    rcases List.mem_cons.mp hp with rfl|hp
    ·exact Nat.lt_succ_self _
    ·exact Nat.lt_succ_of_lt (hl p hp)
   ·rcases List.mem_cons.mp a with e|a<;>rcases List.mem_cons.mp b with e'|b
    ·cases e;cases e';rfl
    ·cases e;exact absurd (hl _ b) (Nat.lt_irrefl _)
    ·cases e';exact absurd (hl _ a) (Nat.lt_irrefl _)
    ·exact hi _ _ _ a b
  ·rename_i hk
   rw[if_neg hk]at h2;exact BK hl hi h1 h2
theorem KH{M:Model}{A:Around}{E:Value→Shared→Prop}{s:Shared}{scope:Scope}{globals:Addr}{closure:List (Str×Addr)}{qual:Str}{func:Option Addr}{code:Value}{around:Env}{builtins:Addr}{Q:Env→Shared→Prop}
  (h:Q (newEnv scope s.heap.objs.size globals (cellsFrom (s.heap.objs.size+1) scope.names closure) qual func code (some around) builtins)
   {s with heap:=pushCells (s.heap.push {cls:=.type "dict",data:=.dict #[]}) scope.names}):
  wpAny M A (newFunctionEnv scope globals closure [] qual func code (some around) builtins) Q E s:=by
 simp only[newFunctionEnv,Option.isSome_some,if_true];refine wpAny_bind (wpAny_alloc ?_);refine wpAny_bind (wpAny_layCells _ (fun n k c=>rfl) scope.names closure _ _ ?_);rw[show({s with heap:=s.heap.push {cls:=.type "dict",data:=.dict #[]}}:Shared).heap.objs.size=s.heap.objs.size+1 from Heap.size_push ..];rw[List.forIn_nil];exact wpAny_bind (wpAny_pure (wpAny_pure h))
theorem BL{sc:Scope}:∀{names:List (Str×NameKind)}{x:Str}{k:NameKind},
  (names.map fun(n,k)=>if(k==NameKind.free&&sc.kind==.function&&sc.names.lookup n==some .cell)then(n,NameKind.cell)else(n,k)).lookup x=some k→
  ∃k',names.lookup x=some k'∧(k=k'∨(k'=.free∧k=.cell))
 |[],_,_,h=>by simp at h
 |(n,k₀)::r,x,k,h=>by
  have ih:=@BL sc r x k;have h':List.lookup x ((if(k₀==NameKind.free&&sc.kind==.function&&sc.names.lookup n==some .cell)=true then(n,NameKind.cell)else(n,k₀))::(r.map _))=some k:=h;cases hx:x==n with
  |true=>
   simp only[List.lookup_cons,hx];by_cases hc:(k₀==NameKind.free&&sc.kind==.function&&sc.names.lookup n==some .cell)=true
   ·rw[if_pos hc]at h'
    simp only[List.lookup_cons,hx]at h';cases h';simp only[Bool.and_eq_true,beq_iff_eq]at hc;exact⟨k₀,rfl,.inr ⟨hc.1.1,rfl⟩⟩
   ·rw[if_neg hc]at h'
    simp only[List.lookup_cons,hx]at h';cases h';exact⟨_,rfl,.inl rfl⟩
  |false=>
   simp only[List.lookup_cons,hx];by_cases hc:(k₀==NameKind.free&&sc.kind==.function&&sc.names.lookup n==some .cell)=true
   ·rw[if_pos hc]at h'
    simp only[List.lookup_cons,hx]at h';exact ih h'
   ·rw[if_neg hc]at h'
    simp only[List.lookup_cons,hx]at h';exact ih h'
structure iz(N:List Str)(sc scope:Scope)(own:List (Str×Nat)):Prop where
 kind:scope.kind=.function
 uniq:∀y∈scope.names,scope.names.lookup y.1=some y.2
 ix:∀p∈own,N[p.2]? =some p.1
 free:∀y∈scope.names,y.2=.free→sc.names.lookup y.1=some .cell∨sc.names.lookup y.1=some .free
 own:∀y∈scope.names,y.2=.local∨y.2=.cell→y.1∈own.map (·.1)∨y.1∉N
def wipe(σ:St):List Nat→St
 |[]=>σ
 |v::vs=>(wipe σ vs).set v none
theorem BN(σ:St):∀vs:List Nat,(wipe σ vs).length=σ.length
 |[]=>rfl
 |v::vs=>by unfold wipe;rw[List.length_set,BN σ vs]
theorem BO{σ:St}{i:Nat}{x:V}:∀{vs:List Nat},(wipe σ vs)[i]? =some (some x)→σ[i]? =some (some x)∧i∉vs
 |[],h=>⟨h,by simp⟩
 |v::vs,h=>by
  unfold wipe at h;by_cases hi:v=i
  ·subst hi
   by_cases hv:v<(wipe σ vs).length
   ·rw[List.getElem?_set_self hv]at h;cases h
   ·rw[List.getElem?_eq_none (by simpa using hv)]at h;cases h
  ·rw[List.getElem?_set_ne hi]at h
   obtain⟨h1,h2⟩:=BO h;exact⟨h1,by simp only[List.mem_cons,not_or];exact⟨fun e=>hi e.symm,h2⟩⟩
abbrev Cx.fC(X:Cx)(s:Shared)(H:Hp)(scope:Scope)(cenv:Env)(fp:List Addr):Cx:={X with cR:=s,j4:=H,env:=cenv,outer:=X.stack,ex:=fp,fn:=fun x=>scope.names.lookup x==some .cell,pn:=[],xe:=fun _ _=>False}
section
variable{X:Cx}{pins:List (Addr×Obj)}{σ:St}{H:Hp}{s:Shared}
theorem KI{scope:Scope}{own:List (Str×Nat)}{fp:List Addr}(I:Inv X pins σ H s)(ok:iz X.N X.env.scope scope own)(hN:X.N.Nodup)(hfp:∀b∈fp,iS X pins H b∧b<s.heap.objs.size):
  Inv (X.fC s H scope (compEnvC scope (cellsFrom (s.heap.objs.size+1) scope.names (eF X.env.cells scope.names [])) s.heap.objs.size X.env) fp) [] (wipe σ (own.map (·.2))) H {s with heap:=pushCells (s.heap.push {cls:=.type "dict",data:=.dict #[]}) scope.names}:=by
 have hfree:∀y∈scope.names,y.2=.free→∃c,X.env.cells.lookup y.1=some c:=fun y hy e=>by
  rcases ok.free y hy e with k|k
  ·exact I.ok.has _ (.inl k)
  ·exact I.ok.has _ (.inr k)
 generalize hcenv:compEnvC scope (cellsFrom (s.heap.objs.size+1) scope.names (eF X.env.cells scope.names [])) s.heap.objs.size X.env=cenv;have kp:∀b o,s.heap.get? b=some o→(pushCells (s.heap.push {cls:=.type "dict",data:=.dict #[]}) scope.names).get? b=some o:=fun b o e=>pushCells_keeps _ _ _ _ (Heap.get?_push_of_some _ e)
 have hL:cenv.locals=s.heap.objs.size:=by rw[←hcenv];rfl
 have hcl:cenv.cells=cellsFrom (s.heap.objs.size+1) scope.names (eF X.env.cells scope.names []):=by rw[←hcenv];rfl
 have hsc:cenv.scope=KD scope X.env.scope:=by rw[←hcenv];rfl
 rw[←Heap.size_push s.heap {cls:=.type "dict",data:=.dict #[]}]at hcl
 have cm:∀{y c},(y,c)∈eF X.env.cells scope.names []→X.env.cells.lookup y=some c∧c<s.heap.objs.size:=fun{y c} hm=>by
  rcases tE hm with hm|⟨h1,rfl⟩
  ·cases hm
  ·obtain⟨c,hc⟩:=hfree _ h1 rfl
   rw[hc];obtain⟨w,z⟩:=I.cell _ _ hc;exact⟨rfl,z.lt⟩
 have mem:∀{y c},cenv.cells.lookup y=some c→(X.env.cells.lookup y=some c∧c<s.heap.objs.size)∨(s.heap.objs.size+1≤c∧Fz (pushCells (s.heap.push {cls:=.type "dict",data:=.dict #[]}) scope.names) c none):=fun{y c} e=>by
  rw[hcl]at e;rcases o_ (PySem.mem_of_lookup e)with hm|⟨_,h2,h3⟩
  ·exact .inl (cm hm)
  ·rw[Heap.size_push]at h2;exact .inr ⟨h2,h3⟩
 have look:∀{y},scope.names.lookup y=some .free→∃c,cenv.cells.lookup y=some c∧X.env.cells.lookup y=some c:=fun{y} hl=>by
  have hy:(y,NameKind.free)∈scope.names:=PySem.mem_of_lookup hl;obtain⟨c',e'⟩:=mem_lookup (tF (names:=scope.names) (n:=(s.heap.push {cls:=.type "dict",data:=.dict #[]}).objs.size) (BI (cells:=X.env.cells) (acc:=[]) hy));rw[←hcl]at e';refine⟨c',e',?_⟩;rw[hcl]at e';rcases o_ (PySem.mem_of_lookup e')with hm|⟨h1,_,_⟩
  ·exact(cm hm).1
  ·have:=ok.uniq _ h1
   rw[hl]at this;cases this
 have okB:(X.fC s H scope cenv fp).Ok:=by
  refine⟨I.ok.mod,by show cenv.scope.kind=_;rw[hsc];exact ok.kind,by show cenv.globals=_;rw[←hcenv];exact I.ok.glob,by show cenv.builtins=_;rw[←hcenv];exact I.ok.blt,by show s.heap.objs.size≤cenv.locals;rw[hL];exact Nat.le_refl _,
   fun y z c e1 e2=>?_,fun y hy=>?_,fun y c z e=>?_,I.ok.hd,I.ok.frames,.inl rfl,fun b hb=>⟨?_,fun y c e z=>?_⟩,I.bs,Nat.le_trans I.ok.gp I.sz,fun b o e hb=>?_,fun b hb z=>?_,I.stack,I.A2⟩
  ·have e1:cenv.cells.lookup y=some c:=e1
   have e2:cenv.cells.lookup z=some c:=e2;rw[hcl]at e1 e2;refine BK (fun p hp=>?_) (fun y z c a b=>I.ok.inj y z c (cm a).1 (cm b).1) (PySem.mem_of_lookup e1) (PySem.mem_of_lookup e2);rw[Heap.size_push];exact Nat.lt_succ_of_lt (cm (y:=p.1) (c:=p.2) hp).2
  ·show∃c,cenv.cells.lookup y=some c
   have key:∀k,cenv.kindOf y=some k→(k=.cell∨k=.free)→∃c,cenv.cells.lookup y=some c:=fun k hk hk'=>by
    unfold Env.kindOf at hk;rw[hsc]at hk;obtain⟨k',e,r⟩:=BL hk
    have:k'=.cell∨k'=.free:=by
     rcases r with rfl|⟨rfl,_⟩
     ·exact hk'
     ·exact .inr rfl
    rcases this with rfl|rfl
    ·obtain⟨c,hm⟩:=BJ (n:=(s.heap.push {cls:=.type "dict",data:=.dict #[]}).objs.size) (acc:=eF X.env.cells scope.names []) (PySem.mem_of_lookup e)
     obtain⟨c',e'⟩:=mem_lookup hm;exact⟨c',by rw[hcl];exact e'⟩
    ·obtain⟨c,h1,_⟩:=look e
     exact⟨c,h1⟩
   rcases hy with hy|hy
   ·exact key _ hy (.inl rfl)
   ·exact key _ hy (.inr rfl)
  ·have z:(scope.names.lookup y==some NameKind.cell)=true:=z
   have z:scope.names.lookup y=some .cell:=by simpa using z
   have e:cenv.cells.lookup y=some c:=e;rw[hcl]at e;rcases o_ (PySem.mem_of_lookup e)with hm|⟨_,h2,_⟩
   ·rcases tE hm with hm|⟨h1,_⟩
    ·cases hm
    ·have q:=ok.uniq _ h1
     rw[z]at q;cases q
   ·rw[Heap.size_push]at h2
    exact Nat.le_of_succ_le h2
  ·show b≠cenv.locals
   rw[hL];exact Nat.ne_of_lt (hfp b hb).2
  ·have e:cenv.cells.lookup y=some c:=e
   rcases mem e with⟨h1,_⟩|⟨h1,_⟩
   ·exact(hfp b hb).1.2.2.2.2.1 y c h1 z
   ·have h2:s.heap.objs.size+1≤b:=by rw[←z];exact h1
    exact absurd (Nat.lt_of_lt_of_le (hfp b hb).2 (Nat.le_of_succ_le h2)) (Nat.lt_irrefl _)
  ·rcases(hfp b hb).1.2.2.2.1 with z|z
   ·exact I.ok.j6 b o e z
   ·exact absurd (Nat.lt_of_lt_of_le (Heap.lt_size e) (Nat.le_trans I.ok.gp z)) (Nat.lt_irrefl _)
  ·rcases List.mem_cons.mp (I.mQ b z)with z|z
   ·exact(hfp b hb).1.2.1 z
   ·exact(hfp b hb).1.2.2.1 z
 refine⟨okB,rfl,I.bare,Un.kept kp,⟨fun _=>none,?_,fun i y av e1 e2 e3=>?_⟩,fun y c e=>?_,?_,fun y c e=>?_,fun p hp=>?_,I.hok.kept kp,by rw[BN];exact I.len⟩
 ·show Heap.Ns _ cenv.locals _
  rw[hL];exact Heap.Ns.keeps (Heap.Ns.new ..) fun b o e=>pushCells_keeps _ _ _ _ e
 ·obtain⟨e2,hne⟩:=BO e2
  have hfr:scope.names.lookup y=some .free∧(cenv.kindOf y=some .cell∨cenv.kindOf y=some .free):=by
   have key:∀k,cenv.scope.names.lookup y=some k→k=.local∨k=.cell∨k=.free→scope.names.lookup y=some .free∧(cenv.kindOf y=some .cell∨cenv.kindOf y=some .free):=fun k hk hk'=>by
    have hk0:=hk;rw[hsc]at hk;obtain⟨k',e,r⟩:=BL hk
    have no:¬(k'=.local∨k'=.cell):=fun hh=>by
     rcases ok.own _ (PySem.mem_of_lookup e) hh with e'|e'
     ·obtain⟨p,hp,hpy⟩:=List.mem_map.mp e'
      have e3:=ok.ix p hp;have:p.1=y:=hpy;rw[this]at e3;exact hne (List.mem_map.mpr ⟨p,hp,A3 hN e3 e1⟩)
     ·exact e' (List.mem_of_getElem? e1)
    rcases r with rfl|⟨rfl,rfl⟩
    ·rcases hk' with rfl|rfl|rfl
     ·exact absurd (.inl rfl) no
     ·exact absurd (.inr rfl) no
     ·exact⟨e,.inr hk0⟩
    ·exact⟨e,.inl hk0⟩
   have e3:oW cenv.scope y:=e3;rcases e3 with e3|e3|e3
   ·exact key _ e3 (.inl rfl)
   ·exact key _ e3 (.inr (.inl rfl))
   ·exact key _ e3 (.inr (.inr rfl))
  obtain⟨m,hn,hl⟩:=I.loc;have hvis:oW X.env.scope y:=(ok.free _ (PySem.mem_of_lookup hfr.1) rfl).elim (fun k=>.inr (.inl k)) (fun k=>.inr (.inr k));obtain⟨w,r,q⟩:=hl i y av e1 e2 hvis;refine⟨w,r,.inr ⟨hfr.2,?_⟩⟩;obtain⟨c,h1,h2⟩:=look hfr.1;rcases q with⟨k,_⟩|⟨_,c',e',z⟩
  ·have k:X.env.scope.names.lookup y=some .local:=k
   rcases ok.free _ (PySem.mem_of_lookup hfr.1) rfl with k'|k'<;>rw[show X.env.scope.names.lookup y=_ from k']at k<;>cases k
  ·rw[h2]at e';cases e'
   exact⟨c,h1,z.keeps kp⟩
 ·have e:cenv.cells.lookup y=some c:=e
  rcases mem e with⟨h1,_⟩|⟨_,z⟩
  ·obtain⟨w,z⟩:=I.cell y c h1
   exact⟨w,z.keeps kp⟩
  ·exact⟨_,z⟩
 ·show H cenv.locals=none
  rw[hL];exact I.hok.fresh (Nat.le_refl _)
 ·have e:cenv.cells.lookup y=some c:=e
  rcases mem e with⟨h1,_⟩|⟨h1,_⟩
  ·exact I.d9 y c h1
  ·exact I.hok.fresh (Nat.le_of_succ_le h1)
 ·exact absurd (show p∈([]:List (Addr×Obj))++[]from hp) (by simp)
theorem KJ{E:Value→Shared→Prop}{D:Addr}{xs:List V}{y:V}{v:Value}{Q:Value→Shared→Prop}(I:Inv X pins σ H s)(hD:H D=some (.lst xs))(hz:xs.length<sizeLine)(r:RelV y v)
  (h:∀s',Inv X pins σ (upd H D (.lst (xs++[y]))) s'→Q .none s'):wpAny (model X.prog X.w) X.A (call (.builtin "list.append") [.ref D,v]) Q E s:=by
 obtain⟨hz',its,n,ri,e⟩:=I.hok D _ hD;have hl:=ri.length;refine append_at (hsz:=by rw[List.size_toArray];omega) e fun h' sb ho'=>?_
 refine h {s with heap:=h'} (I.write (t':=s.toks) (by rw[hD];trivial) (.inl rfl) (fun b u hb q=>(sb.2 b hb).trans q) ⟨_,ho'⟩ ⟨by rw[List.length_append];exact hz,its++[v],n+1,ri.append (.cons r .nil),?_⟩);rw[ho'];simp
def pq(X:Cx)(ifs:List Expr)(t:TT):Prop:=
 ∀(pins:List (Addr×Obj))(s:Shared)(σ:St)(H:Hp)(Q:Bool→Hp→Prop),Inv X pins σ H s→t σ H Q→
  wpAny (model X.prog X.w) X.A (forIn ifs true fun c r=>if r=true then do let ok←isTrue c X.env (eval c X.env);pure (ForInStep.yield ok)else pure (ForInStep.yield r)) (TP X pins σ Q) X.xe s
def KL:TT:=fun _ H Q=>Q true H
theorem tG:pq X [] KL:=fun _ _ _ H _ I h=>wpAny_tests_nil ⟨H,I,h⟩
theorem tH{c:Expr}{t:TT}(h:PT X c t):pq X [c] t:=fun pins s σ H Q I hw=>wpAny_tests_one (h pins s σ H Q I hw)
end
theorem mY{α:Type}{t:Sem α}{Q Q':α→Shared→Prop}{M:Model}{A:Around}{E:Value→Shared→Prop}{s:Shared}(h:wpAny M A t Q (fun _ _=>False) s)(hQ:∀a s,Q a s→Q' a s):wpAny M A t Q' E s:=wpAny_mono h hQ fun _ _ z=>False.elim z
theorem KN{prog:Program}{w:World}{A:Around}{R:Result→Shared→Prop}{s:Shared}{elt target iter:Expr}{ifs:List Expr}{scope:Scope}{pos:Pos}{it acc:Value}{env:Env}(I:Nat→Shared→Prop)
  (turn:∀n s,I n s→wpAny (model prog w) A (pyNext it) (fun r s₁=>match r with
   |none=>R (.ok .next) s₁
   |some v=>wpAny (model prog w) A (letOwnedTupleGo target it v) (fun _ s₁'=>wpAny (model prog w) A (assign target env v) (fun _ s₂=>
     wpAny (model prog w) A (forIn ifs true fun c r=>if r=true then do let ok←isTrue c env (eval c env);pure (ForInStep.yield ok)else pure (ForInStep.yield r)) (fun ok s₃=>
      if ok=true then wpAny (model prog w) A (eval elt env) (fun x s₄=>
       wpAny (model prog w) A (call (.builtin "list.append") [acc,x]) (fun _ s₅=>∃m,m<n∧I m s₅) (notedBy (model prog w) A env fun e s'=>R (.error e) s') s₄) (notedBy (model prog w) A env fun e s'=>R (.error e) s') s₃
      else∃m,m<n∧I m s₃) (notedBy (model prog w) A env fun e s'=>R (.error e) s') s₂) (notedBy (model prog w) A env fun e s'=>R (.error e) s') s₁') (notedBy (model prog w) A env fun e s'=>R (.error e) s') s₁) (notedBy (model prog w) A env fun e s'=>R (.error e) s') s)
  (n:Nat)(h:I n s):
  codeAny (model prog w) A (.compLoop (.ListComp elt [⟨target,iter,ifs,0⟩] scope pos) 0 it acc env) R s:=by
 refine codeAny_loop rfl I (fun n s hI=>?_) n h;show wpAny _ A ((compTurn (.ListComp elt [⟨target,iter,ifs,0⟩] scope pos) 0 it acc env).onRaise (fun x=>do noteFrame x env;theTreesLotGoes x)) _ _ s;refine wpAny_noted ?_;rw[compTurn_list];refine wpAny_bind (wpAny_standAt (wpAny_bind (wpAny_mono (turn n s hI) (fun r s₁ h₁=>?_) fun _ _ h'=>h')));cases r with
 |none=>exact wpAny_pure h₁
 |some v=>
  refine wpAny_bind (wpAny_mono h₁ (fun _ s₁' h₁'=>?_) fun _ _ h'=>h');refine wpAny_bind (wpAny_mono h₁' (fun _ s₂ h₂=>wpAny_bind (wpAny_mono h₂ (fun ok s₃ h₃=>?_) fun _ _ h'=>h')) fun _ _ h'=>h');cases ok with
  |false=>exact wpAny_pure ⟨rfl,h₃⟩
  |true=>
   exact wpAny_bind (wpAny_bind (wpAny_mono h₃ (fun x s₄ h₄=>wpAny_bind (wpAny_mono h₄ (fun _ s₅ h₅=>wpAny_pure (wpAny_pure ⟨rfl,h₅⟩)) fun _ _ h'=>h')) fun _ _ h'=>h'))
section
variable{X:Cx}
def lB(wi:TI)(g:TG)(tt:TT)(te:TE)(vs:List Nat):TE:=fun σ H Q=>wi σ H fun J H1=>∀D,H1 D=none→∃W:Nat→Nat→Hp→Prop,(∃m,W 0 m (upd H1 D (.lst [])))∧∀i m H,W i m H→
 (J.stop i H∧Q (.ref D) H)∨(J.go i H∧∃Nx:Hp→Prop,(∀H',Nx H'→∃m',m'<m∧W (i+1) m' H')∧∀x H',J.mU i H x H'→g x (wipe σ vs) H' fun σ2 H2=>wipe σ2 vs=wipe σ vs∧tt σ2 H2 fun b H3=>
  if b=true then te σ2 H3 fun y H4=>∃acc,H4 D=some (.lst acc)∧acc.length<sizeLine∧Nx (upd H4 D (.lst (acc++[y])))else Nx H3)
theorem FD{pins:List (Addr×Obj)}{s:Shared}{σ:St}{H:Hp}{Q:VK}{elt tg iter:Expr}{ifs:List Expr}{scope:Scope}{own:List (Str×Nat)}{pos pos':Pos}{wi:TI}{g:TG}{tt:TT}{te:TE}{use:Option (Value→Sem Unit)}{Qf:Value→Shared→Prop}
  (hc:X.calm=true)(hN:X.N.Nodup)(I:Inv X pins σ H s)(hi:PI X tg iter wi)(ok:iz X.N X.env.scope scope own)
  (hg:∀(s:Shared)(H:Hp)(C:Addr)(cl:List (Str×Addr))(fp:List Addr),PG (X.fC s H scope (compEnvC scope cl C X.env) fp) tg g)(ht:∀(s:Shared)(H:Hp)(C:Addr)(cl:List (Str×Addr))(fp:List Addr),pq (X.fC s H scope (compEnvC scope cl C X.env) fp) ifs tt)
  (he:∀(s:Shared)(H:Hp)(C:Addr)(cl:List (Str×Addr))(fp:List Addr),PE (X.fC s H scope (compEnvC scope cl C X.env) fp) elt te)(hs:∀x,foldedSetIterable iter X.env x=pure x)
  (h:lB wi g tt te (own.map (·.2)) σ H Q)
  (hRR:∀D C s' m H',Inv X pins σ H' s'→Q (.ref D) H'→s'.heap.Ns C m→iS X pins H' C→compPost (model X.prog X.w) X.A X.xe use Qf (.ref D) C (.ok .next) s'):
  wpAny (model X.prog X.w) X.A (comprehension (.ListComp elt [⟨tg,iter,ifs,0⟩] scope pos) scope X.env pos' (newList []) false (eval iter X.env) use) Qf X.xe s:=by
 have hfree:∀y∈scope.names,y.2=.free→∃c,X.env.cells.lookup y.1=some c:=fun y hy e=>by
  rcases ok.free y hy e with k|k
  ·exact I.ok.has _ (.inl k)
  ·exact I.ok.has _ (.inr k)
 refine wpAny_comprehension_free (use:=use) rfl hs (KG hfree) ok.kind (fun y hy e=>by rw[ok.uniq y hy,e])
  (bh (hi pins s σ H _ I h) fun xv s1 hx=>bh hx fun itv s2 h2=>?_)
 obtain⟨it,fp,tn,J,H2,e,I2,T,st2,f2,q⟩:=h2;subst e;refine wpAny_newObj_type (KH ?_) (by show 0≤sizeLine;decide);generalize hD:s2.heap.objs.size=D;have hDn:H2 D=none:=I2.hok.fresh (Nat.le_of_eq hD);obtain⟨W,⟨m0,w0⟩,turn⟩:=q D hDn;generalize hs3:({s2 with heap:=s2.heap.push {cls:=.type "list",data:=.seq ([]:List Value).toArray}}:Shared)=s3
 have I3:Inv X pins σ (upd H2 D (.lst [])) s3:=by
  rw[←hs3];refine I2.laid (t':=s2.toks) (fun b o e=>Heap.get?_push_of_some _ e) (Nat.le_of_eq hD) ⟨Nat.zero_le _,[],0,.nil,?_⟩;rw[←hD];exact Heap.get?_push_size _ rfl
 have h3:s3.heap=s2.heap.push {cls:=.type "list",data:=.seq ([]:List Value).toArray}:=by rw[←hs3]
 have sz:∀b∈fp,b<s2.heap.objs.size:=fun b hb=>by
  obtain⟨o,e,_⟩:=T.obj _ _ st2 b hb;exact Heap.lt_size e
 have f3:∀b∈fp,iS X pins (upd H2 D (.lst [])) b∧b<s3.heap.objs.size:=fun b hb=>by
  have hlt:=sz b hb;refine⟨⟨?_,(f2 b hb).2⟩,by rw[h3,Heap.size_push];exact Nat.lt_succ_of_lt hlt⟩;rw[au (by rw[←hD];exact Nat.ne_of_lt hlt)];exact(f2 b hb).1
 have st3:tn 0 s3.heap:=T.keep _ _ _ st2 fun b _ o e=>by rw[h3];exact Heap.get?_push_of_some _ e
 have I4:=KI I3 ok hN f3;have pg:=hg s3 (upd H2 D (.lst [])) s3.heap.objs.size (cellsFrom (s3.heap.objs.size+1) scope.names (eF X.env.cells scope.names [])) fp;have pt:=ht s3 (upd H2 D (.lst [])) s3.heap.objs.size (cellsFrom (s3.heap.objs.size+1) scope.names (eF X.env.cells scope.names [])) fp;have pe:=he s3 (upd H2 D (.lst [])) s3.heap.objs.size (cellsFrom (s3.heap.objs.size+1) scope.names (eF X.env.cells scope.names [])) fp;show codeAny _ _ (.compStart (.ListComp elt [⟨tg,iter,ifs,0⟩] scope pos) 0 (.ref it) (.ref D) (compEnvC scope (cellsFrom (s3.heap.objs.size+1) scope.names (eF X.env.cells scope.names [])) s3.heap.objs.size X.env)) (compPost (model X.prog X.w) X.A X.xe use Qf (.ref D) s3.heap.objs.size) {s3 with heap:=pushCells (s3.heap.push {cls:=.type "dict",data:=.dict #[]}) scope.names};have nfp:∀b∈fp,(upd H2 D (.lst [])) b=none:=fun b hb=>(f3 b hb).1.1
 generalize hce:compEnvC scope (cellsFrom (s3.heap.objs.size+1) scope.names (eF X.env.cells scope.names [])) s3.heap.objs.size X.env=ce at I4 pg pt pe⊢;have cL:ce.locals=s3.heap.objs.size:=by subst hce;rfl
 generalize hH3:upd H2 D (.lst [])=H3 at I3 I4 pg pt pe w0 nfp f3;generalize hs4:({s3 with heap:=pushCells (s3.heap.push {cls:=.type "dict",data:=.dict #[]}) scope.names}:Shared)=s4 at I4⊢;have st4:tn 0 s4.heap:=T.keep _ _ _ st3 fun b _ o e=>by rw[←hs4];exact pushCells_keeps _ _ _ _ (Heap.get?_push_of_some _ e)
 have stat:∀{σ':St}{H':Hp}{s':Shared},Inv (X.fC s3 H3 scope ce fp) [] σ' H' s'→(∀b∈fp,H' b=none)→∀b∈fp,iS (X.fC s3 H3 scope ce fp) [] H' b:=fun{σ' H' s'} I' hn b hb=>
  ⟨hn b hb,(I'.ok.k_ b hb).1,I'.ok.j7 b hb,.inl hb,fun x c e=>(I'.ok.k_ b hb).2 x c e,fun p hp=>absurd (show p∈([]:List (Addr×Obj))++[]from hp) (by simp)⟩
 have loop:codeAny (model X.prog X.w) X.A (.compLoop (.ListComp elt [⟨tg,iter,ifs,0⟩] scope pos) 0 (.ref it) (.ref D) ce) (compPost (model X.prog X.w) X.A X.xe use Qf (.ref D) s3.heap.objs.size) s4:=by
  refine KN (fun n s'=>∃i H',Inv (X.fC s3 H3 scope ce fp) [] (wipe σ (own.map (·.2))) H' s'∧tn i s'.heap∧(∀b∈fp,H' b=none)∧W i n H') ?_ m0 ⟨0,H3,I4,st4,nfp,w0⟩;rintro n s5 ⟨i,H5,I5,st5,n5,w5⟩;rcases turn i n H5 w5 with⟨stop,qq⟩|⟨go,Nx,hNx,step⟩
  ·have td:=T.done (X.fC s3 H3 scope ce fp) rfl rfl rfl hc i [] s5 _ H5 (fun _ _=>False) I5 (stat I5 n5) st5 stop
   refine mY td fun r s6 ⟨hr,I6⟩=>?_
   subst hr;have I7:Inv X pins σ H5 s6:=I3.Ez (ch:=fp) I6.os I6.base I6.hok I6.bare fun b hb=>⟨(f3 b hb).1.2.2.2.1,(f3 b hb).1.2.1,(f3 b hb).1.2.2.2.2.1,(f3 b hb).1.2.2.2.2.2⟩
   have nC:H5 s3.heap.objs.size=none:=by
    have z:H5 ce.locals=none:=I6.free;rw[cL]at z;exact z
   obtain⟨m,hn,_⟩:=I6.loc;have hn:s6.heap.Ns ce.locals m:=hn;rw[cL]at hn;exact hRR D s3.heap.objs.size s6 m H5 I7 qq hn (I3.oZ (Nat.le_refl _) nC)
  ·have ti:=T.item (X.fC s3 H3 scope ce fp) rfl rfl rfl hc i [] s5 _ H5 (fun _ _=>False) I5 (stat I5 n5) st5 go
   refine mY ti fun r s6 ⟨u,hr,h6⟩=>?_
   subst hr;refine mY h6 fun _ s7 ⟨x,H7,I7,r7,y7,st7,n7⟩=>?_
   have I7':=I7.pinned (stat I7 n7) (T.obj _ _ st7);refine mY (pg _ s7 _ H7 x u _ I7' r7 (step x H7 y7)) fun _ s8 ⟨σ8,H8,I8,hw8,q8⟩=>?_
   refine mY (pt _ s8 σ8 H8 _ I8 q8) fun b s9 ⟨H9,I9,q9⟩=>?_
   have fin:∀{s':Shared}{H':Hp},Inv (X.fC s3 H3 scope ce fp) ([]++o5 fp s7.heap) σ8 H' s'→Nx H'→∃m,m<n∧∃i H',Inv (X.fC s3 H3 scope ce fp) [] (wipe σ (own.map (·.2))) H' s'∧tn i s'.heap∧(∀b∈fp,H' b=none)∧W i m H':=fun{s' H'} I' nx=>by
    obtain⟨m',hm,w'⟩:=hNx H' nx
    have pin':∀b∈fp,∀o,s7.heap.get? b=some o→s'.heap.get? b=some o∧H' b=none:=fun b hb o e=>
     let z:=I'.pin (b,o) (List.mem_append_right _ (List.mem_append_right _ (Bc hb e)))
     ⟨z.1,z.2.1⟩
    have hl:(wipe σ (own.map (·.2))).length=σ8.length:=by rw[←hw8,BN]
    refine⟨m',hm,i+1,H',(I'.sO (pins:=[])).weak hl (fun j v e=>?_),T.keep _ _ _ st7 fun b hb o e=>(pin' b hb o e).1,fun b hb=>?_,w'⟩
    ·rw[←hw8]at e
     exact(BO e).1
    ·obtain⟨o,e,_⟩:=T.obj _ _ st7 b hb
     exact(pin' b hb o e).2
   cases b with
   |false=>
    simp only[Bool.false_eq_true,if_false]at q9⊢;exact fin I9 q9
   |true=>
    simp only[if_true]at q9⊢;refine mY (pe _ s9 σ8 H9 _ I9 q9) fun z s10 ⟨yv,H10,I10,r10,acc,hD10,hz10,nx⟩=>?_
    exact KJ (X:=X.fC s3 H3 scope ce fp) I10 hD10 hz10 r10 fun s11 I11=>fin I11 nx
 exact codeAny_compStart_list loop (T.self X.A 0 _ _ _ st4 loop)
theorem pA{elt tg iter:Expr}{ifs:List Expr}{scope:Scope}{own:List (Str×Nat)}{pos:Pos}{wi:TI}{g:TG}{tt:TT}{te:TE}(hc:X.calm=true)(hN:X.N.Nodup)(hi:PI X tg iter wi)(ok:iz X.N X.env.scope scope own)
  (hg:∀(s:Shared)(H:Hp)(C:Addr)(cl:List (Str×Addr))(fp:List Addr),PG (X.fC s H scope (compEnvC scope cl C X.env) fp) tg g)(ht:∀(s:Shared)(H:Hp)(C:Addr)(cl:List (Str×Addr))(fp:List Addr),pq (X.fC s H scope (compEnvC scope cl C X.env) fp) ifs tt)
  (he:∀(s:Shared)(H:Hp)(C:Addr)(cl:List (Str×Addr))(fp:List Addr),PE (X.fC s H scope (compEnvC scope cl C X.env) fp) elt te)(hs:∀x,foldedSetIterable iter X.env x=pure x:=by intro _;rfl):
  PE X (.ListComp elt [⟨tg,iter,ifs,0⟩] scope pos) (lB wi g tt te (own.map (·.2))):=by
 intro pins s σ H Q I h;rw[eval_ListComp];refine FD hc hN I hi ok hg ht he hs h fun D C s' m H' I' q hn f=>⟨m,hn,fun h'' sb=>?_⟩
 obtain⟨f0,f1,f2,f3,f4,f5⟩:=f;exact⟨.ref D,H',I'.turned (t':=s'.toks) (fun b o hb e=>(sb.2 b hb).trans e) f0 f1 f3 f4 f5,rfl,q⟩
theorem BP{i:Nat}{y:Str}{py:Pos}{elt tg iter:Expr}{ifs:List Expr}{scope:Scope}{own:List (Str×Nat)}{pos spos:Pos}{wi:TI}{g:TG}{tt:TT}{te:TE}(hc:X.calm=true)(hN:X.N.Nodup)(hy:X.N[i]? =some y)(hyl:X.env.scope.names.lookup y=some .local)
  (hsw:swapsWith (.ListComp elt [⟨tg,iter,ifs,0⟩] scope pos) (some (.Name y py)) spos.line X.env=pure true)(hi:PI X tg iter wi)(ok:iz X.N X.env.scope scope own)
  (hg:∀(s:Shared)(H:Hp)(C:Addr)(cl:List (Str×Addr))(fp:List Addr),PG (X.fC s H scope (compEnvC scope cl C X.env) fp) tg g)(ht:∀(s:Shared)(H:Hp)(C:Addr)(cl:List (Str×Addr))(fp:List Addr),pq (X.fC s H scope (compEnvC scope cl C X.env) fp) ifs tt)
  (he:∀(s:Shared)(H:Hp)(C:Addr)(cl:List (Str×Addr))(fp:List Addr),PE (X.fC s H scope (compEnvC scope cl C X.env) fp) elt te)(hs:∀x,foldedSetIterable iter X.env x=pure x:=by intro _;rfl):
  PS X (.Assign [.Name y py] (.ListComp elt [⟨tg,iter,ifs,0⟩] scope pos) spos) (sN (lB wi g tt te (own.map (·.2))) (lu i)):=by
 intro pins s σ H D I h;rw[exec_Assign_Name_used _ _ _ _ hsw];refine wpAny_bind (wpAny_standAt (wpAny_bind ?_));show wpAny _ X.A (do let _←comprehension (.ListComp elt [⟨tg,iter,ifs,0⟩] scope pos) scope X.env (firstIterPos [⟨tg,iter,ifs,0⟩] pos) (newList []) false (eval iter X.env) (some (assign (.Name y py) X.env))) _ _ s;have h:lB wi g tt te (own.map (·.2)) σ H (fun x H1=>lu i x σ H1 D.nx):=h;refine wpAny_bind (bh (FD (Qf:=fun _ s'=>SP X pins D .next s') hc hN I hi ok hg ht he hs h fun L C s' m H' I' q hn f=>?_) fun _ s' hq=>wpAny_pure (wpAny_pure hq));show wpAny _ _ (assign (.Name y py) X.env (.ref L)) _ _ _;refine wpAny_assign_Name (Ey (v:=V.ref L) I' hN hy (.inl hyl) rfl (fun s2 I2 ⟨a,sb,ha⟩=>?_) (.inr hyl));obtain⟨f0,f1,f2,f3,f4,f5⟩:=f
 have haC:C≠a:=by
  rcases ha with z|z
  ·rw[z];exact f1
  ·exact fun e=>f4 y a z e.symm
 refine⟨m,hn.sameBut sb haC,fun h3 sb3=>?_⟩;exact⟨_,H',I2.turned (t':=s2.toks) (fun b o hb e=>(sb3.2 b hb).trans e) f0 f1 f3 f4 f5,q⟩
end
end L2
namespace L2
open PySem PySem.Spec PyProof.Rows
section
variable{X:Cx}{pins:List (Addr×Obj)}{σ:St}{H:Hp}{s:Shared}{h':Heap}
theorem Inv.KO{t':Nat}{ch:List Addr}{T:Addr}{ob:HO}(I:Inv X pins σ H s)(k:∀b o,b∉ch→s.heap.get? b=some o→h'.get? b=some o)(hf:∀b∈ch,iS X pins H b)(hT:s.heap.objs.size≤T)
  (new:cO X.prog X.w (upd H T ob) h' T ob):Inv X pins σ (upd H T ob) {s with heap:=h',toks:=t'}:=by
 have hn:H T=none:=I.hok.fresh hT
 have nit:∀b u,H b=some u→b∉ch:=fun b u e z=>by
  have q:=(hf b z).1;rw[q]at e;cases e
 refine I.step (g':=s.gens) (d':=s.drawn) (ch:=ch) (fun b hb=>⟨(hf b hb).2.2.2.1,(hf b hb).2.1,(hf b hb).2.2.2.2.1,(hf b hb).2.2.2.2.2⟩) (fun b o _ _ hc e _=>k b o hc e) (fun b o _ _ hc e _=>⟨o.slots,k b o hc e⟩)
  (fun b o _ e n=>?_) (fun b o hc e=>⟨o,k b o hc e⟩) (fun b xs e=>?_) (fun b o u e=>?_) (fun b ps e=>⟨#[],?_⟩) (fun m hm=>?_) (fun b u e=>?_) I.bare
 ·rw[au (Nat.ne_of_lt (Nat.lt_of_lt_of_le (Heap.lt_size e) hT))];exact n
 ·rw[au (aV e hn)];exact e
 ·rw[au (aV e hn)];exact e
 ·rw[au (aV e hn),e];simp
 ·obtain⟨o,es,ep,ho,r⟩:=hm
  exact⟨o,es,ep,k _ o (fun z=>(hf _ z).2.1 rfl) ho,r⟩
 ·by_cases hb:b=T
  ·subst hb
   rw[aj]at e;cases e;exact new
  ·rw[au hb]at e
   refine(I.hok b u e).stay (fun c v hc q=>k c v ?_ q) (fun c q=>by rw[au (aV q hn)];exact q) fun c xs q=>by rw[au (aV q hn)];exact q
   rcases hc with z|z
   ·rw[z];exact nit b u e
   ·exact nit c _ z
end
section
variable{X:Cx}
theorem FE{tg:Expr}{pins:List (Addr×Obj)}{σ:St}{H:Hp}{s:Shared}{R:It→Hp→Prop}{J:It}{tn:Nat→Heap→Prop}{tk:Nat}(I:Inv X pins σ H s)(o:Obj)
  (T:Turn X.prog X.w X.K tg J [s.heap.objs.size] s.heap.objs.size tn)(st:tn 0 (s.heap.push o))(q:R J H):A_ X pins σ tg R (.ref s.heap.objs.size) {s with heap:=s.heap.push o,toks:=tk}:=by
 refine⟨s.heap.objs.size,[s.heap.objs.size],tn,J,H,rfl,I.kept fun b ob e=>Heap.get?_push_of_some _ e,T,st,fun b hb=>?_,q⟩;have e:b=s.heap.objs.size:=by simpa using hb
 subst e;exact I.oZ (Nat.le_refl _) (I.hok.fresh (Nat.le_refl _))
end
def FF(x:Str):It:=⟨fun i _=>i<x.cps.size,fun i H v H'=>H'=H∧∃c,x.cps[i]? =some c∧v=.str ⟨#[c]⟩,fun i _=>x.cps.size≤i⟩
theorem FG{P:Program}{w:World}{K:PySem.W.Frag}{tg:Expr}(it:Addr)(x:Str)(t:Tok)(ty:String)(hty:ty="str_ascii_iterator"∨ty="str_iterator"):
  Turn P w K tg (FF x) [it] it (fun i h=>h.IsStrIter it ty x t i)where
 mem:=by simp
 obj:=fun i h st b hb=>by
  have e:b=it:=by simpa using hb
  subst e;obtain⟨o,e,c,d⟩:=st;exact⟨o,e,fun v z=>by rw[d]at z;cases z⟩
 keep:=fun i h h' st k=>let⟨o,ho,r⟩:=st;⟨o,k it (by simp) o ho,r⟩
 item:=by
  intro X hP hw hK hc i pins s σ H E I hf st hg;subst hP hw hK;obtain⟨f0,f1,f2,f3,f4,f5⟩:=hf it (by simp)
  have W:Walks X.prog X.w X.A it [it] [it] x.cps.size (SignAt x) (fun i h=>h.IsStrIter it ty x t i):=by
   rcases hty with e|e
   ·rw[e];exact Walks.strAscii (I.ok.hd hc) it x t
   ·rw[e];exact Walks.strWide (I.ok.hd hc) it x t
  have hno:["enumerate","zip","dict_itemiterator","dict_reverseitemiterator","odict_iterator","itertools.zip_longest","itertools.pairwise"].contains ty=false:=by
   rcases hty with e|e
   ·rw[e];decide
   ·rw[e];decide
  refine W.item i s _ _ hg st fun v h' tk hv st' kk=>?_
  obtain⟨c,u,hcx,rfl⟩:=hv;have I1:Inv X pins σ H {s with heap:=h',toks:=tk}:=I.turned (fun b o hb e=>kk b o (by simpa using hb) e) f0 f1 f3 f4 f5;obtain⟨oi,e,cc,dd⟩:=id st';exact⟨_,rfl,Ba (s:={s with heap:=h',toks:=tk}) e cc dd hno ⟨.str ⟨#[c]⟩,H,I1,⟨u,rfl⟩,⟨rfl,c,hcx,rfl⟩,st',fun b hb=>(hf b hb).1⟩⟩
 done:=by
  intro X hP hw hK hc i pins s σ H E I hf st hg;subst hP hw hK;obtain⟨f0,f1,f2,f3,f4,f5⟩:=hf it (by simp);have hx:x.cps[i]? =none:=Array.getElem?_eq_none hg;rcases hty with e|e
  ·rw[e]at st
   exact wpAny_pyNext_ascii_end (I.ok.hd hc) st hx fun h' eb=>⟨rfl,I.turned (t':=s.toks) (fun b o hb e=>eb b o hb e) f0 f1 f3 f4 f5⟩
  ·rw[e]at st
   exact wpAny_pyNext_wide_end (I.ok.hd hc) st hx fun h' eb=>⟨rfl,I.turned (t':=s.toks) (fun b o hb e=>eb b o hb e) f0 f1 f3 f4 f5⟩
 self:=fun A i s Q E st h=>by
  rcases hty with e|e
  ·rw[e]at st;exact wpAny_pyIter_striter_ascii st h
  ·rw[e]at st;exact wpAny_pyIter_striter_wide st h
def FH(te:TE):TI:=fun σ H R=>te σ H fun v H1=>∃x,v=.str x∧R (FF x) H1
theorem KP{X:Cx}{tg e:Expr}{te:TE}(he:PE X e te):PI X tg e (FH te):=by
 intro pins s σ H R I h;refine bh (he pins s σ H _ I h) fun v s1 ⟨y,H1,I1,r1,x,ex,q⟩=>?_
 subst ex;obtain⟨t,rfl⟩:=r1;cases ha:x.cps.all (·<128)
 ·exact wpAny_pyIter_wide ha (FE (tk:=s1.toks) I1 _ (FG _ x t "str_iterator" (.inr rfl)) ⟨_,Heap.get?_push_size _ rfl,rfl,rfl⟩ q)
 ·exact wpAny_pyIter_ascii ha (FE (tk:=s1.toks) I1 _ (FG _ x t "str_ascii_iterator" (.inl rfl)) ⟨_,Heap.get?_push_size _ rfl,rfl,rfl⟩ q)
def pB(K:PySem.W.Frag)(a:Addr):It:=
 ⟨fun i H=>∃(xs:List V)(x:V),ay K H a xs∧xs[i]? =some x,fun i H v H'=>∃T x,v=.ref T∧H T=none∧H'=upd H T (.tup [.int (i:Nat),x])∧∀xs,ay K H a xs→xs[i]? =some x,fun i H=>∃xs:List V,ay K H a xs∧xs.length≤i⟩
theorem KQ{P:Program}{w:World}{K:PySem.W.Frag}{elts:List Expr}{kk:Nat}{tpos:Pos}(a e it:Addr):
  Turn P w K (.Tuple elts kk tpos) (pB K a) [e,it] e (fun i h=>(∃old,IsEnum h e it ((i:Nat):Int) old)∧h.IsListIter it a i∧e≠it)where
 mem:=by simp
 obj:=fun i h st b hb=>by
  obtain⟨⟨old,he⟩,⟨o,ho,hc,hd⟩,_⟩:=st;have e':b=e∨b=it:=by simpa using hb
  rcases e' with z|z
  ·rw[z];exact⟨_,he,fun v q=>nomatch q⟩
  ·rw[z];exact⟨o,ho,fun v q=>by rw[hd]at q;cases q⟩
 keep:=fun i h h' st k=>let⟨⟨old,he⟩,hi,hne⟩:=st;⟨⟨old,k e (by simp) _ he⟩,hi.at fun o q=>k it (by simp) o q,hne⟩
 item:=by
  intro X hP hw hK hc i pins s σ H E I hf st hg;subst hP hw hK;obtain⟨⟨old,he⟩,hit,hne⟩:=st;obtain⟨xs,x,hq,hx⟩:=hg;obtain⟨its,rv,p,hz⟩:=I.list hq;obtain⟨u,hu,ru⟩:=rv.get hx;have hel:e<s.heap.objs.size:=Heap.lt_size he;have hil:it<s.heap.objs.size:=by obtain⟨_,q,_⟩:=hit;exact Heap.lt_size q
  refine wpAny_pyNext_enum_item he hit p.isList (x:=u) (by simpa using hu) hne fun h' ho hit' hT hsz hk=>?_
  refine⟨_,rfl,wpAny_letOwnedTupleGo_enum (s:={s with heap:=h',toks:=s.toks+1}) ho fun h'' he' sb=>?_⟩;have hT2:h''.get? s.heap.objs.size=some {cls:=.type "tuple",data:=.seq #[.int i s.toks,u]}:=(sb.2 _ (Nat.ne_of_gt hel)).trans hT
  have new:cO X.prog X.w (upd H s.heap.objs.size (.tup [.int (i:Nat),x])) h'' s.heap.objs.size (.tup [.int (i:Nat),x]):=
   ⟨by show 2≤sizeLine;decide,[.int i s.toks,u],.cons ⟨_,rfl⟩ (.cons ru .nil),⟨_,hT2,rfl,_,rfl⟩⟩
  have I1:Inv X pins σ (upd H s.heap.objs.size (.tup [.int (i:Nat),x])) {s with heap:=h'',toks:=s.toks+1}:=
   I.KO (ch:=[e,it]) (fun b ob hb q=>(sb.2 b (fun z=>hb (by simp[z]))).trans (hk b ob (fun z=>hb (by simp[z])) (fun z=>hb (by simp[z])) q)) hf (Nat.le_refl _) new
  refine⟨.ref s.heap.objs.size,_,I1,rfl,⟨_,x,rfl,I.hok.fresh (Nat.le_refl _),rfl,fun ys hy=>by rw[I.EE hy hq];exact hx⟩,⟨⟨u,?_⟩,hit'.at fun o q=>(sb.2 it (Ne.symm hne)).trans q,hne⟩,fun b hb=>?_⟩
  ·have e1:((i+1:Nat):Int)=(i:Int)+1:=by omega
   rw[e1];exact he'
  ·have hb':b<s.heap.objs.size:=by
    have e':b=e∨b=it:=by simpa using hb
    rcases e' with z|z
    ·rw[z];exact hel
    ·rw[z];exact hil
   rw[au (Nat.ne_of_lt hb')];exact(hf b hb).1
 done:=by
  intro X hP hw hK hc i pins s σ H E I hf st hg;subst hP hw hK;obtain⟨⟨old,he⟩,hit,hne⟩:=st;obtain⟨xs,hq,hx⟩:=hg;obtain⟨its,rv,p,hz⟩:=I.list hq;obtain⟨f0,f1,f2,f3,f4,f5⟩:=hf it (by simp);have hl:=rv.length;exact wpAny_pyNext_enum_end (I.ok.hd hc) he hit p.isList (by simp;omega) fun h' eb=>⟨rfl,I.turned (t':=s.toks) (fun b o hb q=>eb b o hb q) f0 f1 f3 f4 f5⟩
 self:=fun A i s Q E st h=>let⟨⟨_,he⟩,_⟩:=st;wpAny_pyIter_enum he h
def FI(K:PySem.W.Frag)(ta:TA):TI:=fun σ H R=>ta σ H fun vs H1=>∃a xs,vs=[.ref a]∧ay K H1 a xs∧R (pB K a) H1
theorem FJ{X:Cx}{e:Expr}{ta:TA}{p pos tpos:Pos}{elts:List Expr}{kk:Nat}(hg:Gl X "enumerate")(hm:X.mg "enumerate"=none)(ha:PA X [e] ta)(hs:starEach [e] X.env=[(false,eval e X.env)]:=by rfl):
  PI X (.Tuple elts kk tpos) (.Call (.Name "enumerate" p) [e] [] pos) (FI X.K ta):=by
 intro pins s σ H R I h;refine Call_ (oX I hg hm boot_enumerate (PyProof.Rows.callWith_type1 (bh (ha pos pins s σ H _ I h) fun us s1 ⟨vs,H1,I1,r1,q1⟩=>?_) hs rfl));obtain⟨a,xs,ex,hq,q⟩:=q1;subst ex;cases r1 with
 |cons r rr=>
  cases rr;cases r;obtain⟨its,rv,p',hz⟩:=I1.list hq;refine call_enumerate_list p'.isList fun h' he hit hsz hk=>wpAny_pyIter_enum he ?_
  have I2:Inv X pins σ H1 {s1 with heap:=h'}:=I1.kept (t':=s1.toks) hk;refine⟨s1.heap.objs.size+1,[s1.heap.objs.size+1,s1.heap.objs.size],_,_,H1,rfl,I2,KQ a (s1.heap.objs.size+1) s1.heap.objs.size,⟨⟨.none,he⟩,hit,Nat.succ_ne_self _⟩,fun b hb=>?_,q⟩;have e':b=s1.heap.objs.size+1∨b=s1.heap.objs.size:=by simpa using hb
  have hle:s1.heap.objs.size≤b:=by
   rcases e' with z|z
   ·rw[z];exact Nat.le_add_right _ _
   ·rw[z];exact Nat.le_refl _
  exact I1.oZ hle (I1.hok.fresh hle)
end L2
namespace L2
open PySem PySem.Spec PyProof.Rows
def inClass(s:Stmt)(j:Nat):Stmt:=match s with
 |.ClassDef _ _ _ body _ _ _ _ _ _ _=>body.getD j (.Pass ⟨0,0,0,0⟩)
 |_=>.Pass ⟨0,0,0,0⟩
def fT(s:Stmt):Arguments:=match s with
 |.FunctionDef _ a _ _ _ _ _ _ _ _=>a
 |_=>{posonlyargs:=[],args:=[],vararg:=none,kwonlyargs:=[],kw_defaults:=[],kwarg:=none,defaults:=[]}
def e8(s:Stmt):List Stmt:=match s with
 |.FunctionDef _ _ b _ _ _ _ _ _ _=>b
 |_=>[]
def aE(s:Stmt):Scope:=match s with
 |.FunctionDef _ _ _ _ _ _ sc _ _ _=>sc
 |_=>{kind:=.function,names:=[],isGenerator:=false,isCoroutine:=false}
abbrev af:f_:=fun _ _ _ _ _ _=>False
abbrev E0:XK:=fun _ _ _=>False
theorem az{X:Cx}:Passes af X E0:=fun _ _ _ _ _ _ _ h=>h.elim
structure aK(K:PySem.W.Frag)(x qual:Str)(st:Stmt)(f:Addr)(fd:FuncData):Prop where
 ex:∃(oc:Value)(od:Option Addr)(kV doc pm:Value)(an:Option Addr)(cdv ct:Value)(osl:Array (Option Value)),
  fd=PySem.W.fnOf x qual (fT st) (e8 st) (aE st) .none kV doc pm an cdv ct∧K.lookup f=some ⟨oc,od,.func fd,osl⟩∧PySem.W.codeIn K cdv qual=true
 kp:PySem.W.keepIn K (.ref f)=true
section
variable{P:Program}{w:World}{K:PySem.W.Frag}{mg:Str→Option Value}{base:Heap}
theorem aK.ok{x qual:Str}{st:Stmt}{f:Addr}{fd:FuncData}{N ps:List Str}{k:Nat}{sp:Sp}(F:aK K x qual st f fd)(S:aL N ps (aE st))(len:∀vs H Q E,sp vs H Q E→vs.length=ps.length)
  (hbody:∀(cdv:Value)(A:Around)(outer:List Env)(s:Shared)(H:Hp)(vs:List V)(Q:VK)(E:XK),bX k (A.deeper (envOfC qual (aE st) s.heap.objs.size f cdv))→sp vs H Q E→
   ∃t,fB (iy af P w K mg base N qual (aE st) f cdv A outer s H E).mR (e8 st) t∧t {nx:=fun _ H'=>Q .aP H',rt:=Q} (start N vs) H):aF P w K mg base af (k+1) f fd ps sp:=by
 obtain⟨oc,od,kV,doc,pm,an,cdv,ct,osl,rfl,lk,hcd⟩:=F.ex;refine Bs lk hcd S len fun A outer s H vs Q E hr hsp=>?_
 obtain⟨t,h,q⟩:=hbody cdv A outer s H vs Q E hr hsp;exact⟨t,h.mR,q⟩
theorem aK.binds{x qual:Str}{st:Stmt}{f:Addr}{fd:FuncData}{ps:List Str}(F:aK K x qual st f fd)
  (h:∀(kV doc pm:Value)(an:Option Addr)(cdv ct:Value)(us:List Value),us.length=ps.length→bindArgs (PySem.W.fnOf x qual (fT st) (e8 st) (aE st) .none kV doc pm an cdv ct) ⟨us,[]⟩=pure (ps.zip us)):Binds K fd ps []:=by
 obtain⟨oc,od,kV,doc,pm,an,cdv,ct,osl,rfl,lk,hcd⟩:=F.ex;exact .all (h kV doc pm an cdv ct)
theorem BQ{x qual:Str}{st:Stmt}{f:Addr}{oc:Value}{od an:Option Addr}{osl:Array (Option Value)}{kV doc pm cdv ct:Value}(l:K.lookup f=some ⟨oc,od,.func (PySem.W.fnOf x qual (fT st) (e8 st) (aE st) .none kV doc pm an cdv ct),osl⟩)
  (c:PySem.W.codeIn K cdv qual=true)(k:PySem.W.keepIn K (.ref f)=true):aK K x qual st f (PySem.W.fnOf x qual (fT st) (e8 st) (aE st) .none kV doc pm an cdv ct):=⟨⟨oc,od,kV,doc,pm,an,cdv,ct,osl,rfl,l,c⟩,k⟩
end
section
variable{X:Cx}
theorem pv(i:Nat){x:Str}{pos:Pos}(hN:X.N[i]? =some x:=by rfl)(hv:oW X.env.scope x:=by first|exact Or.inl rfl|exact Or.inr (Or.inl rfl)|exact Or.inr (Or.inr rfl))(hd:(x==("__debug__":Str))=false:=by decide)
  (hcd:(x==("__classdict__":Str))=false:=by decide):PE X (.Name x pos) (gq i):=Jq hN hv hd hcd
end
theorem bB{c A B:Prop}[Decidable c](h1:c→A)(h2:¬c→B):if c then A else B:=by
 by_cases h:c
 ·rw[if_pos h]
  exact h1 h
 ·rw[if_neg h]
  exact h2 h
def aI(H H':Hp):Prop:=∀b o,H b=some o→H' b=some o
theorem aI.trans{H H1 H2:Hp}(a:aI H H1)(b:aI H1 H2):aI H H2:=fun c o h=>b c o (a c o h)
theorem aI.free{H H':Hp}(e:aI H H'){l:Addr}(h:H' l=Option.none):H l=Option.none:=by
 cases q:H l with
 |none=>rfl
 |some o=>
  rw[e l o q]at h;cases h
theorem aI.seq{K:PySem.W.Frag}{H H':Hp}{a:Addr}{xs:List V}(e:aI H H')(h:ay K H a xs):ay K H' a xs:=by
 rcases h with(h|⟨o,h⟩)|h
 ·exact .inl (.inl (e _ _ h))
 ·exact .inl (.inr ⟨o,e _ _ h⟩)
 ·exact .inr h
theorem at_of{xs:List V}{z:Int}{j:Nat}{v:V}(e:z=(j:Int))(h:xs[j]? =some v):gF xs z=some v:=by
 rw[e];exact E9 h
end L2
section
namespace L2
open PySem PySem.Spec PyProof.Rows
open PySem.W (WData Codec OpenSpec Well WellAll ReadsW ReadsAllW)
mutual
inductive Dw(K:PySem.W.Frag)(H:Hp):V→WData→Prop
 |aP:Dw K H .aP .none
 |bl (b:Bool):Dw K H (.bl b) (.bool b)
 |int (i:Int):Dw K H (.int i) (.int i)
 |str (x:Str):Dw K H (.str x) (.str x)
 |fk (b:Array UInt8):Dw K H (.fk b) (.bytes b.toList)
 |lst {a:Addr} {xs:List V} {ds:List WData}:ay K H a xs→g6 K H xs ds→Dw K H (.ref a) (.list ds)
 |tup {a:Addr} {xs:List V} {ds:List WData}:dW K H a xs→g6 K H xs ds→Dw K H (.ref a) (.tuple ds)
inductive g6(K:PySem.W.Frag)(H:Hp):List V→List WData→Prop
 |nil:g6 K H [] []
 |cons {v:V} {vs:List V} {d:WData} {ds:List WData}:Dw K H v d→g6 K H vs ds→g6 K H (v::vs) (d::ds)
end
theorem FL{K:PySem.W.Frag}{H:Hp}:∀ns:List Int,g6 K H (ns.map V.int) (ns.map WData.int)
 |[]=>.nil
 |n::r=>.cons (.int n) (FL r)
theorem FN{K:PySem.W.Frag}{H:Hp}:∀(ns:List Int)(xs:List V),g6 K H xs (ns.map WData.int)→xs=ns.map V.int
 |[],xs,h=>by
  cases h;rfl
 |n::r,xs,h=>by
  cases h with
  |cons h1 h2=>
   cases h1;rw[FN r _ h2]<;>rfl
section
variable{P:Program}{w:World}{K:PySem.W.Frag}{H:Hp}{h:Heap}{R:PySem.W.WRecords}{cl:Str→Option Addr}
theorem KR{a:Addr}{xs:List V}(hok:cy P w H h)(KX:K.In h)(q:ay K H a xs):∃(its:List Value)(o:Obj)(n:Nat),Vals xs its∧h.get? a=some o∧o.cls=.type "list"∧o.data=.seq its.toArray n:=by
 rcases q with q|⟨o,its,n,e,hc,_,hd,_,hv⟩
 ·obtain⟨_,its,n,hv,e⟩:=(show cO P w H h a (.lst xs)from q.ok hok)
  exact⟨its,_,n,hv,e,rfl,rfl⟩
 ·exact⟨its.toList,o,n,hv,KX _ _ e,hc,by simp[hd]⟩
theorem KS{a:Addr}{xs:List V}(hok:cy P w H h)(KX:K.In h)(q:dW K H a xs):∃(its:List Value)(o:Obj)(n:Nat),Vals xs its∧h.get? a=some o∧o.cls=.type "tuple"∧o.data=.seq its.toArray n:=by
 rcases q with q|⟨o,its,n,e,hc,hd,_,hv⟩
 ·obtain⟨_,its,hv,o,e,hc,n,hd⟩:=(show cO P w H h a (.tup xs)from q.ok hok)
  exact⟨its,o,n,hv,e,hc,hd⟩
 ·exact⟨its.toList,o,n,hv,KX _ _ e,hc,by simp[hd]⟩
mutual
theorem Dw.reads(hok:cy P w H h)(KX:K.In h):∀(d:WData)(v:V)(u:Value),Dw K H v d→RelV v u→∃as,ReadsW R cl h u d as
 |.none,_,_,x,r=>by
  cases x;cases r;exact⟨_,ReadsW.none⟩
 |.bool b,_,_,x,r=>by
  cases x;cases r;exact⟨_,ReadsW.bool b⟩
 |.int i,_,_,x,r=>by
  cases x;obtain⟨t,rfl⟩:=r;exact⟨_,ReadsW.int i t⟩
 |.str s,_,_,x,r=>by
  cases x;obtain⟨t,rfl⟩:=r;exact⟨_,ReadsW.str s t⟩
 |.bytes b,_,_,x,r=>by
  cases x;obtain⟨t,rfl⟩:=r;exact⟨_,ReadsW.bytes _ t⟩
 |.list ds,_,_,x,r=>by
  cases x with
  |lst hs ha=>
   cases r;obtain⟨its,o,n,rv,ho,hc,hd⟩:=KR hok KX hs;obtain⟨as,hr⟩:=Dw.readsAll hok KX ds _ its ha rv;exact⟨_,ReadsW.list ho hc hd hr⟩
 |.tuple ds,_,_,x,r=>by
  cases x with
  |tup hs ha=>
   cases r;obtain⟨its,o,n,rv,ho,hc,hd⟩:=KS hok KX hs;obtain⟨as,hr⟩:=Dw.readsAll hok KX ds _ its ha rv;exact⟨_,ReadsW.tuple ho hc hd hr⟩
 |.float _,_,_,x,_=>by cases x
 |.dict _,_,_,x,_=>by cases x
 |.bytearray _,_,_,x,_=>by cases x
 |.set _,_,_,x,_=>by cases x
 |.frozenset _,_,_,x,_=>by cases x
 |.obj _ _,_,_,x,_=>by cases x
theorem Dw.readsAll(hok:cy P w H h)(KX:K.In h):∀(ds:List WData)(vs:List V)(us:List Value),g6 K H vs ds→Vals vs us→∃as,ReadsAllW R cl h us ds as
 |[],_,_,x,r=>by
  cases x;cases r;exact⟨_,ReadsAllW.nil⟩
 |d::ds,_,_,x,r=>by
  cases x with
  |cons h1 h2=>
   cases r with
   |cons r1 r2=>
    obtain⟨as,q1⟩:=Dw.reads hok KX d _ _ h1 r1;obtain⟨bs,q2⟩:=Dw.readsAll hok KX ds _ _ h2 r2;exact⟨_,ReadsAllW.cons q1 q2⟩
end
end
mutual
def gG:WData→Bool
 |.none=>true
 |.bool _=>true
 |.int _=>true
 |.str _=>true
 |.bytes _=>true
 |.list xs=>iA xs
 |.tuple xs=>iA xs
 |_=>false
def iA:List WData→Bool
 |[]=>true
 |x::r=>gG x&&iA r
end
theorem FO{α:Type}{f:α→WData}(h:∀a,gG (f a)=true):∀l:List α,iA (l.map f)=true
 |[]=>rfl
 |x::r=>by
  show(gG (f x)&&iA (r.map f))=true;rw[h x,FO h r]<;>rfl
theorem kD:∀(c:Codec)(a:c.denote),gG (c.enc a)=true
 |.unit,_=>rfl
 |.bool,_=>rfl
 |.int _ _,_=>rfl
 |.nat _ _,_=>rfl
 |.u8,_=>rfl
 |.bytes _ _,_=>rfl
 |.text _ _ _ _,_=>rfl
 |.list _ _ c,a=>FO (fun x=>kD c x) a
 |.pair c d,a=>by
  show(gG (c.enc a.1)&&(gG (d.enc a.2)&&true))=true;rw[kD c a.1,kD d a.2]<;>rfl
 |.triple c d e,a=>by
  show(gG (c.enc a.1)&&(gG (d.enc a.2.1)&&(gG (e.enc a.2.2)&&true)))=true;rw[kD c a.1,kD d a.2.1,kD e a.2.2]<;>rfl
 |.option c,none=>rfl
 |.option c,some x=>kD c x
theorem FP:∀(cs:List Codec)(a:Codec.denoteAll cs),iA (Codec.encAll cs a)=true
 |[],_=>rfl
 |c::cs,a=>by
  show(gG (c.enc a.1)&&iA (Codec.encAll cs a.2))=true;rw[kD c a.1,FP cs a.2]<;>rfl
theorem BR:∀{xs:List WData}{d:WData},d∈xs→d.weight≤WData.weightAll xs
 |[],d,h=>absurd h (by simp)
 |x::r,d,h=>by
  show d.weight≤x.weight+1+WData.weightAll r;rcases List.mem_cons.mp h with e|m
  ·rw[e]
   omega
  ·have z:=BR m
   omega
def toV:Value→V
 |.none=>.aP
 |.bool b=>.bl b
 |.int i _=>.int i
 |.str x _=>.str x
 |.bytes b _=>.fk b
 |.ref a=>.ref a
 |_=>.aP
def g9(A:List Addr):Value→Prop
 |.none=>True
 |.bool _=>True
 |.int _ _=>True
 |.str _ _=>True
 |.bytes _ _=>True
 |.ref a=>a∈A
 |_=>False
theorem g9.mono{A B:List Addr}(h:∀a∈A,a∈B):∀{u:Value},g9 A u→g9 B u:=fun{u} x=>by
 cases u with
 |ref a=>exact h a x
 |none=>trivial
 |bool b=>trivial
 |int i t=>trivial
 |str s t=>trivial
 |bytes b t=>trivial
 |_=>exact False.elim x
theorem KU{A:List Addr}{u:Value}(x:g9 A u):RelV (toV u) u:=by
 cases u with
 |ref a=>rfl
 |none=>rfl
 |bool b=>rfl
 |int i t=>exact⟨t,rfl⟩
 |str s t=>exact⟨t,rfl⟩
 |bytes b t=>exact⟨t,rfl⟩
 |_=>exact False.elim x
theorem mZ{A:List Addr}:∀{vs:List Value},(∀u∈vs,g9 A u)→Vals (vs.map toV) vs
 |[],_=>.nil
 |u::r,h=>.cons (KU (h u (List.mem_cons_self ..))) (mZ fun x hx=>h x (List.mem_cons_of_mem _ hx))
def iB(h:Heap)(A:List Addr)(a:Addr):Prop:=∃vs:List Value,vs.length≤sizeLine∧(∀u∈vs,g9 A u)∧
 (h.get? a=some {cls:=.type "list",data:=.seq vs.toArray}∨h.get? a=some {cls:=.type "tuple",data:=.seq vs.toArray})
theorem iB.mono{h:Heap}{A B:List Addr}{a:Addr}(k:∀a∈A,a∈B)(x:iB h A a):iB h B a:=by
 obtain⟨vs,h1,h2,h3⟩:=x;exact⟨vs,h1,fun u hu=>(h2 u hu).mono k,h3⟩
theorem tK{P:Params}{h:Heap}:∀{vs:List Value}{ds:List WData},WellAll P h vs ds→vs.length=ds.length
 |_,_,.nil=>rfl
 |_,_,.cons _ b=>by
  show _+1=_+1;rw[tK b]
theorem FQ{P:Params}{h:Heap}{v:Value}{ds:List WData}(x:Well P h v (.list ds)):∃(a:Addr)(vs:List Value),v=.ref a∧h.get? a=some {cls:=.type "list",data:=.seq vs.toArray}∧WellAll P h vs ds:=by
 cases x with
 |list ho hall=>exact⟨_,_,rfl,ho,hall⟩
theorem FT{P:Params}{h:Heap}{v:Value}{ds:List WData}(x:Well P h v (.tuple ds)):∃(a:Addr)(vs:List Value),v=.ref a∧h.get? a=some {cls:=.type "tuple",data:=.seq vs.toArray}∧WellAll P h vs ds:=by
 cases x with
 |tuple ho hall=>exact⟨_,_,rfl,ho,hall⟩
theorem FU{P:Params}{h:Heap}{us:List Value}{d:WData}{ds:List WData}(x:WellAll P h us (d::ds)):∃(v:Value)(vs:List Value),us=v::vs∧Well P h v d∧WellAll P h vs ds:=by
 cases x with
 |cons a b=>exact⟨_,_,rfl,a,b⟩
theorem FW{n:Nat}(h:n≤1048576):n≤sizeLine:=Nat.le_trans h (by decide)
section
variable{P:Params}{h:Heap}
mutual
theorem KW:∀(d:WData)(v:Value),Well P h v d→gG d=true→d.weight≤1048576→∃A:List Addr,g9 A v∧∀a∈A,iB h A a
 |.none,_,x,_,_=>by
  cases x;exact⟨[],trivial,fun a m=>absurd m (by simp)⟩
 |.bool b,_,x,_,_=>by
  cases x;exact⟨[],trivial,fun a m=>absurd m (by simp)⟩
 |.int i,_,x,_,_=>by
  cases x;exact⟨[],trivial,fun a m=>absurd m (by simp)⟩
 |.str s,_,x,_,_=>by
  cases x;exact⟨[],trivial,fun a m=>absurd m (by simp)⟩
 |.bytes b,_,x,_,_=>by
  cases x;exact⟨[],trivial,fun a m=>absurd m (by simp)⟩
 |.list ds,_,x,p,z=>by
  obtain⟨a,vs,rfl,ho,hall⟩:=FQ x;have z2:WData.weightAll ds≤1048576:=z;obtain⟨A,h1,h2⟩:=tL ds _ hall p fun d hd=>Nat.le_trans (BR hd) z2
  have k:∀b∈A,b∈a::A:=fun b hb=>List.mem_cons_of_mem _ hb
  refine⟨a::A,List.mem_cons_self ..,fun b hb=>?_⟩;rcases List.mem_cons.mp hb with e|m
  ·rw[e]
   exact⟨vs,FW (by rw[tK hall];exact Nat.le_trans (PySem.W.length_le_weightAllW ds) z2),fun u hu=>(h1 u hu).mono k,.inl ho⟩
  ·exact(h2 b m).mono k
 |.tuple ds,_,x,p,z=>by
  obtain⟨a,vs,rfl,ho,hall⟩:=FT x;have z2:WData.weightAll ds≤1048576:=z;obtain⟨A,h1,h2⟩:=tL ds _ hall p fun d hd=>Nat.le_trans (BR hd) z2
  have k:∀b∈A,b∈a::A:=fun b hb=>List.mem_cons_of_mem _ hb
  refine⟨a::A,List.mem_cons_self ..,fun b hb=>?_⟩;rcases List.mem_cons.mp hb with e|m
  ·rw[e]
   exact⟨vs,FW (by rw[tK hall];exact Nat.le_trans (PySem.W.length_le_weightAllW ds) z2),fun u hu=>(h1 u hu).mono k,.inr ho⟩
  ·exact(h2 b m).mono k
 |.float _,_,_,p,_=>Bool.noConfusion (show false=true from p)
 |.dict _,_,_,p,_=>Bool.noConfusion (show false=true from p)
 |.bytearray _,_,_,p,_=>Bool.noConfusion (show false=true from p)
 |.set _,_,_,p,_=>Bool.noConfusion (show false=true from p)
 |.frozenset _,_,_,p,_=>Bool.noConfusion (show false=true from p)
 |.obj _ _,_,_,p,_=>Bool.noConfusion (show false=true from p)
theorem tL:∀(ds:List WData)(vs:List Value),WellAll P h vs ds→iA ds=true→(∀d∈ds,d.weight≤1048576)→∃A:List Addr,(∀u∈vs,g9 A u)∧∀a∈A,iB h A a
 |[],_,x,_,_=>by
  cases x;exact⟨[],fun u m=>absurd m (by simp),fun a m=>absurd m (by simp)⟩
 |d::ds,_,x,p,z=>by
  obtain⟨v,vs,rfl,x1,x2⟩:=FU x;have q:gG d=true∧iA ds=true:=Bool.and_eq_true_iff.mp p;obtain⟨A,a1,a2⟩:=KW d v x1 q.1 (z d (List.mem_cons_self ..));obtain⟨B,b1,b2⟩:=tL ds vs x2 q.2 fun e he=>z e (List.mem_cons_of_mem _ he)
  have kA:∀b∈A,b∈A++B:=fun b hb=>List.mem_append.mpr (.inl hb)
  have kB:∀b∈B,b∈A++B:=fun b hb=>List.mem_append.mpr (.inr hb)
  refine⟨A++B,fun u hu=>?_,fun b hb=>?_⟩
  ·rcases List.mem_cons.mp hu with e|m
   ·rw[e]
    exact a1.mono kA
   ·exact(b1 u m).mono kB
  ·rcases List.mem_append.mp hb with m|m
   ·exact(a2 b m).mono kA
   ·exact(b2 b m).mono kB
end
end
def tM(o:Obj):Option HO:=match o.data with
 |.seq vs _=>if(o.cls==Value.type "list")=true then some (.c7 o (.lst (vs.toList.map toV)))else some (.c7 o (.tup (vs.toList.map toV)))
 |_=>none
def fE(K:PySem.W.Frag)(h:Heap)(A:List Addr):Hp:=fun b=>if b∈A then(if(K.lookup b).isNone=true then(h.get? b).bind tM else none)else none
def FY(H:Hp):Prop:=∀b,H b=none∨∃o u,H b=some (.c7 o u)
theorem FZ(vs:List Value):tM {cls:=.type "list",data:=.seq vs.toArray}=some (.c7 {cls:=.type "list",data:=.seq vs.toArray} (.lst (vs.map toV))):=by
 show(if(Value.type "list"==Value.type "list")=true then some (HO.c7 {cls:=.type "list",data:=.seq vs.toArray} (.lst (vs.toArray.toList.map toV)))else some (HO.c7 {cls:=.type "list",data:=.seq vs.toArray} (.tup (vs.toArray.toList.map toV))))=_;rw[if_pos (beq_self_eq_true _)]
theorem F0(vs:List Value):tM {cls:=.type "tuple",data:=.seq vs.toArray}=some (.c7 {cls:=.type "tuple",data:=.seq vs.toArray} (.tup (vs.map toV))):=by
 show(if(Value.type "tuple"==Value.type "list")=true then some (HO.c7 {cls:=.type "tuple",data:=.seq vs.toArray} (.lst (vs.toArray.toList.map toV)))else some (HO.c7 {cls:=.type "tuple",data:=.seq vs.toArray} (.tup (vs.toArray.toList.map toV))))=_;rw[if_neg (by decide)]
section
variable{P:Program}{w:World}{K:PySem.W.Frag}{h:Heap}{A:List Addr}
theorem tN{b:Addr}{o:Obj}(hb:b∈A)(hk:K.lookup b=none)(e:h.get? b=some o):fE K h A b=tM o:=by
 unfold fE;rw[if_pos hb,hk,if_pos (show(none:Option Obj).isNone=true from rfl),e]<;>rfl
theorem KY{b:Addr}{u:HO}(q:fE K h A b=some u):b∈A∧K.lookup b=none:=by
 unfold fE at q;by_cases hb:b∈A
 ·rw[if_pos hb]at q
  cases hk:K.lookup b with
  |none=>exact⟨hb,rfl⟩
  |some o=>
   rw[hk,if_neg (by simp)]at q;cases q
 ·rw[if_neg hb]at q
  cases q
theorem tO(ar:∀a∈A,iB h A a){b:Addr}{u:HO}(q:fE K h A b=some u):K.lookup b=none∧∃vs:List Value,vs.length≤sizeLine∧(∀u∈vs,g9 A u)∧
  ((h.get? b=some {cls:=.type "list",data:=.seq vs.toArray}∧u=.c7 {cls:=.type "list",data:=.seq vs.toArray} (.lst (vs.map toV)))∨
   (h.get? b=some {cls:=.type "tuple",data:=.seq vs.toArray}∧u=.c7 {cls:=.type "tuple",data:=.seq vs.toArray} (.tup (vs.map toV)))):=by
 obtain⟨hb,hk⟩:=KY q;obtain⟨vs,h1,h2,h3⟩:=ar b hb;refine⟨hk,vs,h1,h2,?_⟩;rcases h3 with e|e
 ·rw[tN hb hk e,FZ]at q
  exact .inl ⟨e,(Option.some.inj q).symm⟩
 ·rw[tN hb hk e,F0]at q
  exact .inr ⟨e,(Option.some.inj q).symm⟩
theorem KZ(ar:∀a∈A,iB h A a):FY (fE K h A):=fun b=>by
 cases q:fE K h A b with
 |none=>exact .inl rfl
 |some u=>
  obtain⟨_,vs,_,_,⟨_,e⟩|⟨_,e⟩⟩:=tO ar q
  ·exact .inr ⟨_,_,by rw[e]⟩
  ·exact .inr ⟨_,_,by rw[e]⟩
theorem K0(ar:∀a∈A,iB h A a):cy P w (fE K h A) h:=fun b u q=>by
 obtain⟨_,vs,h1,h2,⟨e,rfl⟩|⟨e,rfl⟩⟩:=tO ar q
 ·exact⟨e,by rw[List.length_map];exact h1,vs,_,mZ h2,e⟩
 ·exact⟨e,by rw[List.length_map];exact h1,vs,mZ h2,_,e,rfl,_,rfl⟩
theorem tP{c c':Value}{vs us:List Value}(e:(some {cls:=c,data:=.seq vs.toArray}:Option Obj)=some {cls:=c',data:=.seq us.toArray}):c=c'∧vs=us:=by
 have e1:=Option.some.inj e;have e2:c=c':=congrArg Obj.cls e1;have e3:Data.seq vs.toArray=Data.seq us.toArray:=congrArg Obj.data e1;injection e3 with e4
 refine⟨e2,?_⟩;have e5:=congrArg Array.toList e4;simpa using e5
theorem K6(KX:K.In h)(ar:∀a∈A,iB h A a){a:Addr}{vs:List Value}(ha:a∈A)(e:h.get? a=some {cls:=.type "list",data:=.seq vs.toArray}):(∀u∈vs,g9 A u)∧ay K (fE K h A) a (vs.map toV):=by
 obtain⟨us,h1,h2,h3⟩:=ar a ha
 have hu:us=vs:=by
  rcases h3 with q|q
  ·rw[e]at q
   exact(tP q).2.symm
  ·rw[e]at q
   exact absurd (Value.type.inj (tP q).1) (by decide)
 subst hu;refine⟨h2,?_⟩;cases hk:K.lookup a with
 |none=>exact .inl (.inr ⟨_,by rw[tN ha hk e,FZ]⟩)
 |some o=>
  have e2:=KX a o hk;rw[e]at e2;obtain rfl:=Option.some.inj e2;exact .inr ⟨_,us.toArray,_,hk,rfl,rfl,rfl,by rw[List.size_toArray];exact h1,by simpa using mZ h2⟩
theorem K7(KX:K.In h)(ar:∀a∈A,iB h A a){a:Addr}{vs:List Value}(ha:a∈A)(e:h.get? a=some {cls:=.type "tuple",data:=.seq vs.toArray}):(∀u∈vs,g9 A u)∧dW K (fE K h A) a (vs.map toV):=by
 obtain⟨us,h1,h2,h3⟩:=ar a ha
 have hu:us=vs:=by
  rcases h3 with q|q
  ·rw[e]at q
   exact absurd (Value.type.inj (tP q).1) (by decide)
  ·rw[e]at q
   exact(tP q).2.symm
 subst hu;refine⟨h2,?_⟩;cases hk:K.lookup a with
 |none=>exact .inl (.inr ⟨_,by rw[tN ha hk e,F0]⟩)
 |some o=>
  have e2:=KX a o hk;rw[e]at e2;obtain rfl:=Option.some.inj e2;exact .inr ⟨_,us.toArray,_,hk,rfl,rfl,by rw[List.size_toArray];exact h1,by simpa using mZ h2⟩
mutual
theorem K8{Pm:Params}(KX:K.In h)(ar:∀a∈A,iB h A a):∀(d:WData)(v:Value),Well Pm h v d→gG d=true→g9 A v→Dw K (fE K h A) (toV v) d
 |.none,_,x,_,_=>by
  cases x;exact .aP
 |.bool b,_,x,_,_=>by
  cases x;exact .bl b
 |.int i,_,x,_,_=>by
  cases x;exact .int i
 |.str s,_,x,_,_=>by
  cases x;exact .str s
 |.bytes b,_,x,_,_=>by
  cases x;have z:=Dw.fk (K:=K) (H:=fE K h A) b.toArray;exact z
 |.list ds,_,x,p,hu=>by
  obtain⟨a,vs,rfl,ho,hall⟩:=FQ x;obtain⟨h2,hs⟩:=K6 KX ar hu ho;exact .lst hs (tR KX ar ds _ hall p h2)
 |.tuple ds,_,x,p,hu=>by
  obtain⟨a,vs,rfl,ho,hall⟩:=FT x;obtain⟨h2,hs⟩:=K7 KX ar hu ho;exact .tup hs (tR KX ar ds _ hall p h2)
 |.float _,_,_,p,_=>Bool.noConfusion (show false=true from p)
 |.dict _,_,_,p,_=>Bool.noConfusion (show false=true from p)
 |.bytearray _,_,_,p,_=>Bool.noConfusion (show false=true from p)
 |.set _,_,_,p,_=>Bool.noConfusion (show false=true from p)
 |.frozenset _,_,_,p,_=>Bool.noConfusion (show false=true from p)
 |.obj _ _,_,_,p,_=>Bool.noConfusion (show false=true from p)
theorem tR{Pm:Params}(KX:K.In h)(ar:∀a∈A,iB h A a):∀(ds:List WData)(vs:List Value),WellAll Pm h vs ds→iA ds=true→(∀u∈vs,g9 A u)→g6 K (fE K h A) (vs.map toV) ds
 |[],_,x,_,_=>by
  cases x;exact .nil
 |d::ds,_,x,p,hu=>by
  obtain⟨v,vs,rfl,x1,x2⟩:=FU x;have q:gG d=true∧iA ds=true:=Bool.and_eq_true_iff.mp p;exact .cons (K8 KX ar d v x1 q.1 (hu _ (List.mem_cons_self ..))) (tR KX ar ds vs x2 q.2 fun u m=>hu u (List.mem_cons_of_mem _ m))
end
end
theorem K9{ds:List WData}(h:WData.layableAll ds=true):∀d∈ds,d.weight≤1048576:=fun d hd=>
 (PySem.W.layableW_iff.mp (List.all_eq_true.mp h d hd)).2.2
theorem F1:∀(cs:List Codec)(a:Codec.denoteAll cs),(Codec.encAll cs a).length=cs.length
 |[],_=>rfl
 |c::cs,a=>by
  show(Codec.encAll cs a.2).length+1=cs.length+1;rw[F1 cs a.2]
end L2
end
section
namespace Xc
open PySem
abbrev m5(l:List Env):List Addr:=l.filterMap (·.frame)
structure tS(fr:List Addr)(e:Addr)(old:Option Addr)(oe:Obj)(fl:Value)(h h':Heap):Prop where
 keep:∀b o,b≠e→old≠some b→b∉fr→h.get? b=some o→h'.get? b=some o
 slot:∀b o,b≠e→old≠some b→h.get? b=some o→∃sl,h'.get? b=some {o with slots:=sl}
 last:∃T oT ts,h.get? T=none∧h'.get? T=some oT∧oT.data=.fields ts∧ts[3]? =some fl∧h'.get? e=some (oe.mapFields (·.setIfInBounds 1 (.ref T)))
section
variable{M:Model}{A:Around}{E:Value→Shared→Prop}{s:Shared}
theorem F3{base:Heap}{env:Env}{outer:List Env}{L e:Addr}{oe:Obj}{vs:Array Value}{top:Value}{more:Bool}{Q:Unit→Shared→Prop}
  (hfr:A.frames=some (env::outer))(hl:s.heap.FunFrames base (env::outer))(hf:env.frame=some L)
  (he:s.heap.get? e=some oe)(hd:oe.data=.fields vs)(hsz:1<vs.size)
  (h:∀h',tS (m5 (env::outer)) e none oe (rawInt L) s.heap h'→Q () {s with heap:=h'}):
  wpAny M A (do let a←frameOf env;let pl←entryPlaceOf L more;let b←EntryCells.newEntry top a .none (rawInt L) .none pl;setField (.ref e) 1 b) Q E s:=by
 have nfr:e∉m5 (env::outer):=fun hm=>by
  obtain⟨_,o,ho,q⟩:=hl.mem hm;rw[he]at ho;cases ho;exact q vs hd
 refine wpAny_bind (wpAny_frameOf_fun hfr hl hf fun h1 x1=>?_);refine wpAny_bind (wpAny_entryPlaceOf fun pl hpl=>?_);unfold EntryCells.newEntry newFields;refine wpAny_bind (wpAny_newObj_type ?_ (hpl.sizeOk5 _ _ _ _ _));have e1:h1.get? e=some oe:=(x1.2.1 e nfr).trans he;generalize hob:({cls:=.type "traceback",dict:=none,data:=.fields ([top,.ref L,.none,rawInt L,.none]++(if pl.isEmpty then List.replicate 6 Value.none else pl)).toArray}:Obj)=ob;have hod:ob.data=.fields ([top,.ref L,.none,rawInt L,.none]++(if pl.isEmpty then List.replicate 6 Value.none else pl)).toArray:=by rw[←hob]
 have hof:ob.isFreed=false:=Obj.isFreed_of_fields hod;have e2:(h1.push ob).get? e=some oe:=Heap.get?_push_of_some _ e1;have ne:h1.objs.size≠e:=Nat.ne_of_gt (Heap.lt_size e1);refine wpAny_setField e2 hd hsz (h _ ⟨fun b o hb _ hn q=>?_,fun b o hb _ q=>?_,h1.objs.size,ob,_,?_,?_,hod,by simp,?_⟩)
 ·rw[Heap.get?_update_other _ _ (Ne.symm hb)]
  exact Heap.get?_push_of_some _ ((x1.2.1 b hn).trans q)
 ·obtain⟨sl,z⟩:=x1.2.2 b o q
  exact⟨sl,by rw[Heap.get?_update_other _ _ (Ne.symm hb)];exact Heap.get?_push_of_some _ z⟩
 ·exact Heap.get?_none_of_le (by rw[x1.1];exact Nat.le_refl _)
 ·rw[Heap.get?_update_other _ _ (Ne.symm ne)]
  exact Heap.get?_push_size h1 hof
 ·exact Heap.get?_update_self _ e2 (Obj.isFreed_of_fields (Obj.data_mapFields hd _))
theorem K_{base:Heap}{env:Env}{outer:List Env}{L e:Addr}{oe:Obj}{vs:Array Value}{Q:Unit→Shared→Prop}
  (hfr:A.frames=some (env::outer))(hl:s.heap.FunFrames base (env::outer))(hf:env.frame=some L)
  (he:s.heap.get? e=some oe)(hd:oe.data=.fields vs)(h1:vs[1]? =some .none)
  (h:∀h',tS (m5 (env::outer)) e none oe (rawInt L) s.heap h'→Q () {s with heap:=h'}):wpAny M A (noteFrame (.ref e) env) Q E s:=by
 unfold noteFrame;simp only[hf];refine wpAny_bind (wpAny_field he hd h1 ?_);rw[if_neg (by decide)];exact F3 hfr hl hf he hd (Array.getElem?_eq_some_iff.mp h1).1 h
theorem La{base:Heap}{env:Env}{outer:List Env}{L e T:Addr}{oe oT:Obj}{vs ts:Array Value}{Q:Unit→Shared→Prop}
  (hfr:A.frames=some (env::outer))(hl:s.heap.FunFrames base (env::outer))(hf:env.frame=some L)
  (he:s.heap.get? e=some oe)(hd:oe.data=.fields vs)(h1:vs[1]? =some (.ref T))(hTe:T≠e)(hT:s.heap.get? T=some oT)(hdT:oT.data=.fields ts)(h3:ts[3]? =some .none)
  (h:∀h',tS (m5 (env::outer)) e (some T) oe (rawInt L) s.heap h'→Q () {s with heap:=h'}):wpAny M A (noteFrame (.ref e) env) Q E s:=by
 unfold noteFrame;simp only[hf];refine wpAny_bind (wpAny_field he hd h1 ?_);rw[if_pos (show(Value.ref T !=Value.none)=true from by simp)];refine wpAny_bind (wpAny_field hT hdT h3 ?_);rw[if_neg (show¬((Value.none==rawInt L)=true)from by simp[rawInt])];refine wpAny_bind (wpAny_setField hT hdT (Array.getElem?_eq_some_iff.mp h3).1 ?_);have oth:∀b,b≠T→(s.heap.update T (Obj.mapFields (·.setIfInBounds 3 Value.none))).get? b=s.heap.get? b:=fun b hb=>Heap.get?_update_other _ _ (Ne.symm hb)
 have nT:T∉m5 (env::outer):=fun hm=>by
  obtain⟨_,o,ho,q⟩:=hl.mem hm;rw[hT]at ho;cases ho;exact q ts hdT
 refine F3 (s:={s with heap:=s.heap.update T (Obj.mapFields (·.setIfInBounds 3 Value.none))}) (base:=base) hfr (hl.of_keeps fun b o hb hnf=>⟨o,(oth b ?_).trans hb,rfl⟩) hf ((oth e (Ne.symm hTe)).trans he) hd (Array.getElem?_eq_some_iff.mp h1).1 fun h' N=>?_
 ·rintro rfl
  rw[hT]at hb;cases hb;exact hnf ts hdT
 ·obtain⟨k,sl,T',oT',ts',z1,z2⟩:=N
  refine h h' ⟨fun b o hb hn hm q=>k b o hb (by simp) hm ((oth b fun z=>hn (by rw[z])).trans q),fun b o hb hn q=>sl b o hb (by simp) ((oth b fun z=>hn (by rw[z])).trans q),T',oT',ts',?_,z2⟩;by_cases e0:T'=T
  ·exfalso
   have z1:(s.heap.update T (Obj.mapFields (·.setIfInBounds 3 Value.none))).get? T'=none:=z1;rw[e0,Heap.get?_update_self _ hT (Obj.isFreed_of_fields (Obj.data_mapFields hdT _))]at z1;cases z1
  ·exact(oth T' e0).symm.trans z1
theorem BS{e T:Addr}{oe oT:Obj}{vs ts:Array Value}{Q:Unit→Shared→Prop}(he:s.heap.get? e=some oe)(hd:oe.data=.fields vs)(h1:vs[1]? =some (.ref T))
  (hT:s.heap.get? T=some oT)(hdT:oT.data=.fields ts)(h3:3<ts.size)
  (h:∀h' oT' ts',(∀b o,b≠T→s.heap.get? b=some o→h'.get? b=some o)→h'.get? T=some oT'→oT'.data=.fields ts'→ts'[3]? =some .none→Q () {s with heap:=h'}):
  wpAny M A (setFlight (.ref e) none) Q E s:=by
 unfold setFlight;refine wpAny_bind (wpAny_field he hd h1 ?_);rw[if_pos (show(Value.ref T !=Value.none)=true from by simp)];refine wpAny_setField hT hdT h3 (h _ _ _ (fun b o hb q=>(Heap.get?_update_other _ _ (Ne.symm hb)).trans q) (Heap.get?_update_self _ hT (Obj.isFreed_of_fields (Obj.data_mapFields hdT _))) (Obj.data_mapFields hdT _) ?_);show(ts.setIfInBounds 3 _)[3]? =_;rw[Array.getElem?_setIfInBounds_self];rw[if_pos h3];rfl
end
abbrev iV(C t:Addr)(od:Option Addr):Obj:={cls:=.ref C,dict:=od,data:=.fields #[.ref t,.none,.none,.none,.bool false,.none]}
section
variable{prog:Program}{w:World}{A:Around}{E:Value→Shared→Prop}{s:Shared}{env:Env}
variable{nm q:Str}{C N:Addr}{bs bm:List Value}{hdct:Bool}{sn:List Str}{sub:List Value}{ab:Bool}{col:Option Bool}{dd:Option Addr}{k0 k1 k2 k3 k5:Option Value}{B newId initId:String}
theorem Lb{M:Model}{x:Sem Value}{Q:Flow→Shared→Prop}(hbase:bm.contains (.type "BaseException")=true)(hh:A.handled=none)
  (h:wpAny M A x (fun v s1=>∃e t od,v=.ref e∧s1.heap.get? C=some (excClassObj nm q C N bs bm hdct sn sub ab col dd k0 k1 k2 k3 k5 newId)∧s1.heap.get? e=some (iV C t od)∧E (.ref e) s1) E s):
  wpAny M A (raiseStmt env (some x) none) Q E s:=by
 have hB:(Value.ref C::bm).contains (.type "BaseException")=true:=by rw[List.contains_cons,hbase,Bool.or_true]
 unfold raiseStmt;refine wpAny_bind (wpAny_mono h (fun v s1 h1=>?_) fun _ _ z=>z);obtain⟨e,t,od,rfl,hC,he,hE⟩:=h1;obtain⟨hp,g,d,tk,os⟩:=s1
 repeat (first
  |with_reducible refine wpAny_loadPart_at he ?_
  |with_reducible refine wpAny_loadPart_at hC ?_
  |(with_reducible refine wpAny_isSubtype_exc hC ?_;rw[hB])
  |wp_step)
 exact wpAny_raiseNew_none hh hE
theorem Lc(Fb:ExcBaseFacts B newId initId bm){mN:Str→Option Value}{x:Str}{np cpos pos:Pos}{e0:PySem.Expr}{rest:List PySem.Expr}{fI:Addr}{oI:Obj}{Q:Flow→Shared→Prop}
  (hh:A.handled=none)(hi:mN "__init__"=some (.ref fI))(hfc:oI.cls=.type "function")
  (h:wpAny (model prog w) A (eval (.Name x np) env) (fun f s1=>f=.ref C∧wpAny (model prog w) A (spliced (backTo cpos (starEach (e0::rest) env)))
   (fun us s2=>us.length≤sizeLine∧s2.heap.get? C=some (excClassObj nm q C N bs bm hdct sn sub ab col dd k0 k1 k2 k3 k5 newId)∧s2.heap.Ns N mN∧s2.heap.get? fI=some oI∧
    ∀h' e,Heap.MadeExcOf s2.heap h' e (.ref C) us→wpAny (model prog w) (A.under (.builtin "type.__call__" ⟨.ref C::us,[]⟩)) (call (.ref fI) (.ref e::us))
     (fun r s3=>r=.none∧s3.heap.get? C=some (excClassObj nm q C N bs bm hdct sn sub ab col dd k0 k1 k2 k3 k5 newId)∧(∃t od,s3.heap.get? e=some (iV C t od))∧E (.ref e) s3) E {s2 with heap:=h'}) E s1) E s)
  (he:starEach (e0::rest) env=(false,eval e0 env)::starEach rest env:=by rfl)(hpl:(backTo cpos (starEach rest env)).any (·.1)=false:=by rfl):
  wpAny (model prog w) A (exec (.Raise (some (.Call (.Name x np) (e0::rest) [] cpos)) none pos) env) Q E s:=by
 have hplain:(backTo cpos (starEach (e0::rest) env)).any (·.1)=false:=by
  rw[he];show(false||(backTo cpos (starEach rest env)).any (·.1))=false;rw[hpl];rfl
 rw[arm_exec_Raise];refine wpAny_bind (wpAny_standAt ?_);show wpAny _ _ (raiseStmt env (some (do let v←eval (.Call (.Name x np) (e0::rest) [] cpos) env;standAt pos;pure v)) none) _ _ _;refine Lb (C:=C) (nm:=nm) (q:=q) (N:=N) (bs:=bs) (bm:=bm) (hdct:=hdct) (sn:=sn) (sub:=sub) (ab:=ab) (col:=col) (dd:=dd) (k0:=k0) (k1:=k1) (k2:=k2) (k3:=k3) (k5:=k5) (newId:=newId) Fb.hasBase hh ?_;refine wpAny_bind (wpAny_mono (wpAny_Call_ofName (wpAny_mono h (fun f s1 h1=>?_) fun _ _ z=>z)) (fun v s3 h3=>wpAny_bind (wpAny_standAt (wpAny_pure h3))) fun _ _ z=>z);obtain⟨rfl,h1⟩:=h1;unfold callWith;rw[he]at h1
 have ev:wpAny (model prog w) A (evalArgs (.ref C) true (backTo cpos (starEach (e0::rest) env)) []) (fun a s2=>a.kw=[]∧a.pos.length≤sizeLine∧s2.heap.get? C=some (excClassObj nm q C N bs bm hdct sn sub ab col dd k0 k1 k2 k3 k5 newId)∧s2.heap.Ns N mN∧s2.heap.get? fI=some oI∧
    ∀h' e,Heap.MadeExcOf s2.heap h' e (.ref C) a.pos→wpAny (model prog w) (A.under (.builtin "type.__call__" ⟨.ref C::a.pos,[]⟩)) (call (.ref fI) (.ref e::a.pos))
     (fun r s3=>r=.none∧s3.heap.get? C=some (excClassObj nm q C N bs bm hdct sn sub ab col dd k0 k1 k2 k3 k5 newId)∧(∃t od,s3.heap.get? e=some (iV C t od))∧E (.ref e) s3) E {s2 with heap:=h'}) E s1:=by
  rw[he];exact Calls.evalArgs_plain (wpAny_mono h1 (fun us s2 z=>⟨rfl,z⟩) fun _ _ z=>z)
 refine wpAny_bind (wpAny_holding (wpAny_mono ev (fun a s2 h2=>wpAny_bind (wpAny_standAt ?_)) fun _ _ z=>z));obtain⟨ap,ak⟩:=a;obtain⟨hk,hl,hC,hn,hf,h2⟩:=h2;obtain rfl:ak=[]:=hk;obtain⟨hp,g,d,tk,os⟩:=s2;simp only[hplain];refine wpAny_bind (wpAny_keeperOf_exc hC ?_);refine wpAny_bind (wpAny_call_exc_init (hrest:=hl) Fb hC hn hi hf hfc fun h' e hm=>?_);refine wpAny_mono (h2 h' e hm) (fun r s3 z=>?_) fun _ _ z=>z
 obtain⟨z1,z2,⟨t,od,z3⟩,z5⟩:=z;exact⟨z1,wpAny_bind (wpAny_holding (wpAny_point (wpAny_pure ⟨e,t,od,rfl,z2,z3,z5⟩)))⟩
end
end Xc
end
section
namespace Xc
open PySem Builtin Builtin.ObjectAttr
section
variable{prog:Program}{w:World}{A:Around}{E:Value→Shared→Prop}{h:Heap}{g:Array GenState}{dr:Drawn}{t:Nat}{os:OsState}
variable{nm q:Str}{C N x:Addr}{bs bm:List Value}{sn:List Str}{sub:List Value}{ab:Bool}{col:Option Bool}{dd:Option Addr}{k0 k1 k2 k3 k5:Option Value}{B newId sa owner:String}
 {mN:Str→Option Value}{name:Str}{v:Value}{o:Obj}
theorem Ld{tk:Tok}{Q:PySem.Fin→Shared→Prop}(SF:StoreFacts B bm sa owner)
  (hC:h.get? C=some (excClassObj nm q C N bs bm true sn sub ab col dd k0 k1 k2 k3 k5 newId))(hn:h.Ns N mN)(hna:mN name=none)(hB:typeLookup (.type B) name=pure none)
  (hx:h.get? x=some o)(hc:o.cls=.ref C)(hnc:∀c,o.data≠.cls c)(hdn:o.dict=none)(hfr:({o with dict:=some h.objs.size}:Obj).isFreed=false)
  (hq:∀h' tk',(∀b u,b≠x→h.get? b=some u→h'.get? b=some u)→h'.get? x=some {o with dict:=some h.objs.size}→h'.Ns1 h.objs.size (fun y=>if y=name then some v else none)→Q (.done (.ret .none)) ⟨h',g,dr,tk',os⟩):
  wpAny (model prog w) A (Builtin.«object.__setattr__» ⟨[.ref x,.str name tk,v],[]⟩) Q E ⟨h,g,dr,t,os⟩:=by
 have pass:=SF.passes (.ref x);unfold Builtin.«object.__setattr__»
 repeat (first
  |rw[refuse_eq]
  |(rw[refuseLoop_ref,pass])
  |(with_reducible refine wpAny_loadPart_at hx ?_;rw[hc])
  |with_reducible refine wpAny_mroOf_exc hC ?_
  |(with_reducible refine wpAny_typeLookup_exc hC hn SF.mro hB ?_;rw[hna])
  |wp_step)
 rw[hdn,if_neg (by simp[typeHasDict])];split
 ·rename_i z
  cases z
 split
 ·rename_i c z
  exact absurd z (hnc c)
 ·have x1:(h.push {cls:=.type "dict",data:=.dict #[]}).get? x=some o:=Heap.get?_push_of_some _ hx
  have xs:x≠h.objs.size:=Nat.ne_of_lt (Heap.lt_size hx);refine wpAny_bind (wpAny_alloc' (wpAny_bind (wpAny_update' x1 (wpAny_pure ?_))));generalize hh:((h.push {cls:=.type "dict",data:=.dict #[]}).update x fun o=>{cls:=o.cls,dict:=some h.objs.size,data:=o.data,slots:=o.slots})=h1
  have gd:h1.get? h.objs.size=some {cls:=.type "dict",data:=.dict #[]}:=by
   rw[←hh];exact(Heap.get?_update_ne _ _ _ _ xs.symm).trans (Heap.get?_push_at rfl rfl)
  have nd:h1.Ns h.objs.size (fun _=>none):=⟨_,#[],_,gd,rfl,fun e he=>absurd he (by simp),fun _=>rfl⟩
  have gx:h1.get? x=some {o with dict:=some h.objs.size}:=by
   rw[←hh];exact Heap.get?_update_self _ x1 hfr
  show wpAny _ _ (storeInDict h.objs.size (.str name tk) name v) _ _ _;unfold storeInDict newKeyGuard;refine wpAny_bind (wpAny_pure (wpAny_bind (wpAny_nsSet1 (Heap.Ns1.of_empty nd) fun h' hn' hs=>?_)));obtain⟨oD,esD,epD,hoD,hdD,hcD⟩:=hn'.count (Within.cons name v Within.nil);refine wpAny_bind (wpAny_lookBehind hoD (by rw[hdD];exact pastItsLine_dict (Nat.le_trans hcD (by rw[List.length_cons,List.length_nil,sizeLine_eq];omega))) ?_)
  wp_walk
  refine hq h' _ (fun b u hb z=>?_) ((hs.2 x xs).trans gx) hn';refine(hs.2 b (Nat.ne_of_lt (Heap.lt_size z))).trans ?_;rw[←hh];exact(Heap.get?_update_ne _ _ _ _ hb).trans (Heap.get?_push_of_some _ z)
theorem Le{Q:Unit→Shared→Prop}(SF:StoreFacts B bm sa owner)
  (hC:h.get? C=some (excClassObj nm q C N bs bm true sn sub ab col dd k0 k1 k2 k3 k5 newId))(hn:h.Ns N mN)(hns:mN "__setattr__"=none)(hna:mN name=none)(hB:typeLookup (.type B) name=pure none)
  (hx:h.get? x=some o)(hc:o.cls=.ref C)(hnc:∀c,o.data≠.cls c)(hdn:o.dict=none)(hfr:({o with dict:=some h.objs.size}:Obj).isFreed=false)
  (hq:∀h' tk',(∀b u,b≠x→h.get? b=some u→h'.get? b=some u)→h'.get? x=some {o with dict:=some h.objs.size}→h'.Ns1 h.objs.size (fun y=>if y=name then some v else none)→Q () ⟨h',g,dr,tk',os⟩):
  wpAny (model prog w) A (setAttr (.ref x) name v) Q E ⟨h,g,dr,t,os⟩:=by
 have bnd:=SF.slot.bind (.ref x);unfold setAttr callSpecial? specialOf
 repeat (any_goals(first
  |assumption
  |(with_reducible refine wpAny_loadPart_at hx ?_;rw[hc])
  |(with_reducible refine wpAny_typeLookup_exc hC hn SF.mro SF.slot.lookup ?_;rw[hns])
  |wp_step))
 refine codeAny_call_builtin SF.slot.plain SF.entry (wpAny_check_sa SF hC hx hc (Ld SF hC hn hna hB hx hc hnc hdn hfr fun h' tk' z1 z2 z3=>?_))
 repeat (any_goals(first|assumption|wp_step))
 exact hq h' tk' z1 z2 z3
end
section
variable{prog:Program}{w:World}{A:Around}{E:Value→Shared→Prop}{h:Heap}{g:Array GenState}{dr:Drawn}{t:Nat}{os:OsState}
variable{nm q:Str}{C N x d:Addr}{bs bm:List Value}{sn:List Str}{sub:List Value}{ab:Bool}{col:Option Bool}{dd:Option Addr}{k0 k1 k2 k3 k5:Option Value}{B newId:String}
 {mN mA:Str→Option Value}{name:Str}{v:Value}{o:Obj}
theorem Lg{M:Model}{nameV:Value}{Q:Unit→Shared→Prop}(FB:ExcAttrBase B bm)(hC:h.get? C=some (excClassObj nm q C N bs bm true sn sub ab col dd k0 k1 k2 k3 k5 newId))
  (hx:h.get? x=some o)(hc:o.cls=.ref C)(hq:Q () ⟨h,g,dr,t,os⟩):wpAny M A (checkBuiltinCall "BaseException.__getattribute__" ⟨[.ref x,nameV],[]⟩) Q E ⟨h,g,dr,t,os⟩:=by
 have z1:builtinKind "BaseException.__getattribute__"=some .slot:=by decide+kernel
 have z2:splitId "BaseException.__getattribute__"=some ("BaseException","__getattribute__"):=by decide+kernel
 have z3:(Value.ref C::bm).contains (.type "BaseException")=true:=by rw[List.contains_cons,FB.hasBase,Bool.or_true]
 have z4:=F.args_bexc_ga (.ref x) nameV;simp only[checkBuiltinCall,z1,z2];refine wpAny_bind ?_;unfold isInstance
 repeat (first
  |(with_reducible refine wpAny_loadPart_at hx ?_;rw[hc])
  |(with_reducible refine wpAny_isSubtype_exc hC ?_;rw[z3])
  |wp_step)
 exact hq
theorem Lh{tk:Tok}{Q:PySem.Fin→Shared→Prop}(FB:ExcAttrBase B bm)(hC:h.get? C=some (excClassObj nm q C N bs bm true sn sub ab col dd k0 k1 k2 k3 k5 newId))(hN:h.Ns N mN)
  (hna:mN name=none)(hB:typeLookup (.type B) name=pure none)(hx:h.get? x=some o)(hc:o.cls=.ref C)(hnc:∀c,o.data≠.cls c)(hd:o.dict=some d)(hn:h.Ns1 d mA)(hv:mA name=some v)
  (hq:Q (.done (.ret v)) ⟨h,g,dr,t,os⟩):
  wpAny (model prog w) A (Builtin.«object.__getattribute__» ⟨[.ref x,.str name tk],[]⟩) Q E ⟨h,g,dr,t,os⟩:=by
 unfold Builtin.«object.__getattribute__»
 repeat (first
  |(with_reducible refine wpAny_loadPart_at hx ?_;rw[hc])
  |(with_reducible refine wpAny_typeLookup_exc hC hN FB.mro hB ?_;rw[hna])
  |wp_step)
 split
 ·rename_i c z
  exact absurd z (hnc c)
 unfold instanceDict
 repeat (first
  |(with_reducible refine wpAny_loadPart_at hx ?_;rw[hc])
  |with_reducible refine wpAny_loadPart_at hC ?_
  |wp_step)
 rw[hd]
 repeat (first|(with_reducible refine wpAny_nsGet hn.ns ?_;rw[hv])|wp_step)
 exact hq
theorem Li{expr:Bool}{Q:Value→Shared→Prop}(FB:ExcAttrBase B bm)(hC:h.get? C=some (excClassObj nm q C N bs bm true sn sub ab col dd k0 k1 k2 k3 k5 newId))(hN:h.Ns N mN)
  (hng:mN "__getattribute__"=none)(hnh:mN "__getattr__"=none)(hna:mN name=none)(hB:typeLookup (.type B) name=pure none)
  (hx:h.get? x=some o)(hc:o.cls=.ref C)(hnc:∀c,o.data≠.cls c)(hd:o.dict=some d)(hn:h.Ns1 d mA)(hv:mA name=some v)(hh:handedOut v=pure v)
  (hq:Q v ⟨h,g,dr,t+1,os⟩):wpAny (model prog w) A (getAttr (.ref x) name expr) Q E ⟨h,g,dr,t,os⟩:=by
 have bnd:=FB.ga.bind (.ref x);have y0:(expr&&onTheHeap (Value.builtin "BaseException.__getattribute__"))=false:=by cases expr<;>rfl
 have y2:(Value.builtin "BaseException.__getattribute__"==Value.builtin "object.__getattribute__")=false:=by decide+kernel
 have y1:(onTheHeap (Value.ref C)&&Value.builtin "BaseException.__getattribute__"==Value.builtin "object.__getattribute__")=false:=by rw[y2];rfl
 unfold getAttr getAttrBy
 repeat (any_goals(first
  |assumption
  |(with_reducible refine wpAny_loadPart_at hx ?_;rw[hc])
  |(with_reducible refine wpAny_typeLookup_exc hC hN FB.mro FB.ga.lookup ?_;rw[hng])
  |(with_reducible refine wpAny_typeLookup_exc hC hN FB.mro FB.noGetattr ?_;rw[hnh])
  |wp_step))
 refine codeAny_call_builtin FB.ga.plain F.entry_bexc_ga (Lg FB hC hx hc (Lh FB hC hN hna hB hx hc hnc hd hn hv ?_))
 repeat (any_goals(first|assumption|wp_step))
end
end Xc
end
section
namespace L2
open PySem PySem.Spec PyProof.Rows
def XD(d:Addr)(fs:List (Str×V)):HO:=.ext fun h=>∃mA,h.Ns1 d mA∧(∀f,fP (fs.lookup f) (mA f))∧PySem.Within mA (fs.map (·.1))
def XO(e C t:Addr)(od:Option Addr):HO:=.ext fun h=>h.get? e=some (Xc.iV C t od)
section
variable{P:Program}{w:World}{H H':Hp}{h h':Heap}{a:Addr}{o:HO}
theorem cO.there(x:cO P w H h a o):∃ob,h.get? a=some ob:=by
 cases o with
 |lst xs=>obtain⟨_,_,_,_,e⟩:=x;exact⟨_,e⟩
 |tup xs=>obtain⟨_,_,_,ob,e,_⟩:=x;exact⟨ob,e⟩
 |dK kvs=>obtain⟨_,_,_,_,o,_,_,e,_⟩:=x;exact⟨_,e⟩
 |dT kvs=>obtain⟨_,_,_,_,o,_,_,e,_⟩:=x;exact⟨_,e⟩
 |set S n=>obtain⟨o,_,_,_,e,_⟩:=x;exact⟨_,e⟩
 |ins C dx fs=>obtain⟨_,_,_,e,_⟩:=x;exact⟨_,e⟩
 |own y=>exact x
 |xd fs=>obtain⟨_,⟨_,_,_,e,_⟩,_⟩:=x;exact⟨_,e⟩
 |sI lo hi=>obtain⟨_,_,_,e⟩:=x;exact⟨_,e⟩
 |c7 ob u=>obtain⟨e,_⟩:=x;exact⟨_,e⟩
 |cV ps=>exact⟨_,(show h.get? a=some _ from x)⟩
 |met f y=>exact⟨_,(show h.get? a=some _ from x)⟩
 |ext φ=>obtain⟨_,e,_⟩:=x;exact e
theorem cy.none_of(x:cy P w H h)(e:h.get? a=Option.none):H a=Option.none:=by
 cases q:H a with
 |none=>rfl
 |some u=>
  obtain⟨ob,z⟩:=(x a u q).there;rw[e]at z;cases z
end
def fQ(H:Hp)(e:Addr):Hp:=fun b=>if b=e then Option.none else H b
theorem m6{H:Hp}{e:Addr}:fQ H e e=Option.none:=by unfold fQ;rw[if_pos rfl]
theorem g_{H:Hp}{e b:Addr}(h:b≠e):fQ H e b=H b:=by unfold fQ;rw[if_neg h]
theorem tT{H:Hp}{e b:Addr}(h:H b=Option.none):fQ H e b=Option.none:=by
 unfold fQ;split
 ·rfl
 ·exact h
structure Apart(X:Cx)(pins:List (Addr×Obj))(b:Addr):Prop where
 new:X.cR.heap.get? b=Option.none
 loc:b≠X.env.locals
 cell:∀x c,X.env.cells.lookup x=some c→c≠b
 pin:∀p∈X.pn++pins,p.1≠b
 fr:b∉X.fs
section
variable{X:Cx}{pins:List (Addr×Obj)}{σ:List (Option V)}{H H':Hp}{s:Shared}{h':Heap}
theorem Inv.apart(I:Inv X pins σ H s){b:Addr}(hb:s.heap.get? b=Option.none)(hx:b∉X.ex):Apart X pins b:=by
 refine⟨?_,?_,fun x c e z=>?_,fun p hp z=>?_,fun z=>?_⟩
 ·cases q:X.cR.heap.get? b with
  |none=>rfl
  |some o=>
   obtain⟨o',z⟩:=I.base.there b o q hx;rw[hb]at z;cases z
 ·rintro rfl
  obtain⟨m,⟨o,_,_,ho,_⟩,_⟩:=I.loc;rw[hb]at ho;cases ho
 ·obtain⟨v,o,ho,_⟩:=I.cell x c e
  rw[z,hb]at ho;cases ho
 ·have:=(I.pin p hp).1
  rw[z,hb]at this;cases this
 ·obtain⟨_,o,ho,_⟩:=I.fz.mem z
  rw[hb]at ho;cases ho
theorem Inv.Lj(I:Inv X pins σ H s){e:Addr}{φ:Heap→Prop}(he:H e=some (.ext φ)):Inv X pins σ (fQ H e) s:=by
 have ne:∀b u,H b=some u→(∀ψ,u≠.ext ψ)→fQ H e b=some u:=fun b u q hu=>by
  rw[g_]
  ·exact q
  ·rintro rfl
   rw[he]at q;cases q;exact hu _ rfl
 refine⟨I.ok,I.os,I.bare,⟨I.base.keep,I.base.slot,fun b o q n hx=>tT (I.base.free b o q n hx),I.base.there,fun b xs q=>ne _ _ (I.base.tups b xs q) (fun _=>by intro z;cases z),fun b o u q=>ne _ _ (I.base.d7 b o u q) (fun _=>by intro z;cases z),
  fun b ps q=>?_⟩,I.loc,I.cell,tT I.free,fun x c q=>tT (I.d9 x c q),fun p hp=>?_,fun b u q=>?_,I.len⟩
 ·obtain⟨m,z⟩:=I.base.d8 b ps q
  exact⟨m,ne _ _ z (fun _=>by intro z;cases z)⟩
 ·obtain⟨z1,z2,z3⟩:=I.pin p hp
  exact⟨z1,tT z2,z3⟩
 ·have hb:b≠e:=by
   rintro rfl;rw[m6]at q;cases q
  rw[g_ hb]at q;exact(I.hok b u q).stay (fun _ _ _ z=>z) (fun c z=>ne _ _ z (fun _=>by intro z;cases z)) fun c xs z=>ne _ _ z (fun _=>by intro z;cases z)
end
theorem Inv.BU{X:Cx}{pins:List (Addr×Obj)}{σ:List (Option V)}{H H':Hp}{s:Shared}{h':Heap}{g':Array GenState}{t':Nat}{d':Drawn}{ch:List Addr}(I:Inv X pins σ H s)
  (hch:∀b∈ch,Apart X pins b)
  (keep:∀b o,b≠X.env.locals→b∉X.fs→b∉ch→s.heap.get? b=some o→H b=none→h'.get? b=some o)
  (slot:∀b o,b≠X.env.locals→b∈X.fs→b∉ch→s.heap.get? b=some o→H b=none→∃sl,h'.get? b=some {o with slots:=sl})(free:∀b o,b∉ch→s.heap.get? b=some o→H b=none→H' b=none)
  (there:∀b o,b∉ch→s.heap.get? b=some o→∃o',h'.get? b=some o')
  (tups:∀b xs,H b=some (.tup xs)→H' b=some (.tup xs))(d7:∀b o u,H b=some (.c7 o u)→H' b=some (.c7 o u))(d8:∀b ps,H b=some (.cV ps)→∃more,H' b=some (.cV (ps++more)))
  (ns:∀m,s.heap.Ns X.env.locals m→h'.Ns X.env.locals m)(hok:cy X.prog X.w H' h')(hg:AllBare g'):
  Inv X pins σ H' {s with heap:=h',gens:=g',drawn:=d',toks:=t'}:=by
 have neL:∀b o,X.cR.heap.get? b=some o→b≠X.env.locals:=fun b o e=>Nat.ne_of_lt (Nat.lt_of_lt_of_le (Heap.lt_size e) I.ok.above)
 have neC:∀b o,X.cR.heap.get? b=some o→b∉X.ex→b∉ch:=fun b o e hx hb=>by
  rw[(hch b hb).new]at e;cases e
 have cellK:∀x c,X.env.cells.lookup x=some c→∀v,s.heap.IsCell c v→h'.IsCell c v:=fun x c e v ⟨o,ho,hd⟩=>by
  have nch:c∉ch:=fun z=>(hch c z).cell x c e rfl
  by_cases hc:c∈X.fs
  ·obtain⟨sl,q⟩:=slot c o (I.iP x c e) hc nch ho (I.d9 x c e)
   exact⟨_,q,hd⟩
  ·exact⟨o,keep c o (I.iP x c e) hc nch ho (I.d9 x c e),hd⟩
 refine⟨I.ok,I.os,hg,⟨fun b o e n hb hx=>?_,fun b o e n hb hx=>?_,fun b o e n hx=>?_,fun b o e hx=>?_,fun b xs e=>tups b xs (I.base.tups b xs e),fun b o xs e=>d7 b o xs (I.base.d7 b o xs e),fun b ps e=>?_⟩,?_,fun x c e=>?_,?_,fun x c e=>?_,fun p hp=>?_,hok,I.len⟩
 ·exact keep b o (neL b o e) hb (neC b o e hx) (I.base.keep b o e n hb hx) (I.base.free b o e n hx)
 ·obtain⟨sl,e1⟩:=I.base.slot b o e n hb hx
  obtain⟨sl',e2⟩:=slot b _ (neL b o e) hb (neC b o e hx) e1 (I.base.free b o e n hx);exact⟨sl',e2⟩
 ·obtain⟨o',e1⟩:=I.base.there b o e hx
  exact free b o' (neC b o e hx) e1 (I.base.free b o e n hx)
 ·obtain⟨o',e1⟩:=I.base.there b o e hx
  exact there b o' (neC b o e hx) e1
 ·obtain⟨m1,e1⟩:=I.base.d8 b ps e
  obtain⟨m2,e2⟩:=d8 b _ e1;exact⟨m1++m2,by rw[e2,Array.append_assoc]⟩
 ·obtain⟨m,hn,hl⟩:=I.loc
  refine⟨m,ns m hn,fun i x v e1 e2 e3=>?_⟩;obtain⟨u,r,l⟩:=hl i x v e1 e2 e3;refine⟨u,r,?_⟩;rcases l with l|⟨k,c,e,z⟩
  ·exact .inl l
  ·exact .inr ⟨k,c,e,cellK x c e _ z⟩
 ·obtain⟨v,z⟩:=I.cell x c e
  exact⟨v,cellK x c e v z⟩
 ·obtain⟨m,⟨o,_,_,ho,_⟩,_⟩:=I.loc
  exact free _ o (fun z=>(hch _ z).loc rfl) ho I.free
 ·obtain⟨v,o,ho,hd⟩:=I.cell x c e
  exact free c o (fun z=>(hch c z).cell x c e rfl) ho (I.d9 x c e)
 ·obtain⟨e,n,ne,nf,d⟩:=I.pin p hp
  have nch:p.1∉ch:=fun z=>(hch p.1 z).pin p hp rfl
  exact⟨keep p.1 p.2 ne nf nch e n,free p.1 p.2 nch e n,ne,nf,d⟩
def bu(P:Program)(w:World):f_:=fun outer H s E v s'=>∃(e C d T:Addr)(H':Hp)(oe oT:Obj)(vs ts:Array Value),
 v=.ref e∧s'.os=s.os∧AllBare s'.gens∧Un (frs outer) [] H H' s.heap s'.heap∧cy P w H' s'.heap∧
 H' e=Option.none∧s.heap.get? e=Option.none∧H' T=Option.none∧s.heap.get? T=Option.none∧T≠e∧
 s'.heap.get? e=some oe∧oe.cls=.ref C∧oe.dict=some d∧oe.data=.fields vs∧vs[1]? =some (.ref T)∧
 s'.heap.get? T=some oT∧oT.data=.fields ts∧ts[3]? =some .none∧E (.ref C) (some d) H'
structure pC(X:Cx)(pins:List (Addr×Obj))(σ:St)(H:Hp)(s:Shared)(e C d:Addr):Prop where
 inv:Inv X pins σ H s
 no:H e=Option.none
 ap:Apart X pins e
 obj:∃oe vs,s.heap.get? e=some oe∧oe.cls=.ref C∧oe.dict=some d∧oe.data=.fields vs∧(vs[1]? =some .none∨∃T oT ts,vs[1]? =some (.ref T)∧H T=Option.none∧Apart X pins T∧T≠e∧
  s.heap.get? T=some oT∧oT.data=.fields ts∧ts[3]? =some .none)
def Reach(X:Cx)(E:XK):Prop:=∀(pins:List (Addr×Obj))(σ:St)(H:Hp)(s:Shared)(e C d:Addr),pC X pins σ H s e C d→E (.ref C) (some d) H→X.xe (.ref e) s
theorem dj{X:Cx}{E:XK}(hx:X.ex=[])(R:Reach X E):Passes (bu X.prog X.w) X E:=by
 intro pins σ H s v s' I h;obtain⟨e,C,d,T,H',oe,oT,vs,ts,rfl,os,ba,un,hok,n1,n2,n3,n4,ne,a1,a2,a3,a4,a5,a6,a7,a8,hE⟩:=h;have nx:∀b:Addr,b∉X.ex:=fun b=>by rw[hx];simp
 exact R pins σ H' s' e C d ⟨I.Ez (ch:=[]) os un hok ba (fun b z=>absurd z (by simp)),n1,I.apart n2 (nx _),oe,vs,a1,a2,a3,a4,.inr ⟨T,oT,ts,a5,n3,I.apart n4 (nx _),ne,a6,a7,a8⟩⟩ hE
theorem Un.Lk{fs ex:List Addr}{H H':Hp}{h h':Heap}(u:Un fs ex H H' h h')(hx:∀b∈ex,h.get? b=Option.none):Un fs [] H H' h h':=by
 have nx:∀b o,h.get? b=some o→b∉ex:=fun b o q z=>by rw[hx b z]at q;cases q
 exact⟨fun b o q n hb _=>u.keep b o q n hb (nx b o q),fun b o q n hb _=>u.slot b o q n hb (nx b o q),fun b o q n _=>u.free b o q n (nx b o q),fun b o q _=>u.there b o q (nx b o q),u.tups,u.d7,u.d8⟩
structure pD(X:Cx)(H:Hp)(h:Heap)(e:Addr)(old:List Addr)(oe:Obj)(h':Heap):Prop where
 keep:∀b o,b∉old→b∉frs X.stack→h.get? b=some o→h'.get? b=some o
 slot:∀b o,b∉old→h.get? b=some o→∃sl,h'.get? b=some {o with slots:=sl}
 last:∃T oT ts oe' vs,h.get? T=Option.none∧h'.get? T=some oT∧oT.data=.fields ts∧ts[3]? =some .none∧h'.get? e=some oe'∧oe'.cls=oe.cls∧oe'.dict=oe.dict∧oe'.data=.fields vs∧vs[1]? =some (.ref T)
theorem Ll(o:Obj)(f:Array Value→Array Value):(o.mapFields f).dict=o.dict:=by
 obtain⟨c,d,dt,sl⟩:=o;cases dt<;>rfl
section
variable{X:Cx}{pins:List (Addr×Obj)}{σ:St}{H:Hp}{s:Shared}{e C d:Addr}{M:Model}{E':Value→Shared→Prop}
theorem pC.note(F:pC X pins σ H s e C d)(hst:X.stack=X.env::X.outer)(hfr:X.env.frame=some X.env.locals){Q:Unit→Shared→Prop}
  (h:∀h' old oe,(∀b∈old,H b=Option.none∧Apart X pins b)→oe.cls=.ref C→oe.dict=some d→pD X H s.heap e old oe h'→Q () {s with heap:=h'}):
  wpAny M X.A (noteFrame (.ref e) X.env) (fun _ s2=>wpAny M X.A (setFlight (.ref e) none) Q E' s2) E' s:=by
 obtain⟨oe,vs,he,hc,hdi,hd,last⟩:=F.obj;have fr:X.A.frames=some (X.env::X.outer):=by rw[←hst];exact F.inv.ok.frames
 have fu:s.heap.FunFrames X.base (X.env::X.outer):=by rw[←hst];exact F.inv.stack
 have fin:∀(old:Option Addr)(os:List Addr),(∀b,(b=e∨old=some b)↔b∈os)→(∀b∈os,H b=Option.none∧Apart X pins b)→1<vs.size→∀h1,Xc.tS (Xc.m5 (X.env::X.outer)) e old oe (rawInt X.env.locals) s.heap h1→
   wpAny M X.A (setFlight (.ref e) none) Q E' {s with heap:=h1}:=by
  intro old os hos hap hsz h1 N;obtain⟨T,oT,ts,n1,n2,n3,n4,n5⟩:=N.last;have hd1:=Obj.data_mapFields hd (·.setIfInBounds 1 (Value.ref T))
  have hv1:(vs.setIfInBounds 1 (Value.ref T))[1]? =some (.ref T):=by
   rw[Array.getElem?_setIfInBounds_self,if_pos hsz]
  have no:∀b,b∉os→b≠e∧old≠some b:=fun b hb=>⟨fun z=>hb ((hos b).mp (.inl z)),fun z=>hb ((hos b).mp (.inr z))⟩
  have nT:∀b o,s.heap.get? b=some o→b≠T:=fun b o q z=>by rw[z,n1]at q;cases q
  refine Xc.BS (s:={s with heap:=h1}) n5 hd1 hv1 n2 n3 (Array.getElem?_eq_some_iff.mp n4).1 fun h2 oT2 ts2 k1 k2 k3 k4=>h h2 os oe hap hc hdi ⟨fun b o hb hf q=>?_,fun b o hb q=>?_,T,oT2,ts2,_,_,n1,k2,k3,k4,k1 e _ (nT e _ he) n5,Obj.cls_mapFields _ _,Ll _ _,hd1,hv1⟩
  ·refine k1 b o (nT b o q) (N.keep b o (no b hb).1 (no b hb).2 ?_ q)
   rw[hst]at hf;exact hf
  ·obtain⟨sl,z⟩:=N.slot b o (no b hb).1 (no b hb).2 q
   exact⟨sl,k1 b _ (nT b o q) z⟩
 rcases last with h1|⟨T,oT,ts,h1,hT,aT,ne,t1,t2,t3⟩
 ·refine Xc.K_ fr fu hfr he hd h1 fun h1' N=>fin Option.none [e] (fun b=>by simp) (fun b hb=>?_) (Array.getElem?_eq_some_iff.mp h1).1 h1' N
  rw[List.mem_singleton.mp hb];exact⟨F.no,F.ap⟩
 ·refine Xc.La fr fu hfr he hd h1 ne t1 t2 t3 fun h1' N=>fin (some T) [e,T] (fun b=>?_) (fun b hb=>?_) (Array.getElem?_eq_some_iff.mp h1).1 h1' N
  ·simp[eq_comm]
  ·rcases List.mem_cons.mp hb with z|z
   ·rw[z];exact⟨F.no,F.ap⟩
   ·rw[List.mem_singleton.mp z];exact⟨hT,aT⟩
theorem pD.hok{old:List Addr}{oe:Obj}{h':Heap}(S:pD X H s.heap e old oe h')(I:Inv X pins σ H s)(ho:∀b∈old,H b=Option.none):cy X.prog X.w H h':=fun b u q=>by
 have st:∀c v,H c=some v→∀o,s.heap.get? c=some o→h'.get? c=some o:=fun c v hc o z=>
  S.keep c o (fun m=>by rw[ho c m]at hc;cases hc) (fun m=>by rw[I.A2 c m]at hc;cases hc) z
 refine(I.hok b u q).stay (fun c v hc z=>?_) (fun _ z=>z) fun _ _ z=>z
 rcases hc with rfl|hc
 ·exact st _ _ q _ z
 ·exact st _ _ hc _ z
theorem pC.leave(F:pC X pins σ H s e C d)(hst:X.stack=X.env::X.outer)(hfr:X.env.frame=some X.env.locals)(hx:X.ex=[]){E:XK}(hE:E (.ref C) (some d) H):
  wpAny M X.A (leaving X.env (.ref e)) (fun _ s2=>bu X.prog X.w X.outer X.j4 X.cR E (.ref e) s2) E' s:=by
 have I:=F.inv;unfold leaving;refine wpAny_bind (F.note hst hfr fun h' old oe ho hc hd S=>?_);obtain⟨T,oT,ts,oe',vs,n1,n2,n3,n4,n5,n6,n7,n8,n9⟩:=S.last;have aT:=I.apart n1 (by rw[hx];simp)
 have nT:T≠e:=by
  rintro rfl;obtain⟨o,_,q,_⟩:=F.obj;rw[n1]at q;cases q
 refine⟨e,C,d,T,H,oe',oT,vs,ts,rfl,I.os,I.bare,?_,S.hok I fun b hb=>(ho b hb).1,F.no,F.ap.new,I.hok.none_of n1,aT.new,nT,n5,n6.trans hc,n7.trans hd,n8,n9,n2,n3,n4,hE⟩
 have u1:Un X.fs (X.env.locals::old) H H s.heap h':=by
  have fs:∀b,b∉X.fs→b∉X.env.locals::old→b∉frs X.stack:=fun b hb hn m=>by
   rcases List.mem_cons.mp (I.mQ b m)with z|z
   ·exact hn (List.mem_cons.mpr (.inl z))
   ·exact hb z
  have od:∀b,b∉X.env.locals::old→b∉old:=fun b hn m=>hn (List.mem_cons_of_mem _ m)
  exact⟨fun b o q _ hb hn=>S.keep b o (od b hn) (fs b hb hn) q,fun b o q _ _ hn=>S.slot b o (od b hn) q,fun _ _ _ n _=>n,fun b o q hn=>let⟨_,z⟩:=S.slot b o (od b hn) q;⟨_,z⟩,fun _ _ q=>q,fun _ _ _ q=>q,fun _ ps q=>⟨#[],by rw[q];simp⟩⟩
 have u0:Un X.fs (X.env.locals::old) X.j4 H X.cR.heap s.heap:=I.base.mono (fun _ z=>z) fun b z=>by rw[hx]at z;simp at z
 refine(u0.trans u1).Lk fun b hb=>?_
 rcases List.mem_cons.mp hb with z|z
 ·rw[z];exact Heap.get?_none_of_le I.ok.above
 ·exact(ho b z).2.new
end
theorem bN{P:Program}{w:World}{K:PySem.W.Frag}{mg:Str→Option Value}{base:Heap}{N:List Str}{qual:Str}{scope:Scope}{f:Addr}{cd:Value}{A:Around}{outer:List Env}{s:Shared}{H:Hp}{E:XK}:
  Reach (iy (bu P w) P w K mg base N qual scope f cd A outer s H E) E:=fun pins σ H' s' e C d F hE=>F.leave (E:=E) rfl rfl rfl hE
theorem BV{P:Program}{w:World}{K:PySem.W.Frag}{mg:Str→Option Value}{base:Heap}{N:List Str}{qual:Str}{scope:Scope}{f:Addr}{cd:Value}{A:Around}{outer:List Env}{s:Shared}{H:Hp}{E:XK}:
  PassesOwn (model P w) (iy (bu P w) P w K mg base N qual scope f cd A outer s H E).A (iy (bu P w) P w K mg base N qual scope f cd A outer s H E).env (iy (bu P w) P w K mg base N qual scope f cd A outer s H E).xe:=PassesOwn.leaving
abbrev m7:List Value:=[.type "Exception",.type "BaseException",.type "object"]
structure gJ(K:PySem.W.Frag)(C fI:Addr)(ns:List Str):Prop where
 ex:∃nm q N bs sn sub ab col dd k0 k1 k2 k3 k5,K.lookup C=some (excClassObj nm q C N bs m7 true sn sub ab col dd k0 k1 k2 k3 k5 "Exception.__new__")∧
  PySem.W.nsOkIn K N=true∧PySem.W.nsIn K N "__init__"=some (some (.ref fI))∧∀f∈("__setattr__":Str)::"__getattribute__"::"__getattr__"::ns,PySem.W.nsIn K N f=some Option.none
 fn:PySem.W.isFn K (.ref fI)=true
 base:∀f∈ns,typeLookup (.type "Exception") f=pure Option.none
def F4(K:PySem.W.Frag)(C fI:Addr)(ns:List Str):Bool:=match K.lookup C with
 |some ⟨.type "type",_,.cls cd,sl⟩=>(match cd.mro,sl.toList with
  |.ref C'::bm,[_,_,_,_,some (.builtin n),_]=>C'==C&&n=="Exception.__new__"&&!cd.hasDel&&cd.hasDict&&bm==m7&&PySem.W.nsOkIn K cd.ns&&PySem.W.nsIn K cd.ns "__init__"==some (some (.ref fI))&&
   (("__setattr__":Str)::"__getattribute__"::"__getattr__"::ns).all fun f=>PySem.W.nsIn K cd.ns f==some Option.none
  |_,_=>false)
 |_=>false
theorem Lm{K:PySem.W.Frag}{C fI:Addr}{ns:List Str}(q:F4 K C fI ns=true)(fn:PySem.W.isFn K (.ref fI)=true)(base:∀f∈ns,typeLookup (.type "Exception") f=pure Option.none):gJ K C fI ns:=by
 refine⟨?_,fn,base⟩;unfold F4 at q;split at q
 ·rename_i dd cd sl ho
  split at q
  ·rename_i C' bm k0 k1 k2 k3 n k5 hm hs
   simp only[Bool.and_eq_true,beq_iff_eq,Bool.not_eq_true',List.all_eq_true]at q;obtain⟨⟨⟨⟨⟨⟨⟨rfl,rfl⟩,hdel⟩,hdi⟩,rfl⟩,hok⟩,hi⟩,hall⟩:=q;obtain⟨nm,bs,mro,N,qn,hd,sn,sub,ab,col,del⟩:=cd;dsimp only at hm hdel hdi hok hi hall;subst hm hdel hdi
   have hsl:sl=#[k0,k1,k2,k3,some (.builtin "Exception.__new__"),k5]:=by
    obtain⟨l⟩:=sl;simp only at hs;rw[hs]
   subst hsl;exact⟨nm,qn,N,bs,sn,sub,ab,col,dd,k0,k1,k2,k3,k5,ho,hok,hi,hall⟩
  ·cases q
 ·cases q
theorem F5{K:PySem.W.Frag}{h:Heap}{N:Addr}{mN:Str→Option Value}{n:Str}{v:Value}(X:K.In h)(G:h.Ns N mN)(e:PySem.W.nsIn K N n=some (some v)):mN n=some v:=by
 obtain⟨o,es,ep,ho,hd,_,hf⟩:=G;unfold PySem.W.nsIn at e;split at e
 ·rename_i c d es' n' sl q
  have z:=X _ _ q;rw[ho]at z;cases z;cases hd;split at e
  ·rename_i en he
   cases e;rw[←hf];unfold nsFind findBy;rw[←Array.find?_toList,he];rfl
  ·split at e<;>cases e
 ·cases e
structure Ln(h:Heap)(C fI:Addr)(ns:List Str)(nm q:Str)(N:Addr)(bs:List Value)(sn:List Str)(sub:List Value)(ab:Bool)(col:Option Bool)(dd:Option Addr)(k0 k1 k2 k3 k5:Option Value)(mN:Str→Option Value)(oI:Obj):Prop where
 obj:h.get? C=some (excClassObj nm q C N bs m7 true sn sub ab col dd k0 k1 k2 k3 k5 "Exception.__new__")
 BW:h.Ns N mN
 init:mN "__init__"=some (.ref fI)
 no:∀f∈("__setattr__":Str)::"__getattribute__"::"__getattr__"::ns,mN f=Option.none
 fn:h.get? fI=some oI
 fc:oI.cls=.type "function"
theorem gJ.on{K:PySem.W.Frag}{C fI:Addr}{ns:List Str}(T:gJ K C fI ns){h:Heap}(X:K.In h):∃nm q N bs sn sub ab col dd k0 k1 k2 k3 k5 mN oI,Ln h C fI ns nm q N bs sn sub ab col dd k0 k1 k2 k3 k5 mN oI:=by
 obtain⟨nm,q,N,bs,sn,sub,ab,col,dd,k0,k1,k2,k3,k5,lk,ok,hi,hn⟩:=T.ex;have G:h.Ns N (h.nsMap N):=.of_isNs (PySem.W.isNs_of_in X ok);have tf:PySem.W.typeIn K (.ref fI)=some (.type "function"):=beq_iff_eq.mp T.fn;obtain⟨oI,ho,hc⟩:=Option.map_eq_some_iff.mp (show(K.lookup fI).map (·.cls)=some (.type "function")from tf);exact⟨nm,q,N,bs,sn,sub,ab,col,dd,k0,k1,k2,k3,k5,_,oI,X _ _ lk,G,F5 X G hi,fun f hf=>PySem.W.ns_none_of X G (hn f hf),X _ _ ho,hc⟩
section
variable{X:Cx}{pins:List (Addr×Obj)}{σ:St}{H:Hp}{s:Shared}{e C d t fI:Addr}{ns:List Str}{fs:List (Str×V)}{f:Str}{A:Around}{E:Value→Shared→Prop}
theorem pF{a:Addr}{φ:Heap→Prop}{P:Program}{w:World}{H:Hp}{h:Heap}(p:φ h)(ob:∃o,h.get? a=some o)(st:∀h1 h2:Heap,φ h1→(∀o,h1.get? a=some o→h2.get? a=some o)→φ h2):cO P w H h a (.ext φ):=⟨p,ob,st⟩
theorem Lo(e C t:Addr)(od:Option Addr):∀h1 h2:Heap,h1.get? e=some (Xc.iV C t od)→(∀o,h1.get? e=some o→h2.get? e=some o)→h2.get? e=some (Xc.iV C t od):=fun _ _ p k=>k _ p
theorem Lp(d:Addr)(fs:List (Str×V)):∀h1 h2:Heap,(∃mA,h1.Ns1 d mA∧(∀f,fP (fs.lookup f) (mA f))∧PySem.Within mA (fs.map (·.1)))→(∀o,h1.get? d=some o→h2.get? d=some o)→
  ∃mA,h2.Ns1 d mA∧(∀f,fP (fs.lookup f) (mA f))∧PySem.Within mA (fs.map (·.1)):=fun _ _ ⟨mA,n,r⟩ k=>⟨mA,n.at k,r⟩
theorem F6{P:Program}{w:World}{H:Hp}{h:Heap}{od:Option Addr}(p:h.get? e=some (Xc.iV C t od)):cO P w H h e (XO e C t od):=pF p ⟨_,p⟩ (Lo e C t od)
theorem F7{P:Program}{w:World}{H:Hp}{h:Heap}{mA:Str→Option Value}(n:h.Ns1 d mA)(r:∀f,fP (fs.lookup f) (mA f))(wi:PySem.Within mA (fs.map (·.1))):cO P w H h d (XD d fs):=
 pF ⟨mA,n,r,wi⟩ (let⟨o,_,_,e',_⟩:=n;⟨o,e'⟩) (Lp d fs)
theorem Lq{y:V}{u:Value}{Q:Unit→Shared→Prop}(I:Inv X pins σ H s)(T:gJ X.K C fI ns)(hf:f∈ns)(he:H e=some (XO e C t Option.none))(ry:RelV y u)
  (h:∀d s',H d=Option.none→d≠e→Inv X pins σ (upd (upd H d (XD d [(f,y)])) e (XO e C t (some d))) s'→Q () s'):wpAny (model X.prog X.w) A (setAttr (.ref e) f u) Q E s:=by
 obtain⟨nm,q,N,bs,sn,sub,ab,col,dd,k0,k1,k2,k3,k5,mN,oI,O⟩:=T.on I.cz;have ho:s.heap.get? e=some (Xc.iV C t Option.none):=(I.hok e _ he).1;obtain⟨hp,g,dr,tk,os⟩:=s;have ne:hp.objs.size≠e:=Nat.ne_of_gt (Heap.lt_size ho);refine Xc.Le PySem.F.store_Exception O.obj O.BW (O.no _ (by simp)) (O.no _ (by simp[hf])) (T.base f hf) ho rfl (fun c z=>by cases z) rfl rfl fun h' tk' k1' k2' k3'=>?_
 have nd:H hp.objs.size=Option.none:=I.hok.fresh (Nat.le_refl _);refine h hp.objs.size _ nd ne ?_;have tr:∀b u,H b=some u→b≠hp.objs.size:=fun b u q z=>by rw[z,nd]at q;cases q
 have nx:∀b u,H b=some u→(∀φ,u≠HO.ext φ)→b≠e:=fun b u q hu z=>by rw[z,he]at q;cases q;exact hu _ rfl
 have at_:∀b u,H b=some u→b≠e→upd (upd H hp.objs.size (XD hp.objs.size [(f,y)])) e (XO e C t (some hp.objs.size)) b=some u:=fun b u q hb=>by
  rw[au hb,au (tr b u q)];exact q
 refine I.un (t':=tk') (h':=h') ⟨fun b o q n _ _=>k1' b o (fun z=>by rw[z,he]at n;cases n) q,fun b o q n _ _=>⟨o.slots,k1' b o (fun z=>by rw[z,he]at n;cases n) q⟩,fun b o q n _=>?_,fun b o q _=>?_,
  fun b xs q=>at_ b _ q (nx b _ q fun _ z=>by cases z),fun b o xs q=>at_ b _ q (nx b _ q fun _ z=>by cases z),fun b ps q=>⟨#[],?_⟩⟩ fun b u q=>?_
 ·have b1:b≠e:=fun z=>by rw[z,he]at n;cases n
  have b2:b≠hp.objs.size:=Nat.ne_of_lt (Heap.lt_size q);rw[au b1,au b2];exact n
 ·by_cases hb:b=e
  ·rw[hb];exact⟨_,k2'⟩
  ·exact⟨o,k1' b o hb q⟩
 ·rw[at_ b _ q (nx b _ q fun _ z=>by cases z)];simp
 ·by_cases b1:b=e
  ·subst b1
   rw[aj]at q;cases q;exact F6 k2'
  ·rw[au b1]at q
   by_cases b2:b=hp.objs.size
   ·subst b2
    rw[aj]at q;cases q;refine F7 k3' (fun g=>?_) (fun g hg=>?_)
    ·by_cases z:g=f
     ·rw[z,if_pos rfl]
      show fP (List.lookup f [(f,y)]) (some u);rw[List.lookup_cons,beq_self_eq_true];exact ry
     ·rw[if_neg z]
      show fP (List.lookup g [(f,y)]) Option.none;rw[List.lookup_cons,beq_eq_false_iff_ne.mpr z];exact True.intro
    ·show g∈[f]
     by_cases z:g=f
     ·rw[z];exact List.mem_singleton.mpr rfl
     ·rw[if_neg z]at hg;exact absurd rfl hg
   ·rw[au b2]at q
    refine(I.hok b _ q).stay (fun c v hc z=>?_) (fun c z=>at_ c _ z (nx c _ z fun _ z=>by cases z)) fun c xs z=>at_ c _ z (nx c _ z fun _ z=>by cases z)
    rcases hc with rfl|hc
    ·exact k1' _ _ b1 z
    ·exact k1' _ _ (nx c _ hc fun _ z=>by cases z) z
theorem Lr{y:V}{u:Value}{Q:Unit→Shared→Prop}(I:Inv X pins σ H s)(T:gJ X.K C fI ns)(hf:f∈ns)(he:H e=some (XO e C t (some d)))(hd:H d=some (XD d fs))(hl:fs.length<1000)(ry:RelV y u)
  (h:∀s',Inv X pins σ (upd H d (XD d (d_ f y fs))) s'→Q () s'):wpAny (model X.prog X.w) A (setAttr (.ref e) f u) Q E s:=by
 obtain⟨nm,q,N,bs,sn,sub,ab,col,dd,k0,k1,k2,k3,k5,mN,oI,O⟩:=T.on I.cz;have ho:s.heap.get? e=some (Xc.iV C t (some d)):=(I.hok e _ he).1;obtain⟨mA,n,r,wi⟩:=(I.hok d _ hd).1;obtain⟨hp,g,dr,tk,os⟩:=s
 have nde:d≠e:=fun z=>by
  obtain⟨od,es,ep,e1,e2,_⟩:=n;rw[z]at e1;have e3:=ho.symm.trans e1;cases e3;cases e2
 have neC:e≠C:=fun z=>by
  have:=O.obj;rw[←z]at this;have e3:=ho.symm.trans this;cases e3
 have hz:(fs.map (·.1)).length≤sizeLine:=by rw[List.length_map,sizeLine_eq];omega
 refine store_attr PySem.F.store_Exception O.obj O.BW (O.no _ (by simp)) (O.no _ (by simp[hf])) (T.base f hf) neC ⟨_,ho,rfl,(fun c z=>by cases z),.inr ⟨d,rfl,nde,n⟩⟩ (fun h' tk' I' kp sm=>?_) wi hz;obtain⟨o1,s1,s2,s3,s4,s5⟩:=sm _ ho;obtain⟨o2,i1,i2,i3,i4⟩:=I';have eo:o2=o1:=Option.some.inj (i1.symm.trans s1);subst eo;have dd':=s5 d rfl
 have nn:h'.Ns1 d (fun y'=>if y'=f then some u else mA y'):=by
  rcases i4 with⟨z,_⟩|⟨d',z,_,n'⟩
  ·rw[z]at dd';cases dd'
  ·rw[z]at dd';cases dd';exact n'
 have oe:o2=Xc.iV C t (some d):=by
  obtain⟨a1,a2,a3,a4⟩:=o2;simp only at s2 s3 s4 dd';subst s2 s3 s4 dd';rfl
 subst oe
 have kk:∀b v,b≠d→hp.get? b=some v→h'.get? b=some v:=fun b v hb z=>by
  by_cases b1:b=e
  ·rw[b1]at z⊢
   rw[z.symm.trans ho];exact s1
  ·refine kp b v b1 (fun o0 dx h0 hx=>?_) z
   have z0:=Option.some.inj (h0.symm.trans ho);subst z0;cases hx;exact hb
 refine h _ (I.write (t':=tk') (x:=d) (e:=d) (by rw[hd];exact True.intro) (.inl rfl) kk (let⟨o,_,_,e',_⟩:=nn;⟨o,e'⟩) (F7 nn (fun g=>?_) (fun g hg=>?_)))
 ·show fP ((d_ f y fs).lookup g) (if g=f then some u else mA g)
  rw[Bm];by_cases z:g=f
  ·rw[if_pos z,if_pos z];exact ry
  ·rw[if_neg z,if_neg z];exact r g
 ·by_cases z:g=f
  ·rw[z];exact(o7 f y fs).1
  ·refine(o7 f y fs).2 g (wi g fun z'=>hg ?_)
   show(if g=f then some u else mA g)=Option.none;rw[if_neg z];exact z'
end
theorem Ls{H:Hp}{a b:Addr}{o u:HO}(h:a≠b):upd (upd H a o) b u=upd (upd H b u) a o:=by
 funext c
 unfold upd;by_cases h1:c=a
 ·by_cases h2:c=b
  ·exact absurd (h1.symm.trans h2) h
  ·simp[h1,h]
 ·by_cases h2:c=b
  ·simp[h2,Ne.symm h]
  ·simp[h1,h2]
def Lu(C:Addr)(ta tv:TE)(f:Str):TS:=fun D σ H=>tv σ H fun y H1=>ta σ H1 fun x H2=>∃e t,x=.ref e∧H2 e=some (XO e C t Option.none)∧
 ∀d,H2 d=Option.none→d≠e→D.nx σ (upd (upd H2 d (XD d [(f,y)])) e (XO e C t (some d)))
def Lv(C:Addr)(ta tv:TE)(f:Str):TS:=fun D σ H=>tv σ H fun y H1=>ta σ H1 fun x H2=>∃e t d fs,x=.ref e∧H2 e=some (XO e C t (some d))∧H2 d=some (XD d fs)∧fs.length<1000∧D.nx σ (upd H2 d (XD d (d_ f y fs)))
section
variable{X:Cx}{o value:PySem.Expr}{f:Str}{pos pos':Pos}{ta tv:TE}{C fI:Addr}{ns:List Str}
theorem Lw(T:gJ X.K C fI ns)(hf:f∈ns)(ha:PE X o ta)(hv:PE X value tv)(hs:swapsWith value (some (.Attribute o f pos')) pos.line X.env=pure false):PS X (.Assign [.Attribute o f pos'] value pos) (Lu C ta tv f):=by
 intro pins s σ H D I h;refine plainObj_wpAny_Assign_Attribute (bh (hv pins s σ H _ I h) fun u s1 ⟨y,H1,I1,ry,q⟩=>bh (ha pins s1 σ H1 _ I1 q) fun ov s2 ⟨x,H2,I2,rx,e,t,ex,ea,q2⟩=>?_) hs;subst ex;obtain rfl:ov=Value.ref e:=rx;exact Lq I2 T hf ea ry fun d s3 n1 n2 I3=>⟨σ,_,I3,q2 d n1 n2⟩
theorem Lx(T:gJ X.K C fI ns)(hf:f∈ns)(ha:PE X o ta)(hv:PE X value tv)(hs:swapsWith value (some (.Attribute o f pos')) pos.line X.env=pure false):PS X (.Assign [.Attribute o f pos'] value pos) (Lv C ta tv f):=by
 intro pins s σ H D I h;refine plainObj_wpAny_Assign_Attribute (bh (hv pins s σ H _ I h) fun u s1 ⟨y,H1,I1,ry,q⟩=>bh (ha pins s1 σ H1 _ I1 q) fun ov s2 ⟨x,H2,I2,rx,e,t,d,fs,ex,ea,ed,l,q2⟩=>?_) hs;subst ex;obtain rfl:ov=Value.ref e:=rx;exact Lr I2 T hf ea ed l ry fun s3 I3=>⟨σ,_,I3,q2⟩
end
def BX(C:Addr)(sp:Sp)(E:XK)(t:TA):TS:=fun _ σ H=>t σ H fun vs H1=>vs.length≤sizeLine∧∀e tp,H1 e=Option.none→
 sp (.ref e::vs) (upd H1 e (XO e C tp Option.none)) (fun v H2=>v=.aP∧∃d,H2 e=some (XO e C tp (some d))∧E (.ref C) (some d) (fQ H2 e)) fun _ _ _=>False
section
variable{X:Cx}{C fI:Addr}{ns:List Str}{k:Nat}{fd:FuncData}{ps:List Str}{sp:Sp}{E:XK}{x:Str}{np cpos pos:Pos}{e0:PySem.Expr}{es:List PySem.Expr}{t:TA}
theorem Ly(T:gJ X.K C fI ns)(F:aF X.prog X.w X.K X.mg X.base af k fI fd ps sp)(hr:bX (k+1) X.A)(hg:Gl X x)(hm:X.mg x=some (.ref C))(hb:Binds X.K fd ps [])(hcalm:X.calm=true)(hex:X.ex=[])(R:Reach X E)
  (ha:PA X (e0::es) t)(hdb:(x==("__debug__":Str))=false:=by decide)(he:starEach (e0::es) X.env=(false,eval e0 X.env)::starEach es X.env:=by rfl)(hpl:(backTo cpos (starEach es X.env)).any (·.1)=false:=by rfl):
  PS X (.Raise (some (.Call (.Name x np) (e0::es) [] cpos)) Option.none pos) (BX C sp E t):=by
 intro pins s σ H D I h;obtain⟨nm,q,N,bs,sn,sub,ab,col,dd,k0,k1,k2,k3,k5,lk,ok,hi,hn⟩:=T.ex;obtain⟨_,_,_,_,_,_,_,_,_,_,_,_,_,_,_,oI,O⟩:=T.on I.mod.jc
 refine Xc.Lc (C:=C) (N:=N) (mN:=X.base.nsMap N) (fI:=fI) (oI:=oI) (nm:=nm) (q:=q) (bs:=bs) (bm:=m7) (hdct:=true) (sn:=sn) (sub:=sub) (ab:=ab) (col:=col) (dd:=dd) (k0:=k0) (k1:=k1) (k2:=k2) (k3:=k3) (k5:=k5)
  PySem.F.excBase_Exception (I.ok.hd hcalm) ?_ O.fc (j8 I hg hm ⟨rfl,bh (ha cpos pins s σ H _ I h) fun us s2 ⟨vs,H1,I1,r,hl,z⟩=>?_⟩ hdb) he hpl
 ·exact F5 I.mod.jc (.of_isNs (PySem.W.isNs_of_in I.mod.jc ok)) hi
 have G0:X.base.Ns N (X.base.nsMap N):=.of_isNs (PySem.W.isNs_of_in I.mod.jc ok);refine⟨by rw[←r.length];exact hl,I1.cz _ _ lk,G0.keeps I1.bk,I1.bk _ _ O.fn,fun h' e hm'=>?_⟩;obtain⟨tp,m1,m2,m3⟩:=hm'.there;have n1:H1 e=Option.none:=I1.hok.none_of hm'.new;have ne:∀b u,H1 b=some u→b≠e:=fun b u z1 z2=>by rw[z2,n1]at z1;cases z1
 have at_:∀b u,H1 b=some u→upd H1 e (XO e C tp Option.none) b=some u:=fun b u z1=>by rw[au (ne b u z1)];exact z1
 have I2:Inv X pins σ (upd H1 e (XO e C tp Option.none)) {s2 with heap:=h'}:=by
  refine I1.un (t':=s2.toks) (h':=h') ⟨fun b o q' _ _ _=>hm'.keeps b o q',fun b o q' _ _ _=>⟨o.slots,hm'.keeps b o q'⟩,fun b o q' n _=>?_,fun b o q' _=>⟨o,hm'.keeps b o q'⟩,fun b xs q'=>at_ b _ q',fun b o xs q'=>at_ b _ q',fun b ps' q'=>⟨#[],by rw[at_ b _ q'];simp⟩⟩ fun b u q'=>?_
  ·have b1:b≠e:=fun z1=>by rw[z1,hm'.new]at q';cases q'
   rw[au b1];exact n
  ·by_cases b1:b=e
   ·subst b1
    rw[aj]at q';cases q';exact F6 m1
   ·rw[au b1]at q'
    exact(I1.hok b _ q').stay (fun c v _ z1=>hm'.keeps c v z1) (fun c z1=>at_ c _ z1) fun c xs z1=>at_ c _ z1
 have hq:=z e tp n1;have r2:Vals (V.ref e::vs) (Value.ref e::us):=.cons rfl r
 have hlen:(Value.ref e::us++([]:List Value)).length=ps.length:=by
  have e1:=r2.length;rw[F.len _ _ _ _ hq]at e1;rw[List.append_nil];exact e1.symm
 have hbd:BindsTo {s2 with heap:=h'} fd ⟨Value.ref e::us,[]⟩ (ps.zip (Value.ref e::us)):=by
  have z1:=hb {s2 with heap:=h'} (Value.ref e::us) I2.cz hlen
  rwa[List.append_nil]at z1
 refine wpAny_call (codeAny_mono (F.run _ X.stack {s2 with heap:=h'} _ ⟨Value.ref e::us,[]⟩ (Value.ref e::us) _ _ _ (hr.make C us []) (I2.o8.make C us []) hbd r2 hq) fun rr s' hq'=>?_);cases rr with
 |error e1=>exact False.elim hq'
 |ok fl=>
  cases fl with
  |next=>exact False.elim hq'
  |brk=>exact False.elim hq'
  |cont=>exact False.elim hq'
  |ret u=>
   obtain⟨v,H3,I3,rv,ev,d,z1,z2⟩:=I2.after hq';subst ev;have ge:s'.heap.get? e=some (Xc.iV C tp (some d)):=(I3.hok e _ z1).1;refine⟨rv,I3.cz _ _ lk,⟨tp,some d,ge⟩,R pins σ (fQ H3 e) s' e C d ⟨I3.Lj z1,m6,I1.apart hm'.new (by rw[hex];simp),_,_,ge,rfl,rfl,rfl,.inl rfl⟩ z2⟩
end
def Cx.h_(X:Cx)(pn:List (Addr×Obj))(xe:Value→Shared→Prop):Cx:={X with pn:=pn,xe:=xe}
def Cx.hnd(X:Cx)(pn:List (Addr×Obj))(e:Addr)(oe:Obj):Cx:={X with A:=X.A.mark (some (.ref e)),calm:=false,pn:=(e,oe)::pn,xe:=fun _ _=>False}
section
variable{X:Cx}{pins:List (Addr×Obj)}{σ:St}{H:Hp}{s:Shared}{e:Addr}{oe:Obj}
theorem Inv.h_(I:Inv X pins σ H s)(xe:Value→Shared→Prop):Inv (X.h_ (X.pn++pins) xe) [] σ H s:=
 ⟨⟨I.ok.mod,I.ok.kind,I.ok.glob,I.ok.blt,I.ok.above,I.ok.inj,I.ok.has,I.ok.j5,I.ok.hd,I.ok.frames,I.ok.stk,I.ok.k_,I.ok.bs,I.ok.gp,I.ok.j6,I.ok.j7,I.ok.fz,I.ok.gY⟩,I.os,I.bare,I.base,I.loc,I.cell,I.free,I.d9,
  fun p hp=>I.pin p (by rw[show(X.h_ (X.pn++pins) xe).pn=X.pn++pins from rfl,List.append_nil]at hp;exact hp),I.hok,I.len⟩
theorem Inv.jl{xe:Value→Shared→Prop}{pins':List (Addr×Obj)}(I:Inv (X.h_ (X.pn++pins) xe) pins' σ H s):Inv X pins σ H s:=
 ⟨⟨I.ok.mod,I.ok.kind,I.ok.glob,I.ok.blt,I.ok.above,I.ok.inj,I.ok.has,I.ok.j5,I.ok.hd,I.ok.frames,I.ok.stk,I.ok.k_,I.ok.bs,I.ok.gp,I.ok.j6,I.ok.j7,I.ok.fz,I.ok.gY⟩,I.os,I.bare,I.base,I.loc,I.cell,I.free,I.d9,
  fun p hp=>I.pin p (List.mem_append_left _ hp),I.hok,I.len⟩
theorem Inv.hnd(I:Inv X pins σ H s)(he:s.heap.get? e=some oe)(hn:H e=Option.none)(ap:Apart X pins e)(hd:∀v,oe.data≠.cell v):Inv (X.hnd (X.pn++pins) e oe) [] σ H s:=
 ⟨⟨I.ok.mod,I.ok.kind,I.ok.glob,I.ok.blt,I.ok.above,I.ok.inj,I.ok.has,I.ok.j5,(fun z=>by cases z),I.ok.frames,I.ok.stk,I.ok.k_,I.ok.bs,I.ok.gp,I.ok.j6,I.ok.j7,I.ok.fz,I.ok.gY⟩,I.os,I.bare,I.base,I.loc,I.cell,I.free,I.d9,
  fun p hp=>by
   have hp':p∈(e,oe)::(X.pn++pins):=by
    rw[show(X.hnd (X.pn++pins) e oe).pn=(e,oe)::(X.pn++pins)from rfl,List.append_nil]at hp;exact hp
   rcases List.mem_cons.mp hp' with z|z
   ·rw[z];exact⟨he,hn,ap.loc,ap.fr,hd⟩
   ·exact I.pin p z,I.hok,I.len⟩
theorem Inv.F8(ok:X.Ok){pins':List (Addr×Obj)}(I:Inv (X.hnd (X.pn++pins) e oe) pins' σ H s):Inv X pins σ H s:=
 ⟨ok,I.os,I.bare,I.base,I.loc,I.cell,I.free,I.d9,fun p hp=>I.pin p (List.mem_append_left _ (List.mem_cons_of_mem _ hp)),I.hok,I.len⟩
theorem Inv.blank(I:Inv X pins σ H s){h':Heap}{t':Nat}{m:Str→Option Value}(hs:Heap.SameBut X.env.locals s.heap h')(hn:h'.Ns X.env.locals m):Inv X pins (List.replicate X.N.length Option.none) H {s with heap:=h',toks:=t'}:=by
 have neL:∀b o,X.cR.heap.get? b=some o→b≠X.env.locals:=fun b o q=>Nat.ne_of_lt (Nat.lt_of_lt_of_le (Heap.lt_size q) I.ok.above)
 refine⟨I.ok,I.os,I.bare,⟨fun b o q n hb hx=>(hs.2 b (neL b o q)).trans (I.base.keep b o q n hb hx),fun b o q n hb hx=>?_,I.base.free,fun b o q hx=>?_,I.base.tups,I.base.d7,I.base.d8⟩,⟨m,hn,fun i x v _ h2 _=>?_⟩,fun x c q=>?_,I.free,I.d9,fun p hp=>?_,fun b u q=>?_,by simp⟩
 ·obtain⟨sl,z⟩:=I.base.slot b o q n hb hx
  exact⟨sl,(hs.2 b (neL b o q)).trans z⟩
 ·obtain⟨o',z⟩:=I.base.there b o q hx
  exact⟨o',(hs.2 b (neL b o q)).trans z⟩
 ·rw[List.getElem?_replicate]at h2
  split at h2<;>cases h2
 ·obtain⟨v,z⟩:=I.cell x c q
  exact⟨v,z.sameBut hs (I.iP x c q)⟩
 ·obtain⟨z1,z2,z3,z4,z5⟩:=I.pin p hp
  exact⟨(hs.2 _ z3).trans z1,z2,z3,z4,z5⟩
 ·refine(I.hok b u q).stay (fun c v hc z=>(hs.2 c ?_).trans z) (fun _ z=>z) fun _ _ z=>z
  rintro rfl;rcases hc with rfl|hc
  ·rw[I.free]at q;cases q
  ·rw[I.free]at hc;cases hc
end
def Lz(e d:Addr)(f:Str)(te:TE):TE:=fun σ H Q=>te σ H fun x H1=>x=.ref e∧∃fs v,H1 d=some (XD d fs)∧fs.lookup f=some v∧Q v H1
theorem BY{X:Cx}{pn:List (Addr×Obj)}{e d C fI:Addr}{oe:Obj}{vs:Array Value}{ns:List Str}{f:Str}{ex:PySem.Expr}{te:TE}{pos:Pos}(T:gJ X.K C fI ns)(hf:f∈ns)(hc:oe.cls=.ref C)(hd:oe.dict=some d)(hda:oe.data=.fields vs)
  (he:PE (X.hnd pn e oe) ex te)(hb:attributeBase ex f X.env (eval ex X.env)=eval ex X.env):PE (X.hnd pn e oe) (.Attribute ex f pos) (Lz e d f te):=by
 intro pins s σ H Q I h;refine EX (env:=(X.hnd pn e oe).env) hb (bh (he pins s σ H _ I h) fun u s1 ⟨x,H1,I1,rx,exx,fs,v,hd',l,q⟩=>?_);subst exx;obtain rfl:u=Value.ref e:=rx;have ge:s1.heap.get? e=some oe:=(I1.pin (e,oe) (List.mem_append_left _ (List.mem_cons_self ..))).1;obtain⟨nm,q0,N,bs,sn,sub,ab,col,dd,k0,k1,k2,k3,k5,mN,oI,O⟩:=(show gJ (X.hnd pn e oe).K C fI ns from T).on I1.cz;obtain⟨mA,n,r,wi⟩:=(I1.hok d _ hd').1;obtain⟨u',hu,ru⟩:=fP.some_of (v:=v) (o:=mA f) (by rw[←l];exact r f);obtain⟨hp,g,dr,tk,os⟩:=s1;exact Xc.Li PySem.F.attrBase_Exception O.obj O.BW (O.no _ (by simp)) (O.no _ (by simp)) (O.no _ (by simp[hf])) (T.base f hf) ge hc (fun c z=>by rw[hda]at z;cases z) hd n hu (PySem.W.handedOut_of (EV ru)) ⟨v,H1,I1.tok (tk+1),ru,q⟩
theorem Apart.sub{X:Cx}{pins:List (Addr×Obj)}{pins':List (Addr×Obj)}{xe:Value→Shared→Prop}{b:Addr}(a:Apart (X.h_ (X.pn++pins) xe) pins' b):Apart X pins b:=⟨a.new,a.loc,a.cell,fun p hp=>a.pin p (List.mem_append_left _ hp),a.fr⟩
theorem pD.inv{X:Cx}{pins:List (Addr×Obj)}{σ:St}{H:Hp}{s:Shared}{e:Addr}{old:List Addr}{oe:Obj}{h':Heap}(S:pD X H s.heap e old oe h')(I:Inv X pins σ H s)(ho:∀b∈old,H b=Option.none∧Apart X pins b):Inv X pins σ H {s with heap:=h'}:=by
 have fs:∀b,b≠X.env.locals→b∉X.fs→b∉frs X.stack:=fun b h1 h2 m=>by
  rcases List.mem_cons.mp (I.mQ b m)with z|z
  ·exact h1 z
  ·exact h2 z
 refine I.BU (g':=s.gens) (t':=s.toks) (d':=s.drawn) (ch:=old) (fun b hb=>(ho b hb).2) (fun b o h1 h2 h3 q _=>S.keep b o h3 (fs b h1 h2) q) (fun b o _ _ h3 q _=>S.slot b o h3 q) (fun _ _ _ _ n=>n) (fun b o h3 q=>let⟨_,z⟩:=S.slot b o h3 q;⟨_,z⟩)
  (fun _ _ z=>z) (fun _ _ _ z=>z) (fun b ps q=>⟨#[],by rw[q];simp⟩) (fun m hm=>?_) (S.hok I fun b hb=>(ho b hb).1) I.bare
 obtain⟨o,es,ep,ho',r⟩:=hm;obtain⟨sl,z⟩:=S.slot _ o (fun m=>(ho _ m).2.loc rfl) ho';exact⟨_,es,ep,z,r⟩
def LA(C:Addr)(i N:Nat)(tb:XK→TS)(th:Addr→Addr→TS):TS:=fun D σ H=>
 tb (fun c od H'=>∃d,c=.ref C∧od=some d∧∀e,H' e=Option.none→th e d {nx:=fun _ _=>False,rt:=D.rt} ((List.replicate N Option.none).set i (some (.ref e))) H') D σ H
section
variable{X:Cx}{C fI:Addr}{ns:List Str}{i:Nat}{n x:Str}{np hpos pos:Pos}{body suite:List Stmt}{b0:Stmt}{tb:XK→TS}{th:Addr→Addr→TS}
theorem F9(T:gJ X.K C fI ns)(hst:X.stack=X.env::X.outer)(hfr:X.env.frame=some X.env.locals)(hex:X.ex=[])(hN:X.N.Nodup)(hi:X.N[i]? =some n)(hloc:X.env.scope.names.lookup n=some .local)(hg:Gl X x)(hm:X.mg x=some (.ref C))
  (hb:∀pn xe E,Reach (X.h_ pn xe) E→PassesOwn (model X.prog X.w) X.A X.env xe→fB (X.h_ pn xe) body (tb E))
  (hh:∀pn e oe d vs,oe.cls=.ref C→oe.dict=some d→oe.data=.fields vs→fB (X.hnd pn e oe) (b0::suite) (th e d))(hdb:(x==("__debug__":Str))=false:=by decide):
  PS X (.Try body [.ExceptHandler (some (.Name x np)) (some n) (b0::suite) hpos] [] [] pos) (LA C i X.N.length tb th):=by
 intro pins s σ H D I h;obtain⟨nm,q0,N,bs,sn,sub,ab,col,dd,k0,k1,k2,k3,k5,lk,ok,hin,hno⟩:=T.ex;refine wpAny_Try_except ?_
 have R:Reach (X.h_ (X.pn++pins) fun v s1=>wpAny (model X.prog X.w) X.A (noteFrame v X.env) (fun _ s2=>wpAny (model X.prog X.w) X.A (setFlight v none) (fun _ s3=>wpAny (model X.prog X.w) X.A (handleBy v X.env [.ExceptHandler (some (.Name x np)) (some n) (b0::suite) hpos]) (SP X pins D) X.xe s3) X.xe s2) X.xe s1)
   (fun c od H'=>∃d,c=.ref C∧od=some d∧∀e,H' e=Option.none→th e d {nx:=fun _ _=>False,rt:=D.rt} ((List.replicate X.N.length Option.none).set i (some (.ref e))) H'):=by
  rintro pins' σ' H' s' e C' d F ⟨d0,ec,ed,rd⟩;cases ec;cases ed;refine F.note (M:=model X.prog X.w) hst hfr fun h1 old oe ho hc hd S=>?_
  have I1:=S.inv F.inv ho;obtain⟨Tr,oT,ts,oe',vs,n1,n2,n3,n4,n5,n6,n7,n8,n9⟩:=S.last;have aT:=F.inv.apart n1 (by show Tr∉X.ex;rw[hex];simp);have hT:H' Tr=Option.none:=F.inv.hok.none_of n1
  have hTe:Tr≠e:=by
   rintro rfl;obtain⟨o,_,q,_⟩:=F.obj;rw[n1]at q;cases q
  have IX:Inv X pins σ' H' {s' with heap:=h1}:=I1.jl;have I2:Inv (X.hnd (X.pn++pins) e oe') [] σ' H' {s' with heap:=h1}:=IX.hnd n5 F.no F.ap.sub (fun v z=>by rw[n8]at z;cases z);refine wpAny_handleBy_cons (codeAny_handlers_test (j8 (X:=X.hnd (X.pn++pins) e oe') I2 hg hm ?_ hdb)) (by intro q;cases q);have hC:h1.get? C=some (excClassObj nm q0 C N bs m7 true sn sub ab col dd k0 k1 k2 k3 k5 "Exception.__new__"):=IX.cz _ _ lk;refine wpAny_excMatches_sub_self (g:=s'.gens) (d:=s'.drawn) (t:=s'.toks) (os:=s'.os) hC n5 (n6.trans hc) (by decide) ?_;refine codeAny_handlers_suite_as (Xc.BS (s:={s' with heap:=h1}) n5 n8 n9 n2 n3 (Array.getElem?_eq_some_iff.mp n4).1 fun h2 oT2 ts2 m1 m2 m3 m4=>?_)
  have I3:Inv (X.hnd (X.pn++pins) e oe') [] σ' H' {s' with heap:=h2}:=by
   have ap:Apart (X.hnd (X.pn++pins) e oe') [] Tr:=⟨aT.new,aT.loc,aT.cell,fun p hp=>by
    have hp':p∈(e,oe')::(X.pn++pins):=by
     rw[show(X.hnd (X.pn++pins) e oe').pn=(e,oe')::(X.pn++pins)from rfl,List.append_nil]at hp;exact hp
    rcases List.mem_cons.mp hp' with z|z
    ·rw[z];exact Ne.symm hTe
    ·exact aT.sub.pin p z,aT.fr⟩
   have kp:∀b o,b∉[Tr]→h1.get? b=some o→h2.get? b=some o:=fun b o hb q=>m1 b o (fun z=>hb (by rw[z];simp)) q
   refine Inv.BU (s:={s' with heap:=h1}) (h':=h2) (g':=s'.gens) (t':=s'.toks) (d':=s'.drawn) (ch:=[Tr]) I2 (fun b hb=>by rw[List.mem_singleton.mp hb];exact ap) (fun b o _ _ h3 q _=>kp b o h3 q) (fun b o _ _ h3 q _=>⟨o.slots,kp b o h3 q⟩) (fun _ _ _ _ z=>z) (fun b o h3 q=>⟨o,kp b o h3 q⟩)
    (fun _ _ z=>z) (fun _ _ _ z=>z) (fun b ps q=>⟨#[],by rw[q];simp⟩) (fun m hm'=>?_) (fun b u q=>?_) I2.bare
   ·obtain⟨o,es,ep,ho',r⟩:=hm'
    exact⟨o,es,ep,kp _ o (fun z=>ap.loc (List.mem_singleton.mp z).symm) ho',r⟩
   ·refine(I2.hok b u q).stay (fun c v hc' z=>kp c v (fun zz=>?_) z) (fun _ z=>z) fun _ _ z=>z
    have zz':=List.mem_singleton.mp zz;rcases hc' with rfl|hc'
    ·rw[zz',hT]at q;cases q
    ·rw[zz',hT]at hc';cases hc'
  refine A4 (X:=X.hnd (X.pn++pins) e oe') (i:=i) (v:=V.ref e) I3 hN hi (.inl hloc) rfl (fun s3 I4=>?_) (.inr hloc);have hlen:i<X.N.length:=(List.getElem?_eq_some_iff.mp hi).1
  have I5:Inv (X.hnd (X.pn++pins) e oe') [] ((List.replicate X.N.length Option.none).set i (some (.ref e))) H' s3:=I4.weak (by rw[List.length_set,List.length_replicate,List.length_set];exact I3.len.symm) fun j v hj=>by
   by_cases hji:i=j
   ·subst hji
    rw[List.getElem?_set_self (by rw[List.length_replicate];exact hlen)]at hj;rw[List.getElem?_set_self (by rw[I3.len];exact hlen)];exact hj
   ·rw[List.getElem?_set_ne hji,List.getElem?_replicate]at hj
    split at hj<;>cases hj
  refine wpAny_mono (hh (X.pn++pins) e oe' d vs (n6.trans hc) (n7.trans hd) n8 [] s3 _ H' _ I5 (rd e F.no)) (fun f s4 q=>?_) fun _ _ z=>z.elim
  cases f with
  |next=>obtain⟨_,_,_,q⟩:=q;exact q.elim
  |brk=>obtain⟨_,_,_,q⟩:=q;exact q.elim
  |cont=>obtain⟨_,_,_,q⟩:=q;exact q.elim
  |ret u=>
   obtain⟨v,σ5,H5,I6,r5,q5⟩:=q;obtain⟨m,hn,_⟩:=I6.loc;refine wpAny_nameGoes_keeps (env:=X.env) hloc hn (by rw[IX.ok.kind];rfl) fun h' v' hn' hs=>?_
   exact⟨v,_,H5,(Inv.F8 IX.ok I6).blank hs hn',r5,q5⟩
 refine wpAny_mono (hb _ _ _ R PassesOwn.looking [] s σ H D (I.h_ _) h) (fun f s1 q=>?_) fun _ _ z=>z
 cases f with
 |next=>
  obtain⟨σ',H',I',q⟩:=q;exact wpAny_execs_nil ⟨σ',H',I'.jl,q⟩
 |brk=>obtain⟨σ',H',I',q⟩:=q;exact⟨σ',H',I'.jl,q⟩
 |cont=>obtain⟨σ',H',I',q⟩:=q;exact⟨σ',H',I'.jl,q⟩
 |ret u=>obtain⟨v,σ',H',I',r,q⟩:=q;exact⟨v,σ',H',I'.jl,r,q⟩
def LB(C:Addr)(N:Nat)(tb:XK→TS)(th:Addr→Addr→TS):TS:=fun D σ H=>
 tb (fun c od H'=>∃d,c=.ref C∧od=some d∧∀e,H' e=Option.none→th e d {nx:=fun _ _=>False,rt:=D.rt} (List.replicate N Option.none) H') D σ H
theorem BZ(T:gJ X.K C fI ns)(hst:X.stack=X.env::X.outer)(hfr:X.env.frame=some X.env.locals)(hex:X.ex=[])(hg:Gl X x)(hm:X.mg x=some (.ref C))
  (hb:∀pn xe E,Reach (X.h_ pn xe) E→PassesOwn (model X.prog X.w) X.A X.env xe→fB (X.h_ pn xe) body (tb E))
  (hh:∀pn e oe d vs,oe.cls=.ref C→oe.dict=some d→oe.data=.fields vs→fB (X.hnd pn e oe) (b0::suite) (th e d))(hdb:(x==("__debug__":Str))=false:=by decide):
  PS X (.Try body [.ExceptHandler (some (.Name x np)) Option.none (b0::suite) hpos] [] [] pos) (LB C X.N.length tb th):=by
 intro pins s σ H D I h;obtain⟨nm,q0,N,bs,sn,sub,ab,col,dd,k0,k1,k2,k3,k5,lk,ok,hin,hno⟩:=T.ex;refine wpAny_Try_except ?_
 have R:Reach (X.h_ (X.pn++pins) fun v s1=>wpAny (model X.prog X.w) X.A (noteFrame v X.env) (fun _ s2=>wpAny (model X.prog X.w) X.A (setFlight v none) (fun _ s3=>wpAny (model X.prog X.w) X.A (handleBy v X.env [.ExceptHandler (some (.Name x np)) Option.none (b0::suite) hpos]) (SP X pins D) X.xe s3) X.xe s2) X.xe s1)
   (fun c od H'=>∃d,c=.ref C∧od=some d∧∀e,H' e=Option.none→th e d {nx:=fun _ _=>False,rt:=D.rt} (List.replicate X.N.length Option.none) H'):=by
  rintro pins' σ' H' s' e C' d F ⟨d0,ec,ed,rd⟩;cases ec;cases ed;refine F.note (M:=model X.prog X.w) hst hfr fun h1 old oe ho hc hd S=>?_
  have I1:=S.inv F.inv ho;obtain⟨Tr,oT,ts,oe',vs,n1,n2,n3,n4,n5,n6,n7,n8,n9⟩:=S.last;have aT:=F.inv.apart n1 (by show Tr∉X.ex;rw[hex];simp);have hT:H' Tr=Option.none:=F.inv.hok.none_of n1
  have hTe:Tr≠e:=by
   rintro rfl;obtain⟨o,_,q,_⟩:=F.obj;rw[n1]at q;cases q
  have IX:Inv X pins σ' H' {s' with heap:=h1}:=I1.jl;have I2:Inv (X.hnd (X.pn++pins) e oe') [] σ' H' {s' with heap:=h1}:=IX.hnd n5 F.no F.ap.sub (fun v z=>by rw[n8]at z;cases z);refine wpAny_handleBy_cons (codeAny_handlers_test (j8 (X:=X.hnd (X.pn++pins) e oe') I2 hg hm ?_ hdb)) (by intro q;cases q);have hC:h1.get? C=some (excClassObj nm q0 C N bs m7 true sn sub ab col dd k0 k1 k2 k3 k5 "Exception.__new__"):=IX.cz _ _ lk;refine wpAny_excMatches_sub_self (g:=s'.gens) (d:=s'.drawn) (t:=s'.toks) (os:=s'.os) hC n5 (n6.trans hc) (by decide) ?_;refine codeAny_handlers_suite (Xc.BS (s:={s' with heap:=h1}) n5 n8 n9 n2 n3 (Array.getElem?_eq_some_iff.mp n4).1 fun h2 oT2 ts2 m1 m2 m3 m4=>?_)
  have I3:Inv (X.hnd (X.pn++pins) e oe') [] σ' H' {s' with heap:=h2}:=by
   have ap:Apart (X.hnd (X.pn++pins) e oe') [] Tr:=⟨aT.new,aT.loc,aT.cell,fun p hp=>by
    have hp':p∈(e,oe')::(X.pn++pins):=by
     rw[show(X.hnd (X.pn++pins) e oe').pn=(e,oe')::(X.pn++pins)from rfl,List.append_nil]at hp;exact hp
    rcases List.mem_cons.mp hp' with z|z
    ·rw[z];exact Ne.symm hTe
    ·exact aT.sub.pin p z,aT.fr⟩
   have kp:∀b o,b∉[Tr]→h1.get? b=some o→h2.get? b=some o:=fun b o hb q=>m1 b o (fun z=>hb (by rw[z];simp)) q
   refine Inv.BU (s:={s' with heap:=h1}) (h':=h2) (g':=s'.gens) (t':=s'.toks) (d':=s'.drawn) (ch:=[Tr]) I2 (fun b hb=>by rw[List.mem_singleton.mp hb];exact ap) (fun b o _ _ h3 q _=>kp b o h3 q) (fun b o _ _ h3 q _=>⟨o.slots,kp b o h3 q⟩) (fun _ _ _ _ z=>z) (fun b o h3 q=>⟨o,kp b o h3 q⟩)
    (fun _ _ z=>z) (fun _ _ _ z=>z) (fun b ps q=>⟨#[],by rw[q];simp⟩) (fun m hm'=>?_) (fun b u q=>?_) I2.bare
   ·obtain⟨o,es,ep,ho',r⟩:=hm'
    exact⟨o,es,ep,kp _ o (fun z=>ap.loc (List.mem_singleton.mp z).symm) ho',r⟩
   ·refine(I2.hok b u q).stay (fun c v hc' z=>kp c v (fun zz=>?_) z) (fun _ z=>z) fun _ _ z=>z
    have zz':=List.mem_singleton.mp zz;rcases hc' with rfl|hc'
    ·rw[zz',hT]at q;cases q
    ·rw[zz',hT]at hc';cases hc'
  have I5:Inv (X.hnd (X.pn++pins) e oe') [] (List.replicate X.N.length Option.none) H' {s' with heap:=h2}:=I3.weak (by rw[List.length_replicate];exact I3.len.symm) fun j v hj=>by
   rw[List.getElem?_replicate]at hj;split at hj<;>cases hj
  refine wpAny_mono (hh (X.pn++pins) e oe' d vs (n6.trans hc) (n7.trans hd) n8 [] {s' with heap:=h2} _ H' _ I5 (rd e F.no)) (fun f s4 q=>?_) fun _ _ z=>z.elim
  cases f with
  |next=>obtain⟨_,_,_,q⟩:=q;exact q.elim
  |brk=>obtain⟨_,_,_,q⟩:=q;exact q.elim
  |cont=>obtain⟨_,_,_,q⟩:=q;exact q.elim
  |ret u=>
   obtain⟨v,σ5,H5,I6,r5,q5⟩:=q;exact⟨v,_,H5,Inv.F8 IX.ok I6,r5,q5⟩
 refine wpAny_mono (hb _ _ _ R PassesOwn.looking [] s σ H D (I.h_ _) h) (fun f s1 q=>?_) fun _ _ z=>z
 cases f with
 |next=>
  obtain⟨σ',H',I',q⟩:=q;exact wpAny_execs_nil ⟨σ',H',I'.jl,q⟩
 |brk=>obtain⟨σ',H',I',q⟩:=q;exact⟨σ',H',I'.jl,q⟩
 |cont=>obtain⟨σ',H',I',q⟩:=q;exact⟨σ',H',I'.jl,q⟩
 |ret u=>obtain⟨v,σ',H',I',r,q⟩:=q;exact⟨v,σ',H',I'.jl,r,q⟩
end
end L2
end
namespace L2
open PySem PySem.Spec PyProof.Rows
def GI(mg:Str→Option Value)(x:Str)(i:Int):Prop:=∃t,mg x=some (.int i t)
theorem aA{X:Cx}{x:Str}{i:Int}{pos:Pos}(h:GI X.mg x i)(hg:Gl X x:=by rfl)(hd:(x==("__debug__":Str))=false:=by decide):PE X (.Name x pos) (tC (.int i)):=by
 obtain⟨t,e⟩:=h;exact A5 hg e ⟨t,rfl⟩ hd
def GS(mg:Str→Option Value)(x v:Str):Prop:=∃t,mg x=some (.str v t)
theorem F_{X:Cx}{x v:Str}{pos:Pos}(h:GS X.mg x v)(hg:Gl X x:=by rfl)(hd:(x==("__debug__":Str))=false:=by decide):PE X (.Name x pos) (tC (.str v)):=by
 obtain⟨t,e⟩:=h;exact A5 hg e ⟨t,rfl⟩ hd
theorem Ga{X:Cx}{x:Str}{r:Addr}{pos:Pos}(h:X.mg x=some (.ref r))(hg:Gl X x:=by rfl)(hd:(x==("__debug__":Str))=false:=by decide):PE X (.Name x pos) (tC (.ref r)):=A5 hg h rfl hd
def pG(K:PySem.W.Frag)(a:Addr)(xs:List V):Prop:=
 ∃(o:Obj)(its:Array Value)(n:Nat),K.lookup a=some o∧o.cls=.type "tuple"∧o.data=.seq its n∧its.size≤sizeLine∧Vals xs its.toList
def ao(P:Program)(w:World)(K:PySem.W.Frag)(mg:Str→Option Value)(base:Heap)(CX:f_)(k:Nat)(x:Str)(ps:List Str)(sp:Sp):Prop:=
 ∃f fd,aF P w K mg base CX k f fd ps sp∧Binds K fd ps []∧PySem.W.keepIn K (.ref f)=true∧mg x=some (.ref f)
def bG(P:Program)(w:World)(K:PySem.W.Frag)(mg:Str→Option Value)(base:Heap)(CX:f_)(k:Nat)(C:Addr)(m:Str)(ps:List Str)(sp:Sp):Prop:=
 ∃f fd,aF P w K mg base CX k f fd ps sp∧Binds K fd ps []∧Meth K C m f
def dI(P:Program)(w:World)(K:PySem.W.Frag)(mg:Str→Option Value)(base:Heap)(CX:f_)(k:Nat)(x:Str)(C:Addr)(ps:List Str)(sp:Sp):Prop:=
 ∃f fd,aF P w K mg base CX k f fd ps sp∧Binds K fd ps []∧Mk K C f∧mg x=some (.ref C)
section
variable{X:Cx}{CX:f_}{k:Nat}{C:Addr}{ps:List Str}{sp:Sp}{E:XK}{x m:Str}{p pos apos:Pos}{e o:PySem.Expr}{es:List PySem.Expr}{ta:TE}{t:TA}
theorem aG(c:ao X.prog X.w X.K X.mg X.base CX k x ps sp)(hr:bX k X.A)(hg:Gl X x)(hx:Passes CX X E)(ha:PA X (e::es) t)(hdb:(x==("__debug__":Str))=false:=by decide)
  (he:starEach (e::es) X.env=(false,eval e X.env)::starEach es X.env:=by rfl)(hpl:(backTo pos (starEach es X.env)).any (·.1)=false:=by rfl):PE X (.Call (.Name x p) (e::es) [] pos) (Bq sp [] E t):=by
 obtain⟨f,fd,ok,b,kp,mg⟩:=c;exact J4 ok hr hg mg kp b .nil hx ha hdb he hpl
theorem B0{pl:Sem Bool}(he:PE X o ta)(cl:dG X.K C)(c:bG X.prog X.w X.K X.mg X.base CX k C m ps sp)(hr:bX k X.A)(hx:Passes CX X E)(ha:PA X (e::es) t)
  (hst:starEach (e::es) X.env=(false,eval e X.env)::starEach es X.env:=by rfl)(hpl:(backTo pos (starEach es X.env)).any (·.1)=false:=by rfl)
  (ht:eval (.Call (.Attribute o m apos) (e::es) [] pos) X.env=(do
   let ov←eval o X.env
   standAt apos.atName
   let(f,first)←holding [ov] (getMethod ov m pl)
   callWith pos f first (backTo pos (starEach (e::es) X.env)) (backToKw pos (keywordEach [] X.env))):=by rfl):PE X (.Call (.Attribute o m apos) (e::es) [] pos) (sZ C m sp [] E ta t):=by
 obtain⟨f,fd,ok,b,mt⟩:=c;exact J5 he cl mt ok hr b .nil hx ha hst hpl ht
theorem bR{pl:Sem Bool}(he:PE X o ta)(cl:dG X.K C)(c:bG X.prog X.w X.K X.mg X.base CX k C m ps sp)(hr:bX k X.A)(hx:Passes CX X E)
  (ht:eval (.Call (.Attribute o m apos) [] [] pos) X.env=(do
   let ov←eval o X.env
   standAt apos.atName
   let(f,first)←holding [ov] (getMethod ov m pl)
   callWith pos f first (backTo pos (starEach [] X.env)) (backToKw pos (keywordEach [] X.env))):=by rfl):PE X (.Call (.Attribute o m apos) [] [] pos) (sZ C m sp [] E ta kq):=by
 obtain⟨f,fd,ok,b,mt⟩:=c;exact J6 he cl mt ok hr b .nil hx ht
theorem jM(c:dI X.prog X.w X.K X.mg X.base CX k x C ps sp)(hr:bX (k+1) X.A)(hg:Gl X x)(hx:Passes CX X E)(ha:PA X (e::es) t)(hdb:(x==("__debug__":Str))=false:=by decide)
  (he:starEach (e::es) X.env=(false,eval e X.env)::starEach es X.env:=by rfl)(hpl:(backTo pos (starEach es X.env)).any (·.1)=false:=by rfl):PE X (.Call (.Name x p) (e::es) [] pos) (s_ C sp [] E t):=by
 obtain⟨f,fd,ok,b,mk,mg⟩:=c;exact J7 mk ok hr hg mg b .nil hx ha hdb he hpl
end
section
variable{P:Program}{w:World}{K:PySem.W.Frag}{mg:Str→Option Value}{base:Heap}
theorem aK.fU{x qual:Str}{st:Stmt}{f:Addr}{fd:FuncData}{N ps:List Str}{k:Nat}{sp:Sp}(F:aK K x qual st f fd)(S:aL N ps (aE st))(len:∀vs H Q E,sp vs H Q E→vs.length=ps.length)
  (hbody:∀(cdv:Value)(A:Around)(outer:List Env)(s:Shared)(H:Hp)(vs:List V)(Q:VK)(E:XK),bX k (A.deeper (envOfC qual (aE st) s.heap.objs.size f cdv))→sp vs H Q E→
   ∃t,fB (iy (bu P w) P w K mg base N qual (aE st) f cdv A outer s H E) (e8 st) t∧t {nx:=fun _ H'=>Q .aP H',rt:=Q} (start N vs) H):aF P w K mg base (bu P w) (k+1) f fd ps sp:=by
 obtain⟨oc,od,kV,doc,pm,an,cdv,ct,osl,rfl,lk,hcd⟩:=F.ex;exact Bs lk hcd S len fun A outer s H vs Q E hr hsp=>hbody cdv A outer s H vs Q E hr hsp
end
end L2
namespace Vp
open PySem PySem.Spec PyProof.Rows L2
def top(i:Nat):Stmt:=PySem.Challenge.pw_fieldplan_s01_answers.main.body.getD i (.Pass ⟨0,0,0,0⟩)
abbrev m8:Stmt:=inClass (top 11) 0
abbrev tU:Stmt:=top 40
abbrev tV:Stmt:=top 41
abbrev tW:Stmt:=top 42
abbrev tX:Stmt:=top 43
abbrev tY:Stmt:=top 44
abbrev tZ:Stmt:=top 45
abbrev t6:Stmt:=top 46
abbrev t7:Stmt:=inClass (top 48) 0
abbrev t8:Stmt:=inClass (top 49) 0
abbrev m9:Stmt:=top 50
abbrev t9:Stmt:=top 51
abbrev t_:Stmt:=top 53
abbrev pH:Stmt:=top 54
abbrev pI:Stmt:=top 55
abbrev pJ:Stmt:=top 56
abbrev ua:Stmt:=top 57
abbrev uc:Stmt:=inClass (top 59) 0
abbrev ud:Stmt:=inClass (top 59) 1
abbrev ue:Stmt:=inClass (top 59) 2
abbrev uf:Stmt:=inClass (top 59) 3
abbrev ug:Stmt:=inClass (top 59) 4
abbrev uh:Stmt:=top 60
abbrev um:Stmt:=top 63
abbrev uo:Stmt:=top 64
abbrev uq:Stmt:=top 65
abbrev ur:Stmt:=top 66
abbrev uu:Stmt:=top 67
abbrev uv:Stmt:=top 68
abbrev uw:Stmt:=top 69
abbrev ux:Stmt:=top 70
abbrev uy:Stmt:=top 71
abbrev uz:Stmt:=top 80
abbrev uA:Stmt:=top 81
abbrev pK:Stmt:=top 82
abbrev pL:Stmt:=top 83
abbrev uB:Stmt:=top 84
abbrev uC:Stmt:=top 85
abbrev uD:Stmt:=top 86
abbrev pM:Stmt:=top 87
abbrev uE:Stmt:=top 88
abbrev pN:Stmt:=top 89
abbrev uF:Stmt:=top 90
abbrev uG:Stmt:=top 91
abbrev pO:Stmt:=top 101
abbrev uH:Stmt:=top 102
abbrev pP:Stmt:=top 103
abbrev uI:Stmt:=top 104
abbrev uJ:Stmt:=top 105
abbrev pQ:Stmt:=top 106
abbrev uK:Stmt:=top 108
abbrev uL:Stmt:=top 109
abbrev uM:Stmt:=top 110
abbrev uN:Stmt:=top 111
abbrev uO:Stmt:=top 112
abbrev pR:Stmt:=top 113
abbrev pS:Stmt:=top 114
abbrev pT:Stmt:=top 115
abbrev pU:Stmt:=top 116
abbrev pV:Stmt:=top 117
abbrev uP:Stmt:=top 118
abbrev uQ:Stmt:=top 119
abbrev uR:Stmt:=top 120
abbrev uS:Stmt:=top 121
abbrev uT:Stmt:=top 122
abbrev uU:Stmt:=top 123
abbrev uV:Stmt:=inClass (top 125) 0
abbrev uW:Stmt:=inClass (top 125) 1
abbrev uX:Stmt:=inClass (top 125) 2
abbrev uY:Stmt:=inClass (top 127) 0
abbrev uZ:Stmt:=top 128
abbrev pW:Stmt:=top 129
abbrev u6:Stmt:=top 130
abbrev u7:Stmt:=top 131
abbrev m_:Stmt:=top 133
abbrev pX:Stmt:=top 134
abbrev u9:Stmt:=top 135
abbrev u_:Stmt:=top 137
abbrev vc:Stmt:=top 138
abbrev vd:Stmt:=top 139
abbrev ve:Stmt:=top 140
abbrev vf:Stmt:=top 141
abbrev vg:Stmt:=top 142
abbrev nh:Stmt:=top 143
abbrev vh:Stmt:=top 144
abbrev pY:Stmt:=top 145
abbrev vj:Stmt:=inClass (top 162) 0
abbrev vm:Stmt:=inClass (top 162) 1
abbrev vn:Stmt:=inClass (top 162) 2
abbrev vo:Stmt:=inClass (top 162) 3
abbrev vp:Stmt:=inClass (top 162) 4
abbrev ni:Stmt:=top 163
abbrev vq:Stmt:=top 164
abbrev vt:Stmt:=top 165
abbrev vv:Stmt:=top 166
theorem fsc{N P:List Str}{sc:Scope}(a:sc.kind=.function:=by rfl)(b:sc.isCoroutine=false:=by rfl)(c:sc.isGenerator=false:=by rfl)(d:N.Nodup:=by decide+kernel)(e:N.take P.length=P:=by rfl)(f:∀x∈P,sc.names.lookup x=some .local∨sc.names.lookup x=some .cell:=by decide+kernel)(g:∀y∈sc.names,y.2≠.free:=by decide+kernel):aL N P sc:=⟨a,b,c,d,e,f,g⟩
theorem LD:aL ["self","kind","place"] ["self","kind","place"] (aE m8):=fsc
theorem LF:aL ["sign"] ["sign"] (aE tU):=fsc
theorem LG:aL ["sign"] ["sign"] (aE tV):=fsc
theorem LH:aL ["sign"] ["sign"] (aE tW):=fsc
theorem LI:aL ["sign"] ["sign"] (aE tX):=fsc
theorem Gb:aL ["number","modes"] ["number"] (aE tY):=fsc
theorem LJ:aL ["sign"] ["sign"] (aE tZ):=fsc
theorem LK:aL ["byte"] ["byte"] (aE t6):=fsc
theorem LL:aL ["self","sign","size","fields"] ["self","sign","size","fields"] (aE t7):=fsc
theorem LM:aL ["self","number","name","mode","kind","default"] ["self","number","name","mode","kind","default"] (aE t8):=fsc
theorem LN:aL ["kind"] ["kind"] (aE m9):=fsc
theorem Gd:aL ["kind","first"] ["kind"] (aE t9):=fsc
theorem pZ:aL ["text","names","name","sign"] ["text"] (aE t_):=fsc
theorem LO:aL ["schema","names"] ["schema","names"] (aE pH):=fsc
theorem LP:aL ["schema","path"] ["schema","path"] (aE pI):=fsc
theorem lC:aL ["schema","steps","step_of","along","fields","step","matching","field"] ["schema","steps","step_of"] (aE pJ):=fsc
theorem B4:aL ["along","signs","field"] ["along"] (aE ua):=fsc
theorem LQ:aL ["self","text"] ["self","text"] (aE uc):=fsc
theorem LR:aL ["self"] ["self"] (aE ud):=fsc
theorem LS:aL ["self"] ["self"] (aE ue):=fsc
theorem Ge:aL ["self","start"] ["self"] (aE uf):=fsc
theorem Gf:aL ["self","start"] ["self"] (aE ug):=fsc
theorem vz:aL ["digits","number","digit"] ["digits"] (aE uh):=fsc
theorem B6:aL ["text","kind","reader","value"] ["text","kind"] (aE um):=fsc
theorem LU:aL ["reader","kind"] ["reader","kind"] (aE uo):=fsc
theorem Gg:aL ["reader","sign"] ["reader"] (aE uq):=fsc
theorem nj:aL ["reader","bits","start","below_zero","digits","number"] ["reader","bits"] (aE ur):=fsc
theorem vA:aL ["number","bits","half","bit"] ["number","bits"] (aE uu):=fsc
theorem B7:aL ["reader","most","start","content"] ["reader","most"] (aE uv):=fsc
theorem Gi:aL ["reader","start","sign"] ["reader","start"] (aE uw):=fsc
theorem vB:aL ["reader","start","greater","lesser","byte"] ["reader","start"] (aE ux):=fsc
theorem Gj:aL ["reader","start","sign"] ["reader","start"] (aE uy):=fsc
theorem B8:aL ["text","reader","schema"] ["text"] (aE uz):=fsc
theorem LV:aL ["text"] ["text"] (aE uA):=fsc
theorem B9:aL ["reader","depth","group","closing"] ["reader","depth"] (aE pK):=fsc
theorem lD:aL ["reader","group","depth","number","name","mode_place","mode","kind","field"] ["reader","group","depth"] (aE pL):=fsc
theorem B_:aL ["reader","group","start","number"] ["reader","group"] (aE uB):=fsc
theorem LW:aL ["digits"] ["digits"] (aE uC):=fsc
theorem vC:aL ["reader","group","start","name","field"] ["reader","group"] (aE uD):=fsc
theorem Ca:aL ["text","sign"] ["text"] (aE pM):=fsc
theorem Gk:aL ["reader","group","mode"] ["reader","group"] (aE uE):=fsc
theorem Gm:aL ["reader","depth","sign"] ["reader","depth"] (aE pN):=fsc
theorem p7:aL ["reader","start","sign","size"] ["reader"] (aE uF):=fsc
theorem LX:aL ["reader","group","field"] ["reader","group","field"] (aE uG):=fsc
theorem vD:aL ["kind","text","place","field"] ["kind"] (aE pO):=fsc
theorem LY:aL ["kind"] ["kind"] (aE uH):=fsc
theorem Gn:aL ["field","text"] ["field"] (aE pP):=fsc
theorem Cb:aL ["value","text","byte"] ["value"] (aE uI):=fsc
theorem LZ:aL ["byte"] ["byte"] (aE uJ):=fsc
theorem Cc:aL ["number","sign"] ["number"] (aE pQ):=fsc
theorem Gp:aL ["holder","changed","fault"] ["holder","changed"] (aE uK):=fsc
theorem Gq:aL ["schema","path","along"] ["schema","path"] (aE uL):=fsc
theorem Gr:aL ["schema","path","field"] ["schema","path"] (aE uM):=fsc
theorem p8:aL ["holder","path","text","schema","group","added","field"] ["holder","path","text"] (aE uN):=fsc
theorem Cd:aL ["group","field","place"] ["group","field"] (aE uO):=fsc
theorem p9:aL ["holder","path","schema","group","field"] ["holder","path"] (aE pR):=fsc
theorem L0:aL ["holder","path","text"] ["holder","path","text"] (aE pS):=fsc
theorem L1:aL ["holder","number","path"] ["holder","number","path"] (aE pT):=fsc
theorem L3:aL ["holder","path","text"] ["holder","path","text"] (aE pU):=fsc
theorem L4:aL ["holder","path","text"] ["holder","path","text"] (aE pV):=fsc
theorem vE:aL ["holder","path","change","schema","field","answer"] ["holder","path","change"] (aE uP):=fsc
theorem L5:aL ["field","text"] ["field","text"] (aE uQ):=fsc
theorem Gs:aL ["field","number","mode"] ["field","number"] (aE uR):=fsc
theorem Gu:aL ["field","text","kind"] ["field","text"] (aE uS):=fsc
theorem Gv:aL ["text","schema"] ["text"] (aE uT):=fsc
theorem Gw:aL ["field","text","value"] ["field","text"] (aE uU):=fsc
theorem L6:aL ["self"] ["self"] (aE uV):=fsc
theorem Gx:aL ["self","text","schema"] ["self","text"] (aE uW):=fsc
theorem L7:aL ["self"] ["self"] (aE uX):=fsc
theorem L8:aL ["self","kind","repetition","definition","path"] ["self","kind","repetition","definition","path"] (aE uY):=fsc
theorem Gy:aL ["schema","found"] ["schema"] (aE uZ):=fsc
theorem p_:aL ["group","repetition","definition","path","found","field","field_repetition","field_definition","field_path"] ["group","repetition","definition","path","found"] (aE pW):=fsc
theorem L_:aL ["field"] ["field"] (aE u6):=fsc
theorem Ma:aL ["field","group"] ["field","group"] (aE u7):=fsc
theorem qa:aL ["group","paths","fields","field","within","path"] ["group","paths"] (aE m_):=fsc
theorem vF:aL ["field","paths","kind","mode"] ["field","paths"] (aE pX):=fsc
theorem Mb:aL ["group","shape"] ["group","shape"] (aE u9):=fsc
theorem Gz:aL ["text","fault"] ["text"] (aE u_):=fsc
theorem Mc:aL ["holder","text"] ["holder","text"] (aE vc):=fsc
theorem Me:aL ["holder"] ["holder"] (aE vd):=fsc
theorem Mf:aL ["holder"] ["holder"] (aE ve):=fsc
theorem vG:aL ["holder","number","columns","column","told"] ["holder","number"] (aE vf):=fsc
theorem Mg:aL ["kind"] ["kind"] (aE vg):=fsc
theorem jN:aL ["holder","text","along","path","columns","within","field","number","column"] ["holder","text"] (aE nh):=fsc
theorem Ce:aL ["holder","path","along","name"] ["holder","path"] (aE vh):=fsc
theorem qc:aL ["holder","numbers","columns","text","number"] ["holder","numbers"] (aE pY):=fsc
theorem Mh:aL ["self","numbers"] ["self","numbers"] (aE vj):=fsc
theorem Mi:aL ["self"] ["self"] (aE vm):=fsc
theorem GA:aL ["self","number"] ["self"] (aE vn):=fsc
theorem Cf:aL ["self","size","start"] ["self"] (aE vo):=fsc
theorem vH:aL ["self","call","handed","turn"] ["self","call"] (aE vp):=fsc
theorem nq:aL ["calls","left","holder","given","call","answer"] ["calls"] (aE ni):=fsc
theorem Mj:aL ["holder","call","handed"] ["holder","call","handed"] (aE vq):=fsc
theorem Ml:aL ["holder","call","handed"] ["holder","call","handed"] (aE vt):=fsc
theorem Mm:aL ["holder","call","handed"] ["holder","call","handed"] (aE vv):=fsc
structure aH where
 dJ:Addr
 kE:Addr
 b7:Addr
 cD:Addr
 aR:Addr
 cF:Addr
 dM:Addr
 bH:Addr
 nu:Addr
 nv:Addr
structure Txt(K:PySem.W.Frag)(mg:Str→Option Value)(a:aH):Prop where
 fR:GI mg "MALFORMED" (1)
 vI:GI mg "NUMBER_NOT_GREATER" (2)
 vJ:GI mg "NAME_TWICE" (3)
 vK:GI mg "MODE_IN_CHOICE" (4)
 lE:GI mg "OUT_OF_RANGE" (5)
 vL:GI mg "NO_KEY" (6)
 vM:GI mg "TOO_DEEP" (7)
 vN:GI mg "TOO_MANY_LEAVES" (8)
 vO:GI mg "DEFAULT_MISPLACED" (9)
 vP:GI mg "TOO_LONG" (10)
 iW:GI mg "RECORD_START" (123)
 lF:GI mg "RECORD_END" (125)
 ny:GI mg "CHOICE_START" (60)
 qd:GI mg "CHOICE_END" (62)
 qe:GI mg "SEPARATOR" (59)
 qf:GI mg "EQUALS" (61)
 vQ:GI mg "MINUS" (45)
 kF:GI mg "QUOTE" (34)
 nA:GI mg "BACKSLASH" (92)
 qg:GI mg "DOT" (46)
 vR:GI mg "UNDERSCORE" (95)
 jm:GI mg "MODE_ONE" (33)
 qh:GI mg "MODE_PERHAPS" (63)
 lG:GI mg "MODE_MANY" (42)
 kG:GI mg "MODE_KEYED" (37)
 lH:GI mg "BIT" (98)
 lI:GI mg "WHOLE" (105)
 vS:GI mg "TEXT" (116)
 jn:GI mg "DIGIT_0" (48)
 qi:GI mg "DIGIT_1" (49)
 vU:GI mg "DIGIT_9" (57)
 lJ:GI mg "LETTER_A" (97)
 vV:GI mg "LETTER_F" (102)
 vW:GI mg "LETTER_Z" (122)
 vX:GI mg "BLANK" (32)
 vY:GI mg "TILDE" (126)
 nB:GI mg "NO_SIGN" (-1)
 vZ:GI mg "MOST_DIGITS" (19)
 qj:GI mg "MOST_BYTES" (2000)
 v9:GI mg "MOST_DEPTH" (6)
 v_:GI mg "MOST_LEAVES" (40)
 wc:GI mg "MOST_NAME_SIGNS" (12)
 we:GI mg "MOST_NUMBER_DIGITS" (3)
 wg:GI mg "LEAST_BITS" (2)
 wj:GI mg "MOST_BITS" (64)
 wm:GI mg "NO_SCHEMA" (-1)
 wo:GI mg "NOTHING_HELD" (-2)
 qk:GI mg "NO_COLUMN" (-3)
 kH:GI mg "NO_FIELD" (-4)
 lK:GI mg "UNFIT_TEXT" (-5)
 wu:GI mg "NO_MODE" (-6)
 wz:GI mg "UNSETTLED" (-10)
 wA:GI mg "CHECK" (0)
 wB:GI mg "HOLD" (1)
 wC:GI mg "SHOW" (2)
 wD:GI mg "COLUMNS" (3)
 wF:GI mg "COLUMN" (4)
 wH:GI mg "FIND" (5)
 wI:GI mg "NAME" (6)
 ql:GI mg "ADD" (7)
 wJ:GI mg "DROP" (8)
 wK:GI mg "RENAME" (9)
 wL:GI mg "REMODE" (10)
 wM:GI mg "REKIND" (11)
 wN:GI mg "DEFAULT" (12)
 qm:GS mg "SIXTEENTHS" "0123456789abcdef"
 wO:mg "NUMBERS_HANDED"=some (.ref a.nu)
 wQ:mg "ROWS_HANDED"=some (.ref a.nv)
 wR:pG K a.nu [.int 0,.int 0,.int 0,.int 0,.int 1,.int 0,.int 0,.int 0,.int 0,.int 0,.int 1,.int 0,.int 0,.int 0]
 wU:pG K a.nv [.int 1,.int 1,.int 0,.int 0,.int 0,.int 1,.int 1,.int 2,.int 1,.int 2,.int 1,.int 2,.int 2,.int 1]
 wV:mg "all"=Option.none
 qo:mg "enumerate"=Option.none
 wW:mg "int"=Option.none
 wX:mg "isinstance"=Option.none
 bY:mg "len"=Option.none
 wY:mg "list"=Option.none
 wZ:mg "max"=Option.none
 w6:mg "min"=Option.none
 nD:mg "ord"=Option.none
 nE:mg "range"=Option.none
 w9:mg "str"=Option.none
 bI:dG K a.b7
 bC:dG K a.cD
 bx:dG K a.aR
 dN:dG K a.cF
 gy:dG K a.dM
 eH:dG K a.bH
 e9:di K a.b7 "sign"
 jo:di K a.b7 "size"
 c8:di K a.b7 "fields"
 gh:di K a.cD "number"
 iX:di K a.cD "name"
 gK:di K a.cD "mode"
 e_:di K a.cD "kind"
 iY:di K a.cD "default"
 kI:di K a.aR "text"
 dX:di K a.aR "place"
 lM:di K a.aR "leaves"
 gM:di K a.cF "schema"
 kJ:di K a.cF "text"
 nF:di K a.dM "kind"
 qp:di K a.dM "repetition"
 qs:di K a.dM "definition"
 kK:di K a.dM "path"
 lN:di K a.bH "numbers"
 iZ:di K a.bH "place"
 jO:mg "Fault"=some (.ref a.dJ)
 err:gJ K a.dJ a.kE ["kind","place"]
end Vp
section
namespace Vp
open PySem PySem.Spec PyProof.Rows L2
open PySem.W (codeHd_of_K)
variable{P:Program}{w:World}{K:PySem.W.Frag}{mg:Str→Option Value}{base:Heap}{a:aH}
inductive ff(g:Int→Bool)(vs:List V)(H:Hp)(Q:VK)(E:XK):Prop
 |mk:∀i,vs=[.int i]→Q (.bl (g i)) H→ff g vs H Q E
theorem w_{g:Int→Bool}:∀vs H Q E,ff g vs H Q E→vs.length=1:=fun vs H Q E h=>by
 obtain⟨i,rfl,_⟩:=h;rfl
def jq(i:Int):Bool:=decide (48≤i)&&decide (i≤57)
def kL(i:Int):Bool:=decide (97≤i)&&decide (i≤122)
def lO(i:Int):Bool:=kL i||jq i||decide (i=95)
def nG(i:Int):Bool:=decide (i=33)||decide (i=63)||decide (i=42)||decide (i=37)
def jr(i:Int):Bool:=decide (i=98)||decide (i=105)||decide (i=116)
def zPlain(i:Int):Bool:=decide (32≤i)&&decide (i≤126)&&!decide (i=34)&&!decide (i=92)
theorem Mn{f:Addr}{fd:FuncData}(F:aK K "is_digit" "is_digit" tU f fd)(T:Txt K mg a):aF P w K mg base af 1 f fd ["sign"] (ff jq):=by
 refine F.ok LF w_ (fun cdv A outer s H vs Q E hr h=>?_);obtain⟨i,rfl,q⟩:=h;refine⟨_,(aq (aB (sU gw gw (aA T.jn) (pv 0) (aA T.vU)))),?_⟩;refine⟨_,rfl,_,_,rfl,rfl,_,rfl,?_⟩;unfold jq at q;refine bB (fun c=>?_) (fun c=>?_)
 ·rw[c,Bool.true_and]at q
  exact⟨_,_,rfl,rfl,q⟩
 ·rw[Bool.eq_false_iff.mpr c,Bool.false_and]at q
  exact q
theorem Mp{f:Addr}{fd:FuncData}(F:aK K "is_letter" "is_letter" tV f fd)(T:Txt K mg a):aF P w K mg base af 1 f fd ["sign"] (ff kL):=by
 refine F.ok LG w_ (fun cdv A outer s H vs Q E hr h=>?_);obtain⟨i,rfl,q⟩:=h;refine⟨_,(aq (aB (sU gw gw (aA T.lJ) (pv 0) (aA T.vW)))),?_⟩;refine⟨_,rfl,_,_,rfl,rfl,_,rfl,?_⟩;unfold kL at q;refine bB (fun c=>?_) (fun c=>?_)
 ·rw[c,Bool.true_and]at q
  exact⟨_,_,rfl,rfl,q⟩
 ·rw[Bool.eq_false_iff.mpr c,Bool.false_and]at q
  exact q
theorem bJ{i j:Int}:decide (V.int i=V.int j)=decide (i=j):=by
 by_cases h:i=j
 ·subst h;simp
 ·rw[decide_eq_false h];exact decide_eq_false fun z=>h (V.int.inj z)
theorem Mq{f:Addr}{fd:FuncData}(F:aK K "is_name_sign" "is_name_sign" tW f fd)(T:Txt K mg a)(c_is_digit:ao P w K mg base af 1 "is_digit" ["sign"] (ff jq))(c_is_letter:ao P w K mg base af 1 "is_letter" ["sign"] (ff kL)):
  aF P w K mg base af 2 f fd ["sign"] (ff lO):=by
 refine F.ok LH w_ (fun cdv A outer s H vs Q E hr h=>?_);obtain⟨i,rfl,q⟩:=h;refine⟨_,(aq (aB (ED (aG c_is_letter (hr.mono (by decide)) rfl az (aa (pv 0) ah)) (ED (aG c_is_digit (hr.mono (by decide)) rfl az (aa (pv 0) ah)) (A7 (jI bF (pv 0) (aA T.vR) (aQ _))))))),?_⟩;unfold lO at q;refine⟨_,rfl,i,rfl,_,rfl,bB (fun c=>?_) (fun c=>?_)⟩
 ·rw[c,Bool.true_or,Bool.true_or]at q
  exact q
 ·rw[Bool.eq_false_iff.mpr c,Bool.false_or]at q
  refine⟨_,rfl,i,rfl,_,rfl,bB (fun d=>?_) (fun d=>?_)⟩
  ·rw[d,Bool.true_or]at q
   exact q
  ·rw[Bool.eq_false_iff.mpr d,Bool.false_or]at q
   refine⟨_,rfl,rfl,?_⟩;rw[bJ];exact q
theorem GB(i j:Int):(j==i)=decide (i=j):=by
 by_cases h:i=j
 ·subst h;simp
 ·rw[decide_eq_false h];exact beq_eq_false_iff_ne.mpr (Ne.symm h)
inductive jt(g:Int→Bool)(vs:List V)(H:Hp)(Q:VK)(E:XK):Prop
 |mk:∀i,vs=[.int i]→(∀p o,H p=Option.none→Q (.bl (g i)) (upd H p o))→jt g vs H Q E
theorem GC{g:Int→Bool}:∀vs H Q E,jt g vs H Q E→vs.length=1:=fun vs H Q E h=>by
 obtain⟨i,rfl,_⟩:=h;rfl
theorem Mr{f:Addr}{fd:FuncData}(F:aK K "is_mode" "is_mode" tX f fd)(T:Txt K mg a):aF P w K mg base af 1 f fd ["sign"] (jt nG):=by
 refine F.ok LI GC (fun cdv A outer s H vs Q E hr h=>?_);obtain⟨i,rfl,q⟩:=h;refine⟨_,(aq (aB (jI Fj (pv 0) (Bp (aa (aA T.jm) (aa (aA T.qh) (aa (aA T.lG) (aa (aA T.kG) ah))))) (by with_unfolding_all rfl)))),?_⟩;refine⟨_,rfl,(by show 4≤sizeLine;decide),fun t ht=>?_⟩;refine⟨t,_,rfl,.inr (dW.of aj),rfl,rfl,?_⟩;have z:=q t (.tup [.int 33,.int 63,.int 42,.int 37]) ht;unfold nG at z
 have e:(if false then !kC (V.int i) [.int 33,.int 63,.int 42,.int 37]else kC (V.int i) [.int 33,.int 63,.int 42,.int 37])=(decide (i=33)||decide (i=63)||decide (i=42)||decide (i=37)):=by
  simp only[kC,jk,List.any_cons,List.any_nil,Bool.or_false,GB,Bool.or_assoc,Bool.false_eq_true,if_false]
 exact(congrArg (fun b=>Q (V.bl b) _) e).mpr z
theorem Ms{f:Addr}{fd:FuncData}(F:aK K "is_leaf_sign" "is_leaf_sign" tZ f fd)(T:Txt K mg a):aF P w K mg base af 1 f fd ["sign"] (jt jr):=by
 refine F.ok LJ GC (fun cdv A outer s H vs Q E hr h=>?_);obtain⟨i,rfl,q⟩:=h;refine⟨_,(aq (aB (jI Fj (pv 0) (Bp (aa (aA T.lH) (aa (aA T.lI) (aa (aA T.vS) ah)))) (by with_unfolding_all rfl)))),?_⟩;refine⟨_,rfl,(by show 3≤sizeLine;decide),fun t ht=>?_⟩;refine⟨t,_,rfl,.inr (dW.of aj),rfl,rfl,?_⟩;have z:=q t (.tup [.int 98,.int 105,.int 116]) ht;unfold jr at z
 have e:(if false then !kC (V.int i) [.int 98,.int 105,.int 116]else kC (V.int i) [.int 98,.int 105,.int 116])=(decide (i=98)||decide (i=105)||decide (i=116)):=by
  simp only[kC,jk,List.any_cons,List.any_nil,Bool.or_false,GB,Bool.or_assoc,Bool.false_eq_true,if_false]
 exact(congrArg (fun b=>Q (V.bl b) _) e).mpr z
theorem Mt{f:Addr}{fd:FuncData}(F:aK K "stands_as_itself" "stands_as_itself" t6 f fd)(T:Txt K mg a):aF P w K mg base af 1 f fd ["byte"] (ff zPlain):=by
 refine F.ok LK w_ (fun cdv A outer s H vs Q E hr h=>?_);obtain⟨i,rfl,q⟩:=h;refine⟨_,(aq (aB (A8 (sU gw gw (aA T.vX) (pv 0) (aA T.vY)) (A8 (jI f9 (pv 0) (aA T.kF) (aQ _)) (A7 (jI f9 (pv 0) (aA T.nA) (aQ _))))))),?_⟩;unfold zPlain at q;refine⟨_,rfl,_,_,rfl,rfl,_,rfl,bB (fun c=>?_) (fun c=>?_)⟩
 ·rw[c,Bool.true_and]at q
  refine⟨_,_,rfl,rfl,_,rfl,bB (fun d=>?_) (fun d=>?_)⟩
  ·rw[d,Bool.true_and]at q
   refine⟨_,rfl,rfl,_,rfl,?_⟩;rw[bJ];refine bB (fun g=>?_) (fun g=>?_)
   ·rw[g,Bool.true_and]at q
    refine⟨_,rfl,rfl,?_⟩;rw[bJ];exact q
   ·rw[Bool.eq_false_iff.mpr g,Bool.false_and]at q
    exact q
  ·rw[Bool.eq_false_iff.mpr d,Bool.false_and,Bool.false_and]at q
   exact q
 ·rw[Bool.eq_false_iff.mpr c,Bool.false_and,Bool.false_and,Bool.false_and]at q
  exact⟨_,rfl,by simpa using q⟩
def aC(T:List Nat):List V:=T.map fun(b:Nat)=>V.int (b:Int)
def cI(ta:Addr)(p n:Nat):List (Str×V):=[("text",.ref ta),("place",.int (p:Int)),("leaves",.int (n:Int))]
theorem xg{ta:Addr}{p n:Nat}:(cI ta p n).lookup ("text":Str)=some (.ref ta):=rfl
theorem fV{ta:Addr}{p n:Nat}:(cI ta p n).lookup ("place":Str)=some (.int (p:Int)):=rfl
theorem GD{ta:Addr}{p n:Nat}:(cI ta p n).lookup ("leaves":Str)=some (.int (n:Int)):=rfl
theorem cG{ta:Addr}{p n:Nat}{m:Str}(h:¬m="text"∧¬m="place"∧¬m="leaves"):(cI ta p n).lookup m=Option.none:=by
 unfold cI;simp only[List.lookup,beq_eq_false_iff_ne.mpr h.1,beq_eq_false_iff_ne.mpr h.2.1,beq_eq_false_iff_ne.mpr h.2.2]
structure bO(a:aH)(H:Hp)(r ta d:Addr)(T:List Nat)(p n:Nat):Prop where
 rd:H r=some (.ins a.aR d (cI ta p n))
 tx:H ta=some (.lst (aC T))
def bw(a:aH)(H:Hp)(r ta d:Addr)(p n:Nat):Hp:=upd H r (.ins a.aR d (cI ta p n))
theorem bO.ne{H:Hp}{r ta d:Addr}{T:List Nat}{p n:Nat}(R:bO a H r ta d T p n):ta≠r:=iO R.tx R.rd (by intro z;cases z)
theorem bO.mv{H:Hp}{r ta d:Addr}{T:List Nat}{p n:Nat}(R:bO a H r ta d T p n)(p' n':Nat):bO a (bw a H r ta d p' n') r ta d T p' n':=⟨aj,by unfold bw;rw[au R.ne];exact R.tx⟩
theorem nJ{H:Hp}{r ta d:Addr}{p n p' n':Nat}:bw a (bw a H r ta d p n) r ta d p' n'=bw a H r ta d p' n':=by
 funext b
 unfold bw upd;split<;>rfl
theorem Cg{H:Hp}{r ta d:Addr}{T:List Nat}{p n:Nat}(R:bO a H r ta d T p n):bw a H r ta d p n=H:=by
 funext b
 unfold bw upd;split
 ·rename_i e;rw[e,R.rd]
 ·rfl
def dm(T:List Nat)(p:Nat):Int:=match T[p]? with
 |some b=>(b:Int)
 |Option.none=>-1
inductive fW(a:aH)(vs:List V)(H:Hp)(Q:VK)(E:XK):Prop
 |mk:∀r ta d T p n,vs=[.ref r]→bO a H r ta d T p n→Q (.int (dm T p)) H→fW a vs H Q E
theorem Mu{f:Addr}{fd:FuncData}(F:aK K "sign_here" "Reader.sign_here" ud f fd)(T:Txt K mg a):aF P w K mg base af 1 f fd ["self"] (fW a):=by
 refine F.ok LR (fun vs H Q E h=>by obtain⟨r,ta,d,T,p,n,rfl,_⟩:=h;rfl) (fun cdv A outer s H vs Q E hr h=>?_);obtain⟨r,ta,d,Tx,p,n,rfl,R,q⟩:=h;refine⟨_,(ai (aU (aY jh (aD (pv 0) rfl) (bP cC rfl T.bY PySem.boot_len (aa (aD (pv 0) rfl) ah)) (aQ _)) (aq (aB (bQ cA (aD (pv 0) rfl) (aD (pv 0) rfl) (fun _ _=>rfl)))) aX) (aq (aB (aA T.nB)))),?_⟩;have hl:(aC Tx).length=Tx.length:=List.length_map _;refine⟨_,rfl,r,_,d,_,_,rfl,R.rd,T.bx,T.dX,fV,_,rfl,r,_,d,_,_,rfl,R.rd,T.bx,T.kI,xg,ta,_,rfl,.inl (ay.of R.tx),_,_,rfl,rfl,_,rfl,?_⟩;refine bB (fun c=>?_) (fun c=>?_)
 ·have c':(p:Int)<((aC Tx).length:Int):=of_decide_eq_true c
  rw[hl]at c';have hp:p<Tx.length:=by omega
  refine⟨_,rfl,r,_,d,_,_,rfl,R.rd,T.bx,T.kI,xg,_,rfl,r,_,d,_,_,rfl,R.rd,T.bx,T.dX,fV,ta,_,_,_,rfl,rfl,ay.of R.tx,E9 (v:=.int (dm Tx p)) ?_,q⟩;unfold aC dm;rw[List.getElem?_map,List.getElem?_eq_getElem hp];rfl
 ·have c':¬(p:Int)<((aC Tx).length:Int):=of_decide_eq_false (Bool.eq_false_iff.mpr c)
  rw[hl]at c'
  have e:dm Tx p=-1:=by
   unfold dm;rw[List.getElem?_eq_none (by omega)]
  rw[e]at q;exact q
inductive gz(a:aH)(vs:List V)(H:Hp)(Q:VK)(E:XK):Prop
 |mk:∀r ta d T p n,vs=[.ref r]→bO a H r ta d T p n→Q .aP (bw a H r ta d (p+1) n)→gz a vs H Q E
theorem Mv{f:Addr}{fd:FuncData}(F:aK K "skip_sign" "Reader.skip_sign" ue f fd)(T:Txt K mg a):aF P w K mg base af 1 f fd ["self"] (gz a):=by
 refine F.ok LS (fun vs H Q E h=>by obtain⟨r,ta,d,T,p,n,rfl,_⟩:=h;rfl) (fun cdv A outer s H vs Q E hr h=>?_);obtain⟨r,ta,d,Tx,p,n,rfl,R,q⟩:=h;refine⟨_,(aq (cM (pv 0) (bU iU (aD (pv 0) rfl) aN) rfl)),?_⟩;exact⟨_,rfl,r,_,d,_,_,rfl,R.rd,T.bx,T.dX,fV,_,_,rfl,rfl,_,rfl,r,_,d,_,rfl,R.rd,T.bx,T.dX,(by show 3<1000;decide),q⟩
theorem qt{T:List Nat}{p b:Nat}(h:T[p]? =some b):dm T p=(b:Int):=by unfold dm;rw[h]
theorem Ci{T:List Nat}{p:Nat}(h:T[p]? =Option.none):dm T p=-1:=by unfold dm;rw[h]
structure xj(z:Int→Bool)(g:Nat→Bool):Prop where
 at_:∀b:Nat,z (b:Int)=g b
 no:z (-1)=false
theorem qu:xj jq Vacola.isDigit:=⟨fun b=>by unfold jq Vacola.isDigit;congr 1<;>(apply decide_eq_decide.mpr;omega),rfl⟩
theorem GF:xj kL Vacola.isLow:=⟨fun b=>by unfold kL Vacola.isLow;congr 1<;>(apply decide_eq_decide.mpr;omega),rfl⟩
theorem ofName:xj lO Vacola.nameSign:=⟨fun b=>by
 unfold lO Vacola.nameSign;rw[GF.at_,qu.at_]
 congr 1
 rw[Bool.eq_iff_iff,decide_eq_true_iff,beq_iff_eq];omega,rfl⟩
theorem Cj:xj zPlain Vacola.plain:=⟨fun b=>by
 unfold zPlain Vacola.plain;rw[Bool.eq_iff_iff];simp only[Bool.and_eq_true,decide_eq_true_iff,Bool.not_eq_true',decide_eq_false_iff_not,bne_iff_ne,ne_eq];omega,rfl⟩
def bV(g:Nat→Bool)(T:List Nat)(p:Nat):List Nat:=(T.drop p).takeWhile g
theorem xm{g:Nat→Bool}{T:List Nat}{p j b:Nat}(hj:j≤(bV g T p).length)(hb:T[p+j]? =some b):(j<(bV g T p).length↔g b=true):=by
 have e1:(T.drop p)[j]? =some b:=by rw[List.getElem?_drop];exact hb
 constructor
 ·intro h
  have e2:(bV g T p)[j]? =(T.drop p)[j]? :=by
   unfold bV;rw[←List.takeWhile_append_dropWhile (p:=g) (l:=T.drop p),List.getElem?_append_left (by simpa[bV]using h)];simp
  have e3:b∈bV g T p:=List.mem_of_getElem? (e2.trans e1);exact takeWhile_all g _ b e3
 ·intro h
  rcases Nat.lt_or_ge j (bV g T p).length with z|z
  ·exact z
  ·exfalso
   have ej:j=(bV g T p).length:=by omega
   have e2:((T.drop p).dropWhile g)[0]? =some b:=by
    rw[←e1,ej]
    conv=>rhs;rw[←List.takeWhile_append_dropWhile (p:=g) (l:=T.drop p)]
    rw[List.getElem?_append_right (by simp[bV])];simp[bV]
   cases hd:(T.drop p).dropWhile g with
   |nil=>rw[hd]at e2;cases e2
   |cons c r=>
    rw[hd]at e2;cases e2;have:=List.head?_dropWhile_not g (T.drop p);rw[hd]at this;simp at this;rw[this]at h;cases h
theorem GG{g:Nat→Bool}{T:List Nat}{p j:Nat}(hj:j≤(bV g T p).length)(hb:T[p+j]? =Option.none):j=(bV g T p).length:=by
 have h1:=oF g (T.drop p);have h2:T.length≤p+j:=List.getElem?_eq_none_iff.mp hb;rw[List.length_drop]at h1;have:(bV g T p).length=((T.drop p).takeWhile g).length:=rfl;omega
theorem GH{g:Nat→Bool}{T:List Nat}{p:Nat}:eu (aC T) (some (p:Int)) (some ((p+(bV g T p).length:Nat):Int))=aC (bV g T p):=by
 have h1:=oF g (T.drop p);rw[List.length_drop]at h1;have hr:(bV g T p).length=((T.drop p).takeWhile g).length:=rfl;have hl:(aC T).length=T.length:=List.length_map _;unfold eu;rw[hl];by_cases hp:p≤T.length
 ·have e1:HT.dH T.length 0 (some (p:Int))=p:=by
   unfold HT.dH;dsimp only;rw[if_neg (by omega)];omega
  have e2:HT.dH T.length T.length (some ((p+(bV g T p).length:Nat):Int))=p+(bV g T p).length:=by
   unfold HT.dH;dsimp only;rw[if_neg (by omega)];omega
  rw[e1,e2,Nat.add_sub_cancel_left];unfold aC;rw[←List.map_drop,←List.map_take]
  congr 1
  have e3:T.drop p=bV g T p++(T.drop p).dropWhile g:=(List.takeWhile_append_dropWhile).symm
  conv=>lhs;rw[e3]
  rw[List.take_left]
 ·have e0:bV g T p=[]:=by unfold bV;rw[List.drop_eq_nil_of_le (by omega)];rfl
  rw[e0]
  have e1:HT.dH T.length 0 (some (p:Int))=T.length:=by
   unfold HT.dH;dsimp only;rw[if_neg (by omega)];omega
  rw[e1,←hl,List.drop_length,List.take_nil];rfl
inductive jP(a:aH)(g:Nat→Bool)(vs:List V)(H:Hp)(Q:VK)(E:XK):Prop
 |mk:∀r ta d T p n,vs=[.ref r]→bO a H r ta d T p n→(∀l,bw a H r ta d (p+(bV g T p).length) n l=Option.none→Q (.ref l) (upd (bw a H r ta d (p+(bV g T p).length) n) l (.lst (aC (bV g T p)))))→jP a g vs H Q E
theorem Mw{f:Addr}{fd:FuncData}(F:aK K "take_digits" "Reader.take_digits" uf f fd)(T:Txt K mg a)(c_is_digit:ao P w K mg base af 1 "is_digit" ["sign"] (ff jq))
  (m_Reader_sign_here:bG P w K mg base af 1 a.aR "sign_here" ["self"] (fW a))(m_Reader_skip_sign:bG P w K mg base af 1 a.aR "skip_sign" ["self"] (gz a)):aF P w K mg base af 2 f fd ["self"] (jP a Vacola.isDigit):=by
 refine F.ok Ge (fun vs H Q E h=>by obtain⟨r,ta,d,T,p,n,rfl,_⟩:=h;rfl) (fun cdv A outer s H vs Q E hr h=>?_);obtain⟨r,ta,d,Tx,p,n,rfl,R,q⟩:=h;refine⟨_,(ai (aO (i:=1) Ge.nd rfl (Or.inl rfl) (aD (pv 0) rfl)) (ai (mT PassesOwn.never (c9 (aG c_is_digit (hr.mono (by decide)) rfl az (aa (bR (pv 0) T.bx m_Reader_sign_here (hr.mono (by decide)) az) ah))) (aq (bS (bR (pv 0) T.bx m_Reader_skip_sign (hr.mono (by decide)) az)))) (aq (aB (lz mW (aD (pv 0) rfl) (jj (pv 1)) (jj (aD (pv 0) rfl))))))),?_⟩;refine⟨_,rfl,r,_,d,_,_,rfl,R.rd,T.bx,T.dX,fV,?_⟩;refine⟨fun m σ H'=>∃j,j≤(bV Vacola.isDigit Tx p).length∧m=(bV Vacola.isDigit Tx p).length-j∧σ=[some (.ref r),some (.int (p:Int))]∧H'=bw a H r ta d (p+j) n,⟨_,0,Nat.zero_le _,rfl,rfl,(Cg R).symm⟩,?_⟩;rintro m σ H' ⟨j,hj,rfl,rfl,rfl⟩;have R':=R.mv (p+j) n;refine⟨_,rfl,r,d,_,rfl,R'.rd,cG (by decide+kernel),r,ta,d,Tx,p+j,n,rfl,R',_,rfl,_,rfl,?_⟩;refine bB (fun c=>?_) (fun c=>?_)
 ·have hlt:j<(bV Vacola.isDigit Tx p).length:=by
   cases hb:Tx[p+j]? with
   |none=>rw[Ci hb,qu.no]at c;cases c
   |some b=>rw[qt hb,qu.at_]at c;exact(xm hj hb).mpr c
  refine⟨fun σ' H'=>σ'=[some (.ref r),some (.int (p:Int))]∧H'=bw a H r ta d (p+(j+1)) n,?_,?_⟩
  ·rintro σ' H' ⟨rfl,rfl⟩
   exact⟨_,by omega,j+1,hlt,rfl,rfl,rfl⟩
  ·refine⟨_,rfl,r,d,_,rfl,R'.rd,cG (by decide+kernel),r,ta,d,Tx,p+j,n,rfl,R',rfl,?_⟩
   rw[nJ];rfl
 ·have he:j=(bV Vacola.isDigit Tx p).length:=by
   cases hb:Tx[p+j]? with
   |none=>exact GG hj hb
   |some b=>
    rw[qt hb,qu.at_]at c;have:=mt (xm hj hb).mp c;omega
  subst he;refine⟨_,rfl,r,_,d,_,_,rfl,R'.rd,T.bx,T.kI,xg,_,rfl,_,rfl,_,rfl,r,_,d,_,_,rfl,R'.rd,T.bx,T.dX,fV,_,rfl,ta,_,rfl,ay.of R'.tx,fun l hl=>?_⟩;rw[GH];exact q l hl
theorem Mx{f:Addr}{fd:FuncData}(F:aK K "take_name_signs" "Reader.take_name_signs" ug f fd)(T:Txt K mg a)(c_is_name_sign:ao P w K mg base af 2 "is_name_sign" ["sign"] (ff lO))
  (m_Reader_sign_here:bG P w K mg base af 1 a.aR "sign_here" ["self"] (fW a))(m_Reader_skip_sign:bG P w K mg base af 1 a.aR "skip_sign" ["self"] (gz a)):aF P w K mg base af 3 f fd ["self"] (jP a Vacola.nameSign):=by
 refine F.ok Gf (fun vs H Q E h=>by obtain⟨r,ta,d,T,p,n,rfl,_⟩:=h;rfl) (fun cdv A outer s H vs Q E hr h=>?_);obtain⟨r,ta,d,Tx,p,n,rfl,R,q⟩:=h;refine⟨_,(ai (aO (i:=1) Gf.nd rfl (Or.inl rfl) (aD (pv 0) rfl)) (ai (mT PassesOwn.never (c9 (aG c_is_name_sign (hr.mono (by decide)) rfl az (aa (bR (pv 0) T.bx m_Reader_sign_here (hr.mono (by decide)) az) ah))) (aq (bS (bR (pv 0) T.bx m_Reader_skip_sign (hr.mono (by decide)) az)))) (aq (aB (lz mW (aD (pv 0) rfl) (jj (pv 1)) (jj (aD (pv 0) rfl))))))),?_⟩;refine⟨_,rfl,r,_,d,_,_,rfl,R.rd,T.bx,T.dX,fV,?_⟩;refine⟨fun m σ H'=>∃j,j≤(bV Vacola.nameSign Tx p).length∧m=(bV Vacola.nameSign Tx p).length-j∧σ=[some (.ref r),some (.int (p:Int))]∧H'=bw a H r ta d (p+j) n,⟨_,0,Nat.zero_le _,rfl,rfl,(Cg R).symm⟩,?_⟩;rintro m σ H' ⟨j,hj,rfl,rfl,rfl⟩;have R':=R.mv (p+j) n;refine⟨_,rfl,r,d,_,rfl,R'.rd,cG (by decide+kernel),r,ta,d,Tx,p+j,n,rfl,R',_,rfl,_,rfl,?_⟩;refine bB (fun c=>?_) (fun c=>?_)
 ·have hlt:j<(bV Vacola.nameSign Tx p).length:=by
   cases hb:Tx[p+j]? with
   |none=>rw[Ci hb,ofName.no]at c;cases c
   |some b=>rw[qt hb,ofName.at_]at c;exact(xm hj hb).mpr c
  refine⟨fun σ' H'=>σ'=[some (.ref r),some (.int (p:Int))]∧H'=bw a H r ta d (p+(j+1)) n,?_,?_⟩
  ·rintro σ' H' ⟨rfl,rfl⟩
   exact⟨_,by omega,j+1,hlt,rfl,rfl,rfl⟩
  ·refine⟨_,rfl,r,d,_,rfl,R'.rd,cG (by decide+kernel),r,ta,d,Tx,p+j,n,rfl,R',rfl,?_⟩
   rw[nJ];rfl
 ·have he:j=(bV Vacola.nameSign Tx p).length:=by
   cases hb:Tx[p+j]? with
   |none=>exact GG hj hb
   |some b=>
    rw[qt hb,ofName.at_]at c;have:=mt (xm hj hb).mp c;omega
  subst he;refine⟨_,rfl,r,_,d,_,_,rfl,R'.rd,T.bx,T.kI,xg,_,rfl,_,rfl,_,rfl,r,_,d,_,_,rfl,R'.rd,T.bx,T.dX,fV,_,rfl,ta,_,rfl,ay.of R'.tx,fun l hl=>?_⟩;rw[GH];exact q l hl
def lP(l:List Nat):Int:=l.foldl (fun n (c:Nat)=>10*n+c-48) 0
theorem GJ(l:List Nat)(c:Nat):lP (l++[c])=10*lP l+c-48:=by
 unfold lP;rw[List.foldl_append];rfl
theorem GK:∀(k:Nat)(l:List Nat),l.length=k→(∀c∈l,Vacola.isDigit c=true)→lP l=(Vacola.worth l:Int):=by
 intro k
 induction k with
 |zero=>intro l hl _;rw[List.length_eq_zero_iff.mp hl];rfl
 |succ k ih=>
  intro l hl hd;rcases snoc_cases l with e|⟨r,c,rfl⟩
  ·rw[e]at hl;cases hl
  ·have hc:=mJ.mp (hd c (by simp))
   rw[GJ,rW,ih r (by simpa using hl) fun x hx=>hd x (List.mem_append_left _ hx)];omega
inductive qv(K:PySem.W.Frag)(vs:List V)(H:Hp)(Q:VK)(E:XK):Prop
 |mk:∀p l,vs=[.ref p]→ay K H p (aC l)→l.length≤19→((∀c∈l,Vacola.isDigit c=true))→Q (.int (lP l)) H→qv K vs H Q E
theorem take_snoc{α:Type}{l:List α}{i:Nat}{x:α}(h:l[i]? =some x):l.take (i+1)=l.take i++[x]:=by
 rw[List.take_add_one,h];rfl
theorem My{f:Addr}{fd:FuncData}(F:aK K "number_of" "number_of" uh f fd)(T:Txt K mg a):aF P w K mg base af 1 f fd ["digits"] (qv K):=by
 refine F.ok vz (fun vs H Q E h=>by obtain⟨p,l,rfl,_⟩:=h;rfl) (fun cdv A outer s H vs Q E hr h=>?_);obtain⟨p,l,rfl,hS,hl,hd,q⟩:=h;refine⟨_,(ai (aO (i:=1) vz.nd rfl (Or.inl rfl) aN) (ai (gZ PassesOwn.never rfl (gu (pv 0)) (dR (i:=2) vz.nd rfl (Or.inl rfl)) (aq (aO (i:=1) vz.nd rfl (Or.inl rfl) (bU kj (bU iU (bU Bk aN (pv 1)) (pv 2)) (aA T.jn))))) (aq (aB (pv 1))))),?_⟩;refine⟨_,rfl,p,rfl,⟨_,hS⟩,jH (xs:=aC l) (fun i σ H'=>H'=H∧∃v,σ=[some (.ref p),some (.int (lP (l.take i))),v]) ⟨rfl,Option.none,rfl⟩ (fun i σ H' _ ⟨e,_⟩=>by rw[e];exact hS) ?_ ?_⟩
 ·rintro i x σ H' hi ⟨rfl,v,rfl⟩
  obtain⟨c,hc,rfl⟩:∃c,l[i]? =some c∧x=V.int (c:Int):=by
   unfold aC at hi;rw[List.getElem?_map]at hi;cases e:l[i]? with
   |none=>rw[e]at hi;cases hi
   |some c=>rw[e]at hi;cases hi;exact⟨c,rfl,rfl⟩
  refine⟨_,rfl,_,_,rfl,rfl,.inl ⟨by decide,by decide⟩,_,rfl,_,_,rfl,rfl,_,_,rfl,rfl,rfl,some (V.int (c:Int)),?_⟩;rw[take_snoc hc,GJ];rfl
 ·rintro σ H' ⟨rfl,v,rfl⟩
  refine⟨_,rfl,?_⟩;have e:(aC l).length=l.length:=List.length_map _;rw[e,List.take_length];exact q
def fq(k p:V):List (Str×V):=[("kind",k),("place",p)]
inductive kM(a:aH)(vs:List V)(H:Hp)(Q:VK)(E:XK):Prop
 |mk:∀e k p t,vs=[.ref e,k,p]→H e=some (XO e a.dJ t Option.none)→(∀d,H d=Option.none→d≠e→Q .aP (upd (upd H d (XD d (fq k p))) e (XO e a.dJ t (some d))))→kM a vs H Q E
theorem Mz{f:Addr}{fd:FuncData}(F:aK K "__init__" "Fault.__init__" m8 f fd)(T:Txt K mg a):aF P w K mg base af 1 f fd ["self","kind","place"] (kM a):=by
 refine F.ok LD (fun vs H Q E h=>by obtain⟨e,k,p,t,rfl,_⟩:=h;rfl) (fun cdv A outer s H vs Q E hr h=>?_);obtain⟨e,k,p,t,rfl,he,q⟩:=h;refine⟨_,(ai (Lw T.err (by simp) (pv 0) (pv 1) rfl) (aq (Lx T.err (by simp) (pv 0) (pv 2) rfl))),?_⟩;refine⟨_,rfl,_,rfl,e,t,rfl,he,fun d hd hde=>?_⟩;refine⟨_,rfl,_,rfl,e,t,d,_,rfl,aj,(by rw[au hde,aj]),(by show 1<1000;decide),?_⟩;have z:=q d hd hde
 have e1:upd (upd (upd H d (XD d [("kind",k)])) e (XO e a.dJ t (some d))) d (XD d (d_ "place" p [("kind",k)]))=upd (upd H d (XD d (fq k p))) e (XO e a.dJ t (some d)):=by
  rw[Ls (Ne.symm hde),dQ];rfl
 exact e1▸z
def fF(P:Program)(w:World)(K:PySem.W.Frag)(mg:Str→Option Value)(base:Heap)(a:aH):Prop:=
 ∃fd,aF P w K mg base af 1 a.kE fd ["self","kind","place"] (kM a)∧Binds K fd ["self","kind","place"] []
theorem cY{X:Cx}{E:XK}{np cpos pos:Pos}{e0:PySem.Expr}{es:List PySem.Expr}{t:TA}(T:Txt X.K X.mg a)(c:fF X.prog X.w X.K X.mg X.base a)(hr:bX 2 X.A)(hg:Gl X "Fault")(hcalm:X.calm=true)(hex:X.ex=[])(R:Reach X E)
  (ha:PA X (e0::es) t)(he:starEach (e0::es) X.env=(false,eval e0 X.env)::starEach es X.env:=by rfl)(hpl:(backTo cpos (starEach es X.env)).any (·.1)=false:=by rfl):
  PS X (.Raise (some (.Call (.Name "Fault" np) (e0::es) [] cpos)) Option.none pos) (BX a.dJ (kM a) E t):=by
 obtain⟨fd,ok,b⟩:=c;exact Ly T.err ok hr hg T.jO b hcalm hex R ha (by decide) he hpl
def Keeps(H H':Hp)(r:Addr):Prop:=∀b o,H b=some o→b≠r→H' b=some o
theorem Keeps.refl(H:Hp)(r:Addr):Keeps H H r:=fun _ _ h _=>h
theorem Keeps.trans{H H1 H2:Hp}{r:Addr}(x:Keeps H H1 r)(y:Keeps H1 H2 r):Keeps H H2 r:=fun b o h n=>y b o (x b o h n) n
theorem Keeps.bw(H:Hp)(r ta d:Addr)(p n:Nat):Keeps H (bw a H r ta d p n) r:=fun b o h hb=>by unfold Vp.bw;rw[au hb];exact h
theorem Keeps.new{H H1:Hp}{r l:Addr}{o:HO}(x:Keeps H H1 r)(hl:H1 l=Option.none):Keeps H (upd H1 l o) r:=fun b u h hb=>by
 have z:=x b u h hb;rw[au (aV z hl)];exact z
theorem Keeps.rd{H H':Hp}{r ta d:Addr}{T:List Nat}{p n p' n':Nat}(k:Keeps H H' r)(R:bO a H r ta d T p n)(h:H' r=some (.ins a.aR d (cI ta p' n'))):bO a H' r ta d T p' n':=⟨h,k _ _ R.tx R.ne⟩
def bA(a:aH)(E:XK)(H:Hp)(r:Addr)(k p:Int):Prop:=∀H' d,Keeps H H' r→H' d=some (XD d (fq (.int k) (.int p)))→E (.ref a.dJ) (some d) H'
theorem bA.of{E:XK}{H H1:Hp}{r:Addr}{k p:Int}(h:bA a E H r k p)(x:Keeps H H1 r):bA a E H1 r k p:=fun H' d y z=>h H' d (x.trans y) z
theorem dO{E:XK}{H1:Hp}{r:Addr}{k p:Int}(h:bA a E H1 r k p):([V.int k,V.int p]:List V).length≤sizeLine∧∀e tp,H1 e=Option.none→
  kM a (.ref e::[V.int k,V.int p]) (upd H1 e (XO e a.dJ tp Option.none)) (fun v H2=>v=.aP∧∃d,H2 e=some (XO e a.dJ tp (some d))∧E (.ref a.dJ) (some d) (fQ H2 e)) fun _ _ _=>False:=by
 refine⟨by show 2≤sizeLine;decide,fun e tp he=>⟨e,_,_,tp,rfl,aj,fun d hd hde=>⟨rfl,d,aj,?_⟩⟩⟩;have hd':H1 d=Option.none:=by rw[au hde]at hd;exact hd
 have e1:fQ (upd (upd (upd H1 e (XO e a.dJ tp Option.none)) d (XD d (fq (.int k) (.int p)))) e (XO e a.dJ tp (some d))) e=upd H1 d (XD d (fq (.int k) (.int p))):=by
  funext b
  by_cases hb:b=e
  ·rw[hb,m6,au (Ne.symm hde),he]
  ·rw[g_ hb,au hb]
   unfold upd;by_cases hbd:b=d
   ·rw[if_pos hbd,if_pos hbd]
   ·rw[if_neg hbd,if_neg hbd,if_neg hb]
 rw[e1];exact h _ d ((Keeps.refl _ _).new hd') aj
def gA(sg sz:Int)(fl:Addr):List (Str×V):=[("sign",.int sg),("size",.int sz),("fields",.ref fl)]
def iC(n:Int)(nm:Addr)(m:Int)(k:Addr)(d:V):List (Str×V):=[("number",.int n),("name",.ref nm),("mode",.int m),("kind",.ref k),("default",d)]
inductive dz(C:Addr)(n:Nat)(fs:List V→List (Str×V))(vs:List V)(H:Hp)(Q:VK)(E:XK):Prop
 |mk:∀p dx us,vs=.ref p::us→us.length=n→H p=some (.ins C dx [])→Q .aP (upd H p (.ins C dx (fs us)))→dz C n fs vs H Q E
theorem MA{f:Addr}{fd:FuncData}(F:aK K "__init__" "Kind.__init__" t7 f fd)(T:Txt K mg a):aF P w K mg base af 1 f fd ["self","sign","size","fields"] (dz a.b7 3 fun us=>([("sign":Str),"size","fields"]).zip us):=by
 refine F.ok LL (fun vs H Q E h=>by obtain⟨p,dx,us,rfl,hl,_⟩:=h;rw[List.length_cons,hl];rfl) (fun cdv A outer s H vs Q E hr h=>?_);obtain⟨p,dx,us,rfl,hl,hp,q⟩:=h
 match us,hl,q with
 |[x,y,z],_,q=>
  refine⟨_,(ai (cM (pv 0) (pv 1) rfl) (ai (cM (pv 0) (pv 2) rfl) (aq (cM (pv 0) (pv 3) rfl)))),?_⟩;refine⟨_,rfl,_,rfl,p,_,dx,_,rfl,hp,T.bI,T.e9,(by show 0<1000;decide),?_⟩;refine⟨_,rfl,_,rfl,p,_,dx,_,rfl,aj,T.bI,T.jo,(by show 1<1000;decide),?_⟩;refine⟨_,rfl,_,rfl,p,_,dx,_,rfl,aj,T.bI,T.c8,(by show 2<1000;decide),?_⟩;rw[dQ,dQ];exact q
theorem MB{f:Addr}{fd:FuncData}(F:aK K "__init__" "Field.__init__" t8 f fd)(T:Txt K mg a):aF P w K mg base af 1 f fd ["self","number","name","mode","kind","default"] (dz a.cD 5 fun us=>([("number":Str),"name","mode","kind","default"]).zip us):=by
 refine F.ok LM (fun vs H Q E h=>by obtain⟨p,dx,us,rfl,hl,_⟩:=h;rw[List.length_cons,hl];rfl) (fun cdv A outer s H vs Q E hr h=>?_);obtain⟨p,dx,us,rfl,hl,hp,q⟩:=h
 match us,hl,q with
 |[x1,x2,x3,x4,x5],_,q=>
  refine⟨_,(ai (cM (pv 0) (pv 1) rfl) (ai (cM (pv 0) (pv 2) rfl) (ai (cM (pv 0) (pv 3) rfl) (ai (cM (pv 0) (pv 4) rfl) (aq (cM (pv 0) (pv 5) rfl)))))),?_⟩;refine⟨_,rfl,_,rfl,p,_,dx,_,rfl,hp,T.bC,T.gh,(by show 0<1000;decide),?_⟩;refine⟨_,rfl,_,rfl,p,_,dx,_,rfl,aj,T.bC,T.iX,(by show 1<1000;decide),?_⟩;refine⟨_,rfl,_,rfl,p,_,dx,_,rfl,aj,T.bC,T.gK,(by show 2<1000;decide),?_⟩;refine⟨_,rfl,_,rfl,p,_,dx,_,rfl,aj,T.bC,T.e_,(by show 3<1000;decide),?_⟩;refine⟨_,rfl,_,rfl,p,_,dx,_,rfl,aj,T.bC,T.iY,(by show 4<1000;decide),?_⟩;rw[dQ,dQ,dQ,dQ];exact q
theorem MC{f:Addr}{fd:FuncData}(F:aK K "__init__" "Reader.__init__" uc f fd)(T:Txt K mg a):aF P w K mg base af 1 f fd ["self","text"] (dz a.aR 1 fun us=>([("text":Str),"place","leaves"]).zip (us++[.int 0,.int 0])):=by
 refine F.ok LQ (fun vs H Q E h=>by obtain⟨p,dx,us,rfl,hl,_⟩:=h;rw[List.length_cons,hl];rfl) (fun cdv A outer s H vs Q E hr h=>?_);obtain⟨p,dx,us,rfl,hl,hp,q⟩:=h
 match us,hl,q with
 |[x],_,q=>
  refine⟨_,(ai (cM (pv 0) (pv 1) rfl) (ai (cM (pv 0) aN rfl) (aq (cM (pv 0) aN rfl)))),?_⟩;refine⟨_,rfl,_,rfl,p,_,dx,_,rfl,hp,T.bx,T.kI,(by show 0<1000;decide),?_⟩;refine⟨_,rfl,p,_,dx,_,rfl,aj,T.bx,T.dX,(by show 1<1000;decide),?_⟩;refine⟨_,rfl,p,_,dx,_,rfl,aj,T.bx,T.lM,(by show 2<1000;decide),?_⟩;rw[dQ,dQ];exact q
def qw(l:List Nat):Int:=if l=[]∨3<l.length∨l.head?=some 48 then 0 else lP l
inductive qx(K:PySem.W.Frag)(vs:List V)(H:Hp)(Q:VK)(E:XK):Prop
 |mk:∀p l,vs=[.ref p]→ay K H p (aC l)→((∀c∈l,Vacola.isDigit c=true))→Q (.int (qw l)) H→qx K vs H Q E
theorem bE(l:List Nat):(aC l).length=l.length:=List.length_map _
theorem MD{f:Addr}{fd:FuncData}(F:aK K "short_number" "short_number" uC f fd)(T:Txt K mg a)(c_number_of:ao P w K mg base af 1 "number_of" ["digits"] (qv K)):aF P w K mg base af 2 f fd ["digits"] (qx K):=by
 refine F.ok LW (fun vs H Q E h=>by obtain⟨p,l,rfl,_⟩:=h;rfl) (fun cdv A outer s H vs Q E hr h=>?_);obtain⟨p,l,rfl,hS,hd,q⟩:=h;refine⟨_,(ai (aU (PW.pt (f7 (aY bF (bP cC rfl T.bY PySem.boot_len (aa (pv 0) ah)) aN (aQ _)) (f7 (aY ji (bP cC rfl T.bY PySem.boot_len (aa (pv 0) ah)) (aA T.we) (aQ _)) (iR (aY bF (bQ cA (pv 0) aN (fun _ _=>rfl)) (aA T.jn) (aQ _)))))) (aq (aB aN)) aX) (aq (aB (aG c_number_of (hr.mono (by decide)) rfl az (aa (pv 0) ah))))),?_⟩;refine⟨_,rfl,p,_,rfl,.inl hS,rfl,_,rfl,?_⟩;rw[bJ,bE];have zero:(l=[]∨3<l.length∨l.head?=some 48)→Q (.int 0) H:=fun z=>by unfold qw at q;rw[if_pos z]at q;exact q
 refine bB (fun c=>?_) (fun c=>?_)
 ·have c':(l.length:Int)=0:=of_decide_eq_true c
  exact zero (.inl (List.length_eq_zero_iff.mp (by omega)))
 ·have c':¬(l.length:Int)=0:=of_decide_eq_false (Bool.eq_false_iff.mpr c)
  refine⟨_,rfl,p,_,rfl,.inl hS,_,_,rfl,rfl,_,rfl,?_⟩;rw[bE];refine bB (fun d=>?_) (fun d=>?_)
  ·have d':(3:Int)<l.length:=of_decide_eq_true d
   exact zero (.inr (.inl (by omega)))
  ·have d':¬(3:Int)<l.length:=of_decide_eq_false (Bool.eq_false_iff.mpr d)
   cases hl:l with
   |nil=>rw[hl]at c';exact absurd rfl c'
   |cons x t=>
    refine⟨_,rfl,p,_,_,(.int (x:Int)),rfl,rfl,hS,(by rw[hl];exact at_of (j:=0) rfl rfl),rfl,_,rfl,?_⟩;rw[bJ];refine bB (fun g=>?_) (fun g=>?_)
    ·have g':(x:Int)=48:=of_decide_eq_true g
     refine zero (.inr (.inr ?_));rw[hl];show some x=some 48
     congr 1;omega
    ·have g':¬(x:Int)=48:=of_decide_eq_false (Bool.eq_false_iff.mpr g)
     refine⟨_,rfl,p,l,rfl,hS,by omega,hd,?_⟩;unfold qw at q;rw[if_neg]at q
     ·exact q
     ·rintro(z|z|z)
      ·rw[hl]at z;cases z
      ·omega
      ·rw[hl]at z
       have:=Option.some.inj z;exact g' (by omega)
def nL:Vacola.Leaf→Nat
 |.bit=>98
 |.int _=>105
 |.text _=>116
def leafSize:Vacola.Leaf→Nat
 |.bit=>0
 |.int n=>n
 |.text n=>n
def ju:Option Vacola.Lit→Addr→V
 |Option.none,_=>.aP
 |some (.num z),_=>.int z
 |some (.str _),da=>.ref da
def iD(H:Hp):Option Vacola.Lit→Addr→Prop
 |some (.str s),da=>H da=some (.lst (aC s))
 |_,_=>True
mutual
def bK(a:aH)(H:Hp):TK→Prop
 |.leaf l k fl=>(∃d,H k=some (.ins a.b7 d (gA (nL l:Nat) (leafSize l:Nat) fl)))∧H fl=some (.lst [])
 |.group c k fl fs=>(∃d,H k=some (.ins a.b7 d (gA (Vacola.openSign c:Nat) 0 fl)))∧H fl=some (.lst (fs.as.map V.ref))∧fh a H fs
def fh(a:aH)(H:Hp):TF→Prop
 |.nil=>True
 |.cons h f nm da k r=>((∃d,H f=some (.ins a.cD d (iC (h.number:Nat) nm (Vacola.showMode h.mode:Nat) k.at (ju h.dflt da))))∧H nm=some (.lst (aC h.name))∧iD H h.dflt da∧bK a H k)∧fh a H r
end
def bW(a:aH)(H:Hp)(x:Fi):Prop:=(∃d,H x.f=some (.ins a.cD d (iC (x.h.number:Nat) x.nm (Vacola.showMode x.h.mode:Nat) x.k.at (ju x.h.dflt x.da))))∧H x.nm=some (.lst (aC x.h.name))∧iD H x.h.dflt x.da∧bK a H x.k
theorem dY{H:Hp}:∀{t:TF},fh a H t↔∀x∈t.items,bW a H x
 |.nil=>by
  constructor
  ·intro _ x hx;cases hx
  ·intro _;trivial
 |.cons h f nm da k r=>by
  rw[fh,dY (t:=r),TF.items,List.forall_mem_cons];rfl
structure bZ(H H':Hp)(S:List Addr):Prop where
 at_:∀b∈S,∀o,H b=some o→H' b=some o
theorem bZ.mono{H H':Hp}{S S':List Addr}(h:bZ H H' S)(hs:∀b∈S',b∈S):bZ H H' S':=⟨fun b hb=>h.at_ b (hs b hb)⟩
theorem bZ.of_same{H H':Hp}{S:List Addr}(h:aI H H'):bZ H H' S:=⟨fun b _ o q=>h b o q⟩
theorem iD.a_{H H':Hp}{d:Option Vacola.Lit}{da:Addr}(h:iD H d da)(g:bZ H H' (dU d da)):iD H' d da:=by
 match d,h,g with
 |Option.none,_,_=>trivial
 |some (.num _),_,_=>trivial
 |some (.str s),h,g=>exact g.at_ _ (by simp[dU]) _ h
mutual
theorem bK.a_{H H':Hp}:∀{t:TK},bK a H t→bZ H H' t.fp→bK a H' t
 |.leaf l k fl,⟨⟨d,h1⟩,h2⟩,g=>⟨⟨d,g.at_ k (by simp[TK.fp]) _ h1⟩,g.at_ fl (by simp[TK.fp]) _ h2⟩
 |.group c k fl fs,⟨⟨d,h1⟩,h2,h3⟩,g=>⟨⟨d,g.at_ k (by simp[TK.fp]) _ h1⟩,g.at_ fl (by simp[TK.fp]) _ h2,h3.a_ (g.mono fun b hb=>by simp[TK.fp,hb])⟩
theorem fh.a_{H H':Hp}:∀{t:TF},fh a H t→bZ H H' t.fp→fh a H' t
 |.nil,_,_=>trivial
 |.cons h f nm da k r,⟨⟨⟨d,h1⟩,h2,h3,h4⟩,h5⟩,g=>⟨⟨⟨d,g.at_ f (by simp[TF.fp]) _ h1⟩,g.at_ nm (by simp[TF.fp]) _ h2,h3.a_ (g.mono fun b hb=>by simp[TF.fp,hb]),h4.a_ (g.mono fun b hb=>by simp[TF.fp,hb])⟩,h5.a_ (g.mono fun b hb=>by simp[TF.fp,hb])⟩
end
theorem bW.a_{H H':Hp}{x:Fi}(h:bW a H x)(g:bZ H H' x.fp):bW a H' x:=by
 obtain⟨⟨d,h1⟩,h2,h3,h4⟩:=h;exact⟨⟨d,g.at_ _ (by simp[Fi.fp]) _ h1⟩,g.at_ _ (by simp[Fi.fp]) _ h2,h3.a_ (g.mono fun b hb=>by simp[Fi.fp,hb]),h4.a_ (g.mono fun b hb=>by simp[Fi.fp,hb])⟩
def gO:HO→Prop
 |.ins _ _ fs=>(∃sg sz fl,fs=gA sg sz fl)∨∃n nm m k v,fs=iC n nm m k v
 |.lst _=>True
 |_=>False
theorem iD.obj{H:Hp}{d:Option Vacola.Lit}{da:Addr}(h:iD H d da):∀b∈dU d da,∃o,H b=some o∧gO o:=fun b hb=>by
 match d,h,hb with
 |Option.none,_,hb=>cases hb
 |some (.num _),_,hb=>cases hb
 |some (.str s),h,hb=>rw[List.mem_singleton.mp hb];exact⟨_,h,trivial⟩
mutual
theorem bK.obj{H:Hp}:∀{t:TK},bK a H t→∀b∈t.fp,∃o,H b=some o∧gO o
 |.leaf l k fl,⟨⟨d,h1⟩,h2⟩,b,hb=>by
  simp only[TK.fp,List.mem_cons,List.not_mem_nil,or_false]at hb;rcases hb with rfl|rfl
  ·exact⟨_,h1,.inl ⟨_,_,_,rfl⟩⟩
  ·exact⟨_,h2,trivial⟩
 |.group c k fl fs,⟨⟨d,h1⟩,h2,h3⟩,b,hb=>by
  simp only[TK.fp,List.mem_cons]at hb;rcases hb with rfl|rfl|hb
  ·exact⟨_,h1,.inl ⟨_,_,_,rfl⟩⟩
  ·exact⟨_,h2,trivial⟩
  ·exact h3.obj b hb
theorem fh.obj{H:Hp}:∀{t:TF},fh a H t→∀b∈t.fp,∃o,H b=some o∧gO o
 |.nil,_,b,hb=>by cases hb
 |.cons h f nm da k r,⟨⟨⟨d,h1⟩,h2,h3,h4⟩,h5⟩,b,hb=>by
  simp only[TF.fp,List.mem_cons,List.mem_append]at hb;rcases hb with(rfl|rfl|hb|hb)|hb
  ·exact⟨_,h1,.inr ⟨_,_,_,_,_,rfl⟩⟩
  ·exact⟨_,h2,trivial⟩
  ·exact h3.obj b hb
  ·exact h4.obj b hb
  ·exact h5.obj b hb
end
theorem bW.obj{H:Hp}{x:Fi}(h:bW a H x):∀b∈x.fp,∃o,H b=some o∧gO o:=fun b hb=>by
 obtain⟨⟨d,h1⟩,h2,h3,h4⟩:=h;simp only[Fi.fp,List.mem_cons,List.mem_append]at hb;rcases hb with rfl|rfl|hb|hb
 ·exact⟨_,h1,.inr ⟨_,_,_,_,_,rfl⟩⟩
 ·exact⟨_,h2,trivial⟩
 ·exact h3.obj b hb
 ·exact h4.obj b hb
theorem bZ.of_keeps{H H':Hp}{S:List Addr}{r:Addr}{o:HO}(k:Keeps H H' r)(hr:H r=some o)(ho:¬gO o)(hS:∀b∈S,∃u,H b=some u∧gO u):bZ H H' S:=by
 refine⟨fun b hb u q=>k b u q fun e=>?_⟩;obtain⟨v,h1,h2⟩:=hS b hb;rw[e,hr]at h1;cases h1;exact ho h2
theorem xo{C d ta:Addr}{p n:Nat}:¬gO (.ins C d (cI ta p n)):=by
 rintro(⟨sg,sz,fl,h⟩|⟨n,nm,m,k,v,h⟩)
 ·have h:=congrArg (fun l=>l.head?.map (·.1)) h
  have h:("text":Str)="sign":=Option.some.inj h;exact absurd h (by decide+kernel)
 ·have h:=congrArg (fun l=>l.head?.map (·.1)) h
  have h:("text":Str)="number":=Option.some.inj h;exact absurd h (by decide+kernel)
theorem bK.keeps{H H':Hp}{r ta d:Addr}{T:List Nat}{p n:Nat}{t:TK}(h:bK a H t)(R:bO a H r ta d T p n)(k:Keeps H H' r):bK a H' t:=h.a_ (.of_keeps k R.rd xo h.obj)
theorem fh.keeps{H H':Hp}{r ta d:Addr}{T:List Nat}{p n:Nat}{t:TF}(h:fh a H t)(R:bO a H r ta d T p n)(k:Keeps H H' r):fh a H' t:=h.a_ (.of_keeps k R.rd xo h.obj)
def iE(H:Hp)(S:List Addr):Prop:=∀b∈S,H b=Option.none
theorem Keeps.free{H H':Hp}{r:Addr}(k:Keeps H H' r){b:Addr}(h:H' b=Option.none)(hr:b≠r):H b=Option.none:=by
 cases q:H b with
 |none=>rfl
 |some o=>rw[k b o q hr]at h;cases h
theorem gB(T:List Nat)(p:Nat):(T.drop p=[]∧dm T p=-1)∨∃c s,T.drop p=c::s∧dm T p=(c:Int)∧T.drop (p+1)=s∧p<T.length:=by
 cases h:T[p]? with
 |none=>exact .inl ⟨List.drop_eq_nil_of_le (List.getElem?_eq_none_iff.mp h),Ci h⟩
 |some c=>
  obtain⟨hp,e⟩:=List.getElem?_eq_some_iff.mp h;refine .inr ⟨c,T.drop (p+1),?_,qt h,rfl,hp⟩;rw[List.drop_eq_getElem_cons hp,e]
def kN(i:Int):Option Int:=if jq i=true then some (i-48)else if 97≤i∧i≤102 then some (i-97+10)else Option.none
theorem Ck(b:Nat):kN (b:Int)=Option.map (fun(n:Nat)=>(n:Int)) (Vacola.hexOf b):=by
 unfold kN Vacola.hexOf;rw[qu.at_];by_cases h:Vacola.isDigit b=true
 ·rw[if_pos h,if_pos h]
  have:=mJ.mp h;show some ((b:Int)-48)=some (((b-48:Nat)):Int)
  congr 1;omega
 ·rw[if_neg h,if_neg h]
  by_cases h2:97≤b∧b≤102
  ·rw[if_pos (by omega),if_pos h2]
   show some ((b:Int)-97+10)=some (((b-87:Nat)):Int)
   congr 1;omega
  ·rw[if_neg (by omega),if_neg h2];rfl
inductive xq(a:aH)(vs:List V)(H:Hp)(Q:VK)(E:XK):Prop
 |mk:∀r ta d T p n st,vs=[.ref r,.int st]→bO a H r ta d T p n→((match kN (dm T p)with
 |some v=>Q (.int v) (bw a H r ta d (p+1) n)
 |Option.none=>bA a E H r 1 st))→xq a vs H Q E
theorem ME{f:Addr}{fd:FuncData}(F:aK K "read_sixteenth" "read_sixteenth" uy f fd)(T:Txt K mg a)(cE:fF P w K mg base a)(c_is_digit:ao P w K mg base af 1 "is_digit" ["sign"] (ff jq))
  (m_Reader_sign_here:bG P w K mg base af 1 a.aR "sign_here" ["self"] (fW a))(m_Reader_skip_sign:bG P w K mg base af 1 a.aR "skip_sign" ["self"] (gz a)):aF P w K mg base (bu P w) 3 f fd ["reader","start"] (xq a):=by
 refine F.fU Gj (fun vs H Q E h=>by obtain⟨r,ta,d,T,p,n,st,rfl,_⟩:=h;rfl) (fun cdv A outer s H vs Q E hr h=>?_);obtain⟨r,ta,d,Tx,p,n,st,rfl,R,q⟩:=h;refine⟨_,(ai (aO (i:=2) Gj.nd rfl (Or.inl rfl) (bR (pv 0) T.bx m_Reader_sign_here (hr.mono (by decide)) az)) (ai (bS (bR (pv 0) T.bx m_Reader_skip_sign (hr.mono (by decide)) az)) (ai (aU (c9 (aG c_is_digit (hr.mono (by decide)) rfl az (aa (pv 2) ah))) (aq (aB (bU kj (pv 2) (aA T.jn)))) aX) (ai (aU (sV gw gw (aA T.lJ) (pv 2) (aA T.vV)) (aq (aB (bU iU (bU kj (pv 2) (aA T.lJ)) aN))) aX) (aq (cY T cE (hr.mono (by decide)) rfl rfl rfl bN (aa (aA T.fR) (aa (pv 1) ah)))))))),?_⟩;refine⟨_,rfl,r,d,_,rfl,R.rd,cG (by decide+kernel),r,ta,d,Tx,p,n,rfl,R,?_⟩;refine⟨_,rfl,r,d,_,rfl,R.rd,cG (by decide+kernel),r,ta,d,Tx,p,n,rfl,R,?_⟩;generalize hs:dm Tx p=i at q⊢;unfold kN at q;refine⟨_,rfl,i,rfl,_,rfl,bB (fun c=>?_) (fun c=>?_)⟩
 ·rw[if_pos c]at q
  exact⟨_,rfl,_,_,rfl,rfl,q⟩
 ·rw[if_neg c]at q
  refine⟨_,rfl,_,_,rfl,rfl,_,rfl,?_⟩;by_cases h2:97≤i∧i≤102
  ·rw[if_pos h2]at q
   rw[decide_eq_true h2.1];refine⟨_,_,rfl,rfl,_,rfl,?_⟩;rw[decide_eq_true h2.2];exact⟨_,rfl,_,_,rfl,rfl,_,_,rfl,rfl,q⟩
  ·rw[if_neg h2]at q
   have fin:bA a E (bw a H r ta d (p+1) n) r 1 st:=q.of (Keeps.bw H r ta d (p+1) n);refine bB (fun g=>?_) (fun g=>?_)
   ·refine⟨_,_,rfl,rfl,_,rfl,?_⟩
    have g':(97:Int)≤i:=of_decide_eq_true g;rw[decide_eq_false (show¬i≤102 by omega)];exact⟨_,rfl,dO fin⟩
   ·exact⟨_,rfl,⟨_,rfl,dO fin⟩⟩
def lQ:List Nat→Option (Nat×List Nat)
 |[]=>Option.none
 |92::x::y::r=>match Vacola.hexOf x,Vacola.hexOf y with
  |some u,some v=>if Vacola.plain (16*u+v)then Option.none else some (16*u+v,r)
  |_,_=>Option.none
 |c::r=>if Vacola.plain c then some (c,r)else Option.none
theorem GL(x y:Nat)(r:List Nat):lQ (92::x::y::r)=match Vacola.hexOf x,Vacola.hexOf y with
  |some u,some v=>if Vacola.plain (16*u+v)then Option.none else some (16*u+v,r)
  |_,_=>Option.none:=rfl
theorem GN{c:Nat}{r:List Nat}(h:c≠92):lQ (c::r)=if Vacola.plain c then some (c,r)else Option.none:=by
 unfold lQ;split
 ·rename_i z;cases z
 ·rename_i z;cases z;exact absurd rfl h
 ·rename_i z;cases z;rfl
theorem MF{t:List Nat}(h:t.head?≠some 34):Vacola.readQuoted t=match lQ t with
  |Option.none=>Option.none
  |some (c,r)=>(Vacola.readQuoted r).map fun z=>(c::z.1,z.2):=by
 cases t with
 |nil=>rfl
 |cons c r=>
  by_cases hc:c=92
  ·subst hc
   match r with
   |[]=>rfl
   |[x]=>rfl
   |x::y::r=>
    rw[GL,Vacola.readQuoted];cases Vacola.hexOf x with
    |none=>rfl
    |some u=>
     cases Vacola.hexOf y with
     |none=>rfl
     |some v=>
      dsimp only;split<;>rfl
  ·rw[GN hc,Vacola.readQuoted]
   ·split<;>rfl
   ·intro z
    rw[z]at h;exact h rfl
   ·intro x y r' e1 e2
    exact hc e1
inductive xu(a:aH)(vs:List V)(H:Hp)(Q:VK)(E:XK):Prop
 |mk:∀r ta d T p n st,vs=[.ref r,.int st]→bO a H r ta d T p n→((match kN (dm T p),kN (dm T (p+1))with
 |some u,some v=>if zPlain (16*u+v)=true then bA a E H r 1 st else Q (.int (16*u+v)) (bw a H r ta d (p+2) n)
 |_,_=>bA a E H r 1 st))→xu a vs H Q E
theorem MG{f:Addr}{fd:FuncData}(F:aK K "read_escaped" "read_escaped" ux f fd)(T:Txt K mg a)(cE:fF P w K mg base a)(c_read_sixteenth:ao P w K mg base (bu P w) 3 "read_sixteenth" ["reader","start"] (xq a))
  (c_stands_as_itself:ao P w K mg base af 1 "stands_as_itself" ["byte"] (ff zPlain)):aF P w K mg base (bu P w) 4 f fd ["reader","start"] (xu a):=by
 refine F.fU vB (fun vs H Q E h=>by obtain⟨r,ta,d,T,p,n,st,rfl,_⟩:=h;rfl) (fun cdv A outer s H vs Q E hr h=>?_);obtain⟨r,ta,d,Tx,p,n,st,rfl,R,q⟩:=h;refine⟨_,(ai (aO (i:=2) vB.nd rfl (Or.inl rfl) (aG c_read_sixteenth (hr.mono (by decide)) rfl (dj rfl bN) (aa (pv 0) (aa (pv 1) ah)))) (ai (aO (i:=3) vB.nd rfl (Or.inl rfl) (aG c_read_sixteenth (hr.mono (by decide)) rfl (dj rfl bN) (aa (pv 0) (aa (pv 1) ah)))) (ai (aO (i:=4) vB.nd rfl (Or.inl rfl) (bU iU (bU Bk aN (pv 2)) (pv 3))) (ai (aU (c9 (aG c_stands_as_itself (hr.mono (by decide)) rfl az (aa (pv 4) ah))) (aq (cY T cE (hr.mono (by decide)) rfl rfl rfl bN (aa (aA T.fR) (aa (pv 1) ah)))) aX) (aq (aB (pv 4))))))),?_⟩;refine⟨_,rfl,_,rfl,r,ta,d,Tx,p,n,st,rfl,R,?_⟩;cases h1:kN (dm Tx p)with
 |none=>rw[h1]at q;exact q
 |some u=>
  refine⟨_,rfl,_,rfl,r,ta,d,Tx,p+1,n,st,rfl,R.mv (p+1) n,?_⟩;cases h2:kN (dm Tx (p+1))with
  |none=>rw[h1,h2]at q;exact q.of (Keeps.bw H r ta d (p+1) n)
  |some v=>
   rw[h1,h2]at q;dsimp only at q⊢;rw[nJ];refine⟨_,rfl,_,_,rfl,rfl,.inl ⟨by decide,by decide⟩,_,rfl,_,_,rfl,rfl,?_⟩;refine⟨_,rfl,_,rfl,_,rfl,bB (fun c=>?_) (fun c=>?_)⟩
   ·rw[if_pos c]at q
    exact⟨_,rfl,dO (q.of (Keeps.bw H r ta d (p+1+1) n))⟩
   ·rw[if_neg c]at q
    exact⟨_,rfl,q⟩
inductive xw(a:aH)(vs:List V)(H:Hp)(Q:VK)(E:XK):Prop
 |mk:∀r ta d T p n st,vs=[.ref r,.int st]→bO a H r ta d T p n→((match lQ (T.drop p)with
 |some (c,s)=>∀p',T.drop p'=s→p<p'→p'≤T.length→Q (.int (c:Int)) (bw a H r ta d p' n)
 |Option.none=>bA a E H r 1 st))→xw a vs H Q E
theorem MH{f:Addr}{fd:FuncData}(F:aK K "read_byte" "read_byte" uw f fd)(T:Txt K mg a)(cE:fF P w K mg base a)(c_read_escaped:ao P w K mg base (bu P w) 4 "read_escaped" ["reader","start"] (xu a))
  (c_stands_as_itself:ao P w K mg base af 1 "stands_as_itself" ["byte"] (ff zPlain))(m_Reader_sign_here:bG P w K mg base af 1 a.aR "sign_here" ["self"] (fW a))(m_Reader_skip_sign:bG P w K mg base af 1 a.aR "skip_sign" ["self"] (gz a)):
  aF P w K mg base (bu P w) 5 f fd ["reader","start"] (xw a):=by
 refine F.fU Gi (fun vs H Q E h=>by obtain⟨r,ta,d,T,p,n,st,rfl,_⟩:=h;rfl) (fun cdv A outer s H vs Q E hr h=>?_);obtain⟨r,ta,d,Tx,p,n,st,rfl,R,q⟩:=h;refine⟨_,(ai (aO (i:=2) Gi.nd rfl (Or.inl rfl) (bR (pv 0) T.bx m_Reader_sign_here (hr.mono (by decide)) az)) (ai (bS (bR (pv 0) T.bx m_Reader_skip_sign (hr.mono (by decide)) az)) (ai (aU (aY bF (pv 2) (aA T.nA) (aQ _)) (aq (aB (aG c_read_escaped (hr.mono (by decide)) rfl (dj rfl bN) (aa (pv 0) (aa (pv 1) ah))))) aX) (ai (aU (jf (c9 (aG c_stands_as_itself (hr.mono (by decide)) rfl az (aa (pv 2) ah)))) (aq (cY T cE (hr.mono (by decide)) rfl rfl rfl bN (aa (aA T.fR) (aa (pv 1) ah)))) aX) (aq (aB (pv 2))))))),?_⟩;refine⟨_,rfl,r,d,_,rfl,R.rd,cG (by decide+kernel),r,ta,d,Tx,p,n,rfl,R,?_⟩;refine⟨_,rfl,r,d,_,rfl,R.rd,cG (by decide+kernel),r,ta,d,Tx,p,n,rfl,R,?_⟩;have KE:∀{p'},Keeps H (bw a H r ta d p' n) r:=fun{p'}=>Keeps.bw H r ta d p' n
 refine⟨_,rfl,rfl,_,rfl,?_⟩;rw[bJ];rcases gB Tx p with⟨e1,e2⟩|⟨c,s1,e1,e2,e3,hp⟩
 ·rw[e1]at q
  rw[e2];refine⟨_,rfl,_,rfl,_,rfl,?_⟩;exact⟨_,rfl,dO (q.of KE)⟩
 ·rw[e1]at q
  rw[e2];refine bB (fun g=>?_) (fun g=>?_)
  ·have g':c=92:=by have:(c:Int)=92:=of_decide_eq_true g;omega
   subst g';refine⟨_,rfl,_,rfl,r,ta,d,Tx,p+1,n,st,rfl,R.mv (p+1) n,?_⟩;rcases gB Tx (p+1)with⟨f1,f2⟩|⟨x,s2,f1,f2,f3,hp2⟩
   ·rw[←e3,f1]at q
    rw[f2];exact bA.of q KE
   ·rcases gB Tx (p+1+1)with⟨i1,i2⟩|⟨y,s3,i1,i2,i3,hp3⟩
    ·rw[←e3,f1,←f3,i1]at q
     rw[f2,i2,Ck];have q':bA a E H r 1 st:=q;cases Vacola.hexOf x<;>exact q'.of KE
    ·rw[←e3,f1,←f3,i1]at q
     rw[f2,i2,Ck,Ck];rw[GL]at q;cases hx:Vacola.hexOf x with
     |none=>rw[hx]at q;exact bA.of q KE
     |some u=>
      cases hy:Vacola.hexOf y with
      |none=>rw[hx,hy]at q;exact bA.of q KE
      |some v=>
       rw[hx,hy]at q;have ez:(16*(u:Int)+(v:Int))=((16*u+v:Nat):Int):=by omega
       show if zPlain (16*(u:Int)+(v:Int))=true then _ else _
       rw[ez,Cj.at_];dsimp only at q;refine bB (fun z=>?_) (fun z=>?_)
       ·rw[if_pos z]at q
        exact bA.of q KE
       ·rw[if_neg z]at q
        rw[nJ];exact q (p+1+2) (by rw[show p+1+2=p+1+1+1 from rfl];exact i3) (by omega) (by omega)
  ·have g':c≠92:=fun z=>g (decide_eq_true (by omega))
   refine⟨_,rfl,_,rfl,_,rfl,?_⟩;rw[Cj.at_];rw[GN g']at q;cases hc:Vacola.plain c with
   |true=>
    rw[hc]at q;exact⟨_,rfl,q (p+1) e3 (by omega) (by omega)⟩
   |false=>
    rw[hc]at q;exact⟨_,rfl,dO (bA.of q KE)⟩
theorem Keeps.i0{H H1:Hp}{r l:Addr}{o:HO}(x:Keeps H H1 r)(hl:H l=Option.none):Keeps H (upd H1 l o) r:=fun b u h hb=>by
 rw[au (aV h hl)];exact x b u h hb
theorem ia{i j:Int}:(!decide (V.int i=V.int j))=decide (i≠j):=by
 rw[bJ];by_cases h:i=j
 ·rw[decide_eq_true h,decide_eq_false (fun z=>z h)];rfl
 ·rw[decide_eq_false h,decide_eq_true h];rfl
theorem gP{E:XK}{σ:L2.St}{H:Hp}{r ta d:Addr}{p n i:Nat}{k:Int}(T:Txt K mg a)(hσ:σ[i]? =some (some (V.ref r)))(hr:H r=some (.ins a.aR d (cI ta p n)))(h:bA a E H r k p)(D:Ends:=⟨fun _ _=>False,fun _ _=>False,fun _ _=>False,fun _ _=>False⟩):
  BX a.dJ (kM a) E (kr (tC (.int k)) (kr (sY K (gq i) "place") kq)) D σ H:=⟨_,hσ,r,_,d,_,_,rfl,hr,T.bx,T.dX,fV,dO h⟩
theorem MI{i A B:Int}{σ:L2.St}{H:Hp}{Q:Bool→Hp→Prop}{k:Nat}(hk:σ[k]? =some (some (V.int i)))(h:Q (decide (i=A)||decide (i=B)) H):
  EC (ko (ki o6 (gq k) (tC (.int A)))) (ko (ki o6 (gq k) (tC (.int B)))) σ H Q:=by
 refine⟨_,hk,rfl,_,rfl,?_⟩;rw[bJ];refine bB (fun c=>?_) (fun c=>?_)
 ·rw[c,Bool.true_or]at h;exact h
 ·rw[Bool.eq_false_iff.mpr c,Bool.false_or]at h
  refine⟨_,hk,rfl,_,rfl,?_⟩;rw[bJ];exact h
def MJ(a:aH)(H:Hp)(r ta d:Addr)(T:List Nat)(n:Nat)(Q:VK)(v:Vacola.Lit)(s:List Nat):Prop:=
 ∀H' p' da,Keeps H H' r→H' r=some (.ins a.aR d (cI ta p' n))→p'≤T.length→T.drop p'=s→iD H' (some v) da→iE H (dU (some v) da)→Q (ju (some v) da) H'
def jQ(a:aH)(H:Hp)(r ta d:Addr)(T:List Nat)(p n:Nat)(Q:VK)(E:XK)(l:Vacola.Leaf):Prop:=match Vacola.readLit l (T.drop p)with
 |Option.none=>bA a E H r 1 p
 |some (v,s)=>if Vacola.fits l v=true then MJ a H r ta d T n Q v s else bA a E H r 5 p
inductive xx(a:aH)(vs:List V)(H:Hp)(Q:VK)(E:XK):Prop
 |mk:∀r ta d T p n,vs=[.ref r]→bO a H r ta d T p n→jQ a H r ta d T p n Q E .bit→xx a vs H Q E
theorem MK{f:Addr}{fd:FuncData}(F:aK K "read_bit" "read_bit" uq f fd)(T:Txt K mg a)(cE:fF P w K mg base a)
  (m_Reader_sign_here:bG P w K mg base af 1 a.aR "sign_here" ["self"] (fW a))(m_Reader_skip_sign:bG P w K mg base af 1 a.aR "skip_sign" ["self"] (gz a)):aF P w K mg base (bu P w) 3 f fd ["reader"] (xx a):=by
 refine F.fU Gg (fun vs H Q E h=>by obtain⟨r,ta,d,T,p,n,rfl,_⟩:=h;rfl) (fun cdv A outer s H vs Q E hr h=>?_);obtain⟨r,ta,d,Tx,p,n,rfl,R,q⟩:=h;refine⟨_,(ai (aO (i:=1) Gg.nd rfl (Or.inl rfl) (bR (pv 0) T.bx m_Reader_sign_here (hr.mono (by decide)) az)) (ai (aU (PW.pt (j_ (aY f9 (pv 1) (aA T.jn) (aQ _)) (j9 (aY f9 (pv 1) (aA T.qi) (aQ _))))) (aq (cY T cE (hr.mono (by decide)) rfl rfl rfl bN (aa (aA T.fR) (aa (aD (pv 0) rfl) ah)))) aX) (ai (bS (bR (pv 0) T.bx m_Reader_skip_sign (hr.mono (by decide)) az)) (aq (aB (bU kj (pv 1) (aA T.jn))))))),?_⟩;refine⟨_,rfl,r,d,_,rfl,R.rd,cG (by decide+kernel),r,ta,d,Tx,p,n,rfl,R,?_⟩;unfold jQ at q;refine⟨_,rfl,rfl,_,rfl,?_⟩;rw[ia];rcases gB Tx p with⟨e1,e2⟩|⟨c,s1,e1,e2,e3,hp⟩
 ·rw[e1]at q
  rw[e2];exact⟨_,rfl,rfl,_,rfl,gP T rfl R.rd q⟩
 ·rw[e1]at q
  rw[e2];by_cases h0:c=48
  ·subst h0
   refine⟨_,rfl,r,d,_,rfl,R.rd,cG (by decide+kernel),r,ta,d,Tx,p,n,rfl,R,⟨_,rfl,_,_,rfl,rfl,?_⟩⟩;exact q _ (p+1) 0 (Keeps.bw H r ta d (p+1) n) aj (by omega) e3 trivial (fun _ z=>by cases z)
  ·by_cases h1:c=49
   ·subst h1
    refine⟨_,rfl,rfl,_,rfl,?_⟩;refine⟨_,rfl,r,d,_,rfl,R.rd,cG (by decide+kernel),r,ta,d,Tx,p,n,rfl,R,⟨_,rfl,_,_,rfl,rfl,?_⟩⟩;exact q _ (p+1) 0 (Keeps.bw H r ta d (p+1) n) aj (by omega) e3 trivial (fun _ z=>by cases z)
   ·have q':bA a E H r 1 p:=by
     have e:Vacola.readLit .bit (c::s1)=Option.none:=by
      simp[Vacola.readLit,h0,h1]
     rw[e]at q;exact q
    rw[decide_eq_true (show(c:Int)≠48 by omega)];refine⟨_,rfl,rfl,_,rfl,?_⟩;rw[ia,decide_eq_true (show(c:Int)≠49 by omega)];exact gP T rfl R.rd q'
inductive xy(vs:List V)(H:Hp)(Q:VK)(E:XK):Prop
 |mk:∀(i:Int)(b:Nat),vs=[.int i,.int (b:Int)]→1≤b→b≤64→Q (.bl (decide (-(2^(b-1):Int)≤i)&&decide (i<(2^(b-1):Int)))) H→xy vs H Q E
theorem ML{f:Addr}{fd:FuncData}(F:aK K "fits_bits" "fits_bits" uu f fd)(T:Txt K mg a):aF P w K mg base af 1 f fd ["number","bits"] xy:=by
 refine F.ok vA (fun vs H Q E h=>by obtain⟨i,b,rfl,_⟩:=h;rfl) (fun cdv A outer s H vs Q E hr h=>?_);obtain⟨i,b,rfl,h1,h2,q⟩:=h;refine⟨_,(ai (aO (i:=2) vA.nd rfl (Or.inl rfl) aN) (ai (gZ PassesOwn.never rfl (Bb rfl T.nE (aa (bU kj (pv 1) aN) ah)) (dR (i:=3) vA.nd rfl (Or.inl rfl)) (aq (aO (i:=2) vA.nd rfl (Or.inl rfl) (bU Bk (pv 2) aN)))) (aq (aB (sU gw jh (bU kj aN (pv 2)) (pv 0) (pv 2)))))),?_⟩;refine⟨_,rfl,_,_,rfl,rfl,(b:Int)-1,rfl,by omega,by omega,?_⟩;have hb:((b:Int)-1).toNat=b-1:=by omega
 rw[hb];refine Be (fun j σ H'=>H'=H∧∃v,σ=[some (.int i),some (.int (b:Int)),some (.int ((2^j:Nat):Int)),v]) ⟨rfl,Option.none,rfl⟩ ?_ ?_
 ·rintro j σ H' hj ⟨rfl,v,rfl⟩
  have hlt:(2:Nat)^j≤2^63:=Nat.pow_le_pow_right (by decide) (by omega);have e63:(2:Nat)^63=9223372036854775808:=by decide
  refine⟨_,rfl,_,_,rfl,rfl,.inl ⟨?_,?_⟩,rfl,some (V.int (0+(j:Int))),?_⟩
  ·generalize (2:Nat)^j=y at hlt⊢;omega
  ·generalize (2:Nat)^j=y at hlt⊢;omega
  have e:((2^j:Nat):Int)*2=((2^(j+1):Nat):Int):=by rw[Nat.pow_succ];omega
  exact congrArg (fun z:Int=>([some (V.int i),some (V.int (b:Int)),some (V.int z),some (V.int (0+(j:Int)))]:L2.St)) e
 ·rintro σ H' ⟨rfl,v,rfl⟩
  have e:((2:Int)^(b-1))=((2^(b-1):Nat):Int):=by simp
  rw[e]at q;refine⟨_,rfl,_,_,rfl,rfl,_,rfl,_,_,rfl,rfl,_,rfl,bB (fun c=>?_) (fun c=>?_)⟩
  ·rw[show(0:Int)-((2^(b-1):Nat):Int)=-((2^(b-1):Nat):Int) by omega]at c
   rw[c,Bool.true_and]at q;exact⟨_,rfl,_,_,rfl,rfl,q⟩
  ·rw[show(0:Int)-((2^(b-1):Nat):Int)=-((2^(b-1):Nat):Int) by omega]at c
   rw[Bool.eq_false_iff.mpr c,Bool.false_and]at q;exact q
theorem xA(g:Nat→Bool)(T:List Nat)(p:Nat):T.drop (p+(bV g T p).length)=(T.drop p).dropWhile g:=by
 have e3:T.drop p=bV g T p++(T.drop p).dropWhile g:=(List.takeWhile_append_dropWhile).symm;rw[←List.drop_drop]
 conv=>lhs;rw[e3]
 rw[List.drop_left]
theorem xB(g:Nat→Bool)(T:List Nat){p:Nat}(h:p≤T.length):p+(bV g T p).length≤T.length:=by
 have h1:=oF g (T.drop p);rw[List.length_drop]at h1;have:(bV g T p).length=((T.drop p).takeWhile g).length:=rfl;omega
theorem join{c:TT}{t u v:TS}{D:Ends}{σ:L2.St}{H:Hp}(M:L2.St→Hp→Prop)(hv:∀σ' H',M σ' H'→v D σ' H')(ht:∀N:L2.St→Hp→Prop,(∀σ' H',M σ' H'→N σ' H')→lg c t u {D with nx:=N} σ H):jG (lg c t u) v D σ H:=ht (v D) hv
theorem nX{D:Ends}{σ:L2.St}{H:Hp}(h:D.nx σ H):mS D σ H:=h
theorem gN{i:Nat}{v:V}{σ:L2.St}{H:Hp}{Q:L2.St→Hp→Prop}(h:Q (σ.set i (some v)) H):lu i v σ H Q:=h
inductive xC(a:aH)(vs:List V)(H:Hp)(Q:VK)(E:XK):Prop
 |mk:∀r ta d T p n b,vs=[.ref r,.int ((b:Nat):Int)]→bO a H r ta d T p n→p≤T.length→2≤b→b≤64→jQ a H r ta d T p n Q E (.int b)→xC a vs H Q E
theorem MM{f:Addr}{fd:FuncData}(F:aK K "read_whole" "read_whole" ur f fd)(T:Txt K mg a)(cE:fF P w K mg base a)(c_number_of:ao P w K mg base af 1 "number_of" ["digits"] (qv K))(c_fits_bits:ao P w K mg base af 1 "fits_bits" ["number","bits"] xy)
  (m_Reader_sign_here:bG P w K mg base af 1 a.aR "sign_here" ["self"] (fW a))(m_Reader_skip_sign:bG P w K mg base af 1 a.aR "skip_sign" ["self"] (gz a))(m_Reader_take_digits:bG P w K mg base af 2 a.aR "take_digits" ["self"] (jP a Vacola.isDigit)):
  aF P w K mg base (bu P w) 3 f fd ["reader","bits"] (xC a):=by
 refine F.fU nj (fun vs H Q E h=>by obtain⟨r,ta,d,T,p,n,b,rfl,_⟩:=h;rfl) (fun cdv A outer s H vs Q E hr h=>?_);obtain⟨r,ta,d,Tx,p,n,b,rfl,R,hp,hb1,hb2,q⟩:=h;refine⟨_,(ai (aO (i:=2) nj.nd rfl (Or.inl rfl) (aD (pv 0) rfl)) (ai (aO (i:=3) nj.nd rfl (Or.inl rfl) (jI bF (bR (pv 0) T.bx m_Reader_sign_here (hr.mono (by decide)) az) (aA T.vQ) (aQ _))) (ai (aU (c9 (pv 3)) (aq (bS (bR (pv 0) T.bx m_Reader_skip_sign (hr.mono (by decide)) az))) aX) (ai (aO (i:=4) nj.nd rfl (Or.inl rfl) (bR (pv 0) T.bx m_Reader_take_digits (hr.mono (by decide)) az)) (ai (aU (aY bF (bP cC rfl T.bY PySem.boot_len (aa (pv 4) ah)) aN (aQ _)) (aq (cY T cE (hr.mono (by decide)) rfl rfl rfl bN (aa (aA T.fR) (aa (pv 2) ah)))) aX) (ai (aU (PW.pt (j_ (aY bF (bQ cA (pv 4) aN (fun _ _=>rfl)) (aA T.jn) (aQ _)) (j9 (PW.pt (f7 (aY ji (bP cC rfl T.bY PySem.boot_len (aa (pv 4) ah)) aN (aQ _)) (iR (c9 (pv 3)))))))) (aq (cY T cE (hr.mono (by decide)) rfl rfl rfl bN (aa (aA T.fR) (aa (pv 2) ah)))) aX) (ai (aU (aY ji (bP cC rfl T.bY PySem.boot_len (aa (pv 4) ah)) (aA T.vZ) (aQ _)) (aq (cY T cE (hr.mono (by decide)) rfl rfl rfl bN (aa (aA T.lE) (aa (pv 2) ah)))) aX) (ai (aO (i:=5) nj.nd rfl (Or.inl rfl) (aG c_number_of (hr.mono (by decide)) rfl az (aa (pv 4) ah))) (ai (aU (c9 (pv 3)) (aq (aO (i:=5) nj.nd rfl (Or.inl rfl) (bU kj aN (pv 5)))) aX) (ai (aU (jf (c9 (aG c_fits_bits (hr.mono (by decide)) rfl az (aa (pv 5) (aa (pv 1) ah))))) (aq (cY T cE (hr.mono (by decide)) rfl rfl rfl bN (aa (aA T.lE) (aa (pv 2) ah)))) aX) (aq (aB (pv 5))))))))))))),?_⟩;refine⟨_,rfl,r,_,d,_,_,rfl,R.rd,T.bx,T.dX,fV,?_⟩;refine⟨_,rfl,r,d,_,rfl,R.rd,cG (by decide+kernel),r,ta,d,Tx,p,n,rfl,R,rfl,?_⟩;rw[bJ];generalize hneg:decide (dm Tx p=45)=neg;unfold jQ at q
 have key:∃p0,p0≤Tx.length∧(p0=if neg=true then p+1 else p)∧Vacola.readLit (.int b) (Tx.drop p)=iL neg (Tx.drop p0):=by
  rcases gB Tx p with⟨e1,e2⟩|⟨c,s1,e1,e2,e3,hp'⟩
  ·rw[e2]at hneg
   have hn:neg=false:=by rw[←hneg];rfl
   subst hn;refine⟨p,hp,rfl,?_⟩;rw[e1];exact Dz b (by simp)
  ·rw[e2]at hneg
   by_cases hc:c=45
   ·subst hc
    have hn:neg=true:=by rw[←hneg];rfl
    subst hn;refine⟨p+1,by omega,rfl,?_⟩;rw[e1,e3,IF]
   ·have hn:neg=false:=by rw[←hneg];exact decide_eq_false (by omega)
    subst hn;refine⟨p,hp,rfl,?_⟩;rw[e1];exact Dz b (by simpa using hc)
 obtain⟨p0,hp0,ep0,eL⟩:=key;rw[eL]at q;have R0:=R.mv p0 n;have KE:Keeps H (bw a H r ta d p0 n) r:=Keeps.bw H r ta d p0 n;have hs0:∃σ0:L2.St,σ0=[some (V.ref r),some (V.int (b:Int)),some (V.int (p:Int)),some (V.bl neg),Option.none,Option.none]:=⟨_,rfl⟩;obtain⟨σ0,hσ0⟩:=hs0;refine gN ?_;dsimp only;refine join (fun σ' H'=>σ'=σ0∧H'=bw a H r ta d p0 n) ?_ (fun N hN=>?_)
 case refine_2=>
  refine⟨_,rfl,_,rfl,bB (fun c=>?_) (fun c=>?_)⟩
  ·refine⟨_,rfl,r,d,_,rfl,R.rd,cG (by decide+kernel),r,ta,d,Tx,p,n,rfl,R,hN _ _ ⟨hσ0.symm,?_⟩⟩
   rw[if_pos c]at ep0;rw[ep0]
  ·refine hN _ _ ⟨hσ0.symm,?_⟩
   rw[if_neg c]at ep0;rw[ep0,Cg R]
 rintro σ' H' ⟨rfl,rfl⟩;subst hσ0;refine⟨_,rfl,r,d,_,rfl,R0.rd,cG (by decide+kernel),r,ta,d,Tx,p0,n,rfl,R0,fun l hl=>?_⟩;rw[nJ]at hl⊢;generalize hrun:bV Vacola.isDigit Tx p0=run at hl⊢;have hrun':(Tx.drop p0).takeWhile Vacola.isDigit=run:=hrun;have hd:∀c∈run,Vacola.isDigit c=true:=by rw[←hrun'];exact takeWhile_all _ _
 have hle:p0+run.length≤Tx.length:=by rw[←hrun];exact xB _ _ hp0
 have hdr:Tx.drop (p0+run.length)=(Tx.drop p0).dropWhile Vacola.isDigit:=by rw[←hrun];exact xA _ _ _
 have hlr:l≠r:=fun z=>by rw[z]at hl;unfold bw at hl;rw[aj]at hl;cases hl
 generalize hH2:upd (bw a H r ta d (p0+run.length) n) l (.lst (aC run))=H2;have hS:ay K H2 l (aC run):=ay.of (by rw[←hH2];exact aj);have hHl:H l=Option.none:=by unfold bw at hl;rw[au hlr]at hl;exact hl
 have K2:Keeps H H2 r:=by rw[←hH2];exact(Keeps.bw H r ta d (p0+run.length) n).i0 hHl
 have r2:H2 r=some (.ins a.aR d (cI ta (p0+run.length) n)):=by rw[←hH2,au (Ne.symm hlr)];exact aj
 have q1:bA a E H r 1 p→bA a E H2 r 1 p:=fun z=>z.of K2
 have q5:bA a E H r 5 p→bA a E H2 r 5 p:=fun z=>z.of K2
 refine⟨_,rfl,l,_,rfl,.inl hS,rfl,_,rfl,?_⟩;rw[bJ,bE];refine bB (fun c1=>?_) (fun c1=>?_)
 ·have c1':(run.length:Int)=0:=of_decide_eq_true c1
  have e0:run=[]:=List.length_eq_zero_iff.mp (by omega);rw[IG (by rw[hrun',e0])]at q;exact⟨_,rfl,dO (q1 q)⟩
 ·have c1':¬(run.length:Int)=0:=of_decide_eq_false (Bool.eq_false_iff.mpr c1)
  have ne:run≠[]:=fun z=>by rw[z]at c1';exact c1' rfl
  obtain⟨x,t,ex⟩:∃x t,run=x::t:=by
   cases run with
   |nil=>exact absurd rfl ne
   |cons x t=>exact⟨x,t,rfl⟩
  have hs1:∃σ1:L2.St,σ1=[some (V.ref r),some (V.int (b:Int)),some (V.int (p:Int)),some (V.bl neg),some (V.ref l),Option.none]:=⟨_,rfl⟩;obtain⟨σ1,hσ1⟩:=hs1;refine nX ?_;dsimp only;refine join (fun σ' H'=>σ'=σ1∧H2=H'∧(run.head?=some 48→¬(1<run.length)∧neg=false)) ?_ (fun N hN=>?_)
  case refine_2=>
   refine⟨_,rfl,l,_,_,(.int (x:Int)),rfl,rfl,hS,(by rw[ex];exact at_of (j:=0) rfl rfl),rfl,_,rfl,?_⟩;rw[bJ];by_cases hx:x=48
   ·subst hx
    have hh:run.head?=some 48:=by rw[ex];rfl
    have bad:(1<run.length∨neg=true)→bA a E H2 r 1 p:=fun z=>by
     rw[II (by rw[hrun'];exact hh) (by rw[hrun'];exact z)]at q;exact q1 q
    refine⟨_,rfl,l,_,rfl,.inl hS,_,_,rfl,rfl,_,rfl,?_⟩;rw[bE];refine bB (fun c2=>?_) (fun c2=>?_)
    ·have c2':(1:Int)<run.length:=of_decide_eq_true c2
     exact⟨_,rfl,dO (bad (.inl (by omega)))⟩
    ·have c2':¬(1:Int)<run.length:=of_decide_eq_false (Bool.eq_false_iff.mpr c2)
     refine⟨_,rfl,_,rfl,?_⟩;refine bB (fun c3=>?_) (fun c3=>?_)
     ·exact⟨_,rfl,dO (bad (.inr c3))⟩
     ·exact hN _ _ ⟨hσ1.symm,rfl,fun _=>⟨by omega,by simpa using c3⟩⟩
   ·rw[decide_eq_false (show¬(x:Int)=48 by omega)]
    exact hN _ _ ⟨hσ1.symm,rfl,fun z=>by rw[ex]at z;exact absurd (Option.some.inj z) hx⟩
  rintro σ' H' ⟨rfl,rfl,hz⟩;subst hσ1;rw[IJ (neg:=neg) (by rw[hrun'];exact ne) (by rw[hrun'];exact hz),hrun']at q;dsimp only at q;refine⟨_,rfl,l,_,rfl,.inl hS,_,_,rfl,rfl,_,rfl,?_⟩;rw[bE];refine bB (fun c2=>?_) (fun c2=>?_)
  ·have c2':(19:Int)<run.length:=of_decide_eq_true c2
   have hw:10^19≤Vacola.worth run:=by
    have h48:run.head?≠some 48:=fun z=>(hz z).1 (by omega)
    have:=IK (run.length-1) run (by omega) hd h48;exact Nat.le_trans (Nat.pow_le_pow_right (by decide) (by omega)) this
   rw[IL hb2 (by cases neg<;>simp<;>omega)]at q;exact⟨_,rfl,dO (q5 q)⟩
  ·have c2':¬(19:Int)<run.length:=of_decide_eq_false (Bool.eq_false_iff.mpr c2)
   refine⟨_,rfl,l,run,rfl,hS,by omega,hd,?_⟩;rw[GK _ run rfl hd];generalize hz0:(if neg=true then-(Vacola.worth run:Int)else(Vacola.worth run:Int))=z at q;have hs2:∃σ2:L2.St,σ2=[some (V.ref r),some (V.int (b:Int)),some (V.int (p:Int)),some (V.bl neg),some (V.ref l),some (V.int z)]:=⟨_,rfl⟩;obtain⟨σ2,hσ2⟩:=hs2;refine gN ?_;dsimp only;refine join (fun σ' H'=>σ'=σ2∧H2=H') ?_ (fun N hN=>?_)
   case refine_2=>
    refine⟨_,rfl,_,rfl,bB (fun c3=>?_) (fun c3=>?_)⟩
    ·refine⟨_,rfl,_,_,rfl,rfl,hN _ _ ⟨?_,rfl⟩⟩
     rw[hσ2,←hz0,if_pos c3];show([_,_,_,_,_,some (V.int (0-(Vacola.worth run:Int)))]:L2.St)=_;rw[Int.zero_sub]
    ·refine hN _ _ ⟨?_,rfl⟩
     rw[hσ2,←hz0,if_neg c3];rfl
   rintro σ' H' ⟨rfl,rfl⟩;subst hσ2;refine⟨_,rfl,_,rfl,z,b,rfl,by omega,hb2,_,rfl,?_⟩;have ef:Vacola.fits (.int b) (.num z)=(decide (-(2^(b-1):Int)≤z)&&decide (z<(2^(b-1):Int))):=rfl;rw[←ef];cases hf:Vacola.fits (.int b) (.num z)with
   |false=>
    rw[hf]at q;exact⟨_,rfl,dO (q5 q)⟩
   |true=>
    rw[hf]at q;exact⟨_,rfl,q H2 (p0+run.length) 0 K2 r2 hle hdr trivial (fun _ z=>by cases z)⟩
theorem i6(l:List Nat)(c:Nat):aC (l++[c])=aC l++[V.int (c:Int)]:=by unfold aC;rw[List.map_append];rfl
theorem MN(s:List Nat):Vacola.readQuoted (34::s)=some ([],s):=by rw[Vacola.readQuoted]
inductive xD(a:aH)(vs:List V)(H:Hp)(Q:VK)(E:XK):Prop
 |mk:∀r ta d T p n b,vs=[.ref r,.int ((b:Nat):Int)]→bO a H r ta d T p n→p≤T.length→T.length≤5000→jQ a H r ta d T p n Q E (.text b)→xD a vs H Q E
theorem MO{f:Addr}{fd:FuncData}(F:aK K "read_text" "read_text" uv f fd)(T:Txt K mg a)(cE:fF P w K mg base a)(c_read_byte:ao P w K mg base (bu P w) 5 "read_byte" ["reader","start"] (xw a))
  (m_Reader_sign_here:bG P w K mg base af 1 a.aR "sign_here" ["self"] (fW a))(m_Reader_skip_sign:bG P w K mg base af 1 a.aR "skip_sign" ["self"] (gz a)):
  aF P w K mg base (bu P w) 6 f fd ["reader","most"] (xD a):=by
 refine F.fU B7 (fun vs H Q E h=>by obtain⟨r,ta,d,T,p,n,b,rfl,_⟩:=h;rfl) (fun cdv A outer s H vs Q E hr h=>?_);obtain⟨r,ta,d,Tx,p,n,b,rfl,R,hp,hT,q⟩:=h;refine⟨_,(ai (aO (i:=2) B7.nd rfl (Or.inl rfl) (aD (pv 0) rfl)) (ai (aU (aY f9 (bR (pv 0) T.bx m_Reader_sign_here (hr.mono (by decide)) az) (aA T.kF) (aQ _)) (aq (cY T cE (hr.mono (by decide)) rfl rfl rfl bN (aa (aA T.fR) (aa (pv 2) ah)))) aX) (ai (bS (bR (pv 0) T.bx m_Reader_skip_sign (hr.mono (by decide)) az)) (ai (aO (i:=3) B7.nd rfl (Or.inl rfl) (bM ah)) (ai (mT BV (aY f9 (bR (pv 0) T.bx m_Reader_sign_here (hr.mono (by decide)) az) (aA T.kF) (aQ _)) (aq (bS (eB PySem.F.plainAttrs_list PySem.F.slot_list_append PySem.F.type_list_append gb (pv 3) (aa (aG c_read_byte (hr.mono (by decide)) rfl (dj rfl bN) (aa (pv 0) (aa (pv 2) ah))) ah))))) (ai (bS (bR (pv 0) T.bx m_Reader_skip_sign (hr.mono (by decide)) az)) (ai (aU (aY ji (bP cC rfl T.bY PySem.boot_len (aa (pv 3) ah)) (pv 1) (aQ _)) (aq (cY T cE (hr.mono (by decide)) rfl rfl rfl bN (aa (aA T.lE) (aa (pv 2) ah)))) aX) (aq (aB (pv 3)))))))))),?_⟩;refine⟨_,rfl,r,_,d,_,_,rfl,R.rd,T.bx,T.dX,fV,?_⟩;refine⟨_,rfl,r,d,_,rfl,R.rd,cG (by decide+kernel),r,ta,d,Tx,p,n,rfl,R,rfl,_,rfl,?_⟩;rw[ia];unfold jQ at q;rcases gB Tx p with⟨e1,e2⟩|⟨c,s1,e1,e2,e3,hp'⟩
 ·rw[e1]at q
  rw[e2];exact⟨_,rfl,dO q⟩
 rw[e1]at q;rw[e2];by_cases hc:c=34
 case neg=>
  rw[decide_eq_true (show(c:Int)≠34 by omega)]
  have e:Vacola.readLit (.text b) (c::s1)=Option.none:=by
   simp[Vacola.readLit,hc]
  rw[e]at q;exact⟨_,rfl,dO q⟩
 subst hc;refine⟨_,rfl,r,d,_,rfl,R.rd,cG (by decide+kernel),r,ta,d,Tx,p,n,rfl,R,?_⟩;refine⟨Nat.zero_le _,fun cl hcl=>?_⟩;have hclr:cl≠r:=fun z=>by rw[z]at hcl;unfold bw at hcl;rw[aj]at hcl;cases hcl
 have hHc:H cl=Option.none:=by unfold bw at hcl;rw[au hclr]at hcl;exact hcl
 have eL:Vacola.readLit (.text b) (34::s1)=(Vacola.readQuoted s1).map fun x=>(.str x.1,x.2):=rfl
 rw[eL,←e3]at q
 refine⟨fun m σ H'=>∃p1 acc,m=Tx.length-p1∧p1≤Tx.length∧acc.length≤p1∧σ=[some (.ref r),some (.int (b:Int)),some (.int (p:Int)),some (.ref cl)]∧Keeps H H' r∧H' r=some (.ins a.aR d (cI ta p1 n))∧
  H' cl=some (.lst (aC acc))∧Vacola.readQuoted (Tx.drop (p+1))=(Vacola.readQuoted (Tx.drop p1)).map fun z=>(acc++z.1,z.2),⟨_,p+1,[],rfl,by omega,by simp,rfl,(Keeps.bw H r ta d (p+1) n).i0 hHc,?_,aj,?_⟩,?_⟩
 ·rw[au (Ne.symm hclr)];exact aj
 ·cases Vacola.readQuoted (Tx.drop (p+1))<;>rfl
 rintro m σ H' ⟨p1,acc,rfl,hp1,hacc,rfl,KE,hr1,hc1,eq1⟩;have R1:bO a H' r ta d Tx p1 n:=KE.rd R hr1;refine⟨_,rfl,r,d,_,rfl,R1.rd,cG (by decide+kernel),r,ta,d,Tx,p1,n,rfl,R1,rfl,_,rfl,?_⟩;rw[ia];rcases gB Tx p1 with⟨f1,f2⟩|⟨c,s2,f1,f2,f3,hp1'⟩
 ·rw[f2]
  refine⟨fun _ _=>False,fun _ _ z=>z.elim,?_⟩;refine⟨_,rfl,.inl ⟨rfl,_,ay.of hc1⟩,_,rfl,_,rfl,r,ta,d,Tx,p1,n,(p:Int),rfl,R1,?_⟩;rw[f1];rw[f1]at eq1;rw[eq1]at q;exact bA.of q KE
 ·rw[f2]
  by_cases hq:c=34
  ·subst hq
   rw[f1,MN]at eq1;rw[eq1]at q;refine⟨_,rfl,r,d,_,rfl,R1.rd,cG (by decide+kernel),r,ta,d,Tx,p1,n,rfl,R1,?_⟩;have hc2:(bw a H' r ta d (p1+1) n) cl=some (.lst (aC acc)):=by unfold bw;rw[au hclr];exact hc1
   refine⟨_,rfl,cl,_,rfl,.inl (ay.of hc2),_,rfl,_,_,rfl,rfl,_,rfl,?_⟩;rw[bE];dsimp only[Option.map_some]at q;rw[List.append_nil]at q;have K3:Keeps H (bw a H' r ta d (p1+1) n) r:=KE.trans (Keeps.bw H' r ta d (p1+1) n);refine bB (fun c2=>?_) (fun c2=>?_)
   ·have c2':(b:Int)<acc.length:=of_decide_eq_true c2
    rw[if_neg (by show¬decide (acc.length≤b)=true;simp;omega)]at q;exact⟨_,rfl,dO (bA.of q K3)⟩
   ·have c2':¬(b:Int)<acc.length:=of_decide_eq_false (Bool.eq_false_iff.mpr c2)
    rw[if_pos (by show decide (acc.length≤b)=true;simp;omega)]at q;exact⟨_,rfl,q _ (p1+1) cl K3 aj (by omega) f3 hc2 (fun b hb=>by rw[List.mem_singleton.mp hb];exact hHc)⟩
  ·rw[decide_eq_true (show(c:Int)≠34 by omega)]
   have st:=MF (t:=Tx.drop p1) (by rw[f1];simpa using hq);refine⟨fun σ' H2=>∃p2 x,p1<p2∧p2≤Tx.length∧lQ (Tx.drop p1)=some (x,Tx.drop p2)∧σ'=[some (.ref r),some (.int (b:Int)),some (.int (p:Int)),some (.ref cl)]∧Keeps H H2 r∧H2 r=some (.ins a.aR d (cI ta p2 n))∧H2 cl=some (.lst (aC (acc++[x]))),?_,?_⟩
   ·rintro σ' H2 ⟨p2,x,l1,l2,ob,rfl,k2,r2,c2⟩
    refine⟨_,by omega,p2,acc++[x],rfl,l2,(by rw[List.length_append];show acc.length+1≤p2;omega),rfl,k2,r2,c2,?_⟩;rw[ob]at st;rw[eq1,st];dsimp only;cases Vacola.readQuoted (Tx.drop p2)with
    |none=>rfl
    |some z=>show some _=some _;simp
   ·refine⟨_,rfl,.inl ⟨rfl,_,ay.of hc1⟩,_,rfl,_,rfl,r,ta,d,Tx,p1,n,(p:Int),rfl,R1,?_⟩
    cases ho:lQ (Tx.drop p1)with
    |none=>
     rw[ho]at st;rw[eq1,st]at q;exact bA.of q KE
    |some y=>
     obtain⟨x,s'⟩:=y;dsimp only;intro p2 h2 l1 l2;have hc2:(bw a H' r ta d p2 n) cl=some (.lst (aC acc)):=by unfold bw;rw[au hclr];exact hc1
     refine⟨cl,_,_,rfl,rfl,hc2,?_,p2,x,l1,l2,by rw[h2],rfl,?_,?_,?_⟩
     ·rw[bE,sizeLine_eq];omega
     ·exact(KE.trans (Keeps.bw H' r ta d p2 n)).i0 hHc
     ·rw[au (Ne.symm hclr)];exact aj
     ·rw[i6];exact aj
def Cm(a:aH)(H:Hp)(k:Addr)(l:Vacola.Leaf):Prop:=∃d fl,H k=some (.ins a.b7 d (gA (nL l:Nat) (leafSize l:Nat) fl))
theorem gi{sg sz:Int}{fl:Addr}:(gA sg sz fl).lookup ("sign":Str)=some (.int sg):=rfl
theorem nM{sg sz:Int}{fl:Addr}:(gA sg sz fl).lookup ("size":Str)=some (.int sz):=rfl
theorem eU{sg sz:Int}{fl:Addr}:(gA sg sz fl).lookup ("fields":Str)=some (.ref fl):=rfl
inductive qy(a:aH)(vs:List V)(H:Hp)(Q:VK)(E:XK):Prop
 |mk:∀r ta d T p n k l,vs=[.ref r,.ref k]→bO a H r ta d T p n→p≤T.length→T.length≤5000→Cm a H k l→iu l→jQ a H r ta d T p n Q E l→qy a vs H Q E
theorem MP{f:Addr}{fd:FuncData}(F:aK K "read_literal" "read_literal" uo f fd)(T:Txt K mg a)(c_read_bit:ao P w K mg base (bu P w) 3 "read_bit" ["reader"] (xx a))(c_read_whole:ao P w K mg base (bu P w) 3 "read_whole" ["reader","bits"] (xC a))
  (c_read_text:ao P w K mg base (bu P w) 6 "read_text" ["reader","most"] (xD a)):aF P w K mg base (bu P w) 7 f fd ["reader","kind"] (qy a):=by
 refine F.fU LU (fun vs H Q E h=>by obtain⟨r,ta,d,T,p,n,k,l,rfl,_⟩:=h;rfl) (fun cdv A outer s H vs Q E hr h=>?_);obtain⟨r,ta,d,Tx,p,n,k,l,rfl,R,hp,hT,⟨dk,fl,hk⟩,wl,q⟩:=h;refine⟨_,(ai (aU (aY bF (aD (pv 1) rfl) (aA T.lH) (aQ _)) (aq (aB (aG c_read_bit (hr.mono (by decide)) rfl (dj rfl bN) (aa (pv 0) ah)))) aX) (ai (aU (aY bF (aD (pv 1) rfl) (aA T.lI) (aQ _)) (aq (aB (aG c_read_whole (hr.mono (by decide)) rfl (dj rfl bN) (aa (pv 0) (aa (aD (pv 1) rfl) ah))))) aX) (aq (aB (aG c_read_text (hr.mono (by decide)) rfl (dj rfl bN) (aa (pv 0) (aa (aD (pv 1) rfl) ah))))))),?_⟩;refine⟨_,rfl,k,_,dk,_,_,rfl,hk,T.bI,T.e9,gi,rfl,_,rfl,?_⟩;rw[bJ];cases l with
 |bit=>exact⟨_,rfl,r,ta,d,Tx,p,n,rfl,R,q⟩
 |int b=>
  refine⟨_,rfl,k,_,dk,_,_,rfl,hk,T.bI,T.e9,gi,rfl,_,rfl,?_⟩;rw[bJ];exact⟨_,rfl,_,rfl,k,_,dk,_,_,rfl,hk,T.bI,T.jo,nM,r,ta,d,Tx,p,n,b,rfl,R,hp,wl.1,wl.2,q⟩
 |text b=>
  refine⟨_,rfl,k,_,dk,_,_,rfl,hk,T.bI,T.e9,gi,rfl,_,rfl,?_⟩;rw[bJ];exact⟨_,rfl,_,rfl,k,_,dk,_,_,rfl,hk,T.bI,T.jo,nM,r,ta,d,Tx,p,n,b,rfl,R,hp,hT,q⟩
def eV:TK→Bool
 |.leaf _ _ _=>true
 |.group _ _ _ _=>false
theorem bK.hd{H:Hp}:∀{t:TK},bK a H t→∃d sg sz,H t.at=some (.ins a.b7 d (gA sg sz t.fl))∧jr sg=eV t∧(sg=123↔∃k fl fs,t=.group false k fl fs)
 |.leaf l k fl,⟨⟨d,h⟩,_⟩=>⟨d,_,_,h,by cases l<;>rfl,by
   constructor
   ·intro z;cases l<;>cases z
   ·rintro⟨_,_,_,z⟩;cases z⟩
 |.group c k fl fs,⟨⟨d,h⟩,_⟩=>⟨d,_,_,h,by cases c<;>rfl,by
   constructor
   ·intro z
    cases c
    ·exact⟨_,_,_,rfl⟩
    ·cases z
   ·rintro⟨_,_,_,z⟩;cases z;rfl⟩
inductive ic(a:aH)(g:TK→Bool)(vs:List V)(H:Hp)(Q:VK)(E:XK):Prop
 |mk:∀t,vs=[.ref t.at]→bK a H t→(∀H',aI H H'→Q (.bl (g t)) H')→ic a g vs H Q E
theorem aM{H:Hp}{p:Addr}{o:HO}(h:H p=Option.none):aI H (upd H p o):=fun b u q=>by rw[au (aV q h)];exact q
theorem aI.refl(H:Hp):aI H H:=fun _ _ h=>h
theorem MQ{f:Addr}{fd:FuncData}(F:aK K "is_leaf" "is_leaf" m9 f fd)(T:Txt K mg a)(c_is_leaf_sign:ao P w K mg base af 1 "is_leaf_sign" ["sign"] (jt jr)):aF P w K mg base af 2 f fd ["kind"] (ic a eV):=by
 refine F.ok LN (fun vs H Q E h=>by obtain⟨t,rfl,_⟩:=h;rfl) (fun cdv A outer s H vs Q E hr h=>?_);obtain⟨t,rfl,hk,q⟩:=h;obtain⟨d,sg,sz,h1,h2,_⟩:=hk.hd;refine⟨_,(aq (aB (aG c_is_leaf_sign (hr.mono (by decide)) rfl az (aa (aD (pv 0) rfl) ah)))),?_⟩;refine⟨_,rfl,t.at,_,d,_,_,rfl,h1,T.bI,T.e9,gi,sg,rfl,fun p o hp=>?_⟩;rw[h2];exact q _ (aM hp)
def nN:TK→Bool
 |.group false _ _ (.cons h _ _ _ k _)=>decide (h.mode=.one)&&eV k
 |_=>false
theorem MR(t:TK)(hn:∀c k fl,t≠.group c k fl .nil):nN t=(Vacola.keyOf t.kd).isSome:=by
 match t,hn with
 |.leaf _ _ _,_=>rfl
 |.group true _ _ _,_=>rfl
 |.group false k fl .nil,hn=>exact absurd rfl (hn _ _ _)
 |.group false _ _ (.cons h _ _ _ (.leaf l _ _) _),_=>
  show(decide (h.mode=.one)&&true)=(Vacola.keyOf (.group false (.cons h (.leaf l) _))).isSome;rw[Vacola.keyOf,Bool.and_true];by_cases z:h.mode=.one
  ·rw[if_pos z,decide_eq_true z];rfl
  ·rw[if_neg z,decide_eq_false z];rfl
 |.group false _ _ (.cons h _ _ _ (.group c _ _ gs) _),_=>
  show(decide (h.mode=.one)&&false)=(Vacola.keyOf (.group false (.cons h (.group c gs.fs) _))).isSome;rw[Bool.and_false];rfl
inductive qz(a:aH)(vs:List V)(H:Hp)(Q:VK)(E:XK):Prop
 |mk:∀t,vs=[.ref t.at]→bK a H t→((∀c k fl,t≠.group c k fl .nil))→(∀H',aI H H'→Q (.bl (nN t)) H')→qz a vs H Q E
theorem iF{n:Int}{nm:Addr}{m:Int}{k:Addr}{v:V}:(iC n nm m k v).lookup ("number":Str)=some (.int n):=rfl
theorem nO{n:Int}{nm:Addr}{m:Int}{k:Addr}{v:V}:(iC n nm m k v).lookup ("name":Str)=some (.ref nm):=rfl
theorem jR{n:Int}{nm:Addr}{m:Int}{k:Addr}{v:V}:(iC n nm m k v).lookup ("mode":Str)=some (.int m):=rfl
theorem gC{n:Int}{nm:Addr}{m:Int}{k:Addr}{v:V}:(iC n nm m k v).lookup ("kind":Str)=some (.ref k):=rfl
theorem xE{n:Int}{nm:Addr}{m:Int}{k:Addr}{v:V}:(iC n nm m k v).lookup ("default":Str)=some v:=rfl
theorem MS{m:Vacola.Mode}:decide ((Vacola.showMode m:Int)=33)=decide (m=.one):=by cases m<;>rfl
theorem GO{m:Vacola.Mode}:decide ((Vacola.showMode m:Int)=37)=decide (m=.keyed):=by cases m<;>rfl
theorem MT{f:Addr}{fd:FuncData}(F:aK K "has_key" "has_key" t9 f fd)(T:Txt K mg a)(c_is_leaf:ao P w K mg base af 2 "is_leaf" ["kind"] (ic a eV)):aF P w K mg base af 3 f fd ["kind"] (qz a):=by
 refine F.ok Gd (fun vs H Q E h=>by obtain⟨t,rfl,_⟩:=h;rfl) (fun cdv A outer s H vs Q E hr h=>?_);obtain⟨t,rfl,hk,hn,q⟩:=h;obtain⟨d,sg,sz,h1,h2,h3⟩:=hk.hd;refine⟨_,(ai (aU (aY f9 (aD (pv 0) rfl) (aA T.iW) (aQ _)) (aq (aB EA)) aX) (ai (aO (i:=1) Gd.nd rfl (Or.inl rfl) (bQ cA (aD (pv 0) rfl) aN (fun _ _=>rfl))) (aq (aB (A8 (jI bF (aD (pv 1) rfl) (aA T.jm) (aQ _)) (A7 (aG c_is_leaf (hr.mono (by decide)) rfl az (aa (aD (pv 1) rfl) ah)))))))),?_⟩;refine⟨_,rfl,t.at,_,d,_,_,rfl,h1,T.bI,T.e9,gi,rfl,_,rfl,?_⟩;rw[ia];refine bB (fun c=>?_) (fun c=>?_)
 ·have c':sg≠123:=of_decide_eq_true c
  have e:nN t=false:=by
   unfold nN;split
   ·exact absurd (h3.mpr ⟨_,_,_,rfl⟩) c'
   ·rfl
  have z:=q H (aI.refl H);rw[e]at z;exact z
 ·have c':sg=123:=by
   have:=of_decide_eq_false (Bool.eq_false_iff.mpr c);exact Classical.not_not.mp this
  obtain⟨k,fl,fs,rfl⟩:=h3.mp c'
  match fs,hk,hn,q with
  |.nil,_,hn,_=>exact absurd rfl (hn _ _ _)
  |.cons h f nm da kk r,hk,hn,q=>
   obtain⟨_,hl,⟨⟨df,hf⟩,hnm,hda,hkk⟩,_⟩:=hk;refine⟨_,rfl,_,_,d,_,_,rfl,h1,T.bI,T.c8,eU,fl,_,_,(.ref f),rfl,rfl,ay.of hl,at_of (j:=0) rfl rfl,?_⟩;refine⟨_,rfl,f,_,df,_,_,rfl,hf,T.bC,T.gK,jR,rfl,_,rfl,?_⟩;rw[bJ,MS];refine bB (fun c2=>?_) (fun c2=>?_)
   ·refine⟨_,rfl,f,_,df,_,_,rfl,hf,T.bC,T.e_,gC,kk,rfl,hkk,fun H' hs=>?_⟩
    have z:=q H' hs
    have e:nN (.group false k fl (.cons h f nm da kk r))=eV kk:=by
     show(decide (h.mode=.one)&&eV kk)=_;rw[c2,Bool.true_and]
    rw[e]at z;exact z
   ·have z:=q H (aI.refl H)
    have e:nN (.group false k fl (.cons h f nm da kk r))=false:=by
     show(decide (h.mode=.one)&&eV kk)=_;rw[Bool.eq_false_iff.mpr c2,Bool.false_and]
    rw[e]at z;exact z
structure jS(a:aH)(H:Hp)(g dg fl:Addr)(c:Bool)(t:TF):Prop where
 gr:H g=some (.ins a.b7 dg (gA (Vacola.openSign c:Nat) 0 fl))
 ls:H fl=some (.lst (t.as.map V.ref))
 fs:fh a H t
theorem GP{C d ta:Addr}{p n:Nat}{sg sz:Int}{C' d' fl:Addr}:HO.ins C d (cI ta p n)≠HO.ins C' d' (gA sg sz fl):=fun z=>xo (by rw[z];exact .inl ⟨_,_,_,rfl⟩)
theorem jS.keeps{H H':Hp}{g dg fl:Addr}{c:Bool}{t:TF}{r ta d:Addr}{T:List Nat}{p n:Nat}(h:jS a H g dg fl c t)(R:bO a H r ta d T p n)(k:Keeps H H' r):jS a H' g dg fl c t:=
 ⟨k _ _ h.gr (Ne.symm (iO R.rd h.gr GP)),k _ _ h.ls (iO h.ls R.rd (by intro z;cases z)),h.fs.keeps R k⟩
def heads(t:TF):List Vacola.Head:=(t.items.map (·.h)).reverse
theorem MU(t:TF)(x:Fi):heads (t.snoc x)=x.h::heads t:=by unfold heads;rw[TF.mK,List.map_append,List.reverse_append];rfl
theorem MV(t:TF):t.items=[]∨∃l x,t.items=l++[x]:=by
 generalize t.items=l
 induction l with
 |nil=>exact .inl rfl
 |cons y l ih=>
  rcases ih with e|⟨m,x,e⟩
  ·exact .inr ⟨[],y,by rw[e];rfl⟩
  ·exact .inr ⟨y::m,x,by rw[e];rfl⟩
def fX(a:aH)(H:Hp)(r ta d:Addr)(T:List Nat)(p n:Nat)(E:XK){A:Type}(x:Except Vacola.Fault (A×List Nat))(ok:A→List Nat→Prop):Prop:=match x with
 |.error e=>bA a E H r (e.kind:Nat) ((T.length-e.left:Nat):Int)
 |.ok (v,s)=>ok v s
inductive qA(a:aH)(vs:List V)(H:Hp)(Q:VK)(E:XK):Prop
 |mk:∀r ta d T p n g dg fl c t,vs=[.ref r,.ref g]→bO a H r ta d T p n→p≤T.length→jS a H g dg fl c t→(fX a H r ta d T p n E (Vacola.readNumber (heads t) (T.drop p)) fun v s=>∀H' p',Keeps H H' r→H' r=some (.ins a.aR d (cI ta p' n))→p'≤T.length→T.drop p'=s→Q (.int ((v:Nat):Int)) H')→qA a vs H Q E
theorem GQ{t:List Nat}:qw (t.takeWhile Vacola.isDigit)=match Vacola.numberRun t with
  |Option.none=>0
  |some (n,_)=>(n:Int):=by
 unfold Vacola.numberRun qw;dsimp only;by_cases h:(t.takeWhile Vacola.isDigit=[]∨(t.takeWhile Vacola.isDigit).head?=some 48∨3<(t.takeWhile Vacola.isDigit).length)
 ·rw[if_pos h,if_pos (by rcases h with h|h|h;exact .inl h;exact .inr (.inr h);exact .inr (.inl h))]
 ·rw[if_neg h,if_neg (fun z=>h (by rcases z with z|z|z;exact .inl z;exact .inr (.inr z);exact .inr (.inl z)))]
  exact GK _ _ rfl (takeWhile_all _ _)
theorem iG{T:List Nat}{p:Nat}(h:p≤T.length):T.length-(T.drop p).length=p:=by rw[List.length_drop];omega
theorem MW{f:Addr}{fd:FuncData}(F:aK K "read_number" "read_number" uB f fd)(T:Txt K mg a)(cE:fF P w K mg base a)(c_short_number:ao P w K mg base af 2 "short_number" ["digits"] (qx K))
  (m_Reader_take_digits:bG P w K mg base af 2 a.aR "take_digits" ["self"] (jP a Vacola.isDigit)):aF P w K mg base (bu P w) 3 f fd ["reader","group"] (qA a):=by
 refine F.fU B_ (fun vs H Q E h=>by obtain⟨r,ta,d,T,p,n,g,dg,fl,c,t,rfl,_⟩:=h;rfl) (fun cdv A outer s H vs Q E hr h=>?_);obtain⟨r,ta,d,Tx,p,n,g,dg,fl,c,t,rfl,R,hp,G,q⟩:=h;refine⟨_,(ai (aO (i:=2) B_.nd rfl (Or.inl rfl) (aD (pv 0) rfl)) (ai (aO (i:=3) B_.nd rfl (Or.inl rfl) (aG c_short_number (hr.mono (by decide)) rfl az (aa (bR (pv 0) T.bx m_Reader_take_digits (hr.mono (by decide)) az) ah))) (ai (aU (aY bF (pv 3) aN (aQ _)) (aq (cY T cE (hr.mono (by decide)) rfl rfl rfl bN (aa (aA T.fR) (aa (pv 2) ah)))) aX) (ai (aU (PW.pt (j_ (aY ji (bP cC rfl T.bY PySem.boot_len (aa (aD (pv 1) rfl) ah)) aN (aQ _)) (j9 (aY gw (pv 3) (aD (bQ cA (aD (pv 1) rfl) (sP sR aN) (fun _ _=>rfl)) rfl) (aQ _))))) (aq (cY T cE (hr.mono (by decide)) rfl rfl rfl bN (aa (aA T.vI) (aa (pv 2) ah)))) aX) (aq (aB (pv 3))))))),?_⟩;refine⟨_,rfl,r,_,d,_,_,rfl,R.rd,T.bx,T.dX,fV,?_⟩;refine⟨_,rfl,r,d,_,rfl,R.rd,cG (by decide+kernel),r,ta,d,Tx,p,n,rfl,R,fun l hl=>?_⟩;have hle:=xB Vacola.isDigit Tx hp;have hdr:=xA Vacola.isDigit Tx p;generalize hrun:bV Vacola.isDigit Tx p=run at hl hle hdr⊢;have hrun':(Tx.drop p).takeWhile Vacola.isDigit=run:=hrun;have hd:∀c∈run,Vacola.isDigit c=true:=by rw[←hrun'];exact takeWhile_all _ _
 have hlr:l≠r:=fun z=>by rw[z]at hl;unfold bw at hl;rw[aj]at hl;cases hl
 have hHl:H l=Option.none:=by unfold bw at hl;rw[au hlr]at hl;exact hl
 generalize hH2:upd (bw a H r ta d (p+run.length) n) l (.lst (aC run))=H2;have hS:ay K H2 l (aC run):=ay.of (by rw[←hH2];exact aj);have K2:Keeps H H2 r:=by rw[←hH2];exact(Keeps.bw H r ta d (p+run.length) n).i0 hHl
 have r2:H2 r=some (.ins a.aR d (cI ta (p+run.length) n)):=by rw[←hH2,au (Ne.symm hlr)];exact aj
 have G2:=G.keeps R K2;refine⟨l,run,rfl,hS,hd,?_⟩;have eZ:=GQ (t:=Tx.drop p);rw[hrun']at eZ;refine⟨_,rfl,rfl,_,rfl,?_⟩;rw[bJ];unfold Vacola.readNumber at q;cases hN:Vacola.numberRun (Tx.drop p)with
 |none=>
  rw[hN]at q eZ;rw[eZ];have q':bA a E H r 1 ((Tx.length-(Tx.drop p).length:Nat):Int):=q;rw[iG hp]at q';exact⟨_,rfl,dO (q'.of K2)⟩
 |some x=>
  obtain⟨v,s1⟩:=x;rw[hN]at q eZ;dsimp only at q eZ;rw[eZ];have hv:=mL hN;have hs1:=(oG hN).2.2.2.2;rw[decide_eq_false (show¬(v:Int)=0 by omega)];have good:(∀H' p',Keeps H H' r→H' r=some (.ins a.aR d (cI ta p' n))→p'≤Tx.length→Tx.drop p'=s1→Q (.int ((v:Nat):Int)) H')→Q (.int (v:Int)) H2:=fun z=>z H2 _ K2 r2 hle (hdr.trans hs1.symm)
  refine⟨_,rfl,g,_,dg,_,_,rfl,G2.gr,T.bI,T.c8,eU,fl,_,rfl,.inl (ay.of G2.ls),_,_,rfl,rfl,_,rfl,?_⟩;rw[List.length_map,TF.i_];rcases MV t with e|⟨li,x,e⟩
  ·have e2:heads t=[]:=by unfold heads;rw[e];rfl
   rw[e2]at q;rw[e];exact⟨_,rfl,good q⟩
  ·have e2:heads t=x.h::(li.map (·.h)).reverse:=by unfold heads;rw[e,List.map_append,List.reverse_append];rfl
   rw[e2]at q;dsimp only at q;have hx:bW a H2 x:=dY.mp G2.fs x (by rw[e];simp);obtain⟨⟨dx,hx1⟩,_⟩:=hx;have hz:((0:Int)<((li++[x]).length:Nat)):=by rw[List.length_append];show(0:Int)<((li.length+1:Nat):Int);omega
   rw[e,decide_eq_true hz];refine⟨_,rfl,_,rfl,g,_,dg,_,_,rfl,G2.gr,T.bI,T.c8,eU,_,rfl,fl,_,_,(.ref x.f),rfl,rfl,ay.of G2.ls,?_,x.f,_,dx,_,_,rfl,hx1,T.bC,T.gh,iF,_,_,rfl,rfl,_,rfl,?_⟩
   ·unfold TF.as
    rw[e,List.map_append,List.map_append];exact Kg _ _
   ·refine bB (fun c2=>?_) (fun c2=>?_)
    ·have c2':(v:Int)≤x.h.number:=of_decide_eq_true c2
     rw[if_neg (by omega)]at q;have q':bA a E H r 2 ((Tx.length-(Tx.drop p).length:Nat):Int):=q;rw[iG hp]at q';exact⟨_,rfl,dO (q'.of K2)⟩
    ·have c2':¬(v:Int)≤x.h.number:=of_decide_eq_false (Bool.eq_false_iff.mpr c2)
     rw[if_pos (by omega)]at q;exact⟨_,rfl,good q⟩
end Vp
end
section
namespace Vp
open PySem
theorem GR:∀(l m:List Int),PyData.eqvAll (l.map PyData.int) (m.map PyData.int)=decide (l=m)
 |[],[]=>by simp[PyData.eqvAll]
 |[],_::_=>by simp[PyData.eqvAll]
 |_::_,[]=>by simp[PyData.eqvAll]
 |x::l,y::m=>by
  rw[List.map_cons,List.map_cons,PyData.eqvAll,GR l m,PyData.eqv,Bool.eq_iff_iff];simp
theorem MX(l m:List Int):PyData.eqv (.list (l.map PyData.int)) (.list (m.map PyData.int))=decide (l=m):=by
 rw[PyData.eqv];exact GR l m
theorem GU:∀l:List Int,PyData.canLayAll0 (l.map PyData.int)=true
 |[]=>by simp[PyData.canLayAll0]
 |x::l=>by rw[List.map_cons,PyData.canLayAll0,GU l,PyData.canLay0];rfl
theorem GV:∀l:List Int,PyData.depthAll (l.map PyData.int)=0
 |[]=>by simp[PyData.depthAll]
 |x::l=>by rw[List.map_cons,PyData.depthAll,GV l,PyData.depth];rfl
theorem shaped_ints(l:List Int):SeqAt.shaped (.list (l.map PyData.int))=true:=by
 unfold SeqAt.shaped;rw[PyData.canLay0,GU,PyData.depth,GV];rfl
theorem MY(i j:Int):PyData.eqv (.int i) (.int j)=decide (i=j):=by
 rw[PyData.eqv,Bool.eq_iff_iff];simp
theorem GW(i:Int):SeqAt.shaped (.int i)=true:=by
 unfold SeqAt.shaped;rw[PyData.canLay0,PyData.depth];rfl
theorem GX:∀d:Nat,d<10→(Nat.digitChar d).toNat=48+d:=by decide
theorem GY(m:Nat):(Nat.toDigits 10 m).map Char.toNat=Vacola.decimal m:=by
 induction m using Nat.strongRecOn with
 |_ m ih=>
  by_cases h:m<10
  ·rw[Nat.toDigits_of_lt_base h,rV h,List.map_cons,List.map_nil,GX m h]
  ·have hm:m%10<10:=Nat.mod_lt m (by decide)
   have t:Nat.toDigits 10 (m/10)++Nat.toDigits 10 (m%10)=Nat.toDigits 10 (10*(m/10)+m%10):=Nat.toDigits_append_toDigits (by decide) (by omega) hm;rw[Nat.div_add_mod]at t;rw[←t,List.map_append,Nat.toDigits_of_lt_base hm,ih (m/10) (by omega),AE (n:=m) (by omega),List.map_cons,List.map_nil,GX _ hm]
theorem GZ(z:Int):(PySem.Str.ofString (toString z)).cps.toList=Vacola.decimalInt z:=by
 unfold Vacola.decimalInt;cases z with
 |ofNat m=>
  rw[if_neg (show¬Int.ofNat m<0 from by show¬(m:Int)<0;omega)];exact(PySem.W.KIN.signs_num m).trans (GY m)
 |negSucc m=>
  rw[if_pos (by omega)];rw[PyProof.Rows.signs_ofString];show(("-"++Nat.repr (m+1)).toList).map Char.toNat=_;rw[String.toList_append,List.map_append,Nat.toList_repr,GY];rfl
end Vp
end
section
namespace Vp
open PySem PySem.Spec PyProof.Rows L2
open PySem.W (codeHd_of_K)
variable{P:Program}{w:World}{K:PySem.W.Frag}{mg:Str→Option Value}{base:Heap}{a:aH}
inductive qB(K:PySem.W.Frag)(vs:List V)(H:Hp)(Q:VK)(E:XK):Prop
 |mk:∀p l,vs=[.ref p]→ay K H p (aC l)→l.length≤5000→(∀H',aI H H'→Q (.bl (Vacola.goodName l)) H')→qB K vs H Q E
theorem Cn{l:List Nat}{i:Nat}{x:V}(h:(aC l)[i]? =some x):∃c,l[i]? =some c∧x=V.int (c:Int):=by
 unfold aC at h;rw[List.getElem?_map]at h;cases e:l[i]? with
 |none=>rw[e]at h;cases h
 |some c=>rw[e]at h;cases h;exact⟨c,rfl,rfl⟩
theorem rT{te:TE}{D:Ends}{σ:L2.St}{H:Hp}(h:te σ H D.rt):EG te D σ H:=h
theorem cB{r:List V→Hp→VK→Prop}{t:TA}{σ:L2.St}{H:Hp}{Q:VK}(h:t σ H fun vs H1=>r vs H1 Q):Bt r t σ H Q:=h
theorem cN{ta:TE}{tr:TA}{σ:L2.St}{H:Hp}{Q:List V→Hp→Prop}(h:ta σ H fun x H1=>tr σ H1 fun xs H2=>Q (x::xs) H2):kr ta tr σ H Q:=h
theorem nP{K:PySem.W.Frag}{xs:List V}{g:TG}{tt:TT}{te tl:TE}{vs:List Nat}{σ:L2.St}{H:Hp}{Q:VK}(H1:Hp)(b:Addr)(ht:∀R:VK,R (.ref b) H1→tl σ H R)(hS:ay K H1 b xs)
  (hD:∀D,H1 D=Option.none→∃Pv:Nat→Hp→Prop,Pv 0 (upd H1 D (.lst []))∧(∀i H,i≤xs.length→Pv i H→ay K H b xs)∧
   (∀i x H,xs[i]? =some x→Pv i H→g x (wipe σ vs) H fun σ2 H2=>wipe σ2 vs=wipe σ vs∧tt σ2 H2 fun k H3=>if k=true then te σ2 H3 fun y H4=>∃acc,H4 D=some (.lst acc)∧acc.length<sizeLine∧Pv (i+1) (upd H4 D (.lst (acc++[y])))else Pv (i+1) H3)∧
   ∀H,Pv xs.length H→Q (.ref D) H):lB (EK K tl) g tt te vs σ H Q:=by
 refine ht _ ⟨b,rfl,⟨xs,hS⟩,fun D hd=>?_⟩;obtain⟨Pv,h0,hl,hs,he⟩:=hD D hd;refine⟨fun i m H=>m=xs.length-i∧i≤xs.length∧Pv i H,⟨xs.length,by simp,Nat.zero_le _,h0⟩,?_⟩;rintro i m H ⟨rfl,hi,p⟩;have q:=hl i H hi p;by_cases hlt:i<xs.length
 ·refine .inr ⟨⟨xs,xs[i],q,by simp[hlt]⟩,Pv (i+1),fun H' p'=>⟨xs.length-(i+1),by omega,rfl,hlt,p'⟩,fun x H' y=>?_⟩
  obtain⟨e,y⟩:=y;subst e;exact hs i x _ (y xs q) p
 ·have e:i=xs.length:=by omega
  subst e;exact .inl ⟨⟨xs,q,Nat.le_refl _⟩,he H p⟩
theorem MZ{f:Addr}{fd:FuncData}(F:aK K "is_name" "is_name" pM f fd)(T:Txt K mg a)(c_is_letter:ao P w K mg base af 1 "is_letter" ["sign"] (ff kL))(c_is_name_sign:ao P w K mg base af 2 "is_name_sign" ["sign"] (ff lO)):
  aF P w K mg base af 3 f fd ["text"] (qB K):=by
 refine F.ok Ca (fun vs H Q E h=>by obtain⟨p,l,rfl,_⟩:=h;rfl) (fun cdv A outer s H vs Q E hr h=>?_);obtain⟨p,l,rfl,hS,hl5,q⟩:=h;refine⟨_,(ai (aU (PW.pt (f7 (aY bF (bP cC rfl T.bY PySem.boot_len (aa (pv 0) ah)) aN (aQ _)) (f7 (aY ji (bP cC rfl T.bY PySem.boot_len (aa (pv 0) ah)) (aA T.wc) (aQ _)) (iR (jf (c9 (aG c_is_letter (hr.mono (by decide)) rfl az (aa (bQ cA (pv 0) aN (fun _ _=>rfl)) ah)))))))) (aq (aB EA)) aX) (aq (aB (bP (KC rfl) rfl T.wV PyProof.Rows.boot_all (aa (pA (own:=[("sign",1)]) rfl Ca.nd (gu (pv 0)) (show iz ["text","sign"] (aE pM) _ _ from⟨rfl,by decide+kernel,by decide+kernel,by decide+kernel,by decide+kernel⟩) (fun _ _ _ _ _=>(dR (i:=1) Ca.nd rfl (Or.inl rfl))) (fun _ _ _ _ _=>tG) (fun _ _ _ _ _=>(aG c_is_name_sign (hr.mono (by decide)) rfl az (aa (pv 1) ah)))) ah))))),?_⟩;have no:Vacola.goodName l=false→Q (.bl false) H:=fun z=>by have:=q H (aI.refl H);rw[z]at this;exact this
 refine⟨_,rfl,p,_,rfl,.inl hS,rfl,_,rfl,?_⟩;rw[bJ,bE];refine bB (fun c=>?_) (fun c=>?_)
 ·have c':(l.length:Int)=0:=of_decide_eq_true c
  have e:l=[]:=List.length_eq_zero_iff.mp (by omega);exact no (by rw[e];rfl)
 have c':¬(l.length:Int)=0:=of_decide_eq_false (Bool.eq_false_iff.mpr c);refine⟨_,rfl,p,_,rfl,.inl hS,_,_,rfl,rfl,_,rfl,?_⟩;rw[bE];cases hl:l with
 |nil=>rw[hl]at c';exact absurd rfl c'
 |cons x t=>
  rw[←hl];have eg:Vacola.goodName l=(Vacola.isLow x&&l.all Vacola.nameSign&&decide (l.length≤12)):=by rw[hl];rfl
  refine bB (fun c2=>?_) (fun c2=>?_)
  ·have c2':(12:Int)<l.length:=of_decide_eq_true c2
   exact no (by rw[eg,decide_eq_false (by omega),Bool.and_false])
  have c2':¬(12:Int)<l.length:=of_decide_eq_false (Bool.eq_false_iff.mpr c2);rw[decide_eq_true (show l.length≤12 by omega),Bool.and_true]at eg;refine⟨_,rfl,p,_,_,(.int (x:Int)),rfl,rfl,hS,(by rw[hl];exact at_of (j:=0) rfl rfl),_,rfl,_,rfl,?_⟩;rw[GF.at_];cases hx:Vacola.isLow x with
  |false=>exact no (by rw[eg,hx];rfl)
  |true=>
   rw[hx,Bool.true_and]at eg;refine(if_neg (by decide)).mpr (nX ?_);dsimp only;refine rT (cB (cN (nP (xs:=aC l) H p (fun R h=>⟨_,rfl,h⟩) hS fun D hD=>⟨fun i H'=>aI H H'∧H' D=some (.lst ((l.take i).map fun c=>V.bl (Vacola.nameSign c))),⟨aM hD,aj⟩,(fun i H' _ ⟨h1,_⟩=>h1.seq hS),?_,?_⟩)))
   ·rintro i v H' hi ⟨h1,h2⟩
    obtain⟨c,hc,rfl⟩:=Cn hi;refine⟨rfl,_,rfl,_,rfl,_,h2,?_,?_⟩
    ·rw[List.length_map,List.length_take,sizeLine_eq];omega
    ·refine⟨fun b o hb=>by rw[au (aV hb hD)];exact h1 b o hb,?_⟩
     rw[aj,take_snoc hc,List.map_append,ofName.at_];rfl
   ·rintro H' ⟨h1,h2⟩
    rw[bE,List.take_length]at h2;refine⟨D,l.map Vacola.nameSign,rfl,ay.of (by rw[h2,List.map_map];rfl),?_⟩;have z:=q H' h1;rw[eg]at z;have e:(l.map Vacola.nameSign).all id=l.all Vacola.nameSign:=by rw[List.all_map];rfl
    rw[e];exact z
inductive qC(a:aH)(vs:List V)(H:Hp)(Q:VK)(E:XK):Prop
 |mk:∀r ta d T p n g dg fl c t,vs=[.ref r,.ref g]→bO a H r ta d T p n→p≤T.length→T.length≤5000→jS a H g dg fl c t→(fX a H r ta d T p n E (Vacola.readName (heads t) (T.drop p)) fun v s=>∀H' p' l,Keeps H H' r→H' r=some (.ins a.aR d (cI ta p' n))→p'≤T.length→T.drop p'=s→H' l=some (.lst (aC v))→H l=Option.none→Q (.ref l) H')→qC a vs H Q E
theorem G6{K:PySem.W.Frag}{H:Hp}:∀ns:List Int,lA K H (ns.map V.int) (ns.map PyData.int)
 |[]=>.nil
 |n::r=>.cons (.int n) (G6 r)
theorem M0(l:List Nat):aC l=(l.map fun(c:Nat)=>(c:Int)).map V.int:=by unfold aC;rw[List.map_map];rfl
theorem nQ{K:PySem.W.Frag}{H:Hp}{p:Addr}{l:List Nat}(h:ay K H p (aC l)):Dp K H (.ref p) (.list ((l.map fun(c:Nat)=>(c:Int)).map PyData.int)):=by
 rw[M0]at h;exact .lst h (G6 _)
theorem Co(l m:List Nat):PyData.eqv (.list ((l.map fun(c:Nat)=>(c:Int)).map PyData.int)) (.list ((m.map fun(c:Nat)=>(c:Int)).map PyData.int))=decide (l=m):=by
 rw[MX];apply decide_eq_decide.mpr;constructor
 ·intro h
  have:=congrArg (List.map Int.toNat) h;simpa[List.map_map,Function.comp_def]using this
 ·intro h;rw[h]
theorem M1{f:Addr}{fd:FuncData}(F:aK K "read_name" "read_name" uD f fd)(T:Txt K mg a)(cE:fF P w K mg base a)(c_is_name:ao P w K mg base af 3 "is_name" ["text"] (qB K))
  (m_Reader_take_name_signs:bG P w K mg base af 3 a.aR "take_name_signs" ["self"] (jP a Vacola.nameSign)):aF P w K mg base (bu P w) 4 f fd ["reader","group"] (qC a):=by
 refine F.fU vC (fun vs H Q E h=>by obtain⟨r,ta,d,T,p,n,g,dg,fl,c,t,rfl,_⟩:=h;rfl) (fun cdv A outer s H vs Q E hr h=>?_);obtain⟨r,ta,d,Tx,p,n,g,dg,fl,c,t,rfl,R,hp,hT,G,q⟩:=h;refine⟨_,(ai (aO (i:=2) vC.nd rfl (Or.inl rfl) (aD (pv 0) rfl)) (ai (aO (i:=3) vC.nd rfl (Or.inl rfl) (bR (pv 0) T.bx m_Reader_take_name_signs (hr.mono (by decide)) az)) (ai (aU (jf (c9 (aG c_is_name (hr.mono (by decide)) rfl az (aa (pv 3) ah)))) (aq (cY T cE (hr.mono (by decide)) rfl rfl rfl bN (aa (aA T.fR) (aa (pv 2) ah)))) aX) (ai (gZ BV rfl (gu (aD (pv 1) rfl)) (dR (i:=4) vC.nd rfl (Or.inl rfl)) (aq (aU (aY (Fy hr.units) (aD (pv 4) rfl) (pv 3) (aQ _)) (aq (cY T cE (hr.mono (by decide)) rfl rfl rfl bN (aa (aA T.vJ) (aa (pv 2) ah)))) aX))) (aq (aB (pv 3))))))),?_⟩;refine⟨_,rfl,r,_,d,_,_,rfl,R.rd,T.bx,T.dX,fV,?_⟩;refine⟨_,rfl,r,d,_,rfl,R.rd,cG (by decide+kernel),r,ta,d,Tx,p,n,rfl,R,fun l hl=>?_⟩;have hle:=xB Vacola.nameSign Tx hp;have hdr:=xA Vacola.nameSign Tx p;unfold Vacola.readName at q;dsimp only at q;generalize hrun:bV Vacola.nameSign Tx p=run at hl hle hdr⊢;have hrun':(Tx.drop p).takeWhile Vacola.nameSign=run:=hrun;rw[hrun']at q;have hlr:l≠r:=fun z=>by rw[z]at hl;unfold bw at hl;rw[aj]at hl;cases hl
 have hHl:H l=Option.none:=by unfold bw at hl;rw[au hlr]at hl;exact hl
 generalize hH2:upd (bw a H r ta d (p+run.length) n) l (.lst (aC run))=H2;have hl2:H2 l=some (.lst (aC run)):=by rw[←hH2];exact aj
 have K2:Keeps H H2 r:=by rw[←hH2];exact(Keeps.bw H r ta d (p+run.length) n).i0 hHl
 have r2:H2 r=some (.ins a.aR d (cI ta (p+run.length) n)):=by rw[←hH2,au (Ne.symm hlr)];exact aj
 have hlen:run.length≤5000:=by omega
 refine⟨_,rfl,l,run,rfl,ay.of hl2,hlen,fun H3 s3=>⟨_,rfl,?_⟩⟩;have K3:Keeps H H3 r:=K2.trans fun b o h _=>s3 b o h
 have r3:=s3 _ _ r2;have l3:=s3 _ _ hl2;have G3:=G.keeps R K3;cases hg:Vacola.goodName run with
 |false=>
  rw[if_pos hg]at q;have q':bA a E H r 1 ((Tx.length-(Tx.drop p).length:Nat):Int):=q;rw[iG hp]at q';exact⟨_,rfl,dO (q'.of K3)⟩
 |true=>
  rw[hg,if_neg (by simp)]at q;refine⟨_,rfl,g,_,dg,_,_,rfl,G3.gr,T.bI,T.c8,eU,fl,rfl,⟨_,ay.of G3.ls⟩,jH (xs:=t.as.map V.ref) (fun i σ H'=>H3=H'∧(∀x∈t.items.take i,x.h.name≠run)∧∃v,σ=[some (.ref r),some (.ref g),some (.int (p:Int)),some (.ref l),v]) ⟨rfl,by simp,Option.none,rfl⟩ (fun i σ H' _ ⟨e,_⟩=>by rw[←e];exact ay.of G3.ls) ?_ ?_⟩
  ·rintro i v σ H' hi ⟨rfl,hx,v',rfl⟩
   obtain⟨x,hxi,rfl⟩:∃x,t.items[i]? =some x∧v=V.ref x.f:=by
    unfold TF.as at hi;rw[List.getElem?_map,List.getElem?_map]at hi;cases e:t.items[i]? with
    |none=>rw[e]at hi;cases hi
    |some x=>rw[e]at hi;cases hi;exact⟨x,rfl,rfl⟩
   obtain⟨⟨dx,hx1⟩,hx2,_⟩:=dY.mp G3.fs x (List.mem_of_getElem? hxi);refine⟨_,rfl,x.f,_,dx,_,_,rfl,hx1,T.bC,T.iX,nO,_,rfl,_,_,nQ (ay.of hx2),nQ (ay.of l3),shaped_ints _,shaped_ints _,_,rfl,?_⟩;rw[Co];refine bB (fun c2=>?_) (fun c2=>?_)
   ·have c2':x.h.name=run:=of_decide_eq_true c2
    rw[if_pos]at q
    ·have q':bA a E H r 3 ((Tx.length-(Tx.drop p).length:Nat):Int):=q
     rw[iG hp]at q';exact⟨_,rfl,dO (q'.of K3)⟩
    ·rw[List.any_eq_true]
     refine⟨x.h,?_,beq_iff_eq.mpr c2'⟩;unfold heads;rw[List.mem_reverse];exact List.mem_map_of_mem (List.mem_of_getElem? hxi)
   ·have c2':¬x.h.name=run:=of_decide_eq_false (Bool.eq_false_iff.mpr c2)
    refine⟨rfl,fun y hy=>?_,_,rfl⟩;rw[take_snoc hxi]at hy;rcases List.mem_append.mp hy with z|z
    ·exact hx y z
    ·rw[List.mem_singleton.mp z];exact c2'
  ·rintro σ H' ⟨rfl,hx,v',rfl⟩
   rw[List.length_map,TF.i_,List.take_length]at hx;rw[if_neg]at q
   ·exact⟨_,rfl,q H3 _ l K3 r3 hle hdr l3 hHl⟩
   ·intro z
    rw[List.any_eq_true]at z;obtain⟨h0,m0,e0⟩:=z;unfold heads at m0;rw[List.mem_reverse]at m0;obtain⟨y,hy,rfl⟩:=List.mem_map.mp m0;exact hx y hy (beq_iff_eq.mp e0)
theorem M3(c:Nat):nG (c:Int)=(Vacola.modeOf c).isSome:=by
 unfold nG Vacola.modeOf;by_cases h1:c=33
 ·subst h1;rfl
 by_cases h2:c=63
 ·subst h2;rfl
 by_cases h3:c=42
 ·subst h3;rfl
 by_cases h4:c=37
 ·subst h4;rfl
 rw[if_neg h1,if_neg h2,if_neg h3,if_neg h4,decide_eq_false (by omega),decide_eq_false (by omega),decide_eq_false (by omega),decide_eq_false (by omega)];rfl
theorem G7{c:Bool}:decide (((Vacola.openSign c:Nat):Int)=60)=c:=by cases c<;>rfl
theorem M4{c:Bool}:decide (((Vacola.openSign c:Nat):Int)=123)=!c:=by cases c<;>rfl
theorem G8{m:Vacola.Mode}:decide ((Vacola.showMode m:Int)≠33)=decide (m≠.one):=by cases m<;>rfl
theorem sC{v:V}{i:Nat}{u:TS}{D:Ends}{σ:L2.St}{H:Hp}(h:u D (σ.set i (some v)) H):jG (sN (tC v) (lu i)) u D σ H:=h
inductive qD(a:aH)(vs:List V)(H:Hp)(Q:VK)(E:XK):Prop
 |mk:∀r ta d T p n g dg fl c t,vs=[.ref r,.ref g]→bO a H r ta d T p n→p≤T.length→jS a H g dg fl c t→(fX a H r ta d T p n E (Vacola.readMode c (T.drop p)) fun v s=>∀H',Keeps H H' r→H' r=some (.ins a.aR d (cI ta (p+1) n))→p+1≤T.length→T.drop (p+1)=s→Q (.int ((Vacola.showMode v:Nat):Int)) H')→qD a vs H Q E
theorem M5{f:Addr}{fd:FuncData}(F:aK K "read_mode" "read_mode" uE f fd)(T:Txt K mg a)(cE:fF P w K mg base a)(c_is_mode:ao P w K mg base af 1 "is_mode" ["sign"] (jt nG))
  (m_Reader_sign_here:bG P w K mg base af 1 a.aR "sign_here" ["self"] (fW a))(m_Reader_skip_sign:bG P w K mg base af 1 a.aR "skip_sign" ["self"] (gz a)):aF P w K mg base (bu P w) 3 f fd ["reader","group"] (qD a):=by
 refine F.fU Gk (fun vs H Q E h=>by obtain⟨r,ta,d,T,p,n,g,dg,fl,c,t,rfl,_⟩:=h;rfl) (fun cdv A outer s H vs Q E hr h=>?_);obtain⟨r,ta,d,Tx,p,n,g,dg,fl,c,t,rfl,R,hp,G,q⟩:=h;refine⟨_,(ai (aO (i:=2) Gk.nd rfl (Or.inl rfl) (bR (pv 0) T.bx m_Reader_sign_here (hr.mono (by decide)) az)) (ai (aU (jf (c9 (aG c_is_mode (hr.mono (by decide)) rfl az (aa (pv 2) ah)))) (aq (cY T cE (hr.mono (by decide)) rfl rfl rfl bN (aa (aA T.fR) (aa (aD (pv 0) rfl) ah)))) aX) (ai (aU (PW.pt (j_ (aY bF (aD (pv 1) rfl) (aA T.ny) (aQ _)) (j9 (aY f9 (pv 2) (aA T.jm) (aQ _))))) (aq (cY T cE (hr.mono (by decide)) rfl rfl rfl bN (aa (aA T.vK) (aa (aD (pv 0) rfl) ah)))) aX) (ai (bS (bR (pv 0) T.bx m_Reader_skip_sign (hr.mono (by decide)) az)) (aq (aB (pv 2))))))),?_⟩;refine⟨_,rfl,r,d,_,rfl,R.rd,cG (by decide+kernel),r,ta,d,Tx,p,n,rfl,R,?_⟩;refine⟨_,rfl,_,rfl,fun z0 o0 hz0=>?_⟩;generalize hH1:upd H z0 o0=H1;have s1:aI H H1:=by rw[←hH1];exact aM hz0
 have K1:Keeps H H1 r:=fun b o h _=>s1 b o h
 have R1:bO a H1 r ta d Tx p n:=⟨s1 _ _ R.rd,s1 _ _ R.tx⟩;have G1:=G.keeps R K1;have fault:∀k:Int,bA a E H r k p→bA a E H1 r k p:=fun k e=>e.of K1
 refine⟨_,rfl,?_⟩;have lp:Tx.length-(Tx.drop p).length=p:=iG hp;rcases gB Tx p with⟨e1,e2⟩|⟨c0,s1',e1,e2,e3,hp'⟩
 ·rw[e2]
  rw[e1]at q;have q':bA a E H r 1 ((Tx.length-([]:List Nat).length:Nat):Int):=q;rw[←e1,lp]at q';exact gP T rfl R1.rd (fault 1 q')
 ·rw[e2]
  rw[M3];rw[e1]at q lp;unfold Vacola.readMode at q;dsimp only at q;cases hm:Vacola.modeOf c0 with
  |none=>
   rw[hm]at q;have q':bA a E H r 1 ((Tx.length-(c0::s1').length:Nat):Int):=q;rw[lp]at q';exact gP T rfl R1.rd (fault 1 q')
  |some m=>
   rw[hm]at q;dsimp only at q;have em:=C_ hm;refine nX ?_;dsimp only;refine join (fun σ' H'=>σ'=[some (V.ref r),some (V.ref g),some (V.int (c0:Int))]∧H1=H'∧¬(c=true∧m≠.one)) ?_ (fun N hN=>?_)
   case refine_1=>
    rintro σ' H' ⟨rfl,rfl,hnc⟩;rw[if_neg hnc]at q;refine⟨_,rfl,r,d,_,rfl,R1.rd,cG (by decide+kernel),r,ta,d,Tx,p,n,rfl,R1,⟨_,rfl,?_⟩⟩;have:=q _ (K1.trans (Keeps.bw H1 r ta d (p+1) n)) aj (by omega) e3;rw[em]at this;exact this
   refine⟨_,rfl,g,_,dg,_,_,rfl,G1.gr,T.bI,T.e9,gi,rfl,_,rfl,?_⟩;rw[bJ,G7];cases c with
   |false=>exact hN _ _ ⟨rfl,rfl,by simp⟩
   |true=>
    refine⟨_,rfl,rfl,_,rfl,?_⟩;rw[ia,←em,G8];by_cases hm1:m=.one
    ·rw[decide_eq_false (fun z=>z hm1)]
     exact hN _ _ ⟨by rw[em];rfl,rfl,fun z=>z.2 hm1⟩
    ·rw[if_pos ⟨rfl,hm1⟩]at q
     rw[decide_eq_true hm1];have q':bA a E H r 4 ((Tx.length-(c0::s1').length:Nat):Int):=q;rw[lp]at q';exact gP T rfl R1.rd (fault 4 q')
structure kO(a:aH)(H H':Hp)(t:TK)(k:Vacola.Kind):Prop where
 has:bK a H' t
 kd:t.kd=k
 nd:t.fp.Nodup
 fr:iE H t.fp
inductive qE(a:aH)(vs:List V)(H:Hp)(Q:VK)(E:XK):Prop
 |mk:∀r ta d T p n,vs=[.ref r]→bO a H r ta d T p n→p≤T.length→n≤40→((∃c s,T.drop p=c::s∧(c=98∨c=105∨c=116)))→(fX a H r ta d T p n E (Vacola.readLeaf n (T.drop p)) fun v s=>∀H' p' t,Keeps H H' r→H' r=some (.ins a.aR d (cI ta p' (n+1)))→p'≤T.length→T.drop p'=s→kO a H H' t (.leaf v)→Q (.ref t.at) H')→qE a vs H Q E
theorem M6{f:Addr}{fd:FuncData}(F:aK K "read_leaf" "read_leaf" uF f fd)(T:Txt K mg a)(cE:fF P w K mg base a)(c_short_number:ao P w K mg base af 2 "short_number" ["digits"] (qx K))
  (k_Kind:dI P w K mg base af 1 "Kind" a.b7 ["self","sign","size","fields"] (dz a.b7 3 fun us=>([("sign":Str),"size","fields"]).zip us))
  (m_Reader_sign_here:bG P w K mg base af 1 a.aR "sign_here" ["self"] (fW a))(m_Reader_skip_sign:bG P w K mg base af 1 a.aR "skip_sign" ["self"] (gz a))(m_Reader_take_digits:bG P w K mg base af 2 a.aR "take_digits" ["self"] (jP a Vacola.isDigit)):
  aF P w K mg base (bu P w) 3 f fd ["reader"] (qE a):=by
 refine F.fU p7 (fun vs H Q E h=>by obtain⟨r,ta,d,T,p,n,rfl,_⟩:=h;rfl) (fun cdv A outer s H vs Q E hr h=>?_);obtain⟨r,ta,d,Tx,p,n,rfl,R,hp,hn,⟨c0,s0,e1,hc⟩,q⟩:=h;refine⟨_,(ai (aO (i:=1) p7.nd rfl (Or.inl rfl) (aD (pv 0) rfl)) (ai (aO (i:=2) p7.nd rfl (Or.inl rfl) (bR (pv 0) T.bx m_Reader_sign_here (hr.mono (by decide)) az)) (ai (bS (bR (pv 0) T.bx m_Reader_skip_sign (hr.mono (by decide)) az)) (ai (aO (i:=3) p7.nd rfl (Or.inl rfl) aN) (ai (aU (aY f9 (pv 2) (aA T.lH) (aQ _)) (ai (aO (i:=3) p7.nd rfl (Or.inl rfl) (aG c_short_number (hr.mono (by decide)) rfl az (aa (bR (pv 0) T.bx m_Reader_take_digits (hr.mono (by decide)) az) ah))) (ai (aU (aY bF (pv 3) aN (aQ _)) (aq (cY T cE (hr.mono (by decide)) rfl rfl rfl bN (aa (aA T.fR) (aa (pv 1) ah)))) aX) (aq (aU (PW.pt (j_ (aY bF (pv 2) (aA T.lI) (aQ _)) (j9 (jf (sV gw gw (aA T.wg) (pv 3) (aA T.wj)))))) (aq (cY T cE (hr.mono (by decide)) rfl rfl rfl bN (aa (aA T.lE) (aa (pv 1) ah)))) aX)))) aX) (ai (aU (aY bF (aD (pv 0) rfl) (aA T.v_) (aQ _)) (aq (cY T cE (hr.mono (by decide)) rfl rfl rfl bN (aa (aA T.vN) (aa (pv 1) ah)))) aX) (ai (cM (pv 0) (bU iU (aD (pv 0) rfl) aN) rfl) (aq (aB (jM k_Kind (hr.mono (by decide)) rfl az (aa (pv 2) (aa (pv 3) (aa (bM ah) ah))))))))))))),?_⟩;have lp:Tx.length-(Tx.drop p).length=p:=iG hp
 obtain⟨e2,e3,hp'⟩:dm Tx p=(c0:Int)∧Tx.drop (p+1)=s0∧p<Tx.length:=by
  rcases gB Tx p with⟨z1,_⟩|⟨c1,s1,z1,z2,z3,z4⟩
  ·rw[e1]at z1;cases z1
  ·rw[e1]at z1;cases z1;exact⟨z2,z3,z4⟩
 refine⟨_,rfl,r,_,d,_,_,rfl,R.rd,T.bx,T.dX,fV,?_⟩;refine⟨_,rfl,r,d,_,rfl,R.rd,cG (by decide+kernel),r,ta,d,Tx,p,n,rfl,R,?_⟩;rw[e2];refine⟨_,rfl,r,d,_,rfl,R.rd,cG (by decide+kernel),r,ta,d,Tx,p,n,rfl,R,?_⟩;rw[AB]at q;obtain⟨σ1,hσ1⟩:∃σ1:Int→L2.St,σ1=fun z=>[some (V.ref r),some (V.int (p:Int)),some (V.int (c0:Int)),some (V.int z)]:=⟨_,rfl⟩
 dsimp only;refine sC ?_;refine join (fun σ' H'=>∃l s p',gD (Tx.drop p)=.ok (l,s)∧σ'=σ1 (leafSize l:Nat)∧c0=nL l∧Keeps H H' r∧H' r=some (.ins a.aR d (cI ta p' n))∧p'≤Tx.length∧Tx.drop p'=s) ?_ (fun N hN=>?_)
 case refine_1=>
  rintro σ' H1 ⟨l,s,p',eL,rfl,ec,K1,r1,l1,d1⟩;subst hσ1;rw[eL,cQ]at q;refine⟨_,rfl,r,_,d,_,_,rfl,r1,T.bx,T.lM,GD,rfl,_,rfl,?_⟩;rw[bJ];refine bB (fun c2=>?_) (fun c2=>?_)
  ·have c2':(n:Int)=40:=of_decide_eq_true c2
   rw[if_pos (by show 40≤n;omega)]at q;have q':bA a E H r 8 ((Tx.length-(Tx.drop p).length:Nat):Int):=q;rw[lp]at q';exact⟨_,rfl,dO (q'.of K1)⟩
  ·have c2':¬(n:Int)=40:=of_decide_eq_false (Bool.eq_false_iff.mpr c2)
   rw[if_neg (by show¬40≤n;omega)]at q;refine⟨_,rfl,r,_,d,_,_,rfl,r1,T.bx,T.lM,GD,_,_,rfl,rfl,_,rfl,r,_,d,_,rfl,r1,T.bx,T.lM,(by show 3<1000;decide),?_⟩;generalize hH2:upd H1 r (.ins a.aR d (d_ "leaves" (V.int ((n:Int)+1)) (cI ta p' n)))=H2;have r2:H2 r=some (.ins a.aR d (cI ta p' (n+1))):=by rw[←hH2];exact aj
   have K2:Keeps H H2 r:=K1.trans fun b o h hb=>by rw[←hH2,au hb];exact h
   refine⟨_,rfl,_,rfl,Nat.zero_le _,fun fl hfl=>?_⟩;intro x dx hx hdx hne;have xr:x≠r:=fun z=>by rw[z,au (fun z'=>by rw[z']at r2;rw[r2]at hfl;cases hfl)]at hx;rw[r2]at hx;cases hx
   have dr:dx≠r:=fun z=>by rw[z,au (fun z'=>by rw[z']at r2;rw[r2]at hfl;cases hfl)]at hdx;rw[r2]at hdx;cases hdx
   have fr:fl≠r:=fun z=>by rw[z,r2]at hfl;cases hfl
   have xf:x≠fl:=fun z=>by rw[z,aj]at hx;cases hx
   have df:dx≠fl:=fun z=>by rw[z,aj]at hdx;cases hdx
   refine⟨x,dx,_,rfl,rfl,aj,rfl,?_⟩;rw[dQ];have hxH:H x=Option.none:=K2.free (by rw[au xf]at hx;exact hx) xr;have hfH:H fl=Option.none:=K2.free hfl fr;have hdH:H dx=Option.none:=K2.free (by rw[au df]at hdx;exact hdx) dr;refine q _ p' (.leaf l x fl) ((((K2.i0 hfH).i0 hdH).i0 hxH)) ?_ l1 d1 ⟨⟨⟨dx,?_⟩,?_⟩,rfl,?_,?_⟩
   ·rw[au (Ne.symm xr),au (Ne.symm dr),au (Ne.symm fr)];exact r2
   ·rw[aj,ec];rfl
   ·rw[au (Ne.symm xf),au (Ne.symm df)];exact aj
   ·show[x,fl].Nodup
    simp[xf]
   ·intro b hb
    rcases List.mem_cons.mp hb with z|z
    ·rw[z];exact hxH
    ·rw[List.mem_singleton.mp z];exact hfH
 case refine_2=>
  subst hσ1;refine⟨_,rfl,rfl,_,rfl,?_⟩;rw[ia];by_cases h98:c0=98
  ·subst h98
   refine hN _ _ ⟨.bit,s0,p+1,?_,rfl,rfl,Keeps.bw H r ta d (p+1) n,aj,by omega,e3⟩;rw[e1];rfl
  ·rw[decide_eq_true (show(c0:Int)≠98 by omega)]
   have R1:=R.mv (p+1) n;refine⟨_,rfl,r,d,_,rfl,R1.rd,cG (by decide+kernel),r,ta,d,Tx,p+1,n,rfl,R1,fun l hl=>?_⟩;rw[nJ]at hl⊢;have hle:=xB Vacola.isDigit Tx (p:=p+1) (by omega);have hdr:=xA Vacola.isDigit Tx (p+1);generalize hrun:bV Vacola.isDigit Tx (p+1)=run at hl hle hdr⊢;have hrun':s0.takeWhile Vacola.isDigit=run:=by rw[←e3];exact hrun
   have hd:∀c∈run,Vacola.isDigit c=true:=by rw[←hrun'];exact takeWhile_all _ _
   have hlr:l≠r:=fun z=>by rw[z]at hl;unfold bw at hl;rw[aj]at hl;cases hl
   have hHl:H l=Option.none:=by unfold bw at hl;rw[au hlr]at hl;exact hl
   generalize hH2:upd (bw a H r ta d (p+1+run.length) n) l (.lst (aC run))=H2;have hS:ay K H2 l (aC run):=ay.of (by rw[←hH2];exact aj);have K2:Keeps H H2 r:=by rw[←hH2];exact(Keeps.bw H r ta d (p+1+run.length) n).i0 hHl
   have r2:H2 r=some (.ins a.aR d (cI ta (p+1+run.length) n)):=by rw[←hH2,au (Ne.symm hlr)];exact aj
   refine⟨l,run,rfl,hS,hd,?_⟩;have eZ:=GQ (t:=s0);rw[hrun']at eZ;refine⟨_,rfl,rfl,_,rfl,?_⟩;rw[bJ]
   have eL:gD (Tx.drop p)=if c0=105 then Vacola.sized (Tx.drop p) s0 2 64 .int else Vacola.sized (Tx.drop p) s0 1 999 .text:=by
    rw[e1];rcases hc with z|z|z
    ·exact absurd z h98
    ·subst z;rfl
    ·subst z;rfl
   cases hNr:Vacola.numberRun s0 with
   |none=>
    rw[hNr]at eZ;rw[eZ]
    have eE:gD (Tx.drop p)=.error {kind:=1,left:=(Tx.drop p).length}:=by
     rw[eL];unfold Vacola.sized;rw[hNr];split<;>rfl
    rw[eE]at q;have q':bA a E H r 1 ((Tx.length-(Tx.drop p).length:Nat):Int):=q;rw[lp]at q';exact⟨_,rfl,dO (q'.of K2)⟩
   |some y=>
    obtain⟨v,s1⟩:=y;rw[hNr]at eZ;dsimp only at eZ;rw[eZ];have hv:=mL hNr;have hs1:=(oG hNr).2.2.2.2;have hdr':Tx.drop (p+1+run.length)=s1:=by rw[hdr,e3,hs1]
    rw[decide_eq_false (show¬(v:Int)=0 by omega)];refine⟨_,rfl,rfl,_,rfl,?_⟩;rw[bJ];by_cases h105:c0=105
    ·subst h105
     rw[if_pos rfl]at eL;refine⟨_,rfl,_,_,rfl,rfl,_,rfl,?_⟩;by_cases hr:2≤v∧v≤64
     ·rw[decide_eq_true (show(2:Int)≤v by omega)]
      refine⟨_,_,rfl,rfl,_,rfl,?_⟩;rw[decide_eq_true (show(v:Int)≤64 by omega)];refine hN _ _ ⟨.int v,s1,p+1+run.length,?_,rfl,rfl,K2,r2,hle,hdr'⟩;rw[eL];unfold Vacola.sized;rw[hNr];dsimp only;rw[if_pos hr]
     ·have eE:gD (Tx.drop p)=.error {kind:=5,left:=(Tx.drop p).length}:=by
       rw[eL];unfold Vacola.sized;rw[hNr];dsimp only;rw[if_neg hr];rfl
      rw[eE]at q;have q':bA a E H r 5 ((Tx.length-(Tx.drop p).length:Nat):Int):=q;rw[lp]at q';refine bB (fun c3=>?_) (fun c3=>?_)
      ·have c3':(2:Int)≤v:=of_decide_eq_true c3
       refine⟨_,_,rfl,rfl,_,rfl,?_⟩;rw[decide_eq_false (show¬(v:Int)≤64 by omega)];exact⟨_,rfl,dO (q'.of K2)⟩
      ·exact⟨_,rfl,⟨_,rfl,dO (q'.of K2)⟩⟩
    ·rw[if_neg h105]at eL
     have h116:c0=116:=by rcases hc with z|z|z;exact absurd z h98;exact absurd z h105;exact z
     subst h116;refine hN _ _ ⟨.text v,s1,p+1+run.length,?_,rfl,rfl,K2,r2,hle,hdr'⟩;rw[eL];unfold Vacola.sized;rw[hNr];dsimp only;rw[if_pos hv]
inductive qF(a:aH)(vs:List V)(H:Hp)(Q:VK)(E:XK):Prop
 |mk:∀r ta d T p n g dg fl c t f df num nm m tk s0,vs=[.ref r,.ref g,.ref f]→bO a H r ta d T p n→T.drop p=61::s0→T.length≤5000→jS a H g dg fl c t→H f=some (.ins a.cD df (iC num nm ((Vacola.showMode m:Nat):Int) tk.at .aP))→bK a H tk→((∀l,tk.kd=.leaf l→iu l))→(fX a H r ta d T p n E (Vacola.readDefault c m tk.kd (T.drop p)) fun v s=>∀H' p' da,Keeps H H' r→H' r=some (.ins a.aR d (cI ta p' n))→p'≤T.length→T.drop p'=s→iD H' v da→iE H (dU v da)→Q (ju v da) H')→qF a vs H Q E
theorem M7{c:Bool}{m:Vacola.Mode}{l:Vacola.Leaf}{s:List Nat}(h:¬(c=false∧m=.one)):Vacola.readDefault c m (.leaf l) (61::s)=.error {kind:=9,left:=(61::s).length}:=by
 cases c<;>cases m<;>first|rfl|exact absurd ⟨rfl,rfl⟩ h
theorem M8{f:Addr}{fd:FuncData}(F:aK K "read_default" "read_default" uG f fd)(T:Txt K mg a)(cE:fF P w K mg base a)(c_is_leaf:ao P w K mg base af 2 "is_leaf" ["kind"] (ic a eV))
  (c_read_literal:ao P w K mg base (bu P w) 7 "read_literal" ["reader","kind"] (qy a))(m_Reader_skip_sign:bG P w K mg base af 1 a.aR "skip_sign" ["self"] (gz a)):aF P w K mg base (bu P w) 8 f fd ["reader","group","field"] (qF a):=by
 refine F.fU LX (fun vs H Q E h=>by obtain⟨r,ta,d,T,p,n,g,dg,fl,c,t,f,df,num,nm,m,tk,s0,rfl,_⟩:=h;rfl) (fun cdv A outer s H vs Q E hr h=>?_);obtain⟨r,ta,d,Tx,p,n,g,dg,fl,c,t,fa,df,num,nm,m,tk,s0,rfl,R,e1,hT,G,hf,hk,hwl,q⟩:=h;refine⟨_,(ai (aU (PW.pt (f7 (aY f9 (aD (pv 1) rfl) (aA T.iW) (aQ _)) (f7 (aY f9 (aD (pv 2) rfl) (aA T.jm) (aQ _)) (iR (jf (c9 (aG c_is_leaf (hr.mono (by decide)) rfl az (aa (aD (pv 2) rfl) ah)))))))) (aq (cY T cE (hr.mono (by decide)) rfl rfl rfl bN (aa (aA T.vO) (aa (aD (pv 0) rfl) ah)))) aX) (ai (bS (bR (pv 0) T.bx m_Reader_skip_sign (hr.mono (by decide)) az)) (aq (aB (aG c_read_literal (hr.mono (by decide)) rfl (dj rfl bN) (aa (pv 0) (aa (aD (pv 2) rfl) ah))))))),?_⟩
 have hp:p<Tx.length:=by
  rcases Nat.lt_or_ge p Tx.length with z|z
  ·exact z
  ·rw[List.drop_eq_nil_of_le z]at e1;cases e1
 have e3:Tx.drop (p+1)=s0:=by rw[←List.drop_drop,e1];rfl
 have lp:Tx.length-(Tx.drop p).length=p:=iG (by omega)
 have bad:¬(c=false∧m=.one∧eV tk=true)→bA a E H r 9 p:=fun z=>by
  have e:Vacola.readDefault c m tk.kd (Tx.drop p)=.error {kind:=9,left:=(Tx.drop p).length}:=by
   rw[e1];cases tk with
   |leaf l k kl=>exact M7 fun y=>z ⟨y.1,y.2,rfl⟩
   |group c' k kl fs'=>cases c<;>cases m<;>rfl
  rw[e]at q;have q':bA a E H r 9 ((Tx.length-(Tx.drop p).length:Nat):Int):=q;rw[lp]at q';exact q'
 refine join (fun σ' H'=>σ'=[some (.ref r),some (.ref g),some (.ref fa)]∧aI H H'∧c=false∧m=.one∧eV tk=true) ?_ (fun N hN=>?_)
 case refine_1=>
  rintro σ' H1 ⟨rfl,s1,rfl,rfl,hl⟩
  match tk,hl,hf,hk,hwl,q with
  |.leaf l k kl,_,hf,hk,hwl,q=>
  have R1:bO a H1 r ta d Tx p n:=⟨s1 _ _ R.rd,s1 _ _ R.tx⟩;refine⟨_,rfl,r,d,_,rfl,R1.rd,cG (by decide+kernel),r,ta,d,Tx,p,n,rfl,R1,?_⟩;have R2:=R1.mv (p+1) n;have K1:Keeps H H1 r:=fun b o h _=>s1 b o h
  have K2:Keeps H (bw a H1 r ta d (p+1) n) r:=K1.trans (Keeps.bw H1 r ta d (p+1) n);obtain⟨⟨dk,hk1⟩,hk2⟩:=hk.keeps R K2;have f2:(bw a H1 r ta d (p+1) n) fa=some (.ins a.cD df (iC num nm ((Vacola.showMode .one:Nat):Int) k .aP)):=K2 _ _ hf (fun z=>by rw[z,R.rd]at hf;exact xo (by rw[Option.some.inj hf];exact .inr ⟨_,_,_,_,_,rfl⟩));refine⟨_,rfl,_,rfl,fa,_,df,_,_,rfl,f2,T.bC,T.e_,gC,r,ta,d,Tx,p+1,n,k,l,rfl,R2,by omega,hT,⟨dk,kl,hk1⟩,hwl l rfl,?_⟩;unfold jQ
  have eD:Vacola.readDefault false .one (.leaf l) (Tx.drop p)=match Vacola.readLit l (Tx.drop (p+1))with
   |Option.none=>Vacola.faultAt 1 (Tx.drop (p+1))
   |some (v,s)=>if Vacola.fits l v=true then .ok (some v,s)else Vacola.faultAt 5 (Tx.drop (p+1)):=by
   rw[e1,e3];rfl
  have q:fX a H r ta d Tx p n E (Vacola.readDefault false .one (.leaf l) (Tx.drop p)) _:=q;rw[eD]at q;have lp1:Tx.length-(Tx.drop (p+1)).length=p+1:=iG (by omega);cases hL:Vacola.readLit l (Tx.drop (p+1))with
  |none=>
   rw[hL]at q;have q':bA a E H r 1 ((Tx.length-(Tx.drop (p+1)).length:Nat):Int):=q;rw[lp1]at q';exact q'.of K2
  |some y=>
   obtain⟨v,s2⟩:=y;rw[hL]at q;dsimp only at q⊢;cases hfit:Vacola.fits l v with
   |false=>
    rw[hfit]at q;have q':bA a E H r 5 ((Tx.length-(Tx.drop (p+1)).length:Nat):Int):=q;rw[lp1]at q';exact q'.of K2
   |true=>
    rw[hfit]at q;intro H' p' da k1 k2 k3 k4 k5 k6;refine q H' p' da (K2.trans k1) k2 k3 k4 k5 fun b hb=>K2.free (k6 b hb) fun z=>?_
    have:=k6 b hb;rw[z,R2.rd]at this;cases this
 case refine_2=>
  have fault:∀H',aI H H'→¬(c=false∧m=.one∧eV tk=true)→bA a E H' r 9 p:=fun H' s' z=>(bad z).of fun b o h _=>s' b o h
  refine⟨_,rfl,g,_,dg,_,_,rfl,G.gr,T.bI,T.e9,gi,rfl,_,rfl,?_⟩;rw[bJ,M4];cases c with
  |true=>exact gP T rfl R.rd (fault H (aI.refl H) (by simp))
  |false=>
   refine⟨_,rfl,fa,_,df,_,_,rfl,hf,T.bC,T.gK,jR,rfl,_,rfl,?_⟩;rw[ia,G8];by_cases hm:m=.one
   ·rw[decide_eq_false (fun z=>z hm)]
    refine⟨_,rfl,fa,_,df,_,_,rfl,hf,T.bC,T.e_,gC,tk,rfl,hk,fun H' s'=>⟨_,rfl,?_⟩⟩;cases hl:eV tk with
    |false=>exact gP T rfl (s' _ _ R.rd) (fault H' s' (by simp[hl]))
    |true=>exact hN _ _ ⟨rfl,s',rfl,hm,hl⟩
   ·rw[decide_eq_true hm]
    exact gP T rfl R.rd (fault H (aI.refl H) (fun z=>hm z.2.1))
inductive nR(a:aH)(dd:Nat)(vs:List V)(H:Hp)(Q:VK)(E:XK):Prop
 |mk:∀r ta d T p n dp c s,vs=[.ref r,.int ((dp:Nat):Int)]→bO a H r ta d T p n→T.length≤2000→n≤40→dp≤6→7≤dp+dd→T.drop p=Vacola.openSign c::s→(fX a H r ta d T p n E (RF dp c [] n s) fun v s'=>∀H' p' t,Keeps H H' r→H' r=some (.ins a.aR d (cI ta p' (n+Vacola.leavesFields v)))→p'≤T.length→T.drop p'=s'→kO a H H' t (.group c v)→Q (.ref t.at) H')→nR a dd vs H Q E
inductive xF(a:aH)(dd:Nat)(vs:List V)(H:Hp)(Q:VK)(E:XK):Prop
 |mk:∀r ta d T p n dp,vs=[.ref r,.int ((dp:Nat):Int)]→bO a H r ta d T p n→p≤T.length→T.length≤2000→n≤40→dp≤6→6≤dp+dd→(fX a H r ta d T p n E (dZ RF dp n (T.drop p)) fun v s'=>∀H' p' t,Keeps H H' r→H' r=some (.ins a.aR d (cI ta p' (n+Vacola.leavesKind v)))→p'≤T.length→T.drop p'=s'→kO a H H' t v→Q (.ref t.at) H')→xF a dd vs H Q E
theorem G9{c:Nat}:jr (c:Int)=true↔c=98∨c=105∨c=116:=by
 unfold jr;rw[Bool.or_eq_true,Bool.or_eq_true,decide_eq_true_iff,decide_eq_true_iff,decide_eq_true_iff];omega
theorem M9{f:Addr}{fd:FuncData}{dd k:Nat}(hk3:3≤k)(F:aK K "read_kind" "read_kind" pN f fd)(T:Txt K mg a)(cE:fF P w K mg base a)(c_is_leaf_sign:ao P w K mg base af 1 "is_leaf_sign" ["sign"] (jt jr))
  (c_read_group:ao P w K mg base (bu P w) k "read_group" ["reader","depth"] (nR a dd))(c_read_leaf:ao P w K mg base (bu P w) 3 "read_leaf" ["reader"] (qE a))
  (m_Reader_sign_here:bG P w K mg base af 1 a.aR "sign_here" ["self"] (fW a)):aF P w K mg base (bu P w) (k+1) f fd ["reader","depth"] (xF a dd):=by
 refine F.fU Gm (fun vs H Q E h=>by obtain⟨r,ta,d,T,p,n,dp,rfl,_⟩:=h;rfl) (fun cdv A outer s H vs Q E hr h=>?_);obtain⟨r,ta,d,Tx,p,n,dp,rfl,R,hp,hT,hn,hd6,hdd,q⟩:=h;refine⟨_,(ai (aO (i:=2) Gm.nd rfl (Or.inl rfl) (bR (pv 0) T.bx m_Reader_sign_here (hr.mono (by omega)) az)) (ai (aU (PW.pt (f7 (aY bF (pv 2) (aA T.iW) (aQ _)) (iR (aY bF (pv 2) (aA T.ny) (aQ _))))) (ai (aU (aY bF (pv 1) (aA T.v9) (aQ _)) (aq (cY T cE (hr.mono (by omega)) rfl rfl rfl bN (aa (aA T.vM) (aa (aD (pv 0) rfl) ah)))) aX) (aq (aB (aG c_read_group (hr.mono (by omega)) rfl (dj rfl bN) (aa (pv 0) (aa (bU iU (pv 1) aN) ah)))))) aX) (ai (aU (c9 (aG c_is_leaf_sign (hr.mono (by omega)) rfl az (aa (pv 2) ah))) (aq (aB (aG c_read_leaf (hr.mono (by omega)) rfl (dj rfl bN) (aa (pv 0) ah)))) aX) (aq (cY T cE (hr.mono (by omega)) rfl rfl rfl bN (aa (aA T.fR) (aa (aD (pv 0) rfl) ah))))))),?_⟩;have lp:Tx.length-(Tx.drop p).length=p:=iG hp;refine⟨_,rfl,r,d,_,rfl,R.rd,cG (by decide+kernel),r,ta,d,Tx,p,n,rfl,R,?_⟩;have fault:∀(k:Int)(H':Hp),aI H H'→bA a E H r k p→bA a E H' r k p:=fun k H' s' e=>e.of fun b o h _=>s' b o h
 refine MI (i:=dm Tx p) rfl ?_;rcases gB Tx p with⟨e1,e2⟩|⟨c0,s0,e1,e2,e3,hp'⟩
 ·rw[e2]
  refine⟨_,rfl,-1,rfl,fun z o hz=>⟨_,rfl,?_⟩⟩;rw[e1]at q;have q':bA a E H r 1 ((Tx.length-([]:List Nat).length:Nat):Int):=q;rw[←e1,lp]at q';exact gP T rfl (aM hz _ _ R.rd) (fault 1 _ (aM hz) q')
 rw[e2];by_cases hcs:∃c,c0=Vacola.openSign c
 ·obtain⟨c,rfl⟩:=hcs
  have eb:(decide (((Vacola.openSign c:Nat):Int)=123)||decide (((Vacola.openSign c:Nat):Int)=60))=true:=by cases c<;>rfl
  rw[eb]
  have eO:dZ RF dp n (Tx.drop p)=(if Vacola.DEEP≤dp then Vacola.faultAt 7 (Tx.drop p)else(RF (dp+1) c [] n s0>>=fun y=>.ok (.group c y.1,y.2))):=by
   rw[e1];cases c<;>rfl
  rw[eO]at q;refine⟨_,rfl,rfl,_,rfl,?_⟩;rw[bJ];refine bB (fun c2=>?_) (fun c2=>?_)
  ·have c2':(dp:Int)=6:=of_decide_eq_true c2
   rw[if_pos (by show 6≤dp;omega)]at q;have q':bA a E H r 7 ((Tx.length-(Tx.drop p).length:Nat):Int):=q;rw[lp]at q';exact gP T rfl R.rd q'
  ·have c2':¬(dp:Int)=6:=of_decide_eq_false (Bool.eq_false_iff.mpr c2)
   rw[if_neg (by show¬6≤dp;omega)]at q;refine⟨_,rfl,_,rfl,_,_,rfl,rfl,r,ta,d,Tx,p,n,dp+1,c,s0,rfl,R,hT,hn,by omega,by omega,e1,?_⟩;cases hR:RF (dp+1) c [] n s0 with
   |error e=>rw[hR]at q;exact q
   |ok y=>
    obtain⟨v,s'⟩:=y;rw[hR]at q;exact q
 have h1:c0≠123:=fun z=>hcs ⟨false,z⟩
 have h2:c0≠60:=fun z=>hcs ⟨true,z⟩
 rw[decide_eq_false (show¬(c0:Int)=123 by omega),decide_eq_false (show¬(c0:Int)=60 by omega)];refine⟨_,rfl,(c0:Int),rfl,fun z o hz=>⟨_,rfl,?_⟩⟩
 have eK:dZ RF dp n (Tx.drop p)=(Vacola.readLeaf n (Tx.drop p)).map fun x=>(.leaf x.1,x.2):=by
  rw[e1];unfold dZ;split
  ·rename_i z;cases z;exact absurd rfl h1
  ·rename_i z;cases z;exact absurd rfl h2
  ·rfl
 rw[eK]at q;have s1:aI H (upd H z o):=aM hz;cases hz':jr (c0:Int)with
 |true=>
  have R1:bO a (upd H z o) r ta d Tx p n:=⟨s1 _ _ R.rd,s1 _ _ R.tx⟩;refine⟨_,rfl,r,ta,d,Tx,p,n,rfl,R1,hp,hn,⟨c0,s0,e1,G9.mp hz'⟩,?_⟩;cases hR:Vacola.readLeaf n (Tx.drop p)with
  |error e=>
   rw[hR]at q;have q':bA a E H r (e.kind:Nat) ((Tx.length-e.left:Nat):Int):=q;exact q'.of fun b o h _=>s1 b o h
  |ok y=>
   obtain⟨v,s'⟩:=y;rw[hR]at q;intro H' p' t k1 k2 k3 k4 k5;exact q H' p' t (fun b o h hb=>k1 b o (s1 b o h) hb) k2 k3 k4 ⟨k5.has,k5.kd,k5.nd,fun b hb=>s1.free (k5.fr b hb)⟩
 |false=>
  have hnl:¬(c0=98∨c0=105∨c0=116):=fun y=>by rw[G9.mpr y]at hz';cases hz'
  have eE:Vacola.readLeaf n (Tx.drop p)=.error {kind:=1,left:=(Tx.drop p).length}:=by
   rw[AB,e1];unfold gD;split
   ·rename_i y;cases y;exact absurd (.inl rfl) hnl
   ·rename_i y;cases y;exact absurd (.inr (.inl rfl)) hnl
   ·rename_i y;cases y;exact absurd (.inr (.inr rfl)) hnl
   ·rfl
  rw[eE]at q;have q':bA a E H r 1 ((Tx.length-(Tx.drop p).length:Nat):Int):=q;rw[lp]at q';exact gP T rfl (s1 _ _ R.rd) (fault 1 _ s1 q')
structure G_(a:aH)(H H':Hp)(y:Fi)(x:Vacola.Head×Vacola.Kind):Prop where
 has:bW a H' y
 hd:y.h=x.1
 kd:y.k.kd=x.2
 nd:y.fp.Nodup
 fr:iE H y.fp
inductive qG(a:aH)(dd:Nat)(vs:List V)(H:Hp)(Q:VK)(E:XK):Prop
 |mk:∀r ta d T p n dp g dg fl c t,vs=[.ref r,.ref g,.int ((dp:Nat):Int)]→bO a H r ta d T p n→p≤T.length→T.length≤2000→n≤40→dp≤6→6≤dp+dd→jS a H g dg fl c t→(fX a H r ta d T p n E (fK RF dp c (heads t) n (T.drop p)) fun v s'=>∀H' p' y,Keeps H H' r→H' r=some (.ins a.aR d (cI ta p' (n+Vacola.leavesKind v.2)))→p'≤T.length→T.drop p'=s'→G_ a H H' y v→Q (.ref y.f) H')→qG a dd vs H Q E
theorem Cp{H H1:Hp}{r:Addr}{S:List Addr}(k:Keeps H H1 r)(f:iE H1 S)(hr:∃o,H1 r=some o):iE H S:=fun b hb=>k.free (f b hb) fun z=>by
 obtain⟨o,h⟩:=hr;have:=f b hb;rw[z,h]at this;cases this
theorem qH{H:Hp}{S:List Addr}{b:Addr}{o:HO}(f:iE H S)(h:H b=some o):b∉S:=fun z=>by rw[f b z]at h;cases h
theorem M_{c:Bool}{m:Vacola.Mode}{k:Vacola.Kind}{t:List Nat}(h:t.head?≠some 61):Vacola.readDefault c m k t=.ok (Option.none,t):=by
 unfold Vacola.readDefault;split
 ·rename_i r _
  exact absurd rfl h
 ·rfl
set_option maxHeartbeats 8000000 in
theorem Na{f:Addr}{fd:FuncData}{dd k:Nat}(hk8:8≤k)(F:aK K "read_field" "read_field" pL f fd)(T:Txt K mg a)(cE:fF P w K mg base a)(c_read_number:ao P w K mg base (bu P w) 3 "read_number" ["reader","group"] (qA a))
  (c_read_name:ao P w K mg base (bu P w) 4 "read_name" ["reader","group"] (qC a))(c_read_mode:ao P w K mg base (bu P w) 3 "read_mode" ["reader","group"] (qD a))(c_read_kind:ao P w K mg base (bu P w) k "read_kind" ["reader","depth"] (xF a dd))
  (c_has_key:ao P w K mg base af 3 "has_key" ["kind"] (qz a))(k_Field:dI P w K mg base af 1 "Field" a.cD ["self","number","name","mode","kind","default"] (dz a.cD 5 fun us=>([("number":Str),"name","mode","kind","default"]).zip us))
  (c_read_default:ao P w K mg base (bu P w) 8 "read_default" ["reader","group","field"] (qF a))(m_Reader_sign_here:bG P w K mg base af 1 a.aR "sign_here" ["self"] (fW a)):
  aF P w K mg base (bu P w) (k+1) f fd ["reader","group","depth"] (qG a dd):=by
 refine F.fU lD (fun vs H Q E h=>by obtain⟨r,ta,d,T,p,n,dp,g,dg,fl,c,t,rfl,_⟩:=h;rfl) (fun cdv A outer s H vs Q E hr h=>?_);obtain⟨r,ta,d,Tx,p,n,dp,g,dg,fl,c,t,rfl,R,hp,hT,hn,hd6,hdd,G,q⟩:=h;refine⟨_,(ai (aO (i:=3) lD.nd rfl (Or.inl rfl) (aG c_read_number (hr.mono (by omega)) rfl (dj rfl bN) (aa (pv 0) (aa (pv 1) ah)))) (ai (aO (i:=4) lD.nd rfl (Or.inl rfl) (aG c_read_name (hr.mono (by omega)) rfl (dj rfl bN) (aa (pv 0) (aa (pv 1) ah)))) (ai (aO (i:=5) lD.nd rfl (Or.inl rfl) (aD (pv 0) rfl)) (ai (aO (i:=6) lD.nd rfl (Or.inl rfl) (aG c_read_mode (hr.mono (by omega)) rfl (dj rfl bN) (aa (pv 0) (aa (pv 1) ah)))) (ai (aO (i:=7) lD.nd rfl (Or.inl rfl) (aG c_read_kind (hr.mono (by omega)) rfl (dj rfl bN) (aa (pv 0) (aa (pv 2) ah)))) (ai (aU (PW.pt (j_ (aY bF (pv 6) (aA T.kG) (aQ _)) (j9 (jf (c9 (aG c_has_key (hr.mono (by omega)) rfl az (aa (pv 7) ah))))))) (aq (cY T cE (hr.mono (by omega)) rfl rfl rfl bN (aa (aA T.vL) (aa (pv 5) ah)))) aX) (ai (aO (i:=8) lD.nd rfl (Or.inl rfl) (jM k_Field (hr.mono (by omega)) rfl az (aa (pv 3) (aa (pv 4) (aa (pv 6) (aa (pv 7) (aa jd ah))))))) (ai (aU (aY bF (bR (pv 0) T.bx m_Reader_sign_here (hr.mono (by omega)) az) (aA T.qf) (aQ _)) (aq (cM (pv 8) (aG c_read_default (hr.mono (by omega)) rfl (dj rfl bN) (aa (pv 0) (aa (pv 1) (aa (pv 8) ah)))) rfl)) aX) (aq (aB (pv 8))))))))))),?_⟩;refine⟨_,rfl,_,rfl,r,ta,d,Tx,p,n,g,dg,fl,c,t,rfl,R,hp,G,?_⟩;unfold fK at q;cases h1:Vacola.readNumber (heads t) (Tx.drop p)with
 |error e=>rw[h1]at q;exact q
 |ok x1=>
 obtain⟨v1,t1⟩:=x1;rw[h1,cQ]at q;dsimp only at q;dsimp only[fX];intro H1 p1 K1 r1 l1 d1;have R1:=K1.rd R r1;have G1:=G.keeps R K1;refine⟨_,rfl,_,rfl,r,ta,d,Tx,p1,n,g,dg,fl,c,t,rfl,R1,l1,by omega,G1,?_⟩;rw[d1];cases h2:Vacola.readName (heads t) t1 with
 |error e=>rw[h2]at q;exact bA.of q K1
 |ok x2=>
 obtain⟨v2,t2⟩:=x2;rw[h2,cQ]at q;dsimp only at q;dsimp only[fX];intro H2 p2 nm K2 r2 l2 d2 hnm fnm;have R2:=K2.rd R1 r2;have G2:=G1.keeps R1 K2;refine⟨_,rfl,r,_,d,_,_,rfl,R2.rd,T.bx,T.dX,fV,?_⟩;refine⟨_,rfl,_,rfl,r,ta,d,Tx,p2,n,g,dg,fl,c,t,rfl,R2,l2,G2,?_⟩;rw[d2];cases h3:Vacola.readMode c t2 with
 |error e=>rw[h3]at q;exact bA.of q (K1.trans K2)
 |ok x3=>
 obtain⟨v3,t3⟩:=x3;rw[h3,cQ]at q;dsimp only at q;dsimp only[fX];intro H3 K3 r3 l3 d3;have R3:=K3.rd R2 r3;have G3:=G2.keeps R2 K3;have K03:=(K1.trans K2).trans K3;refine⟨_,rfl,_,rfl,r,ta,d,Tx,p2+1,n,dp,rfl,R3,l3,hT,hn,hd6,hdd,?_⟩;rw[d3];cases h4:dZ RF dp n t3 with
 |error e=>rw[h4]at q;exact bA.of q K03
 |ok x4=>
 obtain⟨v4,t4⟩:=x4;rw[h4,cQ]at q;dsimp only at q;dsimp only[fX];intro H4 p4 tk K4 r4 l4 d4 NK;obtain⟨wk,wn⟩:=Dv (oS (t3.length+1)) (Nat.le_succ _) hd6 hn h4
 have nnil:∀c k fl,tk≠.group c k fl .nil:=fun c k fl z=>by
  have:=NK.kd;rw[z]at this;rw[←this]at wk;exact wk.2.1 rfl
 have R4:bO a H4 r ta d Tx p4 (n+Vacola.leavesKind v4):=K4.rd R3 r4;have G4:=G3.keeps R3 K4;have K04:=K03.trans K4;have nm4:H4 nm=some (.lst (aC v2)):=K4 _ _ (K3 _ _ hnm (fun z=>by rw[z,r2]at hnm;cases hnm)) (fun z=>by rw[z,r2]at hnm;cases hnm);obtain⟨σ1,hσ1⟩:∃σ1:L2.St,σ1=[some (V.ref r),some (V.ref g),some (V.int (dp:Int)),some (V.int (v1:Int)),some (V.ref nm),some (V.int (p2:Int)),some (V.int ((Vacola.showMode v3:Nat):Int)),some (V.ref tk.at),Option.none]:=⟨_,rfl⟩;refine join (fun σ' H'=>σ'=σ1∧aI H4 H'∧¬(v3=.keyed∧(Vacola.keyOf v4).isNone=true)) ?_ (fun N hN=>?_)
 case refine_2=>
  subst hσ1;refine⟨_,rfl,rfl,_,rfl,?_⟩;rw[bJ,GO];by_cases hm:v3=.keyed
  ·rw[decide_eq_true hm]
   refine⟨_,rfl,tk,rfl,NK.has,nnil,fun H' s'=>⟨_,rfl,?_⟩⟩;rw[MR tk nnil,NK.kd];cases hk:Vacola.keyOf v4 with
   |none=>
    rw[if_pos ⟨hm,by rw[hk];rfl⟩]at q;have q':bA a E H r 6 ((Tx.length-t2.length:Nat):Int):=q;rw[←d2,iG l2]at q';exact⟨_,rfl,dO (q'.of (K04.trans fun b o h _=>s' b o h))⟩
   |some y=>exact hN _ _ ⟨rfl,s',fun z=>by rw[hk]at z;cases z.2⟩
  ·rw[decide_eq_false hm]
   exact hN _ _ ⟨rfl,aI.refl H4,fun z=>hm z.1⟩
 rintro σ' H4' ⟨rfl,s4,hnk⟩;subst hσ1;rw[if_neg hnk]at q;have R4':bO a H4' r ta d Tx p4 (n+Vacola.leavesKind v4):=⟨s4 _ _ R4.rd,s4 _ _ R4.tx⟩;have K04':Keeps H H4' r:=K04.trans fun b o h _=>s4 b o h
 refine⟨_,rfl,_,rfl,_,rfl,_,rfl,?_⟩;intro x dx hx hdx hne;refine⟨x,dx,_,rfl,rfl,aj,rfl,?_⟩;rw[dQ];generalize hH5:upd (upd H4' dx (.own x)) x (.ins a.cD dx ((fun us=>([("number":Str),"name","mode","kind","default"]).zip us) ([V.int (v1:Int),V.ref nm,V.int ((Vacola.showMode v3:Nat):Int),V.ref tk.at,V.aP]++[])))=H5;have s5:aI H4' H5:=fun b o h=>by rw[←hH5,au (aV h hx),au (aV h hdx)];exact h
 have x5:H5 x=some (.ins a.cD dx (iC (v1:Int) nm ((Vacola.showMode v3:Nat):Int) tk.at .aP)):=by rw[←hH5];exact aj
 have R5:bO a H5 r ta d Tx p4 (n+Vacola.leavesKind v4):=⟨s5 _ _ R4'.rd,s5 _ _ R4'.tx⟩;have s45:aI H4 H5:=s4.trans s5;have K05:Keeps H H5 r:=K04.trans fun b o h _=>s45 b o h
 have K45:Keeps H4 H5 r:=fun b o h _=>s45 b o h
 have G5:=G4.keeps R4 K45;have tk5:bK a H5 tk:=NK.has.a_ (bZ.of_same s45);have nm5:=s45 _ _ nm4;have hxr:x≠r:=fun z=>by rw[z,R4'.rd]at hx;cases hx
 have hx4:H4 x=Option.none:=s4.free hx;have hxH:H x=Option.none:=K04'.free hx hxr;have frk:iE H tk.fp:=Cp K03 NK.fr ⟨_,r3⟩;have nmk:nm∉tk.fp:=qH NK.fr (K3 _ _ hnm (fun z=>by rw[z,r2]at hnm;cases hnm))
 have xk:x∉tk.fp:=fun z=>by
  obtain⟨o,h,_⟩:=NK.has.obj x z;rw[hx4]at h;cases h
 have xnm:x≠nm:=fun z=>by rw[z,nm4]at hx4;cases hx4
 have hnmH:H nm=Option.none:=K1.free fnm fun z=>by rw[z,r1]at fnm;cases fnm
 have frN:∀(dv:Option Vacola.Lit)(da:Addr),iE H5 (dU dv da)→(x::nm::(dU dv da++tk.fp)).Nodup∧iE H (x::nm::(dU dv da++tk.fp)):=fun dv da fD=>by
  have xda:x∉dU dv da:=qH fD x5;have nda:nm∉dU dv da:=qH fD nm5
  have ndd:(dU dv da).Nodup:=by
   match dv with
   |Option.none=>exact .nil
   |some (.num _)=>exact .nil
   |some (.str _)=>exact List.nodup_cons.mpr ⟨by simp,.nil⟩
  refine⟨List.nodup_cons.mpr ⟨?_,List.nodup_cons.mpr ⟨?_,List.nodup_append.mpr ⟨ndd,NK.nd,fun b hb b' hb' e=>?_⟩⟩⟩,fun b hb=>?_⟩
  ·rw[List.mem_cons,List.mem_append]
   rintro(z|z|z)
   ·exact xnm z
   ·exact xda z
   ·exact xk z
  ·rw[List.mem_append]
   rintro(z|z)
   ·exact nda z
   ·exact nmk z
  ·obtain⟨o,h,_⟩:=tk5.obj b' hb'
   rw[←e,fD b hb]at h;cases h
  ·rcases List.mem_cons.mp hb with z|hb
   ·rw[z];exact hxH
   rcases List.mem_cons.mp hb with z|hb
   ·rw[z];exact hnmH
   rcases List.mem_append.mp hb with z|z
   ·exact(Cp K05 fD ⟨_,R5.rd⟩) b z
   ·exact frk b z
 refine⟨_,rfl,r,d,_,rfl,R5.rd,cG (by decide+kernel),r,ta,d,Tx,p4,n+Vacola.leavesKind v4,rfl,R5,rfl,_,rfl,?_⟩;rw[bJ]
 have no:dm Tx p4≠61→gq 8 ([some (V.ref r),some (V.ref g),some (V.int (dp:Int)),some (V.int (v1:Int)),some (V.ref nm),some (V.int (p2:Int)),some (V.int ((Vacola.showMode v3:Nat):Int)),some (V.ref tk.at),some (V.ref x)]:L2.St) H5 Q:=fun z=>by
  have eD:Vacola.readDefault c v3 v4 t4=.ok (Option.none,t4):=M_ (by
   rw[←d4];rcases gB Tx p4 with⟨e1,_⟩|⟨c0,s0,e1,e2,_⟩
   ·rw[e1];simp
   ·rw[e1]
    intro y;cases y;rw[e2]at z;exact z rfl)
  rw[eD,cQ]at q;dsimp only[fX]at q;obtain⟨n1,n2⟩:=frN Option.none 0 (fun _ z=>by cases z);exact⟨_,rfl,q H5 p4 ⟨{number:=v1,name:=v2,mode:=v3,dflt:=Option.none},x,nm,0,tk⟩ K05 R5.rd l4 d4 ⟨⟨⟨dx,x5⟩,nm5,trivial,tk5⟩,rfl,NK.kd,n1,n2⟩⟩
 rcases gB Tx p4 with⟨e1,e2⟩|⟨c0,s0,e1,e2,e3,hp'⟩
 ·rw[e2]
  exact no (by rw[e2];decide)
 ·rw[e2]
  by_cases h61:c0=61
  ·subst h61
   refine⟨_,rfl,_,rfl,_,rfl,r,ta,d,Tx,p4,n+Vacola.leavesKind v4,g,dg,fl,c,t,x,dx,(v1:Int),nm,v3,tk,s0,rfl,R5,e1,by omega,G5,x5,tk5,(fun l hl=>by rw[NK.kd]at hl;rw[hl]at wk;exact wk),?_⟩;rw[NK.kd,d4];cases h5:Vacola.readDefault c v3 v4 t4 with
   |error e=>rw[h5]at q;exact bA.of q K05
   |ok x5'=>
    obtain⟨v5,t5⟩:=x5';rw[h5,cQ]at q;dsimp only[fX]at q⊢;intro H6 p6 da K56 r6 l6 d6 hD6 fD;have x6:H6 x=some (.ins a.cD dx (iC (v1:Int) nm ((Vacola.showMode v3:Nat):Int) tk.at .aP)):=K56 _ _ x5 hxr;refine⟨_,rfl,x,_,dx,_,rfl,x6,T.bC,T.iY,(by show 5<1000;decide),?_⟩;obtain⟨n1,n2⟩:=frN v5 da fD;have xda:x∉dU v5 da:=qH fD x5;refine⟨_,rfl,q _ p6 ⟨{number:=v1,name:=v2,mode:=v3,dflt:=v5},x,nm,da,tk⟩ ((K05.trans K56).i0 hxH) ?_ l6 d6 ⟨⟨⟨dx,aj⟩,?_,?_,?_⟩,rfl,NK.kd,n1,n2⟩⟩
    ·rw[au (Ne.symm hxr)];exact r6
    ·rw[au (Ne.symm xnm)];exact K56 _ _ nm5 (fun z=>by rw[z,R5.rd]at nm5;cases nm5)
    ·refine hD6.a_ ⟨fun b hb o h=>?_⟩
     rw[au (fun z=>xda (by rw[←z];exact hb))];exact h
    ·refine(tk5.keeps R5 K56).a_ ⟨fun b hb o h=>?_⟩
     rw[au (fun z=>xk (by rw[←z];exact hb))];exact h
  ·rw[decide_eq_false (show¬(c0:Int)=61 by omega)]
   exact no (by rw[e2];omega)
theorem Cq:∀f g:Vacola.Fields,Vacola.leavesFields (c6 f g)=Vacola.leavesFields f+Vacola.leavesFields g
 |.nil,g=>by simp[c6,Vacola.leavesFields]
 |.cons h k r,g=>by rw[c6,Vacola.leavesFields,Vacola.leavesFields,Cq r g];omega
def mapR(fs:Vacola.Fields)(x:Except Vacola.Fault (Vacola.Fields×List Nat)):Except Vacola.Fault (Vacola.Fields×List Nat):=match x with
 |.error e=>.error e
 |.ok (r,s)=>.ok (c6 fs r,s)
theorem fh.snoc{H:Hp}{t:TF}{y:Fi}(h:fh a H t)(hy:bW a H y):fh a H (t.snoc y):=by
 rw[dY]at h⊢;rw[TF.mK];intro x hx;rcases List.mem_append.mp hx with z|z
 ·exact h x z
 ·rw[List.mem_singleton.mp z];exact hy
structure jT(a:aH)(H H':Hp)(r ta d g dg fl:Addr)(c:Bool)(T:List Nat)(p n:Nat)(t:TF):Prop where
 kp:Keeps H H' r
 rd:H' r=some (.ins a.aR d (cI ta p (n+Vacola.leavesFields t.fs)))
 gr:jS a H' g dg fl c t
 nd:(g::fl::t.fp).Nodup
 fr:iE H (g::fl::t.fp)
 le:p≤T.length
 sz:t.items.length≤p
 lv:n+Vacola.leavesFields t.fs≤40
theorem jT.app{H H1 H2:Hp}{r ta d g dg fl:Addr}{c:Bool}{T:List Nat}{p p' n:Nat}{t:TF}{y:Fi}{x:Vacola.Head×Vacola.Kind}(R:bO a H r ta d T 0 0∨∃p0 n0,bO a H r ta d T p0 n0)(B:jT a H H1 r ta d g dg fl c T p n t)(K2:Keeps H1 H2 r)
  (r2:H2 r=some (.ins a.aR d (cI ta p' (n+Vacola.leavesFields t.fs+Vacola.leavesKind x.2))))(hp:p<p')(hle:p'≤T.length)(hl:n+Vacola.leavesFields t.fs+Vacola.leavesKind x.2≤40)(N:G_ a H1 H2 y x):
  jT a H (upd H2 fl (.lst ((t.as.map V.ref)++[V.ref y.f]))) r ta d g dg fl c T p' n (t.snoc y):=by
 have R1:bO a H1 r ta d T p (n+Vacola.leavesFields t.fs):=by
  rcases R with R|⟨p0,n0,R⟩
  ·exact B.kp.rd R B.rd
  ·exact B.kp.rd R B.rd
 have G2:=B.gr.keeps R1 K2;have flr:fl≠r:=fun z=>by have:=B.gr.ls;rw[z,B.rd]at this;cases this
 have fly:fl∉y.fp:=qH N.fr B.gr.ls;have fq:fl∉t.fp:=(List.nodup_cons.mp (List.nodup_cons.mp B.nd).2).1;have gfl:g≠fl:=fun z=>(List.nodup_cons.mp B.nd).1 (by rw[z];simp)
 have hfl:H fl=Option.none:=B.fr fl (by simp)
 have lv:Vacola.leavesFields (t.snoc y).fs=Vacola.leavesFields t.fs+Vacola.leavesKind x.2:=by
  rw[TF.Dj,Cq,N.kd];simp[Vacola.leavesFields]
 refine⟨(B.kp.trans K2).i0 hfl,?_,⟨?_,?_,?_⟩,?_,?_,hle,?_,?_⟩
 ·rw[au (Ne.symm flr),lv,←Nat.add_assoc];exact r2
 ·rw[au gfl];exact G2.gr
 ·rw[aj,TF.Ir,List.map_append];rfl
 ·refine(G2.fs.a_ ⟨fun b hb o h=>?_⟩).snoc (N.has.a_ ⟨fun b hb o h=>?_⟩)
  ·rw[au (fun z=>fq (by rw[←z];exact hb))];exact h
  ·rw[au (fun z=>fly (by rw[←z];exact hb))];exact h
 ·rw[TF.Dh]
  have e:g::fl::(t.fp++y.fp)=(g::fl::t.fp)++y.fp:=rfl;rw[e];refine List.nodup_append.mpr ⟨B.nd,N.nd,fun b hb b' hb' z=>?_⟩;have hf:=N.fr b' hb';rw[←z]at hf;rcases List.mem_cons.mp hb with w|hb
  ·rw[w,B.gr.gr]at hf;cases hf
  rcases List.mem_cons.mp hb with w|hb
  ·rw[w,B.gr.ls]at hf;cases hf
  ·obtain⟨o,h,_⟩:=B.gr.fs.obj b hb
   rw[h]at hf;cases hf
 ·rw[TF.Dh]
  intro b hb;have hb':b∈(g::fl::t.fp)++y.fp:=hb;rcases List.mem_append.mp hb' with w|w
  ·exact B.fr b w
  ·exact(Cp B.kp N.fr ⟨_,B.rd⟩) b w
 ·rw[TF.mK,List.length_append]
  have:=B.sz;show t.items.length+1≤p';omega
 ·rw[lv];omega
theorem Nb{c:Bool}:(if decide (((Vacola.openSign c:Nat):Int)=123)=true then(125:Int)else 62)=((Vacola.closeSign c:Nat):Int):=by cases c<;>rfl
theorem Nc(f g:Vacola.Fields)(x:Except Vacola.Fault (Vacola.Fields×List Nat)):mapR f (mapR g x)=mapR (c6 f g) x:=by
 cases x with
 |error e=>rfl
 |ok y=>obtain⟨r,s⟩:=y;show Except.ok _=Except.ok _;rw[Di]
theorem Nd(x:Except Vacola.Fault (Vacola.Fields×List Nat)):mapR .nil x=x:=by
 cases x with
 |error e=>rfl
 |ok y=>rfl
theorem Nf{dp:Nat}{c:Bool}{b:List Vacola.Head}{u:Nat}{t s:List Nat}{x:Vacola.Head×Vacola.Kind}(h:fK RF dp c b u t=.ok (x,s)):RF dp c b u t=mapR (.cons x.1 x.2 .nil) (dS RF dp c (x.1::b) (u+Vacola.leavesKind x.2) s):=by
 rw[mG];unfold iK;rw[h,cQ];dsimp only;cases dS RF dp c (x.1::b) (u+Vacola.leavesKind x.2) s with
 |error e=>rfl
 |ok y=>obtain⟨r,s⟩:=y;rfl
theorem Ng{dp:Nat}{c:Bool}{b:List Vacola.Head}{u:Nat}{t:List Nat}{e:Vacola.Fault}(h:fK RF dp c b u t=.error e):RF dp c b u t=.error e:=by
 rw[mG];unfold iK;rw[h];rfl
theorem Nh{dp:Nat}{c:Bool}{b:List Vacola.Head}{u:Nat}:dS RF dp c b u []=Vacola.faultAt 1 []:=rfl
theorem Ni{dp:Nat}{c:Bool}{b:List Vacola.Head}{u:Nat}{s:List Nat}:dS RF dp c b u (59::s)=RF dp c b u s:=rfl
theorem Nj{dp:Nat}{c:Bool}{b:List Vacola.Head}{u:Nat}{s:List Nat}:dS RF dp c b u (Vacola.closeSign c::s)=.ok (.nil,s):=by cases c<;>rfl
theorem Nk{dp:Nat}{c:Bool}{b:List Vacola.Head}{u c0:Nat}{s:List Nat}(h1:c0≠59)(h2:c0≠Vacola.closeSign c):dS RF dp c b u (c0::s)=Vacola.faultAt 1 (c0::s):=by
 unfold dS;dsimp only;rw[if_neg h1,if_neg h2]
theorem Hf{dd:Nat}{H H1:Hp}{r ta d g dg fl:Addr}{c:Bool}{Tx:List Nat}{p0 n0 p1 n dp:Nat}{t:TF}{cl:Int}{s0:List Nat}{E:XK}{D:Ends}(T:Txt K mg a)(R:bO a H r ta d Tx p0 n0)(B:jT a H H1 r ta d g dg fl c Tx p1 n t)(hT:Tx.length≤2000)(hd6:dp≤6)(hdd:6≤dp+dd)
  (eq:RF dp c [] n s0=mapR t.fs (RF dp c (heads t) (n+Vacola.leavesFields t.fs) (Tx.drop p1)))
  (bad:∀e,RF dp c [] n s0=.error e→bA a E H r (e.kind:Nat) ((Tx.length-e.left:Nat):Int))
  (nx:∀H2 p2 t2,p1<p2→jT a H H2 r ta d g dg fl c Tx p2 n t2→t2.items≠[]→RF dp c [] n s0=mapR t2.fs (dS RF dp c (heads t2) (n+Vacola.leavesFields t2.fs) (Tx.drop p2))→D.nx [some (V.ref r),some (V.int (dp:Int)),some (V.ref g),some (V.int cl)] H2):
  EF (Fo K "list" BE (sY K (gq 2) "fields") (kr (Bq (qG a dd) [] E (kr (gq 0) (kr (gq 2) (kr (gq 1) kq)))) kq)) D [some (V.ref r),some (V.int (dp:Int)),some (V.ref g),some (V.int cl)] H1:=by
 have R1:bO a H1 r ta d Tx p1 (n+Vacola.leavesFields t.fs):=B.kp.rd R B.rd;refine⟨_,rfl,g,_,dg,_,_,rfl,B.gr.gr,T.bI,T.c8,eU,.inl ⟨rfl,_,ay.of B.gr.ls⟩,?_⟩;refine⟨_,rfl,_,rfl,_,rfl,r,ta,d,Tx,p1,n+Vacola.leavesFields t.fs,dp,g,dg,fl,c,t,rfl,R1,B.le,hT,B.lv,hd6,hdd,B.gr,?_⟩;cases hO:fK RF dp c (heads t) (n+Vacola.leavesFields t.fs) (Tx.drop p1)with
 |error e=>
  have z:=bad e (by rw[eq,Ng hO];rfl);exact z.of B.kp
 |ok y=>
  obtain⟨x,s'⟩:=y;dsimp only[fX];intro H2 p2 y K2 r2 l2 d2 N;have G2:=B.gr.keeps R1 K2;refine⟨fl,_,_,rfl,rfl,G2.ls,?_,?_⟩
  ·rw[List.length_map,TF.i_,sizeLine_eq]
   have:=B.sz;have:=B.le;omega
  ·have hlt:p1<p2:=by
    have:=mF rS hO;rw[←d2,List.length_drop,List.length_drop]at this;omega
   have w:=(Dy (oS ((Tx.drop p1).length+1)) (Nat.le_succ _) hd6 B.lv hO).2.2.2;refine nx _ p2 (t.snoc y) hlt (B.app (.inr ⟨_,_,R⟩) K2 r2 hlt l2 w N) (by rw[TF.mK];simp) ?_;rw[eq,Nf hO,Nc,TF.Dj,MU,N.hd,N.kd,Cq,d2];simp[Vacola.leavesFields,Nat.add_assoc]
theorem Nl{f:Addr}{fd:FuncData}{dd k:Nat}(hk:3≤k)(F:aK K "read_group" "read_group" pK f fd)(T:Txt K mg a)(cE:fF P w K mg base a)(c_read_field:ao P w K mg base (bu P w) k "read_field" ["reader","group","depth"] (qG a dd))
  (k_Kind:dI P w K mg base af 1 "Kind" a.b7 ["self","sign","size","fields"] (dz a.b7 3 fun us=>([("sign":Str),"size","fields"]).zip us))
  (m_Reader_sign_here:bG P w K mg base af 1 a.aR "sign_here" ["self"] (fW a))(m_Reader_skip_sign:bG P w K mg base af 1 a.aR "skip_sign" ["self"] (gz a)):
  aF P w K mg base (bu P w) (k+1) f fd ["reader","depth"] (nR a (dd+1)):=by
 refine F.fU B9 (fun vs H Q E h=>by obtain⟨r,ta,d,T,p,n,dp,c,s,rfl,_⟩:=h;rfl) (fun cdv A outer s H vs Q E hr h=>?_);obtain⟨r,ta,d,Tx,p,n,dp,c,s0,rfl,R,hT,hn,hd6,hdd,e1,q⟩:=h;refine⟨_,(ai (aO (i:=2) B9.nd rfl (Or.inl rfl) (jM k_Kind (hr.mono (by omega)) rfl az (aa (bR (pv 0) T.bx m_Reader_sign_here (hr.mono (by omega)) az) (aa aN (aa (bM ah) ah))))) (ai (aO (i:=3) B9.nd rfl (Or.inl rfl) (A9 (aY bF (aD (pv 2) rfl) (aA T.iW) (aQ _)) (aA T.lF) (aA T.qd))) (ai (bS (bR (pv 0) T.bx m_Reader_skip_sign (hr.mono (by omega)) az)) (ai (bS (eB PySem.F.plainAttrs_list PySem.F.slot_list_append PySem.F.type_list_append gb (aD (pv 2) rfl) (aa (aG c_read_field (hr.mono (by omega)) rfl (dj rfl bN) (aa (pv 0) (aa (pv 2) (aa (pv 1) ah)))) ah))) (ai (mT BV (aY bF (bR (pv 0) T.bx m_Reader_sign_here (hr.mono (by omega)) az) (aA T.qe) (aQ _)) (ai (bS (bR (pv 0) T.bx m_Reader_skip_sign (hr.mono (by omega)) az)) (aq (bS (eB PySem.F.plainAttrs_list PySem.F.slot_list_append PySem.F.type_list_append gb (aD (pv 2) rfl) (aa (aG c_read_field (hr.mono (by omega)) rfl (dj rfl bN) (aa (pv 0) (aa (pv 2) (aa (pv 1) ah)))) ah)))))) (ai (aU (aY f9 (bR (pv 0) T.bx m_Reader_sign_here (hr.mono (by omega)) az) (pv 3) (aQ _)) (aq (cY T cE (hr.mono (by omega)) rfl rfl rfl bN (aa (aA T.fR) (aa (aD (pv 0) rfl) ah)))) aX) (ai (bS (bR (pv 0) T.bx m_Reader_skip_sign (hr.mono (by omega)) az)) (aq (aB (pv 2)))))))))),?_⟩
 obtain⟨e2,e3,hp⟩:dm Tx p=((Vacola.openSign c:Nat):Int)∧Tx.drop (p+1)=s0∧p<Tx.length:=by
  rcases gB Tx p with⟨z1,_⟩|⟨c1,s1,z1,z2,z3,z4⟩
  ·rw[e1]at z1;cases z1
  ·rw[e1]at z1;cases z1;exact⟨z2,z3,z4⟩
 have bad:∀e,RF dp c [] n s0=.error e→bA a E H r (e.kind:Nat) ((Tx.length-e.left:Nat):Int):=fun e he=>by rw[he]at q;exact q
 refine⟨_,rfl,r,d,_,rfl,R.rd,cG (by decide+kernel),r,ta,d,Tx,p,n,rfl,R,Nat.zero_le _,fun fl hfl=>?_⟩;rw[e2];intro g dg hg hdg hne;refine⟨g,dg,_,rfl,rfl,aj,rfl,?_⟩;rw[dQ];generalize hH1:upd (upd (upd H fl (.lst [])) dg (.own g)) g (.ins a.b7 dg ((fun us=>([("sign":Str),"size","fields"]).zip us) ([V.int ((Vacola.openSign c:Nat):Int),V.int 0,V.ref fl]++[])))=H1;have gfl:g≠fl:=fun z=>by rw[z,aj]at hg;cases hg
 have dfl:dg≠fl:=fun z=>by rw[z,aj]at hdg;cases hdg
 have hgH:H g=Option.none:=by rw[au gfl]at hg;exact hg
 have hdH:H dg=Option.none:=by rw[au dfl]at hdg;exact hdg
 have s1:aI H H1:=fun b o h=>by rw[←hH1,au (aV h hgH),au (aV h hdH),au (aV h hfl)];exact h
 have g1:H1 g=some (.ins a.b7 dg (gA ((Vacola.openSign c:Nat):Int) 0 fl)):=by rw[←hH1];exact aj
 have f1:H1 fl=some (.lst []):=by rw[←hH1,au (Ne.symm gfl),au (Ne.symm dfl)];exact aj
 have R1:bO a H1 r ta d Tx p n:=⟨s1 _ _ R.rd,s1 _ _ R.tx⟩;refine⟨_,rfl,g,_,dg,_,_,rfl,g1,T.bI,T.e9,gi,rfl,_,rfl,?_⟩;rw[bJ];have eC:=Nb (c:=c)
 suffices hh:∀z:Int,z=((Vacola.closeSign c:Nat):Int)→lu 3 (V.int z) _ H1 _ by
  refine bB (fun c2=>?_) (fun c2=>?_)
  ·rw[if_pos c2]at eC;exact hh _ eC
  ·rw[if_neg c2]at eC;exact hh _ eC
 rintro z rfl;refine⟨_,rfl,r,d,_,rfl,R1.rd,cG (by decide+kernel),r,ta,d,Tx,p,n,rfl,R1,?_⟩;generalize hH2:bw a H1 r ta d (p+1) n=H2;have K2:Keeps H H2 r:=fun b o h hb=>by rw[←hH2];exact Keeps.bw H1 r ta d (p+1) n b o (s1 b o h) hb
 have gr:g≠r:=iO g1 R1.rd (Ne.symm GP);have flr:fl≠r:=iO f1 R1.rd (by intro z;cases z);have r2:H2 r=some (.ins a.aR d (cI ta (p+1) n)):=by rw[←hH2];exact aj
 have B:jT a H H2 r ta d g dg fl c Tx (p+1) n .nil:=by
  refine⟨K2,r2,⟨?_,?_,trivial⟩,?_,?_,by omega,Nat.zero_le _,?_⟩
  ·rw[←hH2];exact Keeps.bw H1 r ta d (p+1) n _ _ g1 gr
  ·rw[←hH2];exact Keeps.bw H1 r ta d (p+1) n _ _ f1 flr
  ·show[g,fl].Nodup
   simp[gfl]
  ·intro b hb
   rcases List.mem_cons.mp hb with z|z
   ·rw[z];exact hgH
   ·rw[List.mem_singleton.mp (show b∈[fl]from z)];exact hfl
  ·show n+0≤40
   omega
 refine Hf T R B hT hd6 (by omega) (by rw[e3];exact(Nd _).symm) bad fun H3 p3 t3 hp3 B3 ne3 eq3=>?_
 refine⟨fun m σ H'=>∃p1 t,m=Tx.length-p1∧σ=[some (V.ref r),some (V.int (dp:Int)),some (V.ref g),some (V.int ((Vacola.closeSign c:Nat):Int))]∧jT a H H' r ta d g dg fl c Tx p1 n t∧t.items≠[]∧
  RF dp c [] n s0=mapR t.fs (dS RF dp c (heads t) (n+Vacola.leavesFields t.fs) (Tx.drop p1)),⟨_,p3,t3,rfl,rfl,B3,ne3,eq3⟩,?_⟩
 rintro m σ H' ⟨p1,t,rfl,rfl,B1,ne1,eq1⟩;have R4:bO a H' r ta d Tx p1 (n+Vacola.leavesFields t.fs):=B1.kp.rd R B1.rd;refine⟨_,rfl,r,d,_,rfl,R4.rd,cG (by decide+kernel),r,ta,d,Tx,p1,n+Vacola.leavesFields t.fs,rfl,R4,rfl,_,rfl,?_⟩;rw[bJ];refine bB (fun c2=>?_) (fun c2=>?_)
 ·have c2':dm Tx p1=59:=of_decide_eq_true c2
  rcases gB Tx p1 with⟨z1,z2⟩|⟨c0,s1',z1,z2,z3,hp'⟩
  ·rw[z2]at c2';cases c2'
  ·have h59:c0=59:=by rw[z2]at c2';omega
   subst h59;rw[z1,Ni]at eq1
   refine⟨fun σ' H2=>∃p2 t2,p1<p2∧σ'=[some (V.ref r),some (V.int (dp:Int)),some (V.ref g),some (V.int ((Vacola.closeSign c:Nat):Int))]∧jT a H H2 r ta d g dg fl c Tx p2 n t2∧t2.items≠[]∧
    RF dp c [] n s0=mapR t2.fs (dS RF dp c (heads t2) (n+Vacola.leavesFields t2.fs) (Tx.drop p2)),?_,?_⟩
   ·rintro σ' H2 ⟨p2,t2,hlt,rfl,B2,ne2,eq2⟩
    have:=B2.le;exact⟨_,by omega,p2,t2,rfl,rfl,B2,ne2,eq2⟩
   ·refine⟨_,rfl,r,d,_,rfl,R4.rd,cG (by decide+kernel),r,ta,d,Tx,p1,n+Vacola.leavesFields t.fs,rfl,R4,?_⟩
    have K5:=Keeps.bw (a:=a) H' r ta d (p1+1) (n+Vacola.leavesFields t.fs);have B5:jT a H (bw a H' r ta d (p1+1) (n+Vacola.leavesFields t.fs)) r ta d g dg fl c Tx (p1+1) n t:=⟨B1.kp.trans K5,aj,B1.gr.keeps R4 K5,B1.nd,B1.fr,by omega,Nat.le_succ_of_le B1.sz,B1.lv⟩;refine Hf T R B5 hT hd6 (by omega) (by rw[z3];exact eq1) bad fun H3 p3 t3 hp3 B3 ne3 eq3=>⟨p3,t3,by omega,rfl,B3,ne3,eq3⟩
 ·have hne:dm Tx p1≠59:=of_decide_eq_false (Bool.eq_false_iff.mpr c2)
  refine⟨_,rfl,r,d,_,rfl,R4.rd,cG (by decide+kernel),r,ta,d,Tx,p1,n+Vacola.leavesFields t.fs,rfl,R4,_,rfl,rfl,_,rfl,?_⟩;rw[ia];have lp:Tx.length-(Tx.drop p1).length=p1:=iG B1.le;rcases gB Tx p1 with⟨z1,z2⟩|⟨c0,s1',z1,z2,z3,hp'⟩
  ·rw[z1,Nh]at eq1
   have q':=bad _ eq1;have q'':bA a E H r 1 ((Tx.length-([]:List Nat).length:Nat):Int):=q';rw[←z1,lp]at q'';rw[z2];rw[decide_eq_true (show(-1:Int)≠_ by omega)];exact gP T rfl R4.rd (q''.of B1.kp)
  ·rw[z1]at eq1 lp
   have h59:c0≠59:=fun z=>hne (by rw[z2,z];rfl)
   rw[z2];by_cases hcl:c0=Vacola.closeSign c
   ·subst hcl
    rw[Nj]at eq1;rw[decide_eq_false (fun z=>z rfl)];refine⟨_,rfl,r,d,_,rfl,R4.rd,cG (by decide+kernel),r,ta,d,Tx,p1,n+Vacola.leavesFields t.fs,rfl,R4,⟨_,rfl,?_⟩⟩;rw[eq1]at q;have q:∀H' p' t',_:=q;have K5:=Keeps.bw (a:=a) H' r ta d (p1+1) (n+Vacola.leavesFields t.fs);have G5:=B1.gr.keeps R4 K5;refine q _ (p1+1) (.group c g fl t) (B1.kp.trans K5) ?_ (by omega) z3 ⟨⟨⟨dg,G5.gr⟩,G5.ls,G5.fs⟩,?_,B1.nd,B1.fr⟩
    ·rw[rY];exact aj
    ·rw[rY];rfl
   ·rw[Nk h59 hcl]at eq1
    have q':=bad _ eq1;have q'':bA a E H r 1 ((Tx.length-(c0::s1').length:Nat):Int):=q';rw[lp]at q'';rw[decide_eq_true (show(c0:Int)≠_ by omega)];exact gP T rfl R4.rd (q''.of B1.kp)
end Vp
end
namespace L2
open PySem PySem.Spec PyProof.Rows
structure aZ(K:PySem.W.Frag)(mg:Str→Option Value)(x:Str)(st:Stmt)(ps:List Str):Prop where
 ex:∃f fd,aK K x x st f fd∧Binds K fd ps []∧PySem.W.keepIn K (.ref f)=true∧mg x=some (.ref f)
structure ie(K:PySem.W.Frag)(C:Addr)(m qual:Str)(st:Stmt)(ps:List Str):Prop where
 ex:∃f fd,aK K m qual st f fd∧Binds K fd ps []∧Meth K C m f
structure jU(K:PySem.W.Frag)(mg:Str→Option Value)(x:Str)(C:Addr)(qual:Str)(st:Stmt)(ps:List Str):Prop where
 ex:∃f fd,aK K "__init__" qual st f fd∧Binds K fd ps []∧Mk K C f∧mg x=some (.ref C)
section
variable{P:Program}{w:World}{K:PySem.W.Frag}{mg:Str→Option Value}{base:Heap}{CX:f_}{k:Nat}{sp:Sp}
theorem aZ.aJ{x:Str}{st:Stmt}{ps:List Str}(D:aZ K mg x st ps)(h:∀f fd,aK K x x st f fd→aF P w K mg base CX k f fd ps sp):ao P w K mg base CX k x ps sp:=by
 obtain⟨f,fd,F,b,kp,m⟩:=D.ex;exact⟨f,fd,h f fd F,b,kp,m⟩
theorem ie.aJ{C:Addr}{x qual:Str}{st:Stmt}{ps:List Str}(D:ie K C x qual st ps)(h:∀f fd,aK K x qual st f fd→aF P w K mg base CX k f fd ps sp):bG P w K mg base CX k C x ps sp:=by
 obtain⟨f,fd,F,b,m⟩:=D.ex;exact⟨f,fd,h f fd F,b,m⟩
theorem jU.aJ{x:Str}{C:Addr}{qual:Str}{st:Stmt}{ps:List Str}(D:jU K mg x C qual st ps)(h:∀f fd,aK K "__init__" qual st f fd→aF P w K mg base CX k f fd ps sp):dI P w K mg base CX k x C ps sp:=by
 obtain⟨f,fd,F,b,m,g⟩:=D.ex;exact⟨f,fd,h f fd F,b,m,g⟩
theorem xG{f:Addr}{fd:FuncData}{ps:List Str}(h:∀vs H Q E,¬sp vs H Q E):aF P w K mg base CX k f fd ps sp:=⟨fun _ _ _ _ z=>(h _ _ _ _ z).elim,fun _ _ _ _ _ _ _ _ _ _ _ _ _ z=>(h _ _ _ _ z).elim⟩
theorem Nm{X:Cx}:Reach X (fun _ _ _=>False):=fun _ _ _ _ _ _ _ _ h=>h.elim
end
end L2
namespace Vp
open PySem PySem.Spec PyProof.Rows L2
variable{P:Program}{w:World}{K:PySem.W.Frag}{mg:Str→Option Value}{base:Heap}{a:aH}
theorem Hg(T:Txt K mg a)(cE:fF P w K mg base a)(D1:aZ K mg "read_group" pK ["reader","depth"])(D2:aZ K mg "read_field" pL ["reader","group","depth"])(D3:aZ K mg "read_kind" pN ["reader","depth"])
  (c_is_leaf_sign:ao P w K mg base af 1 "is_leaf_sign" ["sign"] (jt jr))(c_read_leaf:ao P w K mg base (bu P w) 3 "read_leaf" ["reader"] (qE a))(c_read_number:ao P w K mg base (bu P w) 3 "read_number" ["reader","group"] (qA a))
  (c_read_name:ao P w K mg base (bu P w) 4 "read_name" ["reader","group"] (qC a))(c_read_mode:ao P w K mg base (bu P w) 3 "read_mode" ["reader","group"] (qD a))(c_has_key:ao P w K mg base af 3 "has_key" ["kind"] (qz a))
  (k_Field:dI P w K mg base af 1 "Field" a.cD ["self","number","name","mode","kind","default"] (dz a.cD 5 fun us=>([("number":Str),"name","mode","kind","default"]).zip us))
  (k_Kind:dI P w K mg base af 1 "Kind" a.b7 ["self","sign","size","fields"] (dz a.b7 3 fun us=>([("sign":Str),"size","fields"]).zip us))
  (c_read_default:ao P w K mg base (bu P w) 8 "read_default" ["reader","group","field"] (qF a))
  (m_Reader_sign_here:bG P w K mg base af 1 a.aR "sign_here" ["self"] (fW a))(m_Reader_skip_sign:bG P w K mg base af 1 a.aR "skip_sign" ["self"] (gz a)):
  ∀dd,ao P w K mg base (bu P w) (8+3*dd) "read_group" ["reader","depth"] (nR a dd)
 |0=>D1.aJ fun f fd _=>xG fun vs H Q E h=>by
  obtain⟨r,ta,d,T,p,n,dp,c,s,rfl,_,_,_,h1,h2,_⟩:=h;omega
 |dd+1=>by
  have ih:=Hg T cE D1 D2 D3 c_is_leaf_sign c_read_leaf c_read_number c_read_name c_read_mode c_has_key k_Field k_Kind c_read_default m_Reader_sign_here m_Reader_skip_sign dd;have ck:ao P w K mg base (bu P w) (8+3*dd+1) "read_kind" ["reader","depth"] (xF a dd):=D3.aJ fun f fd F=>M9 (by omega) F T cE c_is_leaf_sign ih c_read_leaf m_Reader_sign_here
  have cf:ao P w K mg base (bu P w) (8+3*dd+1+1) "read_field" ["reader","group","depth"] (qG a dd):=D2.aJ fun f fd F=>Na (by omega) F T cE c_read_number c_read_name c_read_mode ck c_has_key k_Field c_read_default m_Reader_sign_here
  have cg:ao P w K mg base (bu P w) (8+3*dd+1+1+1) "read_group" ["reader","depth"] (nR a (dd+1)):=D1.aJ fun f fd F=>Nl (by omega) F T cE cf k_Kind m_Reader_sign_here m_Reader_skip_sign
  have e:8+3*(dd+1)=8+3*dd+1+1+1:=by omega
  rw[e];exact cg
def kP(a:aH)(E:XK)(H:Hp)(k p:Int):Prop:=∀H' d,aI H H'→H' d=some (XD d (fq (.int k) (.int p)))→E (.ref a.dJ) (some d) H'
theorem kP.err{E:XK}{H H1:Hp}{r:Addr}{k p:Int}(h:kP a E H k p)(s:aI H H1)(hr:H r=Option.none):bA a E H1 r k p:=fun H' d y z=>h H' d (fun b o q=>y b o (s b o q) (aV q hr)) z
theorem Np{E:XK}{H1:Hp}{k p:Int}(h:kP a E H1 k p):([V.int k,V.int p]:List V).length≤sizeLine∧∀e tp,H1 e=Option.none→
  kM a (.ref e::[V.int k,V.int p]) (upd H1 e (XO e a.dJ tp Option.none)) (fun v H2=>v=.aP∧∃d,H2 e=some (XO e a.dJ tp (some d))∧E (.ref a.dJ) (some d) (fQ H2 e)) fun _ _ _=>False:=by
 refine⟨by show 2≤sizeLine;decide,fun e tp he=>⟨e,_,_,tp,rfl,aj,fun d hd hde=>⟨rfl,d,aj,?_⟩⟩⟩;have hd':H1 d=Option.none:=by rw[au hde]at hd;exact hd
 have e1:fQ (upd (upd (upd H1 e (XO e a.dJ tp Option.none)) d (XD d (fq (.int k) (.int p)))) e (XO e a.dJ tp (some d))) e=upd H1 d (XD d (fq (.int k) (.int p))):=by
  funext b
  by_cases hb:b=e
  ·rw[hb,m6,au (Ne.symm hde),he]
  ·rw[g_ hb,au hb]
   unfold upd;by_cases hbd:b=d
   ·rw[if_pos hbd,if_pos hbd]
   ·rw[if_neg hbd,if_neg hbd,if_neg hb]
 rw[e1];exact h _ d (aM hd') aj
theorem xH{H H1 H':Hp}{r:Addr}(s:aI H H1)(k:Keeps H1 H' r)(hr:H r=Option.none):aI H H':=fun b o q=>k b o (s b o q) (aV q hr)
def jV(a:aH)(E:XK)(H:Hp)(T:List Nat)(ok:Vacola.Fields→Prop):Prop:=match Vacola.readSchema T with
 |.error e=>kP a E H (e.kind:Nat) ((T.length-e.left:Nat):Int)
 |.ok fs=>ok fs
inductive lR(a:aH)(vs:List V)(H:Hp)(Q:VK)(E:XK):Prop
 |mk:∀ta T,vs=[.ref ta]→H ta=some (.lst (aC T))→(jV a E H T fun fs=>∀H' t,aI H H'→kO a H H' t (.group false fs)→Q (.ref t.at) H')→lR a vs H Q E
theorem Nq{f:Addr}{fd:FuncData}(F:aK K "read_schema" "read_schema" uz f fd)(T:Txt K mg a)(cE:fF P w K mg base a)(c_read_group:ao P w K mg base (bu P w) 26 "read_group" ["reader","depth"] (nR a 6))
  (k_Reader:dI P w K mg base af 1 "Reader" a.aR ["self","text"] (dz a.aR 1 fun us=>([("text":Str),"place","leaves"]).zip (us++[.int 0,.int 0])))
  (m_Reader_sign_here:bG P w K mg base af 1 a.aR "sign_here" ["self"] (fW a)):aF P w K mg base (bu P w) 27 f fd ["text"] (lR a):=by
 refine F.fU B8 (fun vs H Q E h=>by obtain⟨ta,T,rfl,_⟩:=h;rfl) (fun cdv A outer s H vs Q E hr h=>?_);obtain⟨ta,Tx,rfl,hta,q⟩:=h;refine⟨_,(ai (aU (aY ji (bP cC rfl T.bY PySem.boot_len (aa (pv 0) ah)) (aA T.qj) (aQ _)) (aq (cY T cE (hr.mono (by decide)) rfl rfl rfl bN (aa (aA T.vP) (aa (aA T.qj) ah)))) aX) (ai (aO (i:=1) B8.nd rfl (Or.inl rfl) (jM k_Reader (hr.mono (by decide)) rfl az (aa (pv 0) ah))) (ai (aU (aY f9 (bR (pv 1) T.bx m_Reader_sign_here (hr.mono (by decide)) az) (aA T.iW) (aQ _)) (aq (cY T cE (hr.mono (by decide)) rfl rfl rfl bN (aa (aA T.fR) (aa aN ah)))) aX) (ai (aO (i:=2) B8.nd rfl (Or.inl rfl) (aG c_read_group (hr.mono (by decide)) rfl (dj rfl bN) (aa (pv 1) (aa aN ah)))) (ai (aU (aY jh (aD (pv 1) rfl) (bP cC rfl T.bY PySem.boot_len (aa (pv 0) ah)) (aQ _)) (aq (cY T cE (hr.mono (by decide)) rfl rfl rfl bN (aa (aA T.fR) (aa (aD (pv 1) rfl) ah)))) aX) (aq (aB (pv 2)))))))),?_⟩;unfold jV at q;refine⟨_,rfl,ta,_,rfl,.inl (ay.of hta),_,_,rfl,rfl,_,rfl,?_⟩;rw[bE];refine bB (fun c=>?_) (fun c=>?_)
 ·have c':(2000:Int)<Tx.length:=of_decide_eq_true c
  rw[IM (show 2000<Tx.length by omega)]at q;have q':kP a E H 10 ((Tx.length-(Tx.length-2000):Nat):Int):=q;have e:((Tx.length-(Tx.length-2000):Nat):Int)=2000:=by omega
  rw[e]at q';exact Np q'
 have c':¬(2000:Int)<Tx.length:=of_decide_eq_false (Bool.eq_false_iff.mpr c);have hsh:¬2000<Tx.length:=by omega
 refine⟨_,rfl,?_⟩;intro r d hr0 hd0 hne;refine⟨r,d,_,rfl,rfl,aj,rfl,?_⟩;rw[dQ];generalize hH1:upd (upd H d (.own r)) r (.ins a.aR d ((fun us=>([("text":Str),"place","leaves"]).zip (us++[.int 0,.int 0])) ([V.ref ta]++[])))=H1;have s1:aI H H1:=fun b o h=>by rw[←hH1,au (aV h hr0),au (aV h hd0)];exact h
 have R1:bO a H1 r ta d Tx 0 0:=⟨by rw[←hH1];exact aj,s1 _ _ hta⟩;refine⟨_,rfl,r,d,_,rfl,R1.rd,cG (by decide+kernel),r,ta,d,Tx,0,0,rfl,R1,rfl,_,rfl,?_⟩;rw[ia];by_cases h123:∃s0,Tx=123::s0
 case neg=>
  have e0:dm Tx 0≠123:=fun z=>by
   cases Tx with
   |nil=>cases z
   |cons c0 s0=>
    have z':(c0:Int)=123:=z;exact h123 ⟨s0,by rw[show c0=123 by omega]⟩
  rw[decide_eq_true e0];rw[IQ hsh (fun r z=>h123 ⟨r,z⟩)]at q;have q':kP a E H 1 ((Tx.length-Tx.length:Nat):Int):=q;rw[Nat.sub_self]at q';exact dO (q'.err s1 hr0)
 obtain⟨s0,rfl⟩:=h123;rw[IP hsh]at q;refine⟨_,rfl,r,ta,d,_,0,0,1,false,s0,rfl,R1,by omega,by decide,by decide,by decide,rfl,?_⟩;cases hR:RF 1 false [] 0 s0 with
 |error e=>
  rw[hR]at q;exact kP.err q s1 hr0
 |ok y=>
  obtain⟨fs,s'⟩:=y;rw[hR,cQ]at q;dsimp only[fX]at q⊢;intro H2 p2 t K2 r2 l2 d2 NK;have s2:aI H H2:=xH s1 K2 hr0;have R2:=K2.rd R1 r2;refine⟨_,rfl,r,_,d,_,_,rfl,r2,T.bx,T.dX,fV,_,rfl,ta,_,rfl,.inl (ay.of R2.tx),_,_,rfl,rfl,_,rfl,?_⟩;rw[bE];by_cases hs:s'=[]
  ·rw[if_pos hs]at q
   have hp2:p2=(123::s0).length:=by
    rw[hs]at d2;have:=List.drop_eq_nil_iff.mp d2;omega
   rw[decide_eq_false (by omega)];exact⟨_,rfl,q H2 t s2 ⟨NK.has,NK.kd,NK.nd,fun b hb=>s1.free (NK.fr b hb)⟩⟩
  ·rw[if_neg hs]at q
   have hp2:p2<(123::s0).length:=by
    rcases Nat.lt_or_ge p2 (123::s0).length with z|z
    ·exact z
    ·rw[List.drop_eq_nil_of_le z]at d2;exact absurd d2.symm hs
   rw[decide_eq_true (by omega)];have q':kP a E H 1 (((123::s0).length-s'.length:Nat):Int):=q;rw[←d2,iG l2]at q';exact gP T rfl r2 (q'.err s2 hr0)
end Vp
section
namespace Vp
open PySem PySem.Spec PyProof.Rows L2
open PySem.W (codeHd_of_K)
variable{P:Program}{w:World}{K:PySem.W.Frag}{mg:Str→Option Value}{base:Heap}{a:aH}
inductive qI(a:aH)(vs:List V)(H:Hp)(Q:VK)(E:XK):Prop
 |mk:∀ta T,vs=[.ref ta]→H ta=some (.lst (aC T))→(match Vacola.readSchema T with
 |.error _=>∀H',aI H H'→Q .aP H'
 |.ok fs=>∀H' t,aI H H'→kO a H H' t (.group false fs)→Q (.ref t.at) H')→qI a vs H Q E
theorem Nr{f:Addr}{fd:FuncData}(F:aK K "schema_or_none" "schema_or_none" uA f fd)(T:Txt K mg a)(c_read_schema:ao P w K mg base (bu P w) 27 "read_schema" ["text"] (lR a)):aF P w K mg base af 28 f fd ["text"] (qI a):=by
 refine F.ok LV (fun vs H Q E h=>by obtain⟨ta,T,rfl,_⟩:=h;rfl) (fun cdv A outer s H vs Q E hr h=>?_);obtain⟨ta,Tx,rfl,hta,q⟩:=h;refine⟨_,(aq (BZ T.err rfl rfl rfl rfl T.jO (fun pn xe E R po=>(aq (aB (aG c_read_schema (hr.mono (by decide)) rfl (dj rfl R) (aa (pv 0) ah))))) (fun pn e oe d vs h1 h2 h3=>(aq (aB jd))))),?_⟩;refine⟨_,rfl,ta,Tx,rfl,hta,?_⟩;unfold jV;cases hR:Vacola.readSchema Tx with
 |error e=>
  rw[hR]at q;exact fun H' d s' hd=>⟨d,rfl,rfl,fun e he=>q H' s'⟩
 |ok fs=>
  rw[hR]at q;exact q
inductive xJ(a:aH)(vs:List V)(H:Hp)(Q:VK)(E:XK):Prop
 |mk:∀ta T tk,vs=[.ref ta,.ref tk.at]→H ta=some (.lst (aC T))→T.length≤5000→bK a H tk→((∀l,tk.kd=.leaf l→iu l))→(match Vacola.literalOf tk.kd T with
 |Option.none=>∀H',aI H H'→Q .aP H'
 |some v=>∀H' da,aI H H'→iD H' (some v) da→iE H (dU (some v) da)→Q (ju (some v) da) H')→xJ a vs H Q E
theorem Nt{f:Addr}{fd:FuncData}(F:aK K "literal_or_none" "literal_or_none" um f fd)(T:Txt K mg a)(c_is_leaf:ao P w K mg base af 2 "is_leaf" ["kind"] (ic a eV))(c_read_literal:ao P w K mg base (bu P w) 7 "read_literal" ["reader","kind"] (qy a))
  (k_Reader:dI P w K mg base af 1 "Reader" a.aR ["self","text"] (dz a.aR 1 fun us=>([("text":Str),"place","leaves"]).zip (us++[.int 0,.int 0]))):aF P w K mg base af 8 f fd ["text","kind"] (xJ a):=by
 refine F.ok B6 (fun vs H Q E h=>by obtain⟨ta,T,tk,rfl,_⟩:=h;rfl) (fun cdv A outer s H vs Q E hr h=>?_);obtain⟨ta,Tx,tk,rfl,hta,hT,hk,hwl,q⟩:=h;refine⟨_,(ai (aU (jf (c9 (aG c_is_leaf (hr.mono (by decide)) rfl az (aa (pv 1) ah)))) (aq (aB jd)) aX) (ai (aO (i:=2) B6.nd rfl (Or.inl rfl) (jM k_Reader (hr.mono (by decide)) rfl az (aa (pv 0) ah))) (ai (BZ T.err rfl rfl rfl rfl T.jO (fun pn xe E R po=>(aq (aO (i:=3) B6.nd rfl (Or.inl rfl) (aG c_read_literal (hr.mono (by decide)) rfl (dj rfl R) (aa (pv 2) (aa (pv 1) ah)))))) (fun pn e oe d vs h1 h2 h3=>(aq (aB jd)))) (aq (aB (A9 (aY bF (aD (pv 2) rfl) (bP cC rfl T.bY PySem.boot_len (aa (pv 0) ah)) (aQ _)) (pv 3) jd)))))),?_⟩;refine⟨_,rfl,tk,rfl,hk,fun H0 s0=>⟨_,rfl,?_⟩⟩
 match tk,hk,hwl,q with
 |.group c k fl fs,hk,hwl,q=>exact q H0 s0
 |.leaf l k fl,hk,hwl,q=>
 refine⟨_,rfl,?_⟩;intro r d hr0 hd0 hne;refine⟨r,d,_,rfl,rfl,aj,rfl,?_⟩;rw[dQ];generalize hH1:upd (upd H0 d (.own r)) r (.ins a.aR d ((fun us=>([("text":Str),"place","leaves"]).zip (us++[.int 0,.int 0])) ([V.ref ta]++[])))=H1;have s01:aI H0 H1:=fun b o h=>by rw[←hH1,au (aV h hr0),au (aV h hd0)];exact h
 have s1:aI H H1:=s0.trans s01;have R1:bO a H1 r ta d Tx 0 0:=⟨by rw[←hH1];exact aj,s1 _ _ hta⟩;obtain⟨⟨dk,hk1⟩,hk2⟩:=hk.a_ (bZ.of_same s1);have hrH:H r=Option.none:=s0.free hr0;refine⟨_,rfl,_,rfl,r,ta,d,Tx,0,0,k,l,rfl,R1,Nat.zero_le _,hT,⟨dk,fl,hk1⟩,hwl l rfl,?_⟩;unfold jQ;rw[List.drop_zero]
 have eL:Vacola.literalOf (TK.leaf l k fl).kd Tx=match Vacola.readLit l Tx with
  |some (v,[])=>if Vacola.fits l v then some v else Option.none
  |_=>Option.none:=rfl
 rw[eL]at q;have err:∀kk p:Int,(∀H',aI H H'→Q .aP H')→bA a (fun c od H'=>∃d,c=.ref a.dJ∧od=some d∧∀e,H' e=Option.none→Q .aP H') H1 r kk p:=fun kk p z H' d kp hd=>⟨d,rfl,rfl,fun e he=>z H' (xH s1 kp hrH)⟩
 cases hL:Vacola.readLit l Tx with
 |none=>
  rw[hL]at q;exact err _ _ q
 |some y=>
  obtain⟨v,s'⟩:=y;rw[hL]at q;dsimp only;by_cases hs:s'=[]
  ·subst hs
   dsimp only at q;cases hf:Vacola.fits l v with
   |false=>
    rw[hf]at q;exact err _ _ q
   |true=>
    rw[hf]at q;intro H2 p2 da K2 r2 l2 d2 hD fD
    have hp2:p2=Tx.length:=by
     have:=List.drop_eq_nil_iff.mp d2;omega
    have R2:=K2.rd R1 r2;refine⟨_,rfl,r,_,d,_,_,rfl,r2,T.bx,T.dX,fV,_,rfl,ta,_,rfl,.inl (ay.of R2.tx),rfl,_,rfl,?_⟩;rw[bJ,bE,decide_eq_true (by omega)];exact⟨_,rfl,q H2 da (xH s1 K2 hrH) hD (fun b hb=>s1.free (fD b hb))⟩
  ·have q':∀H',aI H H'→Q .aP H':=by
    cases s' with
    |nil=>exact absurd rfl hs
    |cons x s'=>exact q
   refine bB (fun hf=>?_) (fun hf=>?_)
   ·intro H2 p2 da K2 r2 l2 d2 hD fD
    have hp2:p2≠Tx.length:=fun z=>by
     rw[z,List.drop_length]at d2;exact hs d2.symm
    have R2:=K2.rd R1 r2;refine⟨_,rfl,r,_,d,_,_,rfl,r2,T.bx,T.dX,fV,_,rfl,ta,_,rfl,.inl (ay.of R2.tx),rfl,_,rfl,?_⟩;rw[bJ,bE,decide_eq_false (by omega)];exact q' H2 (xH s1 K2 hrH)
   ·exact err _ _ q'
def gQ(sv tv:V):List (Str×V):=[("schema",sv),("text",tv)]
theorem jW{sv tv:V}:(gQ sv tv).lookup ("schema":Str)=some sv:=rfl
theorem Cr{sv tv:V}:(gQ sv tv).lookup ("text":Str)=some tv:=rfl
theorem qJ{sv tv:V}{m:Str}(h:¬m="schema"∧¬m="text"):(gQ sv tv).lookup m=Option.none:=by
 unfold gQ;simp only[List.lookup,beq_eq_false_iff_ne.mpr h.1,beq_eq_false_iff_ne.mpr h.2]
inductive xK(a:aH)(vs:List V)(H:Hp)(Q:VK)(E:XK):Prop
 |mk:∀p dx,vs=[.ref p]→H p=some (.ins a.cF dx [])→(∀H' l,Keeps H H' p→H' l=some (.lst [])→H' p=some (.ins a.cF dx (gQ .aP (.ref l)))→Q .aP H')→xK a vs H Q E
theorem Nu{f:Addr}{fd:FuncData}(F:aK K "__init__" "Holder.__init__" uV f fd)(T:Txt K mg a):aF P w K mg base af 1 f fd ["self"] (xK a):=by
 refine F.ok L6 (fun vs H Q E h=>by obtain⟨p,dx,rfl,_⟩:=h;rfl) (fun cdv A outer s H vs Q E hr h=>?_);obtain⟨p,dx,rfl,hp,q⟩:=h;refine⟨_,(ai (cM (pv 0) jd rfl) (aq (cM (pv 0) (bM ah) rfl))),?_⟩;refine⟨_,rfl,p,_,dx,_,rfl,hp,T.dN,T.gM,(by show 0<1000;decide),?_⟩;refine⟨Nat.zero_le _,fun l hl=>⟨_,rfl,p,_,dx,_,rfl,(by rw[au (aV aj hl)];exact aj),T.dN,T.kJ,(by show 1<1000;decide),?_⟩⟩;have pl:p≠l:=aV aj hl;refine q _ l (fun b o h hb=>?_) ?_ ?_
 ·have hbl:b≠l:=fun z=>by rw[z]at h;rw[au (Ne.symm pl),h]at hl;cases hl
  rw[au hb,au hbl,au hb];exact h
 ·rw[au (Ne.symm pl)];exact aj
 ·exact aj
inductive qK(a:aH)(vs:List V)(H:Hp)(Q:VK)(E:XK):Prop
 |mk:∀ho d sv tv ta T,vs=[.ref ho,.ref ta]→H ho=some (.ins a.cF d (gQ sv tv))→H ta=some (.lst (aC T))→(jV a E H T fun fs=>∀H' t,Keeps H H' ho→H' ho=some (.ins a.cF d (gQ (.ref t.at) (.ref ta)))→kO a H H' t (.group false fs)→Q .aP H')→qK a vs H Q E
theorem Nv{C d:Addr}{sv tv:V}:¬gO (.ins C d (gQ sv tv)):=by
 rintro(⟨sg,sz,fl,h⟩|⟨n,nm,m,k,v,h⟩)
 ·have h:=congrArg (fun l=>l.head?.map (·.1)) h
  have h:("schema":Str)="sign":=Option.some.inj h;exact absurd h (by decide+kernel)
 ·have h:=congrArg (fun l=>l.head?.map (·.1)) h
  have h:("schema":Str)="number":=Option.some.inj h;exact absurd h (by decide+kernel)
theorem Ny{f:Addr}{fd:FuncData}(F:aK K "hold_text" "Holder.hold_text" uW f fd)(T:Txt K mg a)(c_read_schema:ao P w K mg base (bu P w) 27 "read_schema" ["text"] (lR a)):aF P w K mg base (bu P w) 28 f fd ["self","text"] (qK a):=by
 refine F.fU Gx (fun vs H Q E h=>by obtain⟨ho,d,sv,tv,ta,T,rfl,_⟩:=h;rfl) (fun cdv A outer s H vs Q E hr h=>?_);obtain⟨ho,d,sv,tv,ta,Tx,rfl,hho,hta,q⟩:=h;refine⟨_,(ai (aO (i:=2) Gx.nd rfl (Or.inl rfl) (aG c_read_schema (hr.mono (by decide)) rfl (dj rfl bN) (aa (pv 1) ah))) (ai (cM (pv 0) (pv 2) rfl) (aq (cM (pv 0) (pv 1) rfl)))),?_⟩;refine⟨_,rfl,ta,Tx,rfl,hta,?_⟩;unfold jV at q⊢;cases hR:Vacola.readSchema Tx with
 |error e=>rw[hR]at q;exact q
 |ok fs=>
  rw[hR]at q;intro H1 t s1 NK;have ho1:=s1 _ _ hho;refine⟨_,rfl,_,rfl,ho,_,d,_,rfl,ho1,T.dN,T.gM,(by show 2<1000;decide),?_⟩;refine⟨_,rfl,_,rfl,ho,_,d,_,rfl,aj,T.dN,T.kJ,(by show 2<1000;decide),?_⟩;rw[dQ];refine q _ t (fun b o h hb=>by rw[au hb];exact s1 b o h) aj ⟨NK.has.a_ ⟨fun b hb o h=>?_⟩,NK.kd,NK.nd,NK.fr⟩;rw[au]
  ·exact h
  ·rintro rfl
   obtain⟨u,h1,h2⟩:=NK.has.obj _ hb;rw[ho1]at h1;cases h1;exact Nv h2
inductive nU(a:aH)(vs:List V)(H:Hp)(Q:VK)(E:XK):Prop
 |mk:∀ho d sv ta T fs,vs=[.ref ho]→H ho=some (.ins a.cF d (gQ sv (.ref ta)))→H ta=some (.lst (aC T))→Vacola.readSchema T=.ok fs→(∀H' t,aI H H'→kO a H H' t (.group false fs)→Q (.ref t.at) H')→nU a vs H Q E
theorem Nz{f:Addr}{fd:FuncData}(F:aK K "schema_to_change" "Holder.schema_to_change" uX f fd)(T:Txt K mg a)(c_read_schema:ao P w K mg base (bu P w) 27 "read_schema" ["text"] (lR a)):aF P w K mg base af 28 f fd ["self"] (nU a):=by
 refine F.ok L7 (fun vs H Q E h=>by obtain⟨ho,d,sv,ta,T,fs,rfl,_⟩:=h;rfl) (fun cdv A outer s H vs Q E hr h=>?_);obtain⟨ho,d,sv,ta,Tx,fs,rfl,hho,hta,hR,q⟩:=h;refine⟨_,(aq (aB (aG c_read_schema (hr.mono (by decide)) rfl (dj rfl Nm) (aa (aD (pv 0) rfl) ah)))),?_⟩;refine⟨_,rfl,ho,_,d,_,_,rfl,hho,T.dN,T.kJ,Cr,ta,Tx,rfl,hta,?_⟩;unfold jV;rw[hR];exact q
end Vp
end
namespace L2
open PySem PySem.Spec PyProof.Rows
theorem NB{X:Cx}:iT X (.builtin "isinstance") (fun xs H Q=>∃x n t b,xs=[x,.ty n]∧g5 X.K H x t∧PySem.W.kitOne X.K t (.type n)=some b∧Q (.bl b) H):=by
 intro pins s σ H xs us Q I r h;obtain⟨x,n,t,b,rfl,ty,e,q⟩:=h;obtain⟨u,v,rfl,rx,ry⟩:=vals2 r;obtain rfl:v=Value.type n:=ry;exact JZ I rx ty e fun tk=>⟨.bl b,H,I.tok tk,rfl,q⟩
end L2
namespace Vp
open PySem PySem.Spec PyProof.Rows L2
variable{P:Program}{w:World}{K:PySem.W.Frag}{mg:Str→Option Value}{base:Heap}{a:aH}
def jX(H:Hp)(Q:VK)(t:List Nat):Prop:=∀H' l,aI H H'→H l=Option.none→H' l=some (.lst (aC t))→Q (.ref l) H'
theorem jX.of{H H1:Hp}{Q:VK}{t:List Nat}(h:jX H Q t)(s:aI H H1):jX H1 Q t:=fun H' l s' hl hb=>h H' l (s.trans s') (s.free hl) hb
theorem NC{g:TG}{tt:TT}{te tl:TE}{vs:List Nat}{σ:L2.St}{H:Hp}{Q:VK}(x:Str)(ht:∀R:VK,R (.str x) H→tl σ H R)
  (hD:∀D,H D=Option.none→∃Pv:Nat→Hp→Prop,Pv 0 (upd H D (.lst []))∧
   (∀i c H,x.cps.toList[i]? =some c→Pv i H→g (.str ⟨#[c]⟩) (wipe σ vs) H fun σ2 H2=>wipe σ2 vs=wipe σ vs∧tt σ2 H2 fun k H3=>if k=true then te σ2 H3 fun y H4=>∃acc,H4 D=some (.lst acc)∧acc.length<sizeLine∧Pv (i+1) (upd H4 D (.lst (acc++[y])))else Pv (i+1) H3)∧
   ∀H,Pv x.cps.toList.length H→Q (.ref D) H):lB (FH tl) g tt te vs σ H Q:=by
 refine ht _ ⟨x,rfl,fun D hd=>?_⟩;obtain⟨Pv,h0,hs,he⟩:=hD D hd;have hlen:x.cps.toList.length=x.cps.size:=by simp
 refine⟨fun i m H=>m=x.cps.size-i∧i≤x.cps.size∧Pv i H,⟨x.cps.size,by simp,Nat.zero_le _,h0⟩,?_⟩;rintro i m H ⟨rfl,hi,p⟩;by_cases hlt:i<x.cps.size
 ·refine .inr ⟨hlt,Pv (i+1),fun H' p'=>⟨x.cps.size-(i+1),by omega,rfl,hlt,p'⟩,fun v H' y=>?_⟩
  obtain⟨rfl,c,hc,rfl⟩:=y;exact hs i c _ (by rw[Array.getElem?_toList];exact hc) p
 ·have e:i=x.cps.size:=by omega
  subst e;exact .inl ⟨Nat.le_refl _,he H (by rw[hlen];exact p)⟩
inductive lS(vs:List V)(H:Hp)(Q:VK)(E:XK):Prop
 |mk:∀z:Int,vs=[.int z]→z.natAbs<2^64→jX H Q (Vacola.decimalInt z)→lS vs H Q E
theorem ND:∀(k n:Nat),n<10^(k+1)→(Vacola.decimal n).length≤k+1:=by
 intro k
 induction k with
 |zero=>intro n h;rw[rV (by omega)];exact Nat.le_refl _
 |succ k ih=>
  intro n h;by_cases hn:n<10
  ·rw[rV hn];show 1≤_;omega
  ·rw[AE (by omega),List.length_append]
   have:=ih (n/10) (by rw[Nat.pow_succ]at h;omega);show _+1≤_;omega
theorem NF{z:Int}(h:z.natAbs<2^64):(Vacola.decimalInt z).length≤21:=by
 have:=ND 19 z.natAbs (Nat.lt_of_lt_of_le h (by decide));unfold Vacola.decimalInt;split
 ·rw[List.length_cons];omega
 ·omega
theorem log2_small{n:Nat}(h:n<2^64):n.log2<1920:=by
 by_cases h0:n=0
 ·rw[h0];decide
 ·have:=(Nat.log2_lt h0).mpr h
  omega
theorem NG{f:Addr}{fd:FuncData}(F:aK K "write_number" "write_number" pQ f fd)(T:Txt K mg a):aF P w K mg base af 1 f fd ["number"] lS:=by
 refine F.ok Cc (fun vs H Q E h=>by obtain⟨z,rfl,_⟩:=h;rfl) (fun cdv A outer s H vs Q E hr h=>?_);obtain⟨z,rfl,hz,q⟩:=h;refine⟨_,(aq (aB (pA (own:=[("sign",1)]) rfl Cc.nd (KP (E8 JR rfl T.w9 PyProof.Rows.boot_str (aa (pv 0) ah))) (show iz ["number","sign"] (aE pQ) _ _ from⟨rfl,by decide+kernel,by decide+kernel,by decide+kernel,by decide+kernel⟩) (fun _ _ _ _ _=>(dR (i:=1) Cc.nd rfl (Or.inl rfl))) (fun _ _ _ _ _=>tG) (fun _ _ _ _ _=>(bP Bl rfl T.nD PyProof.Rows.boot_ord (aa (pv 1) ah)))))),?_⟩;refine rT (NC (PySem.Str.ofString (toString z)) (fun R h=>⟨_,rfl,z,rfl,log2_small hz,h⟩) fun D hD=>⟨fun i H'=>aI H H'∧H' D=some (.lst (aC ((Vacola.decimalInt z).take i))),⟨aM hD,aj⟩,?_,?_⟩)
 ·rintro i c H' hi ⟨h1,h2⟩
  rw[GZ]at hi;refine⟨rfl,?_⟩;refine⟨_,rfl,_,rfl,rfl,_,h2,?_,?_⟩
  ·rw[bE,List.length_take,sizeLine_eq]
   have:=NF hz;omega
  ·refine⟨fun b o hb=>by rw[au (aV hb hD)];exact h1 b o hb,?_⟩
   rw[aj,take_snoc hi,i6];rfl
 ·rintro H' ⟨h1,h2⟩
  rw[GZ,List.take_length]at h2;exact q H' D h1 hD h2
inductive xM(vs:List V)(H:Hp)(Q:VK)(E:XK):Prop
 |mk:∀c:Nat,vs=[.int (c:Int)]→c<256→jX H Q (Vacola.showByte c)→xM vs H Q E
theorem Hh:∀n:Fin 16,gF ("0123456789abcdef":Str).cps.toList ((n:Nat):Int)=some (Vacola.hexSign n):=by decide+kernel
theorem NH{f:Addr}{fd:FuncData}(F:aK K "write_byte" "write_byte" uJ f fd)(T:Txt K mg a)(c_stands_as_itself:ao P w K mg base af 1 "stands_as_itself" ["byte"] (ff zPlain)):aF P w K mg base af 2 f fd ["byte"] xM:=by
 refine F.ok LZ (fun vs H Q E h=>by obtain⟨c,rfl,_⟩:=h;rfl) (fun cdv A outer s H vs Q E hr h=>?_);obtain⟨c,rfl,hc,q⟩:=h;refine⟨_,(ai (aU (c9 (aG c_stands_as_itself (hr.mono (by decide)) rfl az (aa (pv 0) ah))) (aq (aB (bM (aa (pv 0) ah)))) aX) (aq (aB (bM (aa (aA T.nA) (aa (bP Bl rfl T.nD PyProof.Rows.boot_ord (aa (bQ Fd (F_ T.qm) (bU JN (pv 0) aN) (fun _ _=>rfl)) ah)) (aa (bP Bl rfl T.nD PyProof.Rows.boot_ord (aa (bQ Fd (F_ T.qm) (bU JO (pv 0) aN) (fun _ _=>rfl)) ah)) ah))))))),?_⟩;refine⟨_,rfl,_,rfl,_,rfl,?_⟩;rw[Cj.at_];unfold Vacola.showByte at q;cases hp:Vacola.plain c with
 |true=>
  rw[hp]at q;exact⟨_,rfl,by show 1≤sizeLine;decide,fun l hl=>q _ l (aM hl) hl aj⟩
 |false=>
  rw[hp]at q;have h1:c/16<16:=by omega
  have h2:c%16<16:=by omega
  have e1:((c:Int)/16)=((c/16:Nat):Int):=by omega
  have e2:((c:Int)%16)=((c%16:Nat):Int):=by omega
  refine⟨_,rfl,_,_,rfl,rfl,⟨by decide,by decide⟩,_,_,Vacola.hexSign (c/16),rfl,rfl,by decide+kernel,?_,_,rfl,rfl,?_⟩
  ·rw[e1];exact Hh ⟨c/16,h1⟩
  refine⟨_,rfl,_,_,rfl,rfl,(by show(0:Int)<16;decide),_,_,Vacola.hexSign (c%16),rfl,rfl,by decide+kernel,?_,_,rfl,rfl,?_⟩
  ·rw[e2];exact Hh ⟨c%16,h2⟩
  refine⟨by show 3≤sizeLine;decide,fun l hl=>q _ l (aM hl) hl aj⟩
inductive qL(a:aH)(vs:List V)(H:Hp)(Q:VK)(E:XK):Prop
 |mk:∀k d sg fl,(∃n:Nat,vs=[.ref k]∧H k=some (.ins a.b7 d (gA sg (n:Int) fl))∧n<1000∧jX H Q (if n=0 then[]else Vacola.decimal n))→qL a vs H Q E
theorem Hi(n:Nat):Vacola.decimalInt (n:Int)=Vacola.decimal n:=by
 unfold Vacola.decimalInt;rw[if_neg (by omega)];rfl
theorem NI{f:Addr}{fd:FuncData}(F:aK K "write_size" "write_size" uH f fd)(T:Txt K mg a)(c_write_number:ao P w K mg base af 1 "write_number" ["number"] lS):aF P w K mg base af 2 f fd ["kind"] (qL a):=by
 refine F.ok LY (fun vs H Q E h=>by obtain⟨k,d,sg,fl,n,rfl,_⟩:=h;rfl) (fun cdv A outer s H vs Q E hr h=>?_);obtain⟨k,d,sg,fl,n,rfl,hk,hn,q⟩:=h;refine⟨_,(ai (aU (aY bF (aD (pv 0) rfl) aN (aQ _)) (aq (aB (bM ah))) aX) (aq (aB (aG c_write_number (hr.mono (by decide)) rfl az (aa (aD (pv 0) rfl) ah))))),?_⟩;refine⟨_,rfl,k,_,d,_,_,rfl,hk,T.bI,T.jo,nM,rfl,_,rfl,?_⟩;rw[bJ];by_cases h0:n=0
 ·subst h0
  exact⟨Nat.zero_le _,fun l hl=>q _ l (aM hl) hl aj⟩
 ·rw[decide_eq_false (show¬(n:Int)=0 by omega)]
  rw[if_neg h0]at q;refine⟨_,rfl,k,_,d,_,_,rfl,hk,T.bI,T.jo,nM,(n:Int),rfl,?_,?_⟩
  ·show n<2^64
   omega
  ·rw[Hi];exact q
inductive qM(vs:List V)(H:Hp)(Q:VK)(E:XK):Prop
 |mk:∀(v:Vacola.Lit)(da:Addr),vs=[ju (some v) da]→iD H (some v) da→r_ (some v)→jX H Q (Vacola.showLit v)→qM vs H Q E
theorem Hj(c:Nat):(Vacola.showByte c).length≤3:=by unfold Vacola.showByte;split<;>simp
theorem Hl(s:List Nat):(s.flatMap Vacola.showByte).length≤3*s.length:=by
 induction s with
 |nil=>simp
 |cons c s ih=>rw[List.flatMap_cons,List.length_append,List.length_cons];have:=Hj c;omega
theorem NJ{f:Addr}{fd:FuncData}(F:aK K "write_literal" "write_literal" uI f fd)(T:Txt K mg a)(c_write_number:ao P w K mg base af 1 "write_number" ["number"] lS)(c_write_byte:ao P w K mg base af 2 "write_byte" ["byte"] xM):
  aF P w K mg base af 3 f fd ["value"] qM:=by
 refine F.ok Cb (fun vs H Q E h=>by obtain⟨v,da,rfl,_⟩:=h;rfl) (fun cdv A outer s H vs Q E hr h=>?_);obtain⟨v,da,rfl,hD,hw,q⟩:=h;refine⟨_,(ai (aU (c9 (bP NB rfl T.wX PyProof.Rows.boot_isinstance (aa (pv 0) (aa (Jr (v:=.ty "int") rfl T.wW PyProof.Rows.boot_int rfl) ah)))) (aq (aB (aG c_write_number (hr.mono (by decide)) rfl az (aa (pv 0) ah)))) aX) (ai (aO (i:=1) Cb.nd rfl (Or.inl rfl) (bM (aa (aA T.kF) ah))) (ai (gZ PassesOwn.never rfl (gu (pv 0)) (dR (i:=2) Cb.nd rfl (Or.inl rfl)) (aq (bS (eB PySem.F.plainAttrs_list PySem.F.slot_list_extend PySem.F.type_list_extend tD (pv 1) (aa (aG c_write_byte (hr.mono (by decide)) rfl az (aa (pv 2) ah)) ah))))) (ai (bS (eB PySem.F.plainAttrs_list PySem.F.slot_list_append PySem.F.type_list_append gb (pv 1) (aa (aA T.kF) ah))) (aq (aB (pv 1))))))),?_⟩;cases v with
 |num z=>
  refine⟨_,rfl,_,_,_,true,rfl,.int z,rfl,_,rfl,?_⟩;exact⟨_,rfl,z,rfl,hw,q⟩
 |str x=>
  have hD:H da=some (.lst (aC x)):=hD;obtain⟨hb,hl⟩:(∀c∈x,c<256)∧x.length≤999:=hw;refine⟨_,rfl,_,_,_,false,rfl,.lst hD,rfl,_,rfl,?_⟩;refine⟨by show 1≤sizeLine;decide,fun l hl'=>?_⟩;refine⟨_,rfl,da,rfl,⟨_,ay.of (aM hl' _ _ hD)⟩,jH (xs:=aC x) (fun i σ H'=>aI H H'∧H' l=some (.lst (aC (34::(x.take i).flatMap Vacola.showByte)))∧∃v,σ=[some (V.ref da),some (V.ref l),v]) ⟨aM hl',aj,Option.none,rfl⟩ (fun i σ H' _ ⟨h1,_⟩=>ay.of (h1 _ _ hD)) ?_ ?_⟩
  ·rintro i v σ H' hi ⟨h1,h2,v',rfl⟩
   obtain⟨c,hc,rfl⟩:=Cn hi;refine⟨_,rfl,.inl ⟨rfl,_,ay.of h2⟩,_,rfl,c,rfl,hb c (List.mem_of_getElem? hc),fun H2 l2 s2 hl2 hb2=>?_⟩;have h3:=s2 _ _ h2;refine⟨l,l2,_,_,rfl,rfl,h3,hb2,?_,?_⟩
   ·rw[bE,bE,List.length_cons,sizeLine_eq]
    have h8:=Hl (x.take i);rw[List.length_take]at h8;have:=Hj c;omega
   ·refine⟨fun b o hb'=>by rw[au (aV hb' hl')];exact s2 _ _ (h1 b o hb'),?_,_,rfl⟩
    rw[aj,take_snoc hc,List.flatMap_append];unfold aC;rw[←List.map_append];simp
  ·rintro σ H' ⟨h1,h2,v',rfl⟩
   rw[bE,List.take_length]at h2;refine⟨_,rfl,.inl ⟨rfl,_,ay.of h2⟩,l,_,_,rfl,rfl,h2,?_,⟨_,rfl,?_⟩⟩
   ·rw[bE,List.length_cons,sizeLine_eq]
    have:=Hl x;omega
   ·refine q _ l (fun b o hb'=>by rw[au (aV hb' hl')];exact h1 b o hb') hl' ?_
    rw[aj];show some (HO.lst (aC (34::x.flatMap Vacola.showByte)++[V.int ((34:Nat):Int)]))=_;rw[←i6];rfl
end Vp
section
namespace Vp
open PySem PySem.Spec PyProof.Rows L2
open PySem.W (codeHd_of_K)
variable{P:Program}{w:World}{K:PySem.W.Frag}{mg:Str→Option Value}{base:Heap}{a:aH}
def dB:Nat:=100000
inductive lT(a:aH)(dd:Nat)(vs:List V)(H:Hp)(Q:VK)(E:XK):Prop
 |mk:∀(t:TK)(e:Nat),vs=[.ref t.at]→bK a H t→dF t.kd e→e+1≤dd→(Vacola.showKind t.kd).length≤dB→jX H Q (Vacola.showKind t.kd)→lT a dd vs H Q E
inductive xN(a:aH)(dd:Nat)(vs:List V)(H:Hp)(Q:VK)(E:XK):Prop
 |mk:∀(x:Fi)(e:Nat),vs=[.ref x.f]→bW a H x→gW x.h→dF x.k.kd e→e+1≤dd→(cK x.h x.k.kd).length≤dB→jX H Q (cK x.h x.k.kd)→xN a dd vs H Q E
theorem qN(l m:List Nat):aC l++aC m=aC (l++m):=by unfold aC;rw[List.map_append]
theorem NL{f:Addr}{fd:FuncData}{dd k:Nat}(hk:3≤k)(F:aK K "write_field" "write_field" pP f fd)(T:Txt K mg a)(c_write_number:ao P w K mg base af 1 "write_number" ["number"] lS)(c_write_literal:ao P w K mg base af 3 "write_literal" ["value"] qM)
  (c_write_kind:ao P w K mg base af k "write_kind" ["kind"] (lT a dd)):aF P w K mg base af (k+1) f fd ["field"] (xN a dd):=by
 refine F.ok Gn (fun vs H Q E h=>by obtain⟨x,e,rfl,_⟩:=h;rfl) (fun cdv A outer s H vs Q E hr h=>?_);obtain⟨x,e,rfl,hx,wh,wk,he,hlen,q⟩:=h;refine⟨_,(ai (aO (i:=1) Gn.nd rfl (Or.inl rfl) (bU gg (bU gg (bU gg (aG c_write_number (hr.mono (by omega)) rfl az (aa (aD (pv 0) rfl) ah)) (aD (pv 0) rfl)) (bM (aa (aD (pv 0) rfl) ah))) (aG c_write_kind (hr.mono (by omega)) rfl az (aa (aD (pv 0) rfl) ah)))) (ai (aU (iQ (je (aD (pv 0) rfl))) (aq (aB (pv 1))) aX) (aq (aB (bU gg (bU gg (pv 1) (bM (aa (aA T.qf) ah))) (aG c_write_literal (hr.mono (by omega)) rfl az (aa (aD (pv 0) rfl) ah))))))),?_⟩;have hlen':(Vacola.decimal x.h.number++(x.h.name++[Vacola.showMode x.h.mode])++(Vacola.showKind x.k.kd++Vacola.showDefault x.h)).length≤100000:=hlen;simp only[List.length_append,List.length_cons,List.length_nil]at hlen';obtain⟨⟨d,h1⟩,h2,h3,h4⟩:=hx;refine⟨_,rfl,x.f,_,d,_,_,rfl,h1,T.bC,T.gh,iF,_,rfl,(by show x.h.number<2^64;have:=wh.hi;omega),fun H1 l1 s1 n1 b1=>?_⟩;rw[Hi]at b1;refine⟨_,rfl,x.f,_,d,_,_,rfl,s1 _ _ h1,T.bC,T.iX,nO,l1,x.nm,_,_,rfl,rfl,b1,s1 _ _ h2,?_,fun l2 n2=>?_⟩
 ·rw[bE,bE,sizeLine_eq];omega
 rw[qN];have s2:aI H (upd H1 l2 (.lst (aC (Vacola.decimal x.h.number++x.h.name)))):=s1.trans (aM n2);refine⟨_,rfl,x.f,_,d,_,_,rfl,s2 _ _ h1,T.bC,T.gK,jR,by show 1≤sizeLine;decide,fun l3 n3=>?_⟩;refine⟨l2,l3,_,_,rfl,rfl,(by rw[au (aV aj n3)];exact aj),aj,?_,fun l4 n4=>?_⟩
 ·rw[bE,List.length_append,sizeLine_eq];show _+1≤_;omega
 generalize hH4:upd (upd (upd H1 l2 (.lst (aC (Vacola.decimal x.h.number++x.h.name)))) l3 (.lst [V.int ((Vacola.showMode x.h.mode:Nat):Int)])) l4 (.lst (aC (Vacola.decimal x.h.number++x.h.name)++[V.int ((Vacola.showMode x.h.mode:Nat):Int)]))=H4;have s4:aI H H4:=by rw[←hH4];exact(s2.trans (aM n3)).trans (aM n4)
 have b4:H4 l4=some (.lst (aC (Vacola.showHead x.h))):=by
  rw[←hH4,aj,←i6,List.append_assoc];rfl
 refine⟨_,rfl,x.f,_,d,_,_,rfl,s4 _ _ h1,T.bC,T.e_,gC,x.k,e,rfl,h4.a_ (bZ.of_same s4),wk,he,(by show _≤100000;omega),fun H5 l5 s5 n5 b5=>?_⟩;refine⟨l4,l5,_,_,rfl,rfl,s5 _ _ b4,b5,?_,fun l6 n6=>?_⟩
 ·have:(Vacola.showHead x.h).length=(Vacola.decimal x.h.number).length+(x.h.name.length+1):=by unfold Vacola.showHead;simp
  rw[bE,bE,sizeLine_eq,this];omega
 rw[qN];generalize hH6:upd H5 l6 (.lst (aC (Vacola.showHead x.h++Vacola.showKind x.k.kd)))=H6;have s6:aI H H6:=by rw[←hH6];exact(s4.trans s5).trans (aM n6)
 have b6:H6 l6=some (.lst (aC (Vacola.showHead x.h++Vacola.showKind x.k.kd))):=by rw[←hH6];exact aj
 have n6H:H l6=Option.none:=(s4.trans s5).free n6;have hlh:(Vacola.showHead x.h).length=(Vacola.decimal x.h.number).length+(x.h.name.length+1):=by unfold Vacola.showHead;simp
 refine⟨_,rfl,x.f,_,d,_,_,rfl,s6 _ _ h1,T.bC,T.iY,xE,_,rfl,?_⟩;unfold cK Vacola.showDefault at q;cases hd:x.h.dflt with
 |none=>
  rw[hd]at q;dsimp only at q;rw[List.append_nil]at q;exact⟨_,rfl,q H6 l6 s6 n6H b6⟩
 |some v=>
  rw[hd]at q;dsimp only at q;have hwd:=wh.df;rw[hd]at hwd h3;have hne:(!decide (ju (some v) x.da=V.aP))=true∨decide (ju (some v) x.da=V.aP)=false:=.inr (by cases v<;>rfl);have hdn:decide (ju (some v) x.da=V.aP)=false:=by cases v<;>rfl
  rw[hdn];have hsd:(Vacola.showDefault x.h).length=1+(Vacola.showLit v).length:=by unfold Vacola.showDefault;rw[hd];simp;omega
  refine⟨_,rfl,by show 1≤sizeLine;decide,fun l7 n7=>?_⟩;refine⟨l6,l7,_,_,rfl,rfl,(by rw[au (aV b6 n7)];exact b6),aj,?_,fun l8 n8=>?_⟩
  ·rw[bE,List.length_append,sizeLine_eq];show _+1≤_;omega
  generalize hH8:upd (upd H6 l7 (.lst [V.int 61])) l8 (.lst (aC (Vacola.showHead x.h++Vacola.showKind x.k.kd)++[V.int 61]))=H8;have s8:aI H H8:=by rw[←hH8];exact(s6.trans (aM n7)).trans (aM n8)
  have b8:H8 l8=some (.lst (aC (Vacola.showHead x.h++Vacola.showKind x.k.kd++[61]))):=by
   rw[←hH8,aj,i6];rfl
  refine⟨_,rfl,x.f,_,d,_,_,rfl,s8 _ _ h1,T.bC,T.iY,xE,v,x.da,(by rw[hd];rfl),h3.a_ (bZ.of_same s8),hwd,fun H9 l9 s9 n9 b9=>?_⟩;refine⟨l8,l9,_,_,rfl,rfl,s9 _ _ b8,b9,?_,fun l10 n10=>?_⟩
  ·rw[bE,bE,List.length_append,List.length_append,sizeLine_eq];show _+1+_≤_;omega
  ·refine q _ l10 ((s8.trans s9).trans (aM n10)) ((s8.trans s9).free n10) ?_
   rw[aj,qN];simp
theorem NN{K:PySem.W.Frag}{b:Addr}{xs:List V}{g:TG}{tb:TS}{D:Ends}{σ:L2.St}{H:Hp}(Pv:Nat→L2.St→Hp→Prop)(h0:Pv 0 σ H)(hl:∀i σ H,i≤xs.length→Pv i σ H→ay K H b xs)
  (hs:∀i x σ H T,xs[i]? =some x→Pv i σ H→H T=Option.none→g (.ref T) σ (upd H T (.tup [.int (i:Nat),x])) fun σ2 H2=>tb {D with nx:=Pv (i+1),ct:=Pv (i+1),bk:=D.nx} σ2 H2)(hd:∀σ H,Pv xs.length σ H→D.nx σ H):
  ∃W:Nat→Nat→L2.St→Hp→Prop,(∃m,W 0 m σ H)∧∀i m σ H,W i m σ H→
   ((pB K b).stop i H∧D.nx σ H)∨((pB K b).go i H∧∃N:L2.St→Hp→Prop,(∀σ' H',N σ' H'→∃m',m'<m∧W (i+1) m' σ' H')∧∀x H',(pB K b).mU i H x H'→g x σ H' fun σ2 H2=>tb {D with nx:=N,ct:=N,bk:=D.nx} σ2 H2):=by
 refine⟨fun i m σ H=>m=xs.length-i∧i≤xs.length∧Pv i σ H,⟨xs.length,by simp,Nat.zero_le _,h0⟩,?_⟩;rintro i m σ H ⟨rfl,hi,p⟩;have q:=hl i σ H hi p;by_cases hlt:i<xs.length
 ·refine .inr ⟨⟨xs,xs[i],q,by simp[hlt]⟩,Pv (i+1),fun σ' H' p'=>⟨xs.length-(i+1),by omega,rfl,hlt,p'⟩,fun v H' y=>?_⟩
  obtain⟨T,x,rfl,hT,rfl,hx⟩:=y;exact hs i x σ H T (hx xs q) p hT
 ·have e:i=xs.length:=by omega
  subst e;exact .inl ⟨⟨xs,q,Nat.le_refl _⟩,hd σ H p⟩
theorem Ho(l:Vacola.Leaf)(h:iu l):Vacola.showLeaf l=nL l::(if leafSize l=0 then[]else Vacola.decimal (leafSize l)):=by
 cases l with
 |bit=>rfl
 |int n=>rw[if_neg (by have:=h.1;show¬n=0;omega)];rfl
 |text n=>rw[if_neg (by have:=h.1;show¬n=0;omega)];rfl
theorem NO{l:Vacola.Leaf}(h:iu l):leafSize l<1000:=by
 cases l with
 |bit=>decide
 |int n=>have:=h.2;show n<1000;omega
 |text n=>have:=h.2;show n<1000;omega
def fG(t:TF):List (List Nat):=t.items.map fun x=>cK x.h x.k.kd
theorem NP(t:TF):Vacola.showFields t.fs=cW (fG t):=by
 rw[sj,TF.fM,List.map_map];rfl
theorem NQ{f:Addr}{fd:FuncData}{dd k:Nat}(hk:3≤k)(F:aK K "write_kind" "write_kind" pO f fd)(T:Txt K mg a)(c_is_leaf:ao P w K mg base af 2 "is_leaf" ["kind"] (ic a eV))(c_write_size:ao P w K mg base af 2 "write_size" ["kind"] (qL a))
  (c_write_field:ao P w K mg base af k "write_field" ["field"] (xN a dd)):aF P w K mg base af (k+1) f fd ["kind"] (lT a (dd+1)):=by
 refine F.ok vD (fun vs H Q E h=>by obtain⟨t,e,rfl,_⟩:=h;rfl) (fun cdv A outer s H vs Q E hr h=>?_);obtain⟨t,e,rfl,ht,wk,hed,hlen,q⟩:=h;refine⟨_,(ai (aU (c9 (aG c_is_leaf (hr.mono (by omega)) rfl az (aa (pv 0) ah))) (aq (aB (bU gg (bM (aa (aD (pv 0) rfl) ah)) (aG c_write_size (hr.mono (by omega)) rfl az (aa (pv 0) ah))))) aX) (ai (aO (i:=1) vD.nd rfl (Or.inl rfl) (bM (aa (aD (pv 0) rfl) ah))) (ai (gZ PassesOwn.never rfl (FJ rfl T.qo (aa (aD (pv 0) rfl) ah)) (EJ rfl (sM (dR (i:=2) vD.nd rfl (Or.inl rfl)) (sM (dR (i:=3) vD.nd rfl (Or.inl rfl)) EH))) (ai (aU (aY ji (pv 2) aN (aQ _)) (aq (bS (eB PySem.F.plainAttrs_list PySem.F.slot_list_append PySem.F.type_list_append gb (pv 1) (aa (aA T.qe) ah)))) aX) (aq (bS (eB PySem.F.plainAttrs_list PySem.F.slot_list_extend PySem.F.type_list_extend tD (pv 1) (aa (aG c_write_field (hr.mono (by omega)) rfl az (aa (pv 3) ah)) ah)))))) (ai (bS (eB PySem.F.plainAttrs_list PySem.F.slot_list_append PySem.F.type_list_append gb (pv 1) (aa (A9 (aY bF (aD (pv 0) rfl) (aA T.iW) (aQ _)) (aA T.lF) (aA T.qd)) ah))) (aq (aB (pv 1))))))),?_⟩;refine⟨_,rfl,t,rfl,ht,fun H0 s0=>⟨_,rfl,?_⟩⟩
 replace ht:=ht.a_ (bZ.of_same s0)
 replace q:=q.of s0
 clear s0
 match t,ht,wk,hlen,q with
 |.leaf l kk fl,⟨⟨d,h1⟩,h2⟩,wk,hlen,q=>
  have wk:iu l:=wk;refine⟨_,rfl,kk,_,d,_,_,rfl,h1,T.bI,T.e9,gi,by show 1≤sizeLine;decide,fun l1 n1=>?_⟩;refine⟨_,rfl,kk,d,_,fl,leafSize l,rfl,aM n1 _ _ h1,NO wk,fun H2 l2 s2 n2 b2=>?_⟩;refine⟨l1,l2,_,_,rfl,rfl,s2 _ _ aj,b2,?_,fun l3 n3=>?_⟩
  ·have eq9:(Vacola.showKind (TK.leaf l kk fl).kd)=nL l::(if leafSize l=0 then[]else Vacola.decimal (leafSize l)):=by
    show Vacola.showKind (.leaf l)=_;rw[Vacola.showKind];exact Ho l wk
   rw[eq9,List.length_cons]at hlen;rw[bE,sizeLine_eq];show 1+_≤_;have:dB=100000:=rfl;omega
  ·refine q _ l3 (((aM n1).trans s2).trans (aM n3)) (((aM n1).trans s2).free n3) ?_
   rw[aj];show some (HO.lst (aC [nL l]++_))=_;rw[qN];show _=some (HO.lst (aC (Vacola.showKind (.leaf l))));rw[Vacola.showKind,Ho l wk];rfl
 |.group c kk fl fs,⟨⟨d,h1⟩,h2,h3⟩,wk,hlen,q=>
  obtain⟨he1,wf⟩:1≤e∧fO fs.fs (e-1):=wk
  have eS:Vacola.showKind (TK.group c kk fl fs).kd=Vacola.openSign c::(cW (fG fs)++[Vacola.closeSign c]):=by
   show Vacola.showKind (.group c fs.fs)=_;rw[Vacola.showKind,NP]
  rw[eS]at hlen q;simp only[List.length_cons,List.length_append,List.length_nil]at hlen;have hlen:(cW (fG fs)).length+2≤100000:=by have:dB=100000:=rfl;omega
  refine⟨_,rfl,kk,_,d,_,_,rfl,h1,T.bI,T.e9,gi,by show 1≤sizeLine;decide,fun l nl=>?_⟩;have s1:aI H0 (upd H0 l (.lst [V.int ((Vacola.openSign c:Nat):Int)])):=aM nl
  refine⟨_,rfl,kk,_,d,_,_,rfl,s1 _ _ h1,T.bI,T.c8,eU,fl,_,rfl,ay.of (s1 _ _ h2),NN (xs:=fs.as.map V.ref) (fun i σ H'=>aI H0 H'∧H' l=some (.lst (aC (Vacola.openSign c::cW ((fG fs).take i))))∧∃v1 v2,σ=[some (V.ref kk),some (V.ref l),v1,v2])
   ⟨s1,aj,Option.none,Option.none,rfl⟩ (fun i σ H' _ ⟨z,_⟩=>ay.of (z _ _ h2)) ?_ ?_⟩
  ·rintro i v σ H' Tt hi ⟨z1,z2,v1,v2,rfl⟩ hT
   obtain⟨x,hxi,rfl⟩:∃x,fs.items[i]? =some x∧v=V.ref x.f:=by
    unfold TF.as at hi;rw[List.getElem?_map,List.getElem?_map]at hi;cases e:fs.items[i]? with
    |none=>rw[e]at hi;cases hi
    |some x=>rw[e]at hi;cases hi;exact⟨x,rfl,rfl⟩
   have hxm:=List.mem_of_getElem? hxi;have hIt:(fG fs)[i]? =some (cK x.h x.k.kd):=by unfold fG;rw[List.getElem?_map,hxi];rfl
   have hmem:cK x.h x.k.kd∈fG fs:=List.mem_of_getElem? hIt;have hl1:=sq _ _ hmem;obtain⟨wx1,wx2⟩:=sf.mp wf (x.h,x.k.kd) (by rw[TF.fM];exact List.mem_map_of_mem hxm);generalize hH1:upd H' Tt (.tup [.int ((i:Nat):Int),V.ref x.f])=H1;have st:aI H' H1:=by rw[←hH1];exact aM hT
   have sT:aI H0 H1:=z1.trans st;have zT:=st _ _ z2;refine⟨Tt,_,rfl,dW.of (by rw[←hH1];exact aj),rfl,_,_,rfl,_,_,rfl,rfl,?_⟩;have take_i:(fG fs).take (i+1)=(fG fs).take i++[cK x.h x.k.kd]:=take_snoc hIt;have hlen2:=AN (fG fs) (i+1);obtain⟨σ2,hσ2⟩:∃σ2:L2.St,σ2=[some (V.ref kk),some (V.ref l),some (V.int ((i:Nat):Int)),some (V.ref x.f)]:=⟨_,rfl⟩;dsimp only;refine join (fun σ' H2=>σ'=σ2∧aI H0 H2∧∃pre,H2 l=some (.lst (aC pre))∧pre++cK x.h x.k.kd=Vacola.openSign c::cW ((fG fs).take (i+1))) ?_ (fun N hN=>?_)
   case refine_1=>
    rintro σ' H2 ⟨rfl,s2,pre,b2,e2⟩;subst hσ2;have hx2:bW a H2 x:=(dY.mp h3 x hxm).a_ (bZ.of_same s2);refine⟨_,rfl,.inl ⟨rfl,_,ay.of b2⟩,_,rfl,x,e-1,rfl,hx2,wx1,wx2,(by omega),(by show _≤100000;omega),fun H3 l3 s3 n3 b3=>?_⟩;refine⟨l,l3,_,_,rfl,rfl,s3 _ _ b2,b3,?_,?_⟩
    ·have e3:=congrArg List.length e2
     rw[List.length_append,List.length_cons]at e3;rw[bE,bE,sizeLine_eq];omega
    ·refine⟨fun b o hb'=>by rw[au (aV hb' nl)];exact s3 _ _ (s2 b o hb'),?_,_,_,rfl⟩
     rw[aj,qN,e2]
   case refine_2=>
    refine⟨_,rfl,_,_,rfl,rfl,_,rfl,?_⟩;by_cases h0:i=0
    ·subst h0
     refine hN _ _ ⟨hσ2.symm,sT,_,zT,?_⟩;rw[take_i];rfl
    ·rw[decide_eq_true (show(0:Int)<((i:Nat):Int) by omega)]
     have hne:(fG fs).take i≠[]:=fun z=>by
      have h8:=congrArg List.length z;rw[List.length_take,List.length_nil]at h8;have h9:=(List.getElem?_eq_some_iff.mp hIt).1;omega
     refine⟨_,rfl,.inl ⟨rfl,_,ay.of zT⟩,l,_,_,rfl,rfl,zT,?_,hN _ _ ⟨hσ2.symm,?_,Vacola.openSign c::cW ((fG fs).take i)++[59],?_,?_⟩⟩
     ·have h7:=AN (fG fs) i
      rw[bE,List.length_cons,sizeLine_eq];omega
     ·exact fun b o hb'=>by rw[au (aV hb' nl)];exact sT b o hb'
     ·rw[aj,i6];rfl
     ·rw[take_i,DA _ _ hne];simp
  ·rintro σ H' ⟨z1,z2,v1,v2,rfl⟩
   rw[List.length_map,TF.i_]at z2;have eT:(fG fs).take fs.items.length=fG fs:=List.take_of_length_le (by unfold fG;rw[List.length_map];exact Nat.le_refl _);rw[eT]at z2;refine⟨_,rfl,.inl ⟨rfl,_,ay.of z2⟩,?_⟩;refine⟨_,rfl,kk,_,d,_,_,rfl,z1 _ _ h1,T.bI,T.e9,gi,rfl,_,rfl,?_⟩;rw[bJ]
   have hz:(aC (Vacola.openSign c::cW (fG fs))).length<sizeLine:=by
    rw[bE,List.length_cons,sizeLine_eq];omega
   have fin:Q (.ref l) (upd H' l (.lst (aC (Vacola.openSign c::cW (fG fs))++[V.int ((Vacola.closeSign c:Nat):Int)]))):=by
    refine q _ l (fun b o hb'=>by rw[au (aV hb' nl)];exact z1 b o hb') nl ?_;rw[aj,←i6];rfl
   cases c
   ·exact⟨l,_,_,rfl,rfl,z2,hz,⟨_,rfl,fin⟩⟩
   ·exact⟨l,_,_,rfl,rfl,z2,hz,⟨_,rfl,fin⟩⟩
theorem Hq(T:Txt K mg a)(D1:aZ K mg "write_kind" pO ["kind"])(D2:aZ K mg "write_field" pP ["field"])(c_is_leaf:ao P w K mg base af 2 "is_leaf" ["kind"] (ic a eV))(c_write_size:ao P w K mg base af 2 "write_size" ["kind"] (qL a))
  (c_write_number:ao P w K mg base af 1 "write_number" ["number"] lS)(c_write_literal:ao P w K mg base af 3 "write_literal" ["value"] qM):∀dd,ao P w K mg base af (3+2*dd) "write_kind" ["kind"] (lT a dd)
 |0=>D1.aJ fun f fd _=>xG fun vs H Q E h=>by
  obtain⟨t,e,rfl,_,_,h1,_⟩:=h;omega
 |dd+1=>by
  have ih:=Hq T D1 D2 c_is_leaf c_write_size c_write_number c_write_literal dd;have cf:ao P w K mg base af (3+2*dd+1) "write_field" ["field"] (xN a dd):=D2.aJ fun f fd F=>NL (by omega) F T c_write_number c_write_literal ih
  have ck:ao P w K mg base af (3+2*dd+1+1) "write_kind" ["kind"] (lT a (dd+1)):=D1.aJ fun f fd F=>NQ (by omega) F T c_is_leaf c_write_size cf
  have e:3+2*(dd+1)=3+2*dd+1+1:=by omega
  rw[e];exact ck
inductive qO(a:aH)(vs:List V)(H:Hp)(Q:VK)(E:XK):Prop
 |mk:∀x:Fi,vs=[.ref x.f]→bW a H x→Q (.int ((Vacola.repOf x.h.mode:Nat):Int)) H→qO a vs H Q E
theorem NR{f:Addr}{fd:FuncData}(F:aK K "repetition_step" "repetition_step" u6 f fd)(T:Txt K mg a):aF P w K mg base af 1 f fd ["field"] (qO a):=by
 refine F.ok L_ (fun vs H Q E h=>by obtain⟨x,rfl,_⟩:=h;rfl) (fun cdv A outer s H vs Q E hr h=>?_);obtain⟨x,rfl,hx,q⟩:=h;obtain⟨⟨d,h1⟩,_⟩:=hx;refine⟨_,(ai (aU (PW.pt (f7 (aY bF (aD (pv 0) rfl) (aA T.lG) (aQ _)) (iR (aY bF (aD (pv 0) rfl) (aA T.kG) (aQ _))))) (aq (aB aN)) aX) (aq (aB aN))),?_⟩;refine⟨_,rfl,x.f,_,d,_,_,rfl,h1,T.bC,T.gK,jR,rfl,_,rfl,?_⟩;rw[bJ];generalize x.h.mode=m at q h1⊢;cases m
 ·exact⟨_,rfl,x.f,_,d,_,_,rfl,h1,T.bC,T.gK,jR,rfl,_,rfl,q⟩
 ·exact⟨_,rfl,x.f,_,d,_,_,rfl,h1,T.bC,T.gK,jR,rfl,_,rfl,q⟩
 ·exact q
 ·exact⟨_,rfl,x.f,_,d,_,_,rfl,h1,T.bC,T.gK,jR,rfl,_,rfl,q⟩
inductive qP(a:aH)(vs:List V)(H:Hp)(Q:VK)(E:XK):Prop
 |mk:∀(x:Fi)(g dg fl:Addr)(sz:Int)(c:Bool),vs=[.ref x.f,.ref g]→bW a H x→H g=some (.ins a.b7 dg (gA ((Vacola.openSign c:Nat):Int) sz fl))→Q (.int ((Vacola.defOf c x.h.mode:Nat):Int)) H→qP a vs H Q E
theorem NS{f:Addr}{fd:FuncData}(F:aK K "definition_step" "definition_step" u7 f fd)(T:Txt K mg a):aF P w K mg base af 1 f fd ["field","group"] (qP a):=by
 refine F.ok Ma (fun vs H Q E h=>by obtain⟨x,g,dg,fl,sz,c,rfl,_⟩:=h;rfl) (fun cdv A outer s H vs Q E hr h=>?_);obtain⟨x,g,dg,fl,sz,c,rfl,hx,hg,q⟩:=h;obtain⟨⟨d,h1⟩,_⟩:=hx;refine⟨_,(ai (aU (PW.pt (f7 (aY f9 (aD (pv 0) rfl) (aA T.jm) (aQ _)) (iR (aY bF (aD (pv 1) rfl) (aA T.ny) (aQ _))))) (aq (aB aN)) aX) (aq (aB aN))),?_⟩;refine⟨_,rfl,x.f,_,d,_,_,rfl,h1,T.bC,T.gK,jR,rfl,_,rfl,?_⟩;rw[ia];generalize x.h.mode=m at q h1⊢;cases m
 ·refine⟨_,rfl,g,_,dg,_,_,rfl,hg,T.bI,T.e9,gi,rfl,_,rfl,?_⟩
  rw[bJ,G7];cases c
  ·exact q
  ·exact q
 ·exact q
 ·exact q
 ·exact q
def qQ(k:Addr)(r d:Nat)(p:Addr):List (Str×V):=[("kind",.ref k),("repetition",.int (r:Int)),("definition",.int (d:Int)),("path",.ref p)]
def xO(a:aH)(H:Hp)(fo:Addr)(x:Addr)(c:Vacola.Column):Prop:=∃d k pl,H x=some (.ins a.dM d (qQ k c.rep c.defn pl))∧Cm a H k c.leaf∧H pl=some (.lst (aC c.path))∧pl≠fo
structure gR(a:aH)(H:Hp)(fo:Addr)(as:List Addr)(cs:List Vacola.Column):Prop where
 len:as.length=cs.length
 at_:∀(i:Nat)(x:Addr)(c:Vacola.Column),as[i]? =some x→cs[i]? =some c→xO a H fo x c
theorem xO.keeps{H H':Hp}{fo x:Addr}{c:Vacola.Column}{xs:List V}(h:xO a H fo x c)(hf:H fo=some (.lst xs))(k:Keeps H H' fo):xO a H' fo x c:=by
 obtain⟨d,kk,pl,h1,⟨dk,fl,h2⟩,h3,h4⟩:=h;exact⟨d,kk,pl,k _ _ h1 (iO h1 hf (by intro z;cases z)),⟨dk,fl,k _ _ h2 (iO h2 hf (by intro z;cases z))⟩,k _ _ h3 h4,h4⟩
theorem gR.keeps{H H':Hp}{fo:Addr}{as:List Addr}{cs:List Vacola.Column}{xs:List V}(h:gR a H fo as cs)(hf:H fo=some (.lst xs))(k:Keeps H H' fo):gR a H' fo as cs:=⟨h.len,fun i x c h1 h2=>(h.at_ i x c h1 h2).keeps hf k⟩
theorem gR.append{H:Hp}{fo:Addr}{as bs:List Addr}{cs ds:List Vacola.Column}(h:gR a H fo as cs)(g:gR a H fo bs ds):gR a H fo (as++bs) (cs++ds):=by
 refine⟨by rw[List.length_append,List.length_append,h.len,g.len],fun i x c h1 h2=>?_⟩;by_cases hi:i<as.length
 ·rw[List.getElem?_append_left hi]at h1
  rw[List.getElem?_append_left (by rw[←h.len];exact hi)]at h2;exact h.at_ i x c h1 h2
 ·rw[List.getElem?_append_right (by omega)]at h1
  rw[List.getElem?_append_right (by rw[←h.len];omega),←h.len]at h2;exact g.at_ _ x c h1 h2
theorem gR.nil{H:Hp}{fo:Addr}:gR a H fo [] []:=⟨rfl,fun i x c h1 _=>by simp at h1⟩
inductive nV(a:aH)(dd:Nat)(vs:List V)(H:Hp)(Q:VK)(E:XK):Prop
 |mk:∀(c:Bool)(k fl:Addr)(fs:TF)(r d:Nat)(pa:Addr)(path:List Nat)(fo:Addr)(as:List Addr),vs=[.ref k,.int (r:Int),.int (d:Int),.ref pa,.ref fo]→bK a H (.group c k fl fs)→H pa=some (.lst (aC path))→path.length+dd≤100→pa≠fo→H fo=some (.lst (as.map V.ref))→fo∉(TK.group c k fl fs).fp→dP fs.fs+1≤dd→as.length+Vacola.leavesFields fs.fs≤1000→(∀H' bs,Keeps H H' fo→H' fo=some (.lst ((as++bs).map V.ref))→gR a H' fo bs (Vacola.columnsFields fs.fs c path r d)→Q .aP H')→nV a dd vs H Q E
theorem qR{H:Hp}{fs:TF}{i:Nat}{v:V}(h:fh a H fs)(hi:(fs.as.map V.ref)[i]? =some v):∃x,fs.items[i]? =some x∧v=V.ref x.f∧bW a H x:=by
 unfold TF.as at hi;rw[List.getElem?_map,List.getElem?_map]at hi;cases e:fs.items[i]? with
 |none=>rw[e]at hi;cases hi
 |some x=>rw[e]at hi;cases hi;exact⟨x,rfl,rfl,dY.mp h x (List.mem_of_getElem? e)⟩
def jv(c:Bool)(p:List Nat)(r d:Nat)(x:Fi):List Vacola.Column:=Vacola.columnsKind x.k.kd (p++[x.h.number]) (r+Vacola.repOf x.h.mode) (d+Vacola.defOf c x.h.mode)
theorem NT(c:Bool)(p:List Nat)(r d:Nat)(fs:TF):Vacola.columnsFields fs.fs c p r d=fs.items.flatMap (jv c p r d):=by
 rw[AO,TF.fM,List.flatMap_map];rfl
theorem NU(fs:TF):Vacola.leavesFields fs.fs=(fs.items.map fun x=>Vacola.leavesKind x.k.kd).sum:=by
 rw[DB,TF.fM,List.map_map];rfl
theorem NV{f:Addr}{fd:FuncData}{dd k:Nat}(hk:3≤k)(F:aK K "gather_columns" "gather_columns" pW f fd)(T:Txt K mg a)(c_repetition_step:ao P w K mg base af 1 "repetition_step" ["field"] (qO a))(c_definition_step:ao P w K mg base af 1 "definition_step" ["field","group"] (qP a))
  (c_is_leaf:ao P w K mg base af 2 "is_leaf" ["kind"] (ic a eV))(k_Column:dI P w K mg base af 1 "Column" a.dM ["self","kind","repetition","definition","path"] (dz a.dM 4 fun us=>([("kind":Str),"repetition","definition","path"]).zip us))
  (c_gather_columns:ao P w K mg base af k "gather_columns" ["group","repetition","definition","path","found"] (nV a dd)):aF P w K mg base af (k+1) f fd ["group","repetition","definition","path","found"] (nV a (dd+1)):=by
 refine F.ok p_ (fun vs H Q E h=>by obtain⟨c,k,fl,fs,r,d,pa,path,fo,as,rfl,_⟩:=h;rfl) (fun cdv A outer s H vs Q E hr h=>?_);obtain⟨c,g,fl,fs,r,d,pa,path,fo,as,rfl,⟨⟨dg,hg⟩,hl,hfs⟩,hpa,hpl,npa,hfo,nfo,hh,hlv,q⟩:=h;refine⟨_,(aq (gZ PassesOwn.never rfl (gu (aD (pv 0) rfl)) (dR (i:=5) p_.nd rfl (Or.inl rfl)) (ai (aO (i:=6) p_.nd rfl (Or.inl rfl) (bU iU (pv 1) (aG c_repetition_step (hr.mono (by omega)) rfl az (aa (pv 5) ah)))) (ai (aO (i:=7) p_.nd rfl (Or.inl rfl) (bU iU (pv 2) (aG c_definition_step (hr.mono (by omega)) rfl az (aa (pv 5) (aa (pv 0) ah))))) (ai (aO (i:=8) p_.nd rfl (Or.inl rfl) (bU gg (pv 3) (bM (aa (aD (pv 5) rfl) ah)))) (aq (aU (c9 (aG c_is_leaf (hr.mono (by omega)) rfl az (aa (aD (pv 5) rfl) ah))) (aq (bS (eB PySem.F.plainAttrs_list PySem.F.slot_list_append PySem.F.type_list_append gb (pv 4) (aa (jM k_Column (hr.mono (by omega)) rfl az (aa (aD (pv 5) rfl) (aa (pv 6) (aa (pv 7) (aa (pv 8) ah))))) ah)))) (aq (bS (aG c_gather_columns (hr.mono (by omega)) rfl az (aa (aD (pv 5) rfl) (aa (pv 6) (aa (pv 7) (aa (pv 8) (aa (pv 4) ah))))))))))))))),?_⟩;have nfl:fl≠fo:=fun z=>nfo (by simp[TK.fp,z])
 have ngo:g≠fo:=fun z=>nfo (by simp[TK.fp,z])
 have nfs:fo∉fs.fp:=fun z=>nfo (by simp[TK.fp,z])
 refine⟨_,rfl,g,_,dg,_,_,rfl,hg,T.bI,T.c8,eU,fl,rfl,⟨_,ay.of hl⟩,jH (xs:=fs.as.map V.ref) (fun i σ H'=>∃bs v5 v6 v7 v8,σ=[some (V.ref g),some (V.int (r:Int)),some (V.int (d:Int)),some (V.ref pa),some (V.ref fo),v5,v6,v7,v8]∧Keeps H H' fo∧H' fo=some (.lst ((as++bs).map V.ref))∧
  gR a H' fo bs ((fs.items.take i).flatMap (jv c path r d))∧bs.length=((fs.items.take i).map fun x=>Vacola.leavesKind x.k.kd).sum) ⟨[],Option.none,Option.none,Option.none,Option.none,rfl,Keeps.refl H fo,by rw[List.append_nil];exact hfo,gR.nil,rfl⟩ (fun i σ H' _ ⟨bs,_,_,_,_,_,k1,_⟩=>ay.of (k1 _ _ hl nfl)) ?_ ?_⟩
 ·rintro i v σ H' hi ⟨bs,v5,v6,v7,v8,rfl,k1,b1,C1,ln1⟩
  obtain⟨x,hxi,rfl,hx0⟩:=qR hfs hi;have hxm:=List.mem_of_getElem? hxi;have hx:bW a H' x:=hx0.a_ ⟨fun b hb o h=>k1 b o h fun z=>nfs (by rw[←z];exact gE hxm hb)⟩;have hxf:fo∉x.fp:=fun z=>nfs (gE hxm z)
  have hg':=k1 _ _ hg ngo;have hpa':=k1 _ _ hpa npa;have hx':=hx;obtain⟨⟨dx,hx1⟩,hx2,hx3,hx4⟩:=hx';refine⟨_,rfl,_,rfl,x,rfl,hx,_,_,rfl,rfl,?_⟩;refine⟨_,rfl,_,rfl,_,rfl,x,g,dg,fl,_,c,rfl,hx,hg',_,_,rfl,rfl,?_⟩;refine⟨_,rfl,_,rfl,x.f,_,dx,_,_,rfl,hx1,T.bC,T.gh,iF,by show 1≤sizeLine;decide,fun l1 n1=>?_⟩;refine⟨pa,l1,_,_,rfl,rfl,aM n1 _ _ hpa',aj,?_,fun l2 n2=>?_⟩
  ·rw[bE,sizeLine_eq];show _+1≤_;omega
  generalize hH2:upd (upd H' l1 (.lst [V.int ((x.h.number:Nat):Int)])) l2 (.lst (aC path++[V.int ((x.h.number:Nat):Int)]))=H2;have s2:aI H' H2:=by rw[←hH2];exact(aM n1).trans (aM n2)
  have b2:H2 l2=some (.lst (aC (path++[x.h.number]))):=by rw[←hH2,aj,i6]
  have n2':H' l2=Option.none:=(aM n1).free n2;have l2fo:l2≠fo:=fun z=>by rw[z,b1]at n2';cases n2'
  have tk:(fs.items.take (i+1)).flatMap (jv c path r d)=(fs.items.take i).flatMap (jv c path r d)++jv c path r d x:=by
   rw[take_snoc hxi,List.flatMap_append];simp
  have tl:((fs.items.take (i+1)).map fun x=>Vacola.leavesKind x.k.kd).sum=((fs.items.take i).map fun x=>Vacola.leavesKind x.k.kd).sum+Vacola.leavesKind x.k.kd:=by
   rw[take_snoc hxi,List.map_append,List.sum_append];simp
  have tlt:((fs.items.take i).map fun x=>Vacola.leavesKind x.k.kd).sum+Vacola.leavesKind x.k.kd≤Vacola.leavesFields fs.fs:=by
   rw[NU,List.map_take];exact DE _ i _ (by rw[List.getElem?_map,hxi];rfl)
  have hgt:gX x.k.kd≤dd:=by
   have:=su (fs:=fs.fs) (x:=(x.h,x.k.kd)) (by rw[TF.fM];exact List.mem_map_of_mem hxm);dsimp only at this;omega
  refine⟨_,rfl,x.f,_,dx,_,_,rfl,s2 _ _ hx1,T.bC,T.e_,gC,x.k,rfl,hx4.a_ (bZ.of_same s2),fun H3 s3=>⟨_,rfl,?_⟩⟩;have s03:aI H' H3:=s2.trans s3;have k03:Keeps H H3 fo:=fun b o h hb=>s03 _ _ (k1 b o h hb)
  have f3:=s03 _ _ b1;have C3:gR a H3 fo bs ((fs.items.take i).flatMap (jv c path r d)):=C1.keeps b1 (fun b o h _=>s03 b o h);have hx4':=hx4.a_ (bZ.of_same s03)
  match hkx:x.k with
  |.leaf l kk kl=>
   rw[hkx]at hx4';obtain⟨⟨dk,hk1⟩,hk2⟩:=hx4';refine⟨_,rfl,.inl ⟨rfl,_,ay.of f3⟩,?_⟩;refine⟨_,rfl,x.f,_,dx,_,_,rfl,s03 _ _ hx1,T.bC,T.e_,gC,_,rfl,_,rfl,_,rfl,?_⟩;intro y dy hy hdy hne;refine⟨y,dy,_,rfl,rfl,aj,rfl,?_⟩;rw[dQ];generalize hH4:upd (upd H3 dy (.own y)) y _=H4;have s4:aI H3 H4:=fun b o h=>by rw[←hH4,au (aV h hy),au (aV h hdy)];exact h
   have f4:=s4 _ _ f3;have yfo:y≠fo:=fun z=>by rw[z,f3]at hy;cases hy
   refine⟨fo,_,_,rfl,rfl,f4,?_,?_⟩
   ·rw[List.length_map,List.length_append,sizeLine_eq];omega
   ·have k04:Keeps H H4 fo:=fun b o h hb=>s4 _ _ (k03 b o h hb)
    have kf:Keeps H4 (upd H4 fo (.lst ((as++bs).map V.ref++[V.ref y]))) fo:=fun b o h hb=>by rw[au hb];exact h
    refine⟨bs++[y],_,_,_,_,rfl,k04.trans kf,?_,?_,?_⟩
    ·rw[aj,←List.append_assoc,List.map_append (l₂:=[y])];rfl
    ·rw[tk]
     refine(C3.keeps f3 (fun b o h _=>s4 b o h)).keeps f4 kf|>.append ?_
     have eq1:jv c path r d x=[{path:=path++[x.h.number],leaf:=l,rep:=r+Vacola.repOf x.h.mode,defn:=d+Vacola.defOf c x.h.mode}]:=by
      unfold jv;rw[hkx];rfl
     rw[eq1];refine⟨rfl,fun j z c' h1 h2=>?_⟩
     match j,h1,h2 with
     |0,h1,h2=>
      cases h1;cases h2;refine⟨dy,kk,l2,?_,⟨dk,kl,?_⟩,?_,l2fo⟩
      ·rw[au yfo,←hH4,aj,hkx];rfl
      ·rw[au (iO (s4 _ _ hk1) f4 (by intro z;cases z))];exact s4 _ _ hk1
      ·rw[au l2fo];exact s4 _ _ (s3 _ _ b2)
     |j+1,h1,_=>simp at h1
    ·rw[tl,List.length_append,ln1,hkx];rfl
  |.group c' kk kl gs=>
   rw[hkx]at hx4' hgt tlt tl;have hgt':1+dP gs.fs≤dd:=hgt;have tlt':((fs.items.take i).map fun x=>Vacola.leavesKind x.k.kd).sum+Vacola.leavesFields gs.fs≤Vacola.leavesFields fs.fs:=tlt;refine⟨_,rfl,x.f,_,dx,_,_,rfl,s03 _ _ hx1,T.bC,T.e_,gC,_,rfl,_,rfl,_,rfl,_,rfl,?_⟩;refine⟨c',kk,kl,gs,r+Vacola.repOf x.h.mode,d+Vacola.defOf c x.h.mode,l2,path++[x.h.number],fo,as++bs,(by rw[hkx];rfl),hx4',s3 _ _ b2,?_,l2fo,f3,?_,by omega,?_,fun H4 cs k4 b4 C4=>?_⟩
   ·rw[List.length_append];show _+1+dd≤100;omega
   ·intro z
    exact hxf (k9 (by rw[hkx];exact z))
   ·rw[List.length_append,ln1];omega
   ·refine⟨bs++cs,_,_,_,_,rfl,k03.trans k4,?_,?_,?_⟩
    ·rw[←List.append_assoc];exact b4
    ·rw[tk]
     refine(C3.keeps f3 k4).append ?_
     have eq1:jv c path r d x=Vacola.columnsFields gs.fs c' (path++[x.h.number]) (r+Vacola.repOf x.h.mode) (d+Vacola.defOf c x.h.mode):=by
      unfold jv;rw[hkx];rfl
     rw[eq1];exact C4
    ·rw[tl,List.length_append,ln1,C4.len,sr];rfl
 ·rintro σ H' ⟨bs,v5,v6,v7,v8,rfl,k1,b1,C1,ln1⟩
  rw[List.length_map,TF.i_,List.take_length]at C1;rw[←NT]at C1;exact q H' bs k1 b1 C1
inductive lU(a:aH)(vs:List V)(H:Hp)(Q:VK)(E:XK):Prop
 |mk:∀(k fl:Addr)(fs:TF),vs=[.ref k]→bK a H (.group false k fl fs)→dP fs.fs≤6→Vacola.leavesFields fs.fs≤40→(∀H' l as,aI H H'→H l=Option.none→H' l=some (.lst (as.map V.ref))→gR a H' l as (Vacola.columns fs.fs)→Q (.ref l) H')→lU a vs H Q E
theorem NW{f:Addr}{fd:FuncData}{k:Nat}(F:aK K "columns_of" "columns_of" uZ f fd)(T:Txt K mg a)(c_gather_columns:ao P w K mg base af k "gather_columns" ["group","repetition","definition","path","found"] (nV a 7)):aF P w K mg base af (k+1) f fd ["schema"] (lU a):=by
 refine F.ok Gy (fun vs H Q E h=>by obtain⟨k,fl,fs,rfl,_⟩:=h;rfl) (fun cdv A outer s H vs Q E hr h=>?_);obtain⟨kk,fl,fs,rfl,hk,hh,hlv,q⟩:=h;refine⟨_,(ai (aO (i:=1) Gy.nd rfl (Or.inl rfl) (bM ah)) (ai (bS (aG c_gather_columns (hr.mono (by omega)) rfl az (aa (pv 0) (aa aN (aa aN (aa (bM ah) (aa (pv 1) ah))))))) (aq (aB (pv 1))))),?_⟩;refine⟨Nat.zero_le _,fun l hl=>?_⟩;refine⟨_,rfl,Nat.zero_le _,fun pa hpa=>?_⟩;have s2:aI H (upd (upd H l (.lst [])) pa (.lst [])):=(aM hl).trans (aM hpa);refine⟨_,rfl,false,kk,fl,fs,0,0,pa,[],l,[],rfl,hk.a_ (bZ.of_same s2),aj,by decide,(aV aj hpa).symm,aM hpa _ _ aj,?_,by omega,?_,fun H' bs k1 b1 C1=>?_⟩
 ·intro z
  obtain⟨o,h,_⟩:=hk.obj l z;rw[hl]at h;cases h
 ·show 0+_≤1000
  omega
 ·exact⟨_,rfl,q H' l bs (fun b o h=>k1 b o (s2 b o h) (aV h hl)) hl b1 C1⟩
theorem Hr(T:Txt K mg a)(D:aZ K mg "gather_columns" pW ["group","repetition","definition","path","found"])(c_repetition_step:ao P w K mg base af 1 "repetition_step" ["field"] (qO a))(c_definition_step:ao P w K mg base af 1 "definition_step" ["field","group"] (qP a))
  (c_is_leaf:ao P w K mg base af 2 "is_leaf" ["kind"] (ic a eV))(k_Column:dI P w K mg base af 1 "Column" a.dM ["self","kind","repetition","definition","path"] (dz a.dM 4 fun us=>([("kind":Str),"repetition","definition","path"]).zip us)):
  ∀dd,ao P w K mg base af (3+dd) "gather_columns" ["group","repetition","definition","path","found"] (nV a dd)
 |0=>D.aJ fun f fd _=>xG fun vs H Q E h=>by
  obtain⟨c,k,fl,fs,r,d,pa,path,fo,as,rfl,_,_,_,_,_,_,h1,_⟩:=h;omega
 |dd+1=>by
  have ih:=Hr T D c_repetition_step c_definition_step c_is_leaf k_Column dd;have cg:ao P w K mg base af (3+dd+1) "gather_columns" ["group","repetition","definition","path","found"] (nV a (dd+1)):=D.aJ fun f fd F=>NV (by omega) F T c_repetition_step c_definition_step c_is_leaf k_Column ih
  exact cg
theorem NX{f:Addr}{fd:FuncData}(F:aK K "__init__" "Column.__init__" uY f fd)(T:Txt K mg a):aF P w K mg base af 1 f fd ["self","kind","repetition","definition","path"] (dz a.dM 4 fun us=>([("kind":Str),"repetition","definition","path"]).zip us):=by
 refine F.ok L8 (fun vs H Q E h=>by obtain⟨p,dx,us,rfl,hl,_⟩:=h;rw[List.length_cons,hl];rfl) (fun cdv A outer s H vs Q E hr h=>?_);obtain⟨p,dx,us,rfl,hl,hp,q⟩:=h
 match us,hl,q with
 |[x1,x2,x3,x4],_,q=>
  refine⟨_,(ai (cM (pv 0) (pv 1) rfl) (ai (cM (pv 0) (pv 2) rfl) (ai (cM (pv 0) (pv 3) rfl) (aq (cM (pv 0) (pv 4) rfl))))),?_⟩;refine⟨_,rfl,_,rfl,p,_,dx,_,rfl,hp,T.gy,T.nF,(by show 0<1000;decide),?_⟩;refine⟨_,rfl,_,rfl,p,_,dx,_,rfl,aj,T.gy,T.qp,(by show 1<1000;decide),?_⟩;refine⟨_,rfl,_,rfl,p,_,dx,_,rfl,aj,T.gy,T.qs,(by show 2<1000;decide),?_⟩;refine⟨_,rfl,_,rfl,p,_,dx,_,rfl,aj,T.gy,T.kK,(by show 3<1000;decide),?_⟩;rw[dQ,dQ,dQ];exact q
end Vp
end
section
namespace L2
open PySem PySem.Spec PyProof.Rows
def jw(c:Addr)(q:Str):HO:=.ext fun h=>h.CodeRec (.ref c) q
def iH(f:Addr)(fd:FuncData):HO:=.ext fun h=>h.get? f=some {cls:=.type "function",data:=.func fd}
def gj(c:Addr)(o:Obj):HO:=.ext fun h=>h.get? c=some o
def Hs(H:Hp)(c:Addr)(v:V):Prop:=∃o u,H c=some (gj c o)∧o.data=.cell (some u)∧RelV v u
section
variable{P:Program}{w:World}{H:Hp}{h:Heap}{c f:Addr}{q:Str}{fd:FuncData}{v:V}
theorem NY(x:h.CodeRec (.ref c) q):cO P w H h c (jw c q):=pF x (let⟨_,o,_,_,e,g,_⟩:=x;⟨o,by cases e;exact g⟩) fun h1 h2 ⟨c',o,vs,t,e,g,r⟩ k=>⟨c',o,vs,t,e,(by cases e;exact k _ g),r⟩
theorem Ht(x:h.get? f=some {cls:=.type "function",data:=.func fd}):cO P w H h f (iH f fd):=pF x ⟨_,x⟩ fun _ _ p k=>k _ p
theorem Hu{o:Obj}(x:h.get? c=some o):cO P w H h c (gj c o):=pF x ⟨_,x⟩ fun _ _ p k=>k _ p
end
def BMain(mg:Str→Option Value)(base:Heap):Prop:=∃bm ob,mg "__builtins__"=some (.ref bm)∧bm≠builtinsNs∧base.get? bm=some ob∧ob.cls=.type "module"∧ob.dict=some builtinsNs∧ob.data=.plain
def Cs(q:Str)(params:Arguments)(body:PySem.Expr)(sc:Scope)(clos:List (Str×Addr))(c:Addr)(fd:FuncData):Prop:=∃pm ctv,fd=PySem.W.kla_fn "<lambda>" q params body sc clos pm (.ref c) ctv
def TabAt(H:Hp)(T:Addr)(pos:Pos)(q:Str):Prop:=H T=some (.cV #[])∨∃c,H T=some (.cV #[rawInt pos.line,rawInt pos.col,.ref c])∧H c=some (jw c q)
def NZ(T:Addr)(pos:Pos)(q:Str)(params:Arguments)(body:PySem.Expr)(sc:Scope)(clos:List (Str×Addr)):TE:=fun σ H Q=>TabAt H T pos q∧
 ∀H' f fd c,(∀b o,H b=some o→b≠T→H' b=some o)→TabAt H' T pos q→H' c=some (jw c q)→H' f=some (iH f fd)→H f=Option.none→Cs q params body sc clos c fd→Q (.ref f) H'
section
variable{X:Cx}{pins:List (Addr×Obj)}{σ:St}{H:Hp}{s:Shared}
theorem Inv.lam{h2:Heap}{T c f:Addr}{ps more:Array Value}{q:Str}{fd:FuncData}{tk:Nat}(I:Inv X pins σ H s)(hT:H T=some (.cV ps))(kp:∀b o,b≠T→s.heap.get? b=some o→h2.get? b=some o)(hT2:h2.get? T=some {cls:=.none,data:=.fields (ps++more)})
  (hc:s.heap.objs.size≤c)(hf:s.heap.objs.size≤f)(cf:c≠f)(C2:h2.CodeRec (.ref c) q)(F2:h2.get? f=some {cls:=.type "function",data:=.func fd}):
  Inv X pins σ (upd (upd (upd H T (.cV (ps++more))) c (jw c q)) f (iH f fd)) {s with heap:=h2,toks:=tk}:=by
 have nc:H c=Option.none:=I.hok.fresh hc;have nf:H f=Option.none:=I.hok.fresh hf;have Tc:T≠c:=aV hT nc;have Tf:T≠f:=aV hT nf;have at_:∀b o,H b=some o→b≠T→upd (upd (upd H T (.cV (ps++more))) c (jw c q)) f (iH f fd) b=some o:=fun b o q' hb=>by rw[au (aV q' nf),au (aV q' nc),au hb];exact q'
 have nT:∀b,H b=Option.none→b≠T:=fun b n z=>by rw[z,hT]at n;cases n
 have lt:∀b o,s.heap.get? b=some o→b≠c∧b≠f:=fun b o e=>⟨Nat.ne_of_lt (Nat.lt_of_lt_of_le (Heap.lt_size e) hc),Nat.ne_of_lt (Nat.lt_of_lt_of_le (Heap.lt_size e) hf)⟩
 refine I.un (t':=tk) ⟨fun b o e n _ _=>kp b o (nT b n) e,fun b o e n _ _=>⟨o.slots,kp b o (nT b n) e⟩,fun b o e n _=>?_,fun b o e _=>?_,fun b xs e=>at_ b _ e (fun z=>by rw[z,hT]at e;cases e),fun b o xs e=>at_ b _ e (fun z=>by rw[z,hT]at e;cases e),fun b ps' e=>?_⟩ fun b u e=>?_
 ·rw[au (lt b o e).2,au (lt b o e).1,au (nT b n)];exact n
 ·by_cases hb:b=T
  ·rw[hb];exact⟨_,hT2⟩
  ·exact⟨o,kp b o hb e⟩
 ·by_cases hb:b=T
  ·rw[hb,hT]at e
   cases e;exact⟨more,by rw[hb,au Tf,au Tc,aj]⟩
  ·exact⟨#[],by rw[at_ b _ e hb];simp⟩
 ·by_cases bf:b=f
  ·subst bf
   rw[aj]at e;cases e;exact Ht F2
  ·rw[au bf]at e
   by_cases bc:b=c
   ·subst bc
    rw[aj]at e;cases e;exact NY C2
   ·rw[au bc]at e
    by_cases bT:b=T
    ·subst bT
     rw[aj]at e;cases e;exact hT2
    ·rw[au bT]at e
     refine(I.hok b u e).stay (fun d o hd z=>kp d o ?_ z) (fun d z=>at_ d _ z (fun y=>by rw[y,hT]at z;cases z)) fun d xs z=>at_ d _ z (fun y=>by rw[y,hT]at z;cases z)
     rcases hd with rfl|hd
     ·exact bT
     ·intro y;rw[y,hT]at hd;cases hd
theorem nW{params:Arguments}{body:PySem.Expr}{sc:Scope}{pos:Pos}{clos:List (Str×Addr)}{c T:Addr}(C:PySem.W.CodeHd X.base c T)(B:BMain X.mg X.base)(hcode:X.env.code=.ref c)(hcl:closureFor sc X.env=pure clos)(hdef:defaultsOf params X.env=([],[])):
  PE X (.Lambda params body sc pos) (NZ T pos (X.env.qual++"<lambda>") params body sc clos):=by
 intro pins s σ H Q I h;obtain⟨tab,h⟩:=h;obtain⟨bm,ob,b1,b2,b3,b4,b5,b6⟩:=B;have hg:s.heap.Ns mainGlobals X.mg:=I.mod.glob.keeps I.bk
 have fin:∀ps,H T=some (.cV ps)→(mainGlobals≠T∧s.heap.BuiltinsAt X.mg T∧s.heap.get? T=some (PySem.W.tabObj ps)):=fun ps hT=>by
  have nb:∀b o,X.base.get? b=some o→b≠T:=fun b o e z=>by
   have:=(I.bs b o e).2;rw[z,hT]at this;cases this
  refine⟨?_,⟨bm,ob,b1,b2,?_,nb bm ob b3,I.bk _ _ b3,b4,b5,b6⟩,I.hok T _ hT⟩
  ·obtain⟨o,es,ep,e,_⟩:=I.mod.glob
   exact nb _ _ e
  ·rintro rfl
   obtain⟨o,es,ep,e,hd,_⟩:=I.mod.glob;rw[e]at b3;cases b3;rw[hd]at b6;cases b6
 refine PySem.W.kla_eval hdef ?_;rcases tab with hT|⟨c0,hT,hc0⟩
 ·obtain⟨f1,f2,f3⟩:=fin _ hT
  refine PySem.W.kla_makeFunction (mg:=X.mg) hcl I.ok.glob hg hcode (C.keeps I.bk) f3 trivial rfl f1 f2 fun c' ctv h' tk hx hge hlt hrec htb=>?_
  have hsz:s.heap.objs.size≤h'.objs.size:=Nat.le_of_lt (Nat.lt_of_le_of_lt hge hlt);have I2:=I.lam (h2:=h'.push (PySem.W.kla_obj "<lambda>" (X.env.qual++"<lambda>") params body sc clos ((X.mg "__name__").getD .none) c' ctv)) (more:=#[rawInt pos.line,rawInt pos.col,.ref c']) (tk:=tk) hT (fun b o hb e=>Heap.get?_push_of_some _ (hx b o hb e)) (Heap.get?_push_of_some _ htb) hge hsz (Nat.ne_of_lt hlt) (hrec.push _) (Heap.get?_push_size _ rfl);have nc:H c'=Option.none:=I.hok.fresh hge;have nf:H h'.objs.size=Option.none:=I.hok.fresh hsz;refine⟨.ref h'.objs.size,_,I2,rfl,h _ h'.objs.size _ c' (fun b o e hb=>?_) ?_ ?_ aj nf ⟨_,_,rfl⟩⟩
  ·rw[au (aV e nf),au (aV e nc),au hb];exact e
  ·refine .inr ⟨c',?_,?_⟩
   ·rw[au (aV hT nf),au (aV hT nc),aj];simp
   ·rw[au (Nat.ne_of_lt hlt),aj]
  ·rw[au (Nat.ne_of_lt hlt),aj]
 ·obtain⟨f1,f2,f3⟩:=fin _ hT
  refine PySem.W.kla_makeFunctionHit (mg:=X.mg) (cv:=.ref c0) hcl I.ok.glob hg hcode (C.keeps I.bk) f3 (by simp[rawInt,TriplesOk]) (by simp[rawInt,codeAmong]) f2 fun ctv h' tk hk hsz=>?_
  have nf:H h'.objs.size=Option.none:=I.hok.fresh hsz
  have I2:=I.laid (a:=h'.objs.size) (o:=iH h'.objs.size (PySem.W.kla_fn "<lambda>" (X.env.qual++"<lambda>") params body sc clos ((X.mg "__name__").getD .none) (.ref c0) ctv)) (t':=tk)
   (h':=h'.push {cls:=.type "function",data:=.func (PySem.W.kla_fn "<lambda>" (X.env.qual++"<lambda>") params body sc clos ((X.mg "__name__").getD .none) (.ref c0) ctv)}) (fun b u e=>Heap.get?_push_of_some _ (hk b u e)) hsz (Ht (Heap.get?_push_size _ rfl))
  have at_:∀b o,H b=some o→upd H h'.objs.size (iH h'.objs.size (PySem.W.kla_fn "<lambda>" (X.env.qual++"<lambda>") params body sc clos ((X.mg "__name__").getD .none) (.ref c0) ctv)) b=some o:=fun b o e=>by rw[au (aV e nf)];exact e
  exact⟨.ref h'.objs.size,_,I2,rfl,h _ h'.objs.size _ c0 (fun b o e _=>at_ b o e) (.inr ⟨c0,at_ _ _ hT,at_ _ _ hc0⟩) (at_ _ _ hc0) aj nf ⟨_,_,rfl⟩⟩
end
def jx(P:Program)(w:World)(K:PySem.W.Frag)(mg:Str→Option Value)(base:Heap)(k:Nat)(f:Addr)(sp:Sp):Prop:=∀(A:Around)(outer:List Env)(s:Shared)(H:Hp)(us:List Value)(vs:List V)(Q:VK)(E:XK),bX k A→jJ P w K mg base A outer s H→Vals vs us→sp vs H Q E→
 codeAny (model P w) A (.call (.ref f) ⟨us,[]⟩) (CR af outer P w H s Q E) s
def N1(P:Program)(w:World)(K:PySem.W.Frag)(mg:Str→Option Value)(base:Heap)(k:Nat)(tf:TE)(t:TA):TE:=fun σ H Q=>tf σ H fun x H0=>∃f fd,x=.ref f∧t σ H0 fun vs H1=>∃sp,H1 f=some (iH f fd)∧jx P w K mg base k f sp∧sp vs H1 Q E0
section
variable{X:Cx}{x:Str}{p pos:Pos}{e:PySem.Expr}{es:List PySem.Expr}{t:TA}{tf:TE}{k:Nat}
theorem Hv{P:Program}{w:World}{K:PySem.W.Frag}{mg:Str→Option Value}{base:Heap}(ex:X.prog=P∧X.w=w∧X.K=K∧X.mg=mg∧X.base=base)(hf:PE X (.Name x p) tf)(hr:bX k X.A)(ha:PA X (e::es) t)(he:starEach (e::es) X.env=(false,eval e X.env)::starEach es X.env:=by rfl):
  PE X (.Call (.Name x p) (e::es) [] pos) (N1 P w K mg base k tf t):=by
 obtain⟨rfl,rfl,rfl,rfl,rfl⟩:=ex;intro pins s σ H Q I h;refine wpAny_Call_Name_kw (bh (hf pins s σ H _ I h) fun u s0 ⟨v,H0,I0,r0,f,fd,ev,q0⟩=>?_);subst ev;obtain rfl:u=Value.ref f:=r0;refine callWith_def (o:={cls:=.type "function",data:=.func fd}) rfl (bh (ha pos pins s0 σ H0 _ I0 q0) fun us s1 ⟨vs,H1,I1,r1,sp,hf1,ok,q1⟩=>⟨(I1.hok f _ hf1).1,?_⟩) he;refine wpAny_call (codeAny_mono (ok X.A X.stack s1 H1 us vs Q E0 hr I1.o8 r1 q1) fun r s' hq=>?_);cases r with
 |error e=>exact False.elim hq
 |ok fl=>
  cases fl with
  |ret u=>exact I1.after hq
  |next=>exact False.elim hq
  |brk=>exact False.elim hq
  |cont=>exact False.elim hq
end
def fH(H:Hp)(cs:List Addr):Hp:=fun b=>if b∈cs then Option.none else H b
def i7(H H':Hp)(cs:List Addr):Hp:=fun b=>if b∈cs then H b else H' b
theorem xP{H:Hp}{cs:List Addr}{b:Addr}(h:b∈cs):fH H cs b=Option.none:=by unfold fH;rw[if_pos h]
theorem jy{H:Hp}{cs:List Addr}{b:Addr}(h:b∉cs):fH H cs b=H b:=by unfold fH;rw[if_neg h]
theorem Ct{H H':Hp}{cs:List Addr}{b:Addr}(h:b∈cs):i7 H H' cs b=H b:=by unfold i7;rw[if_pos h]
theorem jz{H H':Hp}{cs:List Addr}{b:Addr}(h:b∉cs):i7 H H' cs b=H' b:=by unfold i7;rw[if_neg h]
theorem Hw{H:Hp}:fH H []=H:=by funext b;exact jy (by simp)
theorem Hx{H H':Hp}:i7 H H' []=H':=by funext b;exact jz (by simp)
def Hy(P:Program)(w:World)(K:PySem.W.Frag)(mg:Str→Option Value)(base:Heap)(N:List Str)(q:Str)(sc:Scope)(f c:Addr)(clos:List (Str×Addr))(A:Around)(outer:List Env)(s:Shared)(H:Hp):Cx where
 prog:=P
 w:=w
 K:=K
 mg:=mg
 base:=base
 A:=A.deeper (PySem.W.envX q sc s.heap.objs.size f (.ref c) clos)
 N:=N
 cR:=s
 j4:=H
 env:=PySem.W.envX q sc s.heap.objs.size f (.ref c) clos
 outer:=outer
 stack:=PySem.W.envX q sc s.heap.objs.size f (.ref c) clos::outer
 ex:=[]
 calm:=true
 fn:=fun _=>false
 pn:=[]
 xe:=fun _ _=>False
inductive Cu:List (Str×Addr)→List V→Prop where
 |nil:Cu [] []
 |one (x:Str) (c:Addr) (v:V):Cu [(x,c)] [v]
theorem nY{P:Program}{w:World}{K:PySem.W.Frag}{mg:Str→Option Value}{base:Heap}{k:Nat}{f c:Addr}{fd:FuncData}{q p:Str}{params:Arguments}{body:PySem.Expr}{sc:Scope}{clos:List (Str×Addr)}{cvs:List V}{sp:Sp}(hfd:Cs q params body sc clos c fd)(hcl:Cu clos cvs)
  (hb:∀u,bindArgs fd ⟨[u],[]⟩=pure [(p,u)])(hk:sc.kind=.function)(hco:sc.isCoroutine=false)(hgen:sc.isGenerator=false)(hnc:∀y∈sc.names,y.2≠.cell)(hp:sc.names.lookup p=some .local)(hpx:∀y∈clos,y.1≠p∧sc.names.lookup y.1=some .free)(hfr:∀y,sc.names.lookup y=some .free→∃c,clos.lookup y=some c)
  (hsp:∀vs H Q E,sp vs H Q E→vs.length=1∧H f=some (iH f fd)∧H c=some (jw c q)∧∀(i:Nat)(y:Str×Addr)(v:V),clos[i]? =some y→cvs[i]? =some v→Hs H y.2 v)
  (hbody:∀(A:Around)(outer:List Env)(s:Shared)(H:Hp)(v:V)(Q:VK)(E:XK),bX k (A.deeper (PySem.W.envX q sc s.heap.objs.size f (.ref c) clos))→sp [v] H Q E→
   ∃t,PE (Hy P w K mg base (p::clos.map (·.1)) q sc f c clos A outer s (fH H (clos.map (·.2)))) body t∧t (some v::cvs.map some) (fH H (clos.map (·.2))) fun r H'=>(∀b∈clos.map (·.2),H' b=Option.none)→Q r (i7 H H' (clos.map (·.2)))):jx P w K mg base (k+1) f sp:=by
 obtain⟨pm,ctv,rfl⟩:=hfd;intro A outer s H us vs Q E hr e0 rv h;obtain⟨hl,hf,hc,hcs⟩:=hsp _ _ _ _ h
 obtain⟨v,rfl⟩:∃v,vs=[v]:=by
  match vs,hl with
  |[v],_=>exact⟨v,rfl⟩
 obtain⟨u,rfl,ru⟩:=vals1 rv;have lim:s.heap.NoLimit:=e0.mod.nolimit.keeps fun b o e=>(e0.bs b o e).1
 have gf:s.heap.get? f=some {cls:=.type "function",data:=.func (PySem.W.kla_fn "<lambda>" q params body sc clos pm (.ref c) ctv)}:=(e0.hok f _ hf).1;have gc:s.heap.CodeRec (.ref c) q:=(e0.hok c _ hc).1;refine PySem.W.kla_callFunE (body:=body) hr.depth gf rfl hco hgen rfl gc ?_;rw[hb];refine wpAny_pure (wpAny_newFunctionEnv hnc (fun y hy=>by rw[List.mem_singleton.mp hy];exact hp) (fun h1 hns hsb=>⟨lim.fresh _ hsb,?_⟩) hk);have hk1:∀b o,s.heap.get? b=some o→h1.get? b=some o:=fun b o e=>hsb.extBut b o (Nat.ne_of_lt (Heap.lt_size e)) (Heap.get?_push_of_some _ e)
 obtain⟨t,ht,hq⟩:=hbody A outer s H v Q E (hr.deeper _) h;generalize hcs':clos.map (·.2)=cs at ht hq
 have mem_cs:∀b∈cs,∃(i:Nat)(y:Str×Addr)(w':V),clos[i]? =some y∧cvs[i]? =some w'∧y.2=b:=by
  intro b hb';rw[←hcs']at hb';cases hcl with
  |nil=>cases hb'
  |one x c0 v0=>
   have:b=c0:=by simpa using hb'
   exact⟨0,(x,c0),v0,rfl,rfl,this.symm⟩
 have cs_H:∀b∈cs,∃w',H b=some (gj b w'):=by
  intro b hb';obtain⟨i,y,w',h1,h2,rfl⟩:=mem_cs b hb';obtain⟨o,_,g,_⟩:=hcs i y w' h1 h2;exact⟨o,g⟩
 have drop_some:∀b o,H b=some o→(∀φ,o≠.ext φ)→fH H cs b=some o:=fun b o e ho=>by
  rw[jy]
  ·exact e
  ·intro z
   obtain⟨w',hw⟩:=cs_H b z;rw[hw]at e;cases e;exact ho _ rfl
 have drop_none:∀b,H b=Option.none→fH H cs b=Option.none:=fun b e=>by
  unfold fH;split
  ·rfl
  ·exact e
 have hok0:cy P w (fH H cs) s.heap:=fun b o e=>by
  have hb':b∉cs:=fun z=>by rw[xP z]at e;cases e
  rw[jy hb']at e;exact(e0.hok b o e).stay (fun _ _ _ z=>z) (fun d z=>drop_some d _ z (fun _ y=>by cases y)) fun d xs z=>drop_some d _ z (fun _ y=>by cases y)
 have look:∀x c0,clos.lookup x=some c0→c0∈cs∧sc.names.lookup x=some .free∧x≠p:=fun x c0 e=>by
  rw[←hcs'];have hm:=PySem.mem_of_lookup e;exact⟨List.mem_map.mpr ⟨_,hm,rfl⟩,(hpx _ hm).2,(hpx _ hm).1⟩
 have cellAt:∀b∈cs,∃o u',s.heap.get? b=some o∧o.data=.cell (some u'):=fun b hb'=>by
  obtain⟨i,y,w',h1,h2,rfl⟩:=mem_cs b hb';obtain⟨o,u',g,g2,_⟩:=hcs i y w' h1 h2;exact⟨o,u',(e0.hok _ _ g).1,g2⟩
 have I:Inv (Hy P w K mg base (p::clos.map (·.1)) q sc f c clos A outer s (fH H cs)) [] (some v::cvs.map some) (fH H cs) {s with heap:=h1,toks:=s.toks+[(p,u)].length}:=by
  refine⟨⟨e0.mod,hk,rfl,rfl,Nat.le_refl _,fun x y c0 h1' h2'=>?_,fun x hx=>?_,fun x c0 hx _=>absurd (show false=true from hx) (by simp),fun _=>hr.hd,Around.frames_deeper e0.frames,.inr ⟨rfl,rfl⟩,fun b z=>absurd (show b∈([]:List Addr)from z) (by simp),fun b o e=>⟨(e0.bs b o e).1,drop_none b (e0.bs b o e).2⟩,e0.gp,fun b _ _ z=>absurd (show b∈([]:List Addr)from z) (by simp),fun b z=>absurd (show b∈([]:List Addr)from z) (by simp),e0.fz,fun b hb'=>drop_none b (e0.gY b hb')⟩,
   rfl,e0.bare,Un.kept hk1,⟨_,hns,fun i x v' h1' h2' h3'=>?_⟩,fun x c0 e=>?_,drop_none _ (e0.hok.fresh (Nat.le_refl _)),fun x c0 e=>xP (look x c0 e).1,fun p' hp'=>absurd (show p'∈([]:List (Addr×Obj))from hp') (by simp),hok0.kept hk1,?_⟩
  ·have h1':clos.lookup x=some c0:=h1'
   have h2':clos.lookup y=some c0:=h2';cases hcl with
   |nil=>cases h1'
   |one x0 c1 v1=>
    have m1:=PySem.mem_of_lookup h1';have m2:=PySem.mem_of_lookup h2';have e1:=List.mem_singleton.mp m1;have e2:=List.mem_singleton.mp m2;cases e1;cases e2;rfl
  ·have hx:sc.names.lookup x=some .cell∨sc.names.lookup x=some .free:=hx
   rcases hx with z|z
   ·exact absurd rfl (hnc _ (PySem.mem_of_lookup z))
   ·exact hfr x z
  ·match i,h1',h2' with
   |0,h1',h2'=>
    cases h1';cases h2';refine⟨u,ru,.inl ⟨hp,?_⟩⟩;simp
   |i+1,h1',h2'=>
    have h1':(clos.map (·.1))[i]? =some x:=h1';have h2':(cvs.map some)[i]? =some (some v'):=h2';rw[List.getElem?_map]at h1' h2';obtain⟨y,hy,rfl⟩:=Option.map_eq_some_iff.mp h1';obtain⟨v'',hv,ev⟩:=Option.map_eq_some_iff.mp h2';cases ev;obtain⟨o,u',g,g2,g3⟩:=hcs i y v' hy hv;have g1:=(e0.hok _ _ g).1
    have hl2:clos.lookup y.1=some y.2:=by
     cases hcl with
     |nil=>cases hy
     |one x0 c1 v1=>
      match i,hy with
      |0,hy=>cases hy;simp
      |i+1,hy=>simp at hy
    exact⟨u',g3,.inr ⟨.inr (hpx y (List.mem_of_getElem? hy)).2,y.2,hl2,o,hk1 _ _ g1,g2⟩⟩
  ·obtain⟨o,u',g1,g2⟩:=cellAt c0 (look x c0 e).1
   exact⟨some u',o,hk1 _ _ g1,g2⟩
  ·show(some v::cvs.map some).length=(p::clos.map (·.1)).length
   rw[List.length_cons,List.length_cons,List.length_map,List.length_map];cases hcl<;>rfl
 refine PySem.W.kla_codeExpr (wpAny_mono (ht [] _ _ _ _ I hq) (fun r s' hr'=>?_) fun _ _ z=>False.elim z);obtain⟨rvv,H',J,rr,qq⟩:=hr';have un:Un (frs outer) [] (fH H cs) H' s.heap s'.heap:=J.base
 have kc:∀b∈cs,∀o,s.heap.get? b=some o→s'.heap.get? b=some o∧H' b=Option.none:=fun b hb' o e=>by
  have nf:b∉frs outer:=fun z=>by
   have:=e0.gY b z;obtain⟨w',hw⟩:=cs_H b hb';rw[hw]at this;cases this
  exact⟨un.keep b o e (xP hb') nf (by simp),un.free b o e (xP hb') (by simp)⟩
 refine⟨rvv,i7 H H' cs,J.os,J.bare,⟨fun b o e n hb' hx=>?_,fun b o e n hb' hx=>?_,fun b o e n hx=>?_,fun b o e hx=>un.there b o e hx,fun b xs e=>?_,fun b o xs e=>?_,fun b ps e=>?_⟩,fun b o e=>?_,rr,qq fun b hb'=>let⟨o,_,g1,_⟩:=cellAt b hb';(kc b hb' o g1).2⟩
 ·exact un.keep b o e (drop_none b n) hb' hx
 ·exact un.slot b o e (drop_none b n) hb' hx
 ·have hb':b∉cs:=fun z=>by
   obtain⟨w',hw⟩:=cs_H b z;rw[hw]at n;cases n
  rw[jz hb'];exact un.free b o e (drop_none b n) hx
 ·have hb':b∉cs:=fun z=>by
   obtain⟨w',hw⟩:=cs_H b z;rw[hw]at e;cases e
  rw[jz hb'];exact un.tups b xs (by rw[jy hb'];exact e)
 ·have hb':b∉cs:=fun z=>by
   obtain⟨w',hw⟩:=cs_H b z;rw[hw]at e;cases e
  rw[jz hb'];exact un.d7 b o xs (by rw[jy hb'];exact e)
 ·have hb':b∉cs:=fun z=>by
   obtain⟨w',hw⟩:=cs_H b z;rw[hw]at e;cases e
  rw[jz hb'];exact un.d8 b ps (by rw[jy hb'];exact e)
 ·by_cases hb':b∈cs
  ·rw[Ct hb']at e
   obtain⟨w',hw⟩:=cs_H b hb';rw[hw]at e;cases e;exact Hu (kc b hb' _ (e0.hok b _ hw).1).1
  ·rw[jz hb']at e
   have re_some:∀d o',H' d=some o'→i7 H H' cs d=some o':=fun d o' z=>by
    rw[jz]
    ·exact z
    ·intro y
     obtain⟨o'',_,g1,_⟩:=cellAt d y;rw[(kc d y o'' g1).2]at z;cases z
   exact(J.hok b o e).stay (fun _ _ _ z=>z) (fun d z=>re_some d _ z) fun d xs z=>re_some d _ z
def N3(sp:Sp)(i:Nat)(c:Addr)(t:TA):TE:=fun σ H Q=>t σ H fun vs H1=>∃v,σ[i]? =some (some v)∧∀o u,o.data=.cell (some u)→RelV v u→H1 c=Option.none→sp vs (upd H1 c (gj c o)) (fun r H2=>H2 c=some (gj c o)∧Q r (fQ H2 c)) E0
section
variable{X:Cx}{k i:Nat}{f:Addr}{fd:FuncData}{ps:List Str}{sp:Sp}{x y:Str}{p pos:Pos}{e:PySem.Expr}{es:List PySem.Expr}{t:TA}{c:Addr}
theorem xQ(aJ:ao X.prog X.w X.K X.mg X.base af k x ps sp)(hr:bX k X.A)(hg:Gl X x)(ha:PA X (e::es) t)(hN:X.N[i]? =some y)(hkd:X.env.kindOf y=some .cell)(hc:X.env.cells.lookup y=some c)(hab:X.cR.heap.objs.size≤c)
  (hdb:(x==("__debug__":Str))=false:=by decide)(he:starEach (e::es) X.env=(false,eval e X.env)::starEach es X.env:=by rfl)(hpl:(backTo pos (starEach es X.env)).any (·.1)=false:=by rfl):
  PE X (.Call (.Name x p) (e::es) [] pos) (N3 sp i c t):=by
 obtain⟨f,fd,F,hb,hk,hm⟩:=aJ;intro pins s σ H Q I h;refine wpAny_Call_Name_kw (j8 I hg hm ?_ hdb);refine PySem.W.callWith_K (h₀:=X.base) I.ok.mod.jc hk (bh (ha pos pins s σ H _ I h) fun us s1 ⟨vs,H1,I1,r,v,hv,q⟩=>⟨I1.cz,?_⟩) he hpl;obtain⟨m,hns,hl⟩:=I1.loc;obtain⟨u,ru,lk⟩:=hl i y v hN hv (.inr (.inl hkd))
 obtain⟨o,ho,hd⟩:s1.heap.IsCell c (some u):=by
  rcases lk with⟨kl,_⟩|⟨_,c',hc',hh⟩
  ·rw[hkd]at kl;cases kl
  ·rw[hc]at hc';cases hc';exact hh
 have n1:H1 c=Option.none:=I1.d9 y c hc;have q1:=q o u hd ru n1;have e0:=I1.o8;have nb:∀b o,X.base.get? b=some o→b≠c:=fun b o e=>Nat.ne_of_lt (Nat.lt_of_lt_of_le (Heap.lt_size e) (Nat.le_trans I1.ok.gp hab))
 have nf:∀b∈frs X.stack,b≠c:=fun b hb'=>by
  rcases List.mem_cons.mp (I1.mQ b hb')with z|z
  ·rw[z];exact(I1.iP y c hc).symm
  ·obtain⟨_,o',ho',_⟩:=I1.ok.fz.mem z
   exact Nat.ne_of_lt (Nat.lt_of_lt_of_le (Heap.lt_size ho') hab)
 have nt:∀b u',H1 b=some u'→b≠c:=fun b u' z=>aV z n1
 have e1:jJ X.prog X.w X.K X.mg X.base X.A X.stack s1 (upd H1 c (gj c o)):=by
  refine⟨e0.frames,e0.mod,fun b o' z=>⟨(e0.bs b o' z).1,by rw[au (nb b o' z)];exact(e0.bs b o' z).2⟩,e0.gp,e0.fz,fun b hb'=>by rw[au (nf b hb')];exact e0.gY b hb',fun b u' z=>?_,e0.bare⟩;by_cases hb':b=c
  ·subst hb'
   rw[aj]at z;cases z;exact Hu ho
  ·rw[au hb']at z
   exact(I1.hok b u' z).stay (fun _ _ _ z=>z) (fun d z=>by rw[au (nt _ _ z)];exact z) fun d xs z=>by rw[au (nt _ _ z)];exact z
 refine wpAny_call (codeAny_mono (F.run X.A X.stack s1 _ ⟨us,[]⟩ us vs _ E0 hr e1 (by have:=hb s1 us I1.cz (by rw[List.append_nil,←r.length];exact F.len _ _ _ _ q1);rw[List.append_nil]at this;exact this) r q1) fun r s' hq=>?_);cases r with
 |error e=>exact False.elim hq
 |ok fl=>
  cases fl with
  |ret u'=>
   obtain⟨v',H',os,bare,un,hok,rr,hc2,qq⟩:=hq;have gc:s'.heap.get? c=some o:=(hok c _ hc2).1
   have dn:∀b u',H' b=some u'→(∀ψ,u'≠.ext ψ)→fQ H' c b=some u':=fun b u' qb hu=>by
    rw[g_]
    ·exact qb
    ·intro z
     rw[z,hc2]at qb;cases qb;exact hu _ rfl
   refine I1.after ⟨v',fQ H' c,os,bare,⟨fun b o' e n hb' hx=>?_,fun b o' e n hb' hx=>?_,fun b o' e n hx=>?_,fun b o' e hx=>un.there b o' e hx,fun b xs e=>?_,fun b o' xs e=>?_,fun b ps' e=>?_⟩,fun b o' e=>?_,rr,qq⟩
   ·by_cases z:b=c
    ·subst z;rw[ho]at e;cases e;exact gc
    ·exact un.keep b o' e (by rw[au z];exact n) hb' hx
   ·exact un.slot b o' e (by rw[au (nf b hb')];exact n) hb' hx
   ·by_cases z:b=c
    ·rw[z,m6]
    ·rw[g_ z];exact un.free b o' e (by rw[au z];exact n) hx
   ·exact dn _ _ (un.tups b xs (by rw[au (nt _ _ e)];exact e)) (fun _ z=>by cases z)
   ·exact dn _ _ (un.d7 b o' xs (by rw[au (nt _ _ e)];exact e)) (fun _ z=>by cases z)
   ·obtain⟨more,z⟩:=un.d8 b ps' (by rw[au (nt _ _ e)];exact e)
    exact⟨more,dn _ _ z (fun _ z=>by cases z)⟩
   ·have hb':b≠c:=by
     rintro rfl;rw[m6]at e;cases e
    rw[g_ hb']at e;exact(hok b o' e).stay (fun _ _ _ z=>z) (fun d z=>dn _ _ z (fun _ z=>by cases z)) fun d xs z=>dn _ _ z (fun _ z=>by cases z)
  |next=>exact False.elim hq
  |brk=>exact False.elim hq
  |cont=>exact False.elim hq
end
structure jA(K:PySem.W.Frag)(x qual:Str)(st:Stmt)(f:Addr)(fd:FuncData)(c T:Addr):Prop where
 ex:∃(oc:Value)(od:Option Addr)(kV doc pm:Value)(an:Option Addr)(ct:Value)(osl:Array (Option Value)),
  fd=PySem.W.fnOf x qual (fT st) (e8 st) (aE st) .none kV doc pm an (.ref c) ct∧K.lookup f=some ⟨oc,od,.func fd,osl⟩∧PySem.W.codeIn K (.ref c) qual=true
 hd:PySem.W.codeHdIn K c T=true
section
variable{P:Program}{w:World}{K:PySem.W.Frag}{mg:Str→Option Value}{base:Heap}
theorem jA.ok{x qual:Str}{st:Stmt}{f c T:Addr}{fd:FuncData}{N ps:List Str}{k:Nat}{sp:Sp}(F:jA K x qual st f fd c T)(S:aL N ps (aE st))(len:∀vs H Q E,sp vs H Q E→vs.length=ps.length)
  (hbody:∀(A:Around)(outer:List Env)(s:Shared)(H:Hp)(vs:List V)(Q:VK)(E:XK),bX k (A.deeper (envOfC qual (aE st) s.heap.objs.size f (.ref c)))→sp vs H Q E→
   ∃t,fB (iy af P w K mg base N qual (aE st) f (.ref c) A outer s H E).mR (e8 st) t∧t {nx:=fun _ H'=>Q .aP H',rt:=Q} (start N vs) H):aF P w K mg base af (k+1) f fd ps sp:=by
 obtain⟨oc,od,kV,doc,pm,an,ct,osl,rfl,lk,hcd⟩:=F.ex;refine Bs lk hcd S len fun A outer s H vs Q E hr hsp=>?_
 obtain⟨t,h,q⟩:=hbody A outer s H vs Q E hr hsp;exact⟨t,h.mR,q⟩
end
section
variable{X:Cx}{K:PySem.W.Frag}{e:PySem.Expr}{f:Str}{pos:Pos}{ta:TE}
theorem qS(hK:X.K=K)(he:PE X e ta)(hb:attributeBase e f X.env (eval e X.env)=eval e X.env):PE X (.Attribute e f pos) (sY K ta f):=by
 subst hK;exact aD he hb
theorem N4{es:List PySem.Expr}{k:Nat}{t:kh}{n:Nat}(hK:X.K=K)(hc:X.calm=true)(h:oY X es t)
  (hn:(assignEach es X.env).length=n:=by rfl)(hst:(assignEach es X.env).findIdx? (·.1)=none:=by rfl):PG X (.Tuple es k pos) (EI K n t):=by
 subst hK;exact EJ hc h hn hst
theorem Cv(hK:X.K=K):o9 X (Bx K):=by subst hK;exact cA
theorem Hz(hK:X.K=K):Bv X (Fe K):=by subst hK;exact mW
theorem N5(hK:X.K=K):iT X (.builtin "len") (fun xs H Q=>∃p ys,xs=[.ref p]∧(ay K H p ys∨dW K H p ys)∧Q (.int ys.length) H):=by subst hK;exact cC
end
section
variable{X:Cx}
def N6:V→List V→Hp→VK→Prop:=fun x vs H Q=>∃(l:Addr)(xs:List V)(i:Nat)(y:V),x=.ref l∧vs=[.int (i:Int),y]∧H l=some (.lst xs)∧i≤xs.length∧xs.length<sizeLine∧Q .aP (upd H l (.lst (xs.take i++y::xs.drop i)))
theorem N7:BC X "list.insert" N6:=by
 intro pins s σ H x vs v us Q I rx rv h;obtain⟨l,xs,i,y,rfl,rfl,hH,hi,hz,q⟩:=h;cases rx;cases rv with
 |cons r1 rv=>
  cases rv with
  |cons ru rv=>
   cases rv;rename_i u1 u;obtain⟨t,rfl⟩:=r1;obtain⟨z,its,n,r,hl,e⟩:=I.mX hH;have hlen:=r.length;have hsl:sizeLine<2^63:=by decide
   have hfit:Builtin.List.listFitsIndex (i:Int)=true:=by
    unfold Builtin.List.listFitsIndex;rw[Bool.and_eq_true,decide_eq_true_iff,decide_eq_true_iff];omega
   obtain⟨x,hx⟩:∃x:Int,x=(i:Int):=⟨_,rfl⟩;rw[←hx]at hfit⊢;have hc0:¬(!Builtin.List.listFitsIndex x)=true:=by rw[hfit];decide
   have hs1:its.toArray.size≤sizeLine:=by rw[List.size_toArray];omega
   have M:=PySem.AutoSeq1.list_insert_list_int_val_1 l its.toArray n x t u hc0 hs1;refine call_meets F.slot_list_insert ⟨_,e,rfl⟩ F.entry_list_insert (F.args_list_insert_3 _ _ _) M ⟨e,?_⟩
   ·refine⟨.aP,_,I.BD (its':=its.take i++u::its.drop i) hH e ?_ ((r.take i).append (.cons ru (r.drop i))) ?_,rfl,q⟩
    ·show(its.toArray.extract 0 (if x<0 then(x+(its.toArray.size:Int)).toNat else min x.toNat its.toArray.size)).push u++its.toArray.extract (if x<0 then(x+(its.toArray.size:Int)).toNat else min x.toNat its.toArray.size)=_
     rw[hx,if_neg (by omega),Int.toNat_natCast,List.size_toArray,Nat.min_eq_left (by omega)];exact PySem.W.kl_ins_eq its i u
    ·rw[List.length_append,List.length_cons,List.length_take,List.length_drop];omega
end
theorem HA{xs:List V}{v:V}(h:xs.getLast?=some v):gF xs (-1)=some v:=by
 unfold gF jK;have hne:xs≠[]:=by rintro rfl;cases h
 have hl:0<xs.length:=List.length_pos_iff.mpr hne;rw[if_neg (by decide),if_pos (by omega)];show xs[((-1:Int)+(xs.length:Int)).toNat]? =some v;rw[show((-1:Int)+(xs.length:Int)).toNat=xs.length-1 by omega,←List.getLast?_eq_getElem?];exact h
theorem N8{c:Addr}{o:Obj}{q:Str}{v:Option Value}(hd:o.data=.cell v):gj c o≠jw c q:=fun h=>by
 have e:=congrFun (HO.ext.inj h) {objs:=Array.replicate (c+1) o}
 have g:Heap.get? {objs:=Array.replicate (c+1) o} c=some o:=by
  unfold Heap.get?;have:(Array.replicate (c+1) o)[c]? =some o:=by simp
  show(match(Array.replicate (c+1) o)[c]? with
   |some ⟨_,_,.freed,_⟩=>Option.none
   |x=>x)=_
  rw[this];obtain⟨a,b,d,s⟩:=o;dsimp only at hd⊢;rw[hd]
 have e':Heap.CodeRec {objs:=Array.replicate (c+1) o} (.ref c) q:=e.mp g;obtain⟨c',o',vs,t,e1,g',hd',_⟩:=e';cases e1;rw[g]at g';cases g';rw[hd]at hd';cases hd'
end L2
end
section
namespace Vp
open PySem PySem.Spec PyProof.Rows L2
open PySem.W (codeHd_of_K)
variable{P:Program}{w:World}{K:PySem.W.Frag}{mg:Str→Option Value}{base:Heap}{a:aH}
def kQ(st:Stmt):PySem.Expr:=match e8 st with
 |[.Return (some (.Call _ es _ _)) _]=>es.getLast?.getD (.Name "" ⟨0,0,0,0⟩)
 |_=>.Name "" ⟨0,0,0,0⟩
def posOf:PySem.Expr→Pos
 |.Lambda _ _ _ p=>p
 |_=>⟨0,0,0,0⟩
def N9(x:Str):Str:=(x++(".<locals>.":Str))++("<lambda>":Str)
def kR:Nat→Stmt
 |0=>pH
 |1=>pI
 |2=>pS
 |3=>pT
 |4=>pU
 |_=>pV
def xR:Nat→Str
 |0=>"fields_by_names"
 |1=>"fields_by_path"
 |2=>"reply_rename"
 |3=>"reply_remode"
 |4=>"reply_rekind"
 |_=>"reply_default"
def HB(i:Nat):Pos:=posOf (kQ (kR i))
def tQ(i:Nat):Str:=N9 (xR i)
abbrev Tb:=Nat→Addr
structure bz(tb:Tb)(H:Hp):Prop where
 inj:∀i<6,∀j<6,tb i=tb j→i=j
 at_:∀i<6,TabAt H (tb i) (HB i) (tQ i)
def bL(tb:Tb)(H H':Hp):Prop:=∀b o,H b=some o→(∀i<6,b≠tb i)→H' b=some o
theorem Cw{H:Hp}{T:Addr}{p:Pos}{q:Str}(h:TabAt H T p q):∃ps,H T=some (.cV ps):=by
 rcases h with h|⟨c,h,_⟩
 ·exact⟨_,h⟩
 ·exact⟨_,h⟩
theorem bz.ne{tb:Tb}{H:Hp}(T:bz tb H){b:Addr}{o:HO}(h:H b=some o)(ho:∀ps,o≠.cV ps):∀i<6,b≠tb i:=fun i hi z=>by
 obtain⟨ps,q⟩:=Cw (T.at_ i hi);rw[←z,h]at q;cases q;exact ho _ rfl
theorem bz.same{tb:Tb}{H H':Hp}(T:bz tb H)(s:aI H H'):bz tb H':=⟨T.inj,fun i hi=>by
 rcases T.at_ i hi with h|⟨c,h1,h2⟩
 ·exact .inl (s _ _ h)
 ·exact .inr ⟨c,s _ _ h1,s _ _ h2⟩⟩
theorem bz.keeps{tb:Tb}{H H':Hp}{r:Addr}{o:HO}(T:bz tb H)(k:Keeps H H' r)(hr:H r=some o)(h1:∀ps,o≠.cV ps)(h2:∀φ,o≠.ext φ):bz tb H':=⟨T.inj,fun i hi=>by
 have n:=T.ne hr h1 i hi;rcases T.at_ i hi with h|⟨c,g1,g2⟩
 ·exact .inl (k _ _ h (Ne.symm n))
 ·exact .inr ⟨c,k _ _ g1 (Ne.symm n),k _ _ g2 (fun z=>by rw[z,hr]at g2;cases g2;exact h2 _ rfl)⟩⟩
theorem cZ{tb:Tb}{H H':Hp}(s:aI H H'):bL tb H H':=fun b o h _=>s b o h
theorem bL.refl(tb:Tb)(H:Hp):bL tb H H:=fun b o h _=>h
theorem bL.trans{tb:Tb}{H H' H'':Hp}(s:bL tb H H')(t:bL tb H' H''):bL tb H H'':=fun b o h n=>t b o (s b o h n) n
theorem bL.get{tb:Tb}{H H':Hp}(s:bL tb H H')(T:bz tb H){b:Addr}{o:HO}(h:H b=some o)(ho:∀ps,o≠.cV ps):H' b=some o:=s b o h (T.ne h ho)
theorem bL.lst{tb:Tb}{H H':Hp}(s:bL tb H H')(T:bz tb H){b:Addr}{xs:List V}(h:H b=some (.lst xs)):H' b=some (.lst xs):=s.get T h (fun _ z=>by cases z)
theorem bL.ins{tb:Tb}{H H':Hp}(s:bL tb H H')(T:bz tb H){b C d:Addr}{xs:List (Str×V)}(h:H b=some (.ins C d xs)):H' b=some (.ins C d xs):=s.get T h (fun _ z=>by cases z)
theorem gO.no{o:HO}(h:gO o):∀ps,o≠.cV ps:=fun ps z=>by subst z;exact h
theorem bL.a_{tb:Tb}{H H':Hp}(s:bL tb H H')(T:bz tb H){S:List Addr}(hS:∀b∈S,∃o,H b=some o∧gO o):bZ H H' S:=⟨fun b hb o h=>by
 obtain⟨o',h1,h2⟩:=hS b hb;rw[h]at h1;cases h1;exact s.get T h h2.no⟩
theorem bL.free{tb:Tb}{H H':Hp}(s:bL tb H H'){b:Addr}(h:H' b=Option.none)(hb:∀i<6,b≠tb i):H b=Option.none:=by
 cases q:H b with
 |none=>rfl
 |some o=>rw[s b o q hb]at h;cases h
theorem bL.lV{tb:Tb}{H H':Hp}(s:bL tb H H')(T:bz tb H)(T':bz tb H'){b:Addr}(h:H' b=Option.none):H b=Option.none:=s.free h fun i hi z=>by
 obtain⟨ps,q⟩:=Cw (T'.at_ i hi);rw[←z,h]at q;cases q
theorem bz.lam{tb:Tb}{H H':Hp}{i:Nat}(T:bz tb H)(hi:i<6)(k:∀b o,H b=some o→b≠tb i→H' b=some o)(t:TabAt H' (tb i) (HB i) (tQ i)):bz tb H'∧bL tb H H':=by
 refine⟨⟨T.inj,fun j hj=>?_⟩,fun b o h n=>k b o h (n i hi)⟩;by_cases e:j=i
 ·rw[e];exact t
 ·have ne:∀{j},j<6→j≠i→tb j≠tb i:=fun hj e z=>e (T.inj _ hj _ hi z)
  rcases T.at_ j hj with h|⟨c,h1,h2⟩
  ·exact .inl (k _ _ h (ne hj e))
  ·exact .inr ⟨c,k _ _ h1 (ne hj e),k _ _ h2 (T.ne h2 (fun _ z=>by cases z) i hi)⟩
structure fY(H:Hp)(ns:List Addr)(ts:List (List Nat)):Prop where
 len:ns.length=ts.length
 at_:∀(i:Nat)(n:Addr)(t:List Nat),ns[i]? =some n→ts[i]? =some t→H n=some (.lst (aC t))
theorem fY.nil{H:Hp}:fY H [] []:=⟨rfl,fun i n t h _=>by simp at h⟩
theorem fY.mem{H:Hp}{ns:List Addr}{ts:List (List Nat)}(h:fY H ns ts){n:Addr}(hn:n∈ns):∃t,H n=some (.lst (aC t)):=by
 obtain⟨i,hi,e⟩:=List.getElem_of_mem hn;exact⟨ts[i]'(by rw[←h.len];exact hi),h.at_ i n _ (by rw[List.getElem?_eq_getElem hi,e]) (List.getElem?_eq_getElem _)⟩
theorem fY.on{H H':Hp}{ns:List Addr}{ts:List (List Nat)}(h:fY H ns ts)(k:∀n∈ns,∀o,H n=some o→H' n=some o):fY H' ns ts:=⟨h.len,fun i n t h1 h2=>k n (List.mem_of_getElem? h1) _ (h.at_ i n t h1 h2)⟩
theorem fY.snoc{H:Hp}{ns:List Addr}{ts:List (List Nat)}{n:Addr}{t:List Nat}(h:fY H ns ts)(hn:H n=some (.lst (aC t))):fY H (ns++[n]) (ts++[t]):=by
 refine⟨by rw[List.length_append,List.length_append,h.len];rfl,fun i x c h1 h2=>?_⟩;by_cases hi:i<ns.length
 ·rw[List.getElem?_append_left hi]at h1
  rw[List.getElem?_append_left (by rw[←h.len];exact hi)]at h2;exact h.at_ i x c h1 h2
 ·rw[List.getElem?_append_right (by omega)]at h1
  rw[List.getElem?_append_right (by rw[←h.len];omega),←h.len]at h2
  match i-ns.length,h1,h2 with
  |0,h1,h2=>
   cases h1;cases h2;exact hn
  |j+1,h1,_=>simp at h1
inductive xS(vs:List V)(H:Hp)(Q:VK)(E:XK):Prop
 |mk:∀ta T,vs=[.ref ta]→H ta=some (.lst (aC T))→T.length≤dB→(∀H' l ns,aI H H'→H' l=some (.lst (ns.map V.ref))→fY H' ns (Vacola.splitDots T)→Q (.ref l) H')→xS vs H Q E
theorem N_{f:Addr}{fd:FuncData}(F:aK K "split_names" "split_names" t_ f fd)(T:Txt K mg a):aF P w K mg base af 1 f fd ["text"] xS:=by
 refine F.ok pZ (fun vs H Q E h=>by obtain⟨ta,T,rfl,_⟩:=h;rfl) (fun cdv A outer s H vs Q E hr h=>?_);obtain⟨ta,Tx,rfl,hta,hT,q⟩:=h;refine⟨_,(ai (aO (i:=1) pZ.nd rfl (Or.inl rfl) (bM ah)) (ai (aO (i:=2) pZ.nd rfl (Or.inl rfl) (bM ah)) (ai (gZ PassesOwn.never rfl (gu (pv 0)) (dR (i:=3) pZ.nd rfl (Or.inl rfl)) (aq (aU (aY bF (pv 3) (aA T.qg) (aQ _)) (ai (bS (eB PySem.F.plainAttrs_list PySem.F.slot_list_append PySem.F.type_list_append gb (pv 1) (aa (pv 2) ah))) (aq (aO (i:=2) pZ.nd rfl (Or.inl rfl) (bM ah)))) (aq (bS (eB PySem.F.plainAttrs_list PySem.F.slot_list_append PySem.F.type_list_append gb (pv 2) (aa (pv 3) ah))))))) (ai (bS (eB PySem.F.plainAttrs_list PySem.F.slot_list_append PySem.F.type_list_append gb (pv 1) (aa (pv 2) ah))) (aq (aB (pv 1))))))),?_⟩;refine⟨Nat.zero_le _,fun L hL=>?_⟩;refine⟨Nat.zero_le _,fun C hC=>?_⟩;have hCH:H C=Option.none:=(aM hL).free hC;have s0:aI H (upd (upd H L (.lst [])) C (.lst [])):=(aM hL).trans (aM hC);have LC:L≠C:=aV aj hC;have hLINE:dB=100000:=rfl
 refine⟨_,rfl,ta,rfl,⟨_,ay.of (s0 _ _ hta)⟩,jH (xs:=aC Tx) (fun i σ H'=>∃(ns:List Addr)(ts:List (List Nat))(C:Addr)(cur:List Nat)(v:Option V),σ=[some (V.ref ta),some (V.ref L),some (V.ref C),v]∧aI H H'∧H' L=some (.lst (ns.map V.ref))∧H' C=some (.lst (aC cur))∧H C=Option.none∧C≠L∧C∉ns∧L∉ns∧
  fY H' ns ts∧Vacola.splitDots Tx=ts++jD cur (Vacola.splitDots (Tx.drop i))∧ns.length≤i∧cur.length≤i) ⟨[],[],C,[],Option.none,rfl,s0,(by rw[au LC];exact aj),aj,hCH,Ne.symm LC,(by simp),(by simp),.nil,(by rw[List.drop_zero,DG (DF Tx)];rfl),Nat.zero_le _,Nat.zero_le _⟩
  (fun i σ H' _ ⟨_,_,_,_,_,_,s1,_⟩=>ay.of (s1 _ _ hta)) ?_ ?_⟩
 ·rintro i v σ H' hi ⟨ns,ts,C,cur,v0,rfl,s1,hL',hC',hCH,CL,Cns,Lns,N,e,l1,l2⟩
  obtain⟨c,hc,rfl⟩:=Cn hi;have hil:i<Tx.length:=(List.getElem?_eq_some_iff.mp hc).1
  have hdr:Tx.drop i=c::Tx.drop (i+1):=by
   rw[List.drop_eq_getElem_cons hil];congr 1;exact(List.getElem?_eq_some_iff.mp hc).2
  refine⟨_,rfl,rfl,_,rfl,?_⟩;rw[bJ];refine bB (fun c2=>?_) (fun c2=>?_)
  ·have c2':c=46:=by have:(c:Int)=46:=of_decide_eq_true c2;omega
   refine⟨_,rfl,.inl ⟨rfl,_,ay.of hL'⟩,_,rfl,L,_,_,rfl,rfl,hL',(by rw[List.length_map,sizeLine_eq];omega),?_⟩;refine⟨Nat.zero_le _,fun D hD=>?_⟩;have DL:D≠L:=fun z=>by rw[z,aj]at hD;cases hD
   have hD':H' D=Option.none:=by rw[au DL]at hD;exact hD
   have DC:D≠C:=fun z=>by rw[z,hC']at hD';cases hD'
   have sH:∀b o,H b=some o→b≠L∧b≠D:=fun b o h=>⟨aV h hL,aV h (s1.free hD')⟩
   refine⟨ns++[C],ts++[cur],D,[],_,rfl,fun b o h=>by rw[au (sH b o h).2,au (sH b o h).1];exact s1 b o h,?_,aj,s1.free hD',DL,?_,?_,?_,?_,?_,Nat.zero_le _⟩
   ·rw[au (Ne.symm DL),aj,List.map_append];rfl
   ·intro z
    rcases List.mem_append.mp z with z|z
    ·obtain⟨t,ht⟩:=N.mem z
     rw[hD']at ht;cases ht
    ·exact DC (List.mem_singleton.mp z)
   ·intro z
    rcases List.mem_append.mp z with z|z
    ·exact Lns z
    ·exact CL (List.mem_singleton.mp z).symm
   ·refine(N.snoc hC').on fun n hn o h=>?_
    rw[au (aV h hD'),au]
    ·exact h
    ·rintro rfl
     rcases List.mem_append.mp hn with z|z
     ·exact Lns z
     ·exact CL (List.mem_singleton.mp z).symm
   ·rw[e,hdr,c2',IT,DG (DF _),List.append_assoc];rfl
   ·rw[List.length_append];show ns.length+1≤i+1;omega
  ·have c2':c≠46:=fun z=>c2 (decide_eq_true (by rw[z];rfl))
   refine⟨_,rfl,.inl ⟨rfl,_,ay.of hC'⟩,_,rfl,C,_,_,rfl,rfl,hC',(by rw[bE,sizeLine_eq];omega),?_⟩;refine⟨ns,ts,C,cur++[c],_,rfl,fun b o h=>by rw[au (aV h hCH)];exact s1 b o h,?_,?_,hCH,CL,Cns,Lns,?_,?_,by omega,?_⟩
   ·rw[au (Ne.symm CL)];exact hL'
   ·rw[aj,i6]
   ·refine N.on fun n hn o h=>?_
    rw[au]
    ·exact h
    ·rintro rfl;exact Cns hn
   ·rw[e,hdr,IU cur c2']
   ·rw[List.length_append];show cur.length+1≤i+1;omega
 ·rintro σ H' ⟨ns,ts,C,cur,v0,rfl,s1,hL',hC',hCH,CL,Cns,Lns,N,e,l1,l2⟩
  rw[bE]at e l1 l2;refine⟨_,rfl,.inl ⟨rfl,_,ay.of hL'⟩,_,rfl,L,_,_,rfl,rfl,hL',(by rw[List.length_map,sizeLine_eq];omega),?_⟩;refine⟨_,rfl,q _ L (ns++[C]) (fun b o h=>by rw[au (aV h hL)];exact s1 b o h) ?_ ?_⟩
  ·rw[aj,List.map_append];rfl
  ·rw[e,List.drop_length]
   have z:=N.snoc hC';have e2:jD cur (Vacola.splitDots [])=[cur]:=by simp[Vacola.splitDots,jD]
   rw[e2];refine z.on fun n hn o h=>?_
   rw[au]
   ·exact h
   ·rintro rfl
    rcases List.mem_append.mp hn with z|z
    ·exact Lns z
    ·exact CL (List.mem_singleton.mp z).symm
theorem aS{te:TE}{g:TG}{u:TS}{D:Ends}{σ:L2.St}{H:Hp}(h:te σ H fun v H1=>g v σ H1 fun σ2 H2=>u D σ2 H2):jG (sN te g) u D σ H:=h
theorem HC{X:Cx}{K:PySem.W.Frag}(e:X.K=K)(hu:X.A.units+64<cLine):c_ X (compareOp .Eq) (BG K):=by
 subst e;exact Fy hu
inductive qT(a:aH)(f:Addr)(fd:FuncData)(c:Addr)(q:Str)(g:Fi→V)(vs:List V)(H:Hp)(Q:VK)(E:XK):Prop
 |mk:∀x:Fi,vs=[.ref x.f]→H f=some (iH f fd)→H c=some (jw c q)→bW a H x→Q (g x) H→qT a f fd c q g vs H Q E
theorem bK.list{H:Hp}:∀{t:TK},bK a H t→H t.fl=some (.lst (t.sub.as.map V.ref))∧fh a H t.sub
 |.leaf l k fl,⟨_,h⟩=>⟨h,trivial⟩
 |.group c k fl fs,⟨_,h,h'⟩=>⟨h,h'⟩
structure Oa(S:Type)(R:Hp→S→V→Prop)(H:Hp)(vs:List V)(ss:List S):Prop where
 len:vs.length=ss.length
 at_:∀(i:Nat)(v:V)(s:S),vs[i]? =some v→ss[i]? =some s→R H s v
structure Cy(a:aH)(K:PySem.W.Frag){S:Type}(m:Vacola.Head→S→Bool)(R:Hp→S→V→Prop)(g:Fi→V):Prop where
 same:∀{H H' s v},aI H H'→R H s v→R H' s v
 eq:∀{H s v}{x:Fi},bW a H x→R H s v→∃d e,Dp K H (g x) d∧Dp K H v e∧SeqAt.shaped d=true∧SeqAt.shaped e=true∧PyData.eqv d e=m x.h s
def refs(l:List Fi):List V:=l.map fun x=>V.ref x.f
inductive nZ(P:Program)(w:World)(K:PySem.W.Frag)(mg:Str→Option Value)(base:Heap)(a:aH){S:Type}(m:Vacola.Head→S→Bool)(R:Hp→S→V→Prop)(g:Fi→V)(vs:List V)(H:Hp)(Q:VK)(E:XK):Prop
 |mk:∀(t:TK)(d:Nat)(pl:Addr)(vst:List V)(ss:List S)(f:Addr)(fd:FuncData)(c:Addr)(q:Str),vs=[.ref t.at,.ref pl,.ref f]→bK a H t→cS t.kd d→H pl=some (.lst vst)→ss.length≤dB→Oa S R H vst ss→H f=some (iH f fd)→H c=some (jw c q)→jx P w K mg base 1 f (qT a f fd c q g)→(∀H' l,aI H H'→H l=Option.none→H' l=some (.lst (refs ((bq m ss t.sub).getD [])))→Q (.ref l) H')→nZ P w K mg base a m R g vs H Q E
theorem Ob{S:Type}{m:Vacola.Head→S→Bool}{p q:List S}{s:S}{t:TF}{acc:List Fi}(h:bq m p t=some acc)(hf:((ja t acc).items.find? fun x=>m x.h s)=Option.none):bq m (p++s::q) t=Option.none:=by
 rw[AK m p t acc s h q,hf];rfl
theorem Oc{S:Type}{m:Vacola.Head→S→Bool}{p:List S}{s:S}{t:TF}{acc:List Fi}{x:Fi}(h:bq m p t=some acc)(hf:((ja t acc).items.find? fun x=>m x.h s)=some x):bq m (p++[s]) t=some (acc++[x]):=by
 rw[AK m p t acc s h [],hf];rfl
theorem Od{t:TF}{acc:List Fi}{x:Fi}:ja t (acc++[x])=x.k.sub:=by
 unfold ja;rw[List.getLast?_concat]
theorem HD{f:Addr}{fd:FuncData}{S:Type}{m:Vacola.Head→S→Bool}{R:Hp→S→V→Prop}{g:Fi→V}(F:aK K "fields_along" "fields_along" pJ f fd)(T:Txt K mg a)(so:Cy a K m R g):aF P w K mg base af 3 f fd ["schema","steps","step_of"] (nZ P w K mg base a m R g):=by
 refine F.ok lC (fun vs H Q E h=>by obtain⟨t,d,pl,vst,ss,f,fd,c,q,rfl,_⟩:=h;rfl) (fun cdv A outer s H vs Q E hr h=>?_);obtain⟨t,dw,pl,vst,ss,lf,lfd,lc,lq,rfl,hk,hw,hpl,hss,St,hlf,hlc,hlam,q⟩:=h;refine⟨_,(ai (aO (i:=3) lC.nd rfl (Or.inl rfl) (bM ah)) (ai (aO (i:=4) lC.nd rfl (Or.inl rfl) (aD (pv 0) rfl)) (ai (gZ PassesOwn.never rfl (gu (pv 1)) (dR (i:=5) lC.nd rfl (Or.inr rfl)) (ai (BP (i:=6) (own:=[("field",7)]) rfl lC.nd rfl rfl rfl (gu (pv 4)) (show iz ["schema","steps","step_of","along","fields","step","matching","field"] (aE pJ) _ _ from⟨rfl,by decide+kernel,by decide+kernel,by decide+kernel,by decide+kernel⟩) (fun _ _ _ _ _=>(dR (i:=7) lC.nd rfl (Or.inl rfl))) (fun _ _ _ _ _=>(tH (aY (HC (K:=K) rfl hr.units) (Hv (P:=P) (w:=w) (K:=K) (mg:=mg) (base:=base) (k:=1) ⟨rfl,rfl,rfl,rfl,rfl⟩ (pv 2) (hr.mono (by decide)) (aa (pv 7) ah)) (pv 5) (aQ _)))) (fun _ _ _ _ _=>(pv 7))) (ai (aU (aY bF (bP cC rfl T.bY PySem.boot_len (aa (pv 6) ah)) aN (aQ _)) (aq (aB (bM ah))) aX) (ai (bS (eB PySem.F.plainAttrs_list PySem.F.slot_list_append PySem.F.type_list_append gb (pv 3) (aa (bQ cA (pv 6) aN (fun _ _=>rfl)) ah))) (aq (aO (i:=4) lC.nd rfl (Or.inl rfl) (aD (aD (bQ cA (pv 6) aN (fun _ _=>rfl)) rfl) rfl))))))) (aq (aB (pv 3)))))),?_⟩;obtain⟨dt,sg,sz,ht,_,_⟩:=hk.hd;refine⟨Nat.zero_le _,fun L hL=>?_⟩;have s0:aI H (upd H L (.lst [])):=aM hL;refine⟨_,rfl,t.at,_,dt,_,_,rfl,s0 _ _ ht,T.bI,T.c8,eU,?_⟩;have hLINE:dB=100000:=rfl
 refine⟨_,rfl,pl,rfl,⟨_,ay.of (s0 _ _ hpl)⟩,jH (xs:=vst) (fun i σ H'=>∃(acc:List Fi)(u:TK)(d:Nat)(v5 v6 v7:Option V),σ=[some (V.ref t.at),some (V.ref pl),some (V.ref lf),some (V.ref L),some (V.ref u.fl),v5,v6,v7]∧aI H H'∧H' L=some (.lst (refs acc))∧bq m (ss.take i) t.sub=some acc∧bK a H u∧cS u.kd d∧u.sub=ja t.sub acc∧acc.length≤i)
  ⟨[],t,dw,Option.none,Option.none,Option.none,rfl,s0,aj,rfl,hk,hw,rfl,Nat.zero_le _⟩ (fun i σ H' _ ⟨_,_,_,_,_,_,_,s1,_⟩=>ay.of (s1 _ _ hpl)) ?_ ?_⟩
 ·rintro i v σ H' hi ⟨acc,u,d,v5,v6,v7,rfl,s1,hL',hg,hu,hwu,hcur,hla⟩
  have hil:i<vst.length:=(List.getElem?_eq_some_iff.mp hi).1;have hil':i<ss.length:=by rw[←St.len];exact hil
  have hsi:ss[i]? =some ss[i]:=List.getElem?_eq_getElem hil';have hR:=St.at_ i v _ hi hsi;obtain⟨hul,huf⟩:=hu.list;have hn9:u.sub.items.length≤999:=oU hwu.sub;refine gN ?_;dsimp only;refine aS (nP (xs:=u.sub.as.map V.ref) H' u.fl (fun R h=>⟨_,rfl,h⟩) (ay.of (s1 _ _ hul)) fun D hD=>⟨fun j H2=>aI H H2∧H2 L=some (.lst (refs acc))∧H2 D=some (.lst (refs ((u.sub.items.take j).filter fun x=>m x.h ss[i]))),⟨fun b o h=>aM hD _ _ (s1 _ _ h),aM hD _ _ hL',aj⟩,(fun j H2 _ ⟨h1,_⟩=>ay.of (h1 _ _ hul)),?_,?_⟩)
  ·rintro j v2 H2 hj ⟨h1,h2,h3⟩
   obtain⟨x,hxj,rfl,hx⟩:=qR huf hj;have hx2:=hx.a_ (bZ.of_same h1);obtain⟨dd,ee,p1,p2,p3,p4,p5⟩:=so.eq hx2 (so.same h1 hR);refine⟨rfl,_,rfl,lf,lfd,rfl,_,rfl,qT a lf lfd lc lq g,h1 _ _ hlf,hlam,x,rfl,h1 _ _ hlf,h1 _ _ hlc,hx2,_,rfl,dd,ee,p1,p2,p3,p4,_,rfl,?_⟩;rw[p5]
   have tk:(u.sub.items.take (j+1)).filter (fun x=>m x.h ss[i])=(u.sub.items.take j).filter (fun x=>m x.h ss[i])++if m x.h ss[i]=true then[x]else[]:=by
    rw[take_snoc hxj,List.filter_append,List.filter_cons,List.filter_nil]
   refine bB (fun c=>?_) (fun c=>?_)
   ·have c':m x.h ss[i]=true:=c
    rw[if_pos c']at tk;refine⟨_,rfl,_,h3,?_,?_⟩
    ·have:=List.length_filter_le (fun x=>m x.h ss[i]) (u.sub.items.take j)
     rw[List.length_take]at this;unfold refs;rw[List.length_map,sizeLine_eq];omega
    ·refine⟨fun b o h=>?_,?_,?_⟩
     ·rw[au (aV h (s1.free hD))];exact h1 b o h
     ·rw[au (aV hL' hD)];exact h2
     ·rw[aj,tk];unfold refs;rw[List.map_append];rfl
   ·have c':¬m x.h ss[i]=true:=c
    rw[if_neg c',List.append_nil]at tk;exact⟨h1,h2,by rw[tk];exact h3⟩
  ·rintro H2 ⟨h1,h2,h3⟩
   rw[List.length_map,TF.i_,List.take_length]at h3;have tki:ss.take (i+1)=ss.take i++[ss[i]]:=take_snoc hsi
   have sp:ss=ss.take i++ss[i]::ss.drop (i+1):=by
    rw[←List.drop_eq_getElem_cons hil',List.take_append_drop]
   refine gN ?_;refine⟨_,rfl,D,_,rfl,.inl (ay.of h3),rfl,_,rfl,?_⟩;rw[bJ];have hfd:(u.sub.items.find? fun x=>m x.h ss[i])=(u.sub.items.filter fun x=>m x.h ss[i]).head?:=List.head?_filter.symm;refine bB (fun c=>?_) (fun c=>?_)
   ·have c':((refs (u.sub.items.filter fun x=>m x.h ss[i])).length:Int)=0:=of_decide_eq_true c
    have e0:(u.sub.items.filter fun x=>m x.h ss[i])=[]:=by
     refine List.length_eq_zero_iff.mp ?_;unfold refs at c';rw[List.length_map]at c';omega
    refine⟨Nat.zero_le _,fun L2 hL2=>?_⟩;refine q _ L2 (fun b o h=>aM hL2 _ _ (h1 _ _ h)) (h1.free hL2) ?_;rw[aj];rw[e0]at hfd
    have hn:bq m ss t.sub=Option.none:=by
     rw[sp];exact Ob hg (by rw[←hcur,hfd];rfl)
    rw[hn];rfl
   ·refine nX ?_
    dsimp only;cases hfl:(u.sub.items.filter fun x=>m x.h ss[i])with
    |nil=>exact absurd (by rw[hfl];rfl) c
    |cons x r=>
     rw[hfl]at h3 hfd;have hxm:x∈u.sub.items:=(List.mem_filter.mp (show x∈u.sub.items.filter (fun x=>m x.h ss[i]) by rw[hfl];exact List.mem_cons_self)).1;have hx:=dY.mp huf x hxm;have hx':=hx;obtain⟨⟨dx,hx1⟩,_,_,hx4⟩:=hx';have wx:=(hwu.sub.item hxm).2;refine⟨_,rfl,.inl ⟨rfl,_,ay.of h2⟩,_,rfl,D,_,_,(.ref x.f),rfl,rfl,ay.of h3,at_of (j:=0) rfl rfl,L,_,_,rfl,rfl,h2,?_,?_⟩
     ·unfold refs;rw[List.length_map,sizeLine_eq];omega
     have DL:D≠L:=fun z=>by rw[z,hL']at hD;cases hD
     have h3':upd H2 L (.lst (refs acc++[V.ref x.f])) D=some (.lst (refs (x::r))):=by rw[au DL];exact h3
     have s3:aI H (upd H2 L (.lst (refs acc++[V.ref x.f]))):=fun b o h=>by rw[au (aV h hL)];exact h1 b o h
     obtain⟨dk,sgk,szk,hk1,_,_⟩:=hx4.hd;refine⟨_,rfl,D,_,_,(.ref x.f),rfl,rfl,ay.of h3',at_of (j:=0) rfl rfl,x.f,_,dx,_,_,rfl,s3 _ _ hx1,T.bC,T.e_,gC,x.k.at,_,dk,_,_,rfl,s3 _ _ hk1,T.bI,T.c8,eU,?_⟩;refine⟨acc++[x],x.k,_,_,_,_,rfl,s3,?_,?_,hx4,wx,Od.symm,?_⟩
     ·rw[aj];unfold refs;rw[List.map_append];rfl
     ·rw[tki];exact Oc hg (by rw[←hcur,hfd];rfl)
     ·rw[List.length_append];show acc.length+1≤i+1;omega
 ·rintro σ H' ⟨acc,u,d,v5,v6,v7,rfl,s1,hL',hg,hu,hwu,hcur,hla⟩
  rw[St.len,List.take_length]at hg;exact⟨_,rfl,q H' L s1 hL (by rw[hg];exact hL')⟩
end Vp
end
section
namespace Vp
open PySem L2
theorem HE(xs:List V)(i:Nat):eu xs (some (i:Int)) none=xs.drop i:=by
 unfold eu;rw[HT.tu,HT.Bu];by_cases h:i≤xs.length
 ·rw[Nat.min_eq_left h,List.take_of_length_le (by rw[List.length_drop];exact Nat.le_refl _)]
 ·rw[Nat.min_eq_right (by omega),Nat.sub_self,List.take_zero,List.drop_of_length_le (by omega)]
theorem Oe(xs:List V)(i:Nat):eu xs none (some (i:Int))=xs.take i:=by
 unfold eu;rw[HT.tu,HT.Bu,List.drop_zero,Nat.sub_zero];by_cases h:i≤xs.length
 ·rw[Nat.min_eq_left h]
 ·rw[Nat.min_eq_right (by omega),List.take_of_length_le (Nat.le_refl _),List.take_of_length_le (by omega)]
theorem Of(xs:List V):eu xs none (some (-1))=xs.dropLast:=by
 unfold eu;rw[HT.Bu,List.drop_zero,Nat.sub_zero,List.dropLast_eq_take]
 have e:HT.dH xs.length xs.length (some (-1))=xs.length-1:=by
  show(if(-1:Int)<0 then((-1:Int)+(xs.length:Int)).toNat else min (-1:Int).toNat xs.length)=_;rw[if_pos (by decide)];omega
 rw[e]
theorem Og(xs:List V)(i n:Nat):eu xs (some (i:Int)) (some ((i+n:Nat):Int))=(xs.drop i).take n:=by
 unfold eu;rw[HT.tu,HT.tu];by_cases h:i≤xs.length
 ·rw[Nat.min_eq_left h]
  by_cases h2:i+n≤xs.length
  ·rw[Nat.min_eq_left h2];congr 1;omega
  ·rw[Nat.min_eq_right (by omega),List.take_of_length_le (by rw[List.length_drop];exact Nat.le_refl _),List.take_of_length_le (by rw[List.length_drop];omega)]
 ·rw[Nat.min_eq_right (by omega),Nat.min_eq_right (by omega),Nat.sub_self,List.take_zero,List.drop_of_length_le (by omega)];simp
end Vp
end
section
namespace Vp
open PySem PySem.Spec PyProof.Rows L2
open PySem.W (codeHd_of_K)
variable{P:Program}{w:World}{K:PySem.W.Frag}{mg:Str→Option Value}{base:Heap}{a:aH}
def Oh:PySem.Expr→Arguments
 |.Lambda x _ _ _=>x
 |_=>fT m9
def Oi:PySem.Expr→PySem.Expr
 |.Lambda _ b _ _=>b
 |e=>e
def qU:PySem.Expr→Scope
 |.Lambda _ _ s _=>s
 |_=>aE m9
abbrev n_(i:Nat)(clos:List (Str×Addr))(c:Addr)(fd:FuncData):Prop:=Cs (tQ i) (Oh (kQ (kR i))) (Oi (kQ (kR i))) (qU (kQ (kR i))) clos c fd
theorem Oj{f c:Addr}{fd:FuncData}(T:Txt K mg a)(hl:n_ 0 [] c fd):jx P w K mg base 1 f (qT a f fd c (tQ 0) fun x=>.ref x.nm):=by
 refine nY (p:="field") (k:=0) hl .nil (fun u=>by obtain⟨pm,ctv,rfl⟩:=hl;rfl) rfl rfl rfl (by decide+kernel) rfl (fun y h=>by cases h) (fun y h=>by have h:=List.mem_singleton.mp (PySem.mem_of_lookup h);cases h) (fun vs H Q E h=>?_) (fun A outer s H v Q E hr h=>?_)
 ·obtain⟨x,rfl,h1,h2,_⟩:=h
  exact⟨rfl,h1,h2,fun i y v h=>by simp at h⟩
 ·obtain⟨x,e,h1,h2,⟨⟨d,hx⟩,_⟩,q⟩:=h
  cases e;refine⟨_,aD (pv 0) rfl,?_⟩;have e1:fH H (([]:List (Str×Addr)).map (·.2))=H:=Hw;rw[e1];refine⟨_,rfl,x.f,_,d,_,_,rfl,hx,T.bC,T.iX,nO,?_⟩;have e2:i7 H H (([]:List (Str×Addr)).map (·.2))=H:=Hx;intro _;rw[e2];exact q
theorem Ol{f c:Addr}{fd:FuncData}(T:Txt K mg a)(hl:n_ 1 [] c fd):jx P w K mg base 1 f (qT a f fd c (tQ 1) fun x=>.int (x.h.number:Nat)):=by
 refine nY (p:="field") (k:=0) hl .nil (fun u=>by obtain⟨pm,ctv,rfl⟩:=hl;rfl) rfl rfl rfl (by decide+kernel) rfl (fun y h=>by cases h) (fun y h=>by have h:=List.mem_singleton.mp (PySem.mem_of_lookup h);cases h) (fun vs H Q E h=>?_) (fun A outer s H v Q E hr h=>?_)
 ·obtain⟨x,rfl,h1,h2,_⟩:=h
  exact⟨rfl,h1,h2,fun i y v h=>by simp at h⟩
 ·obtain⟨x,e,h1,h2,⟨⟨d,hx⟩,_⟩,q⟩:=h
  cases e;refine⟨_,aD (pv 0) rfl,?_⟩;have e1:fH H (([]:List (Str×Addr)).map (·.2))=H:=Hw;rw[e1];refine⟨_,rfl,x.f,_,d,_,_,rfl,hx,T.bC,T.gh,iF,?_⟩;have e2:i7 H H (([]:List (Str×Addr)).map (·.2))=H:=Hx;intro _;rw[e2];exact q
def Cz(H:Hp)(s:List Nat)(v:V):Prop:=∃n,v=.ref n∧H n=some (.lst (aC s))
def CA(H:Hp)(s:Int)(v:V):Prop:=v=.int s
theorem Om:Cy a K gm Cz (fun x=>.ref x.nm):=by
 refine⟨fun s ⟨n,e,h⟩=>⟨n,e,s _ _ h⟩,fun{H s v x} hx ⟨n,e,h⟩=>?_⟩;subst e;refine⟨_,_,nQ (ay.of hx.2.1),nQ (ay.of h),shaped_ints _,shaped_ints _,?_⟩;rw[Co];unfold gm;rw[Bool.eq_iff_iff];simp
theorem Oo:Cy a K aW CA (fun x=>.int (x.h.number:Nat)):=by
 refine⟨fun s e=>e,fun{H s v x} hx e=>?_⟩;subst e;refine⟨_,_,.int _,.int _,GW _,GW _,?_⟩;rw[MY];unfold aW;rw[Bool.eq_iff_iff];simp
inductive xT(a:aH)(tb:Tb)(vs:List V)(H:Hp)(Q:VK)(E:XK):Prop
 |mk:∀(t:TK)(d:Nat)(nl:Addr)(ns:List Addr)(ts:List (List Nat)),vs=[.ref t.at,.ref nl]→bK a H t→cS t.kd d→H nl=some (.lst (ns.map V.ref))→ts.length≤dB→fY H ns ts→bz tb H→(∀H' l,bL tb H H'→bz tb H'→H l=Option.none→H' l=some (.lst (refs ((bq gm ts t.sub).getD [])))→Q (.ref l) H')→xT a tb vs H Q E
inductive qV(a:aH)(tb:Tb)(vs:List V)(H:Hp)(Q:VK)(E:XK):Prop
 |mk:∀(t:TK)(d:Nat)(pl:Addr)(p:List Int),vs=[.ref t.at,.ref pl]→bK a H t→cS t.kd d→H pl=some (.lst (p.map V.int))→p.length≤dB→bz tb H→(∀H' l,bL tb H H'→bz tb H'→H l=Option.none→H' l=some (.lst (refs ((bq aW p t.sub).getD [])))→Q (.ref l) H')→qV a tb vs H Q E
theorem Oq{f c:Addr}{fd:FuncData}{tb:Tb}(F:jA K "fields_by_names" "fields_by_names" pH f fd c (tb 0))(T:Txt K mg a)(hK:K.In base)(hB:BMain mg base)(c_fields_along:ao P w K mg base af 3 "fields_along" ["schema","steps","step_of"] (nZ P w K mg base a gm Cz fun x=>.ref x.nm)):
  aF P w K mg base af 4 f fd ["schema","names"] (xT a tb):=by
 refine F.ok LO (fun vs H Q E h=>by obtain⟨t,d,nl,ns,ts,rfl,_⟩:=h;rfl) (fun A outer s H vs Q E hr h=>?_);obtain⟨t,d,nl,ns,ts,rfl,hk,hw,hnl,hts,N,tabs,q⟩:=h;refine⟨_,(aq (aB (aG c_fields_along (hr.mono (by decide)) rfl az (aa (pv 0) (aa (pv 1) (aa (nW (codeHd_of_K hK F.hd) hB rfl rfl rfl) ah)))))),?_⟩;refine⟨_,rfl,_,rfl,tabs.at_ 0 (by decide),fun H1 lf lfd lc k1 t1 c1 f1 nf li=>?_⟩;obtain⟨T1,s1⟩:=tabs.lam (i:=0) (by decide) k1 t1;refine⟨t,d,nl,ns.map V.ref,ts,lf,lfd,lc,tQ 0,rfl,hk.a_ (s1.a_ tabs hk.obj),hw,s1.lst tabs hnl,hts,⟨by rw[List.length_map];exact N.len,fun i v s h1 h2=>?_⟩,f1,c1,Oj T li,fun H' l s2 n2 h2=>?_⟩
 ·rw[List.getElem?_map]at h1
  obtain⟨n,e1,rfl⟩:=Option.map_eq_some_iff.mp h1;exact⟨n,rfl,s1.lst tabs (N.at_ i n s e1 h2)⟩
 ·exact q H' l (s1.trans (cZ s2)) (T1.same s2) (s1.lV tabs T1 n2) h2
theorem Ot{f c:Addr}{fd:FuncData}{tb:Tb}(F:jA K "fields_by_path" "fields_by_path" pI f fd c (tb 1))(T:Txt K mg a)(hK:K.In base)(hB:BMain mg base)(c_fields_along:ao P w K mg base af 3 "fields_along" ["schema","steps","step_of"] (nZ P w K mg base a aW CA fun x=>.int (x.h.number:Nat))):
  aF P w K mg base af 4 f fd ["schema","path"] (qV a tb):=by
 refine F.ok LP (fun vs H Q E h=>by obtain⟨t,d,pl,p,rfl,_⟩:=h;rfl) (fun A outer s H vs Q E hr h=>?_);obtain⟨t,d,pl,p,rfl,hk,hw,hpl,hp,tabs,q⟩:=h;refine⟨_,(aq (aB (aG c_fields_along (hr.mono (by decide)) rfl az (aa (pv 0) (aa (pv 1) (aa (nW (codeHd_of_K hK F.hd) hB rfl rfl rfl) ah)))))),?_⟩;refine⟨_,rfl,_,rfl,tabs.at_ 1 (by decide),fun H1 lf lfd lc k1 t1 c1 f1 nf li=>?_⟩;obtain⟨T1,s1⟩:=tabs.lam (i:=1) (by decide) k1 t1;refine⟨t,d,pl,p.map V.int,p,lf,lfd,lc,tQ 1,rfl,hk.a_ (s1.a_ tabs hk.obj),hw,s1.lst tabs hpl,hp,⟨by rw[List.length_map],fun i v s h1 h2=>?_⟩,f1,c1,Ol T li,fun H' l s2 n2 h2=>?_⟩
 ·rw[List.getElem?_map,h2]at h1
  cases h1;rfl
 ·exact q H' l (s1.trans (cZ s2)) (T1.same s2) (s1.lV tabs T1 n2) h2
inductive xU(a:aH)(vs:List V)(H:Hp)(Q:VK)(E:XK):Prop
 |mk:∀(l:Addr)(acc:List Fi),vs=[.ref l]→H l=some (.lst (refs acc))→acc≠[]→acc.length≤dB→((∀x∈acc,bW a H x∧x.h.name.length≤12))→(∀H' m,aI H H'→H' m=some (.lst (aC (Vacola.joinDots (acc.map fun x=>x.h.name))))→(Vacola.joinDots (acc.map fun x=>x.h.name)).length≤13*acc.length→Q (.ref m) H')→xU a vs H Q E
theorem Ou{f:Addr}{fd:FuncData}(F:aK K "dotted_name" "dotted_name" ua f fd)(T:Txt K mg a):aF P w K mg base af 1 f fd ["along"] (xU a):=by
 refine F.ok B4 (fun vs H Q E h=>by obtain⟨l,acc,rfl,_⟩:=h;rfl) (fun cdv A outer s H vs Q E hr h=>?_);obtain⟨l,acc,rfl,hl,hne,hln,hx,q⟩:=h;refine⟨_,(ai (aO (i:=1) B4.nd rfl (Or.inl rfl) (E8 Kp rfl T.wY PyProof.Rows.boot_list (aa (aD (bQ cA (pv 0) aN (fun _ _=>rfl)) rfl) ah))) (ai (gZ PassesOwn.never rfl (gu (lz mW (pv 0) (jj aN) tw)) (dR (i:=2) B4.nd rfl (Or.inl rfl)) (ai (bS (eB PySem.F.plainAttrs_list PySem.F.slot_list_append PySem.F.type_list_append gb (pv 1) (aa (aA T.qg) ah))) (aq (bS (eB PySem.F.plainAttrs_list PySem.F.slot_list_extend PySem.F.type_list_extend tD (pv 1) (aa (aD (pv 2) rfl) ah)))))) (aq (aB (pv 1))))),?_⟩
 match acc,hne,hl,hln,hx,q with
 |x::r,_,hl,hln,hx,q=>
 obtain⟨⟨⟨dx,hx1⟩,hx2,_⟩,hx12⟩:=hx x List.mem_cons_self;refine⟨_,rfl,l,_,_,(.ref x.f),rfl,rfl,ay.of hl,at_of (j:=0) rfl rfl,x.f,_,dx,_,_,rfl,hx1,T.bC,T.iX,nO,?_⟩;refine⟨x.nm,_,rfl,.inl (ay.of hx2),fun m hm=>?_⟩;have s0:aI H (upd H m (.lst (aC x.h.name))):=aM hm;refine gN ?_;refine⟨_,rfl,_,rfl,l,_,rfl,ay.of (s0 _ _ hl),fun l2 hl2=>?_⟩;have e1:eu (refs (x::r)) (some 1) Option.none=refs r:=HE (refs (x::r)) 1;rw[e1];generalize hH2:upd (upd H m (.lst (aC x.h.name))) l2 (.lst (refs r))=H2;have s2:aI H H2:=by rw[←hH2];exact s0.trans (aM hl2)
 have ml2:m≠l2:=aV aj hl2;have m2:H2 m=some (.lst (aC x.h.name)):=by rw[←hH2,au ml2];exact aj
 have l22:H2 l2=some (.lst (refs r)):=by rw[←hH2];exact aj
 have hLINE:dB=100000:=rfl;have hln':r.length+1≤dB:=hln;refine⟨l2,rfl,⟨_,ay.of l22⟩,jH (xs:=refs r) (fun i σ H'=>∃v,σ=[some (V.ref l),some (V.ref m),v]∧Keeps H2 H' m∧H' m=some (.lst (aC (Vacola.joinDots ((x::r.take i).map fun x=>x.h.name))))∧(Vacola.joinDots ((x::r.take i).map fun x=>x.h.name)).length≤13*(i+1)) ⟨Option.none,rfl,Keeps.refl H2 m,m2,?_⟩ (fun i σ H' _ ⟨_,_,k1,_⟩=>ay.of (k1 _ _ l22 (Ne.symm ml2))) ?_ ?_⟩
 ·show x.h.name.length≤13*1
  omega
 ·rintro i v σ H' hi ⟨v0,rfl,k1,m1,n1⟩
  have hil:i<r.length:=by
   have:=(List.getElem?_eq_some_iff.mp hi).1;unfold refs at this;rw[List.length_map]at this;exact this
  have hri:r[i]? =some r[i]:=List.getElem?_eq_getElem hil
  have hv:v=.ref r[i].f:=by
   unfold refs at hi;rw[List.getElem?_map,hri]at hi;cases hi;rfl
  subst hv;obtain⟨hI,h12⟩:=hx r[i] (List.mem_cons_of_mem _ (List.getElem_mem hil));obtain⟨⟨dy,hy1⟩,hy2,_⟩:=hI;refine⟨_,rfl,.inl ⟨rfl,_,ay.of m1⟩,m,_,_,rfl,rfl,m1,(by rw[bE,sizeLine_eq];omega),?_⟩;generalize hH3:upd H' m (.lst (aC (Vacola.joinDots ((x::r.take i).map fun x=>x.h.name))++[V.int 46]))=H3;have m3:H3 m=some (.lst (aC (Vacola.joinDots ((x::r.take i).map fun x=>x.h.name))++[V.int 46])):=by rw[←hH3];exact aj
  have k3:Keeps H2 H3 m:=k1.trans fun b o h hb=>by rw[←hH3,au hb];exact h
  have ym:r[i].nm≠m:=fun z=>by rw[z,hm]at hy2;cases hy2
  have fm:r[i].f≠m:=fun z=>by rw[z,hm]at hy1;cases hy1
  have hy2':=k3 _ _ (s2 _ _ hy2) ym;refine⟨_,rfl,.inl ⟨rfl,_,ay.of m3⟩,_,rfl,r[i].f,_,dy,_,_,rfl,k3 _ _ (s2 _ _ hy1) fm,T.bC,T.iX,nO,m,_,_,_,rfl,rfl,m3,hy2',?_,?_⟩
  ·rw[List.length_append,bE,bE,sizeLine_eq]
   show _+1+_≤_;omega
  ·have tk:(x::r.take (i+1)).map (fun x=>x.h.name)=(x::r.take i).map (fun x=>x.h.name)++[r[i].h.name]:=by
    rw[take_snoc hri,List.map_cons,List.map_append];rfl
   have ej:=DJ ((x::r.take i).map fun x=>x.h.name) r[i].h.name (by simp);refine⟨_,rfl,k3.trans fun b o h hb=>by rw[au hb];exact h,?_,?_⟩
   ·rw[aj,tk,ej]
    unfold aC;simp
   ·rw[tk,ej,List.length_append,List.length_cons];omega
 ·rintro σ H' ⟨v0,rfl,k1,m1,n1⟩
  have er:r.take (refs r).length=r:=by unfold refs;rw[List.length_map,List.take_length]
  rw[er]at m1 n1;have elen:(refs r).length=r.length:=by unfold refs;exact List.length_map _
  rw[elen]at n1;exact⟨_,rfl,q H' m (fun b o h=>k1 b o (s2 b o h) (aV h hm)) m1 n1⟩
def dD(a:aH)(H:Hp)(ho g:Addr)(fs:Vacola.Fields):Prop:=∃(d:Addr)(t:TK)(ta:Addr),H ho=some (.ins a.cF d (gQ (.ref t.at) (.ref ta)))∧bK a H t∧t.kd=.group false fs∧H ta=some (.lst (aC (Vacola.showSchema fs)))∧Vacola.readSchema (Vacola.showSchema fs)=.ok fs∧g≠ta∧g∉t.fp
theorem dD.on{H H':Hp}{ho g:Addr}{fs:Vacola.Fields}(h:dD a H ho g fs)(k:∀b o,H b=some o→(gO o∨b=ho)→b≠g→H' b=some o)(hg:ho≠g):dD a H' ho g fs:=by
 obtain⟨d,t,ta,h1,h2,h3,h4,h5,h6,h7⟩:=h;refine⟨d,t,ta,k _ _ h1 (.inr rfl) hg,h2.a_ ⟨fun b hb o ho=>?_⟩,h3,k _ _ h4 (.inl trivial) (Ne.symm h6),h5,h6,h7⟩;obtain⟨u,q1,q2⟩:=h2.obj b hb;rw[ho]at q1;cases q1;exact k b o ho (.inl q2) (fun z=>h7 (z▸hb))
def lW(H:Hp)(ans:List Int)(Q:VK):Prop:=∀H' l,aI H H'→H l=Option.none→H' l=some (.lst (ans.map V.int))→ans.length≤2010→Q (.ref l) H'
def lX(tb:Tb)(H:Hp)(ans:List Int)(Q:VK):Prop:=∀H' l,bL tb H H'→bz tb H'→H l=Option.none→H' l=some (.lst (ans.map V.int))→ans.length≤2010→Q (.ref l) H'
inductive xV(a:aH)(vs:List V)(H:Hp)(Q:VK)(E:XK):Prop
 |mk:∀ta T,vs=[.ref ta]→H ta=some (.lst (aC T))→lW H [((Vacola.verdict T).1:Nat),((Vacola.verdict T).2:Nat)] Q→xV a vs H Q E
theorem Ov{f:Addr}{fd:FuncData}(F:aK K "reply_check" "reply_check" u_ f fd)(T:Txt K mg a)(c_read_schema:ao P w K mg base (bu P w) 27 "read_schema" ["text"] (lR a)):aF P w K mg base af 28 f fd ["text"] (xV a):=by
 refine F.ok Gz (fun vs H Q E h=>by obtain⟨ta,T,rfl,_⟩:=h;rfl) (fun cdv A outer s H vs Q E hr h=>?_);obtain⟨ta,Tx,rfl,hta,q⟩:=h;refine⟨_,(ai (F9 (i:=1) T.err rfl rfl rfl Gz.nd rfl rfl rfl T.jO (fun pn xe E R po=>(aq (bS (aG c_read_schema (hr.mono (by decide)) rfl (dj rfl R) (aa (pv 0) ah))))) (fun pn e oe d vs h1 h2 h3=>(aq (aB (bM (aa (BY T.err (by simp) h1 h2 h3 (pv 1) rfl) (aa (BY T.err (by simp) h1 h2 h3 (pv 1) rfl) ah))))))) (aq (aB (bM (aa aN (aa (bP cC rfl T.bY PySem.boot_len (aa (pv 0) ah)) ah)))))),?_⟩;refine⟨_,rfl,ta,Tx,rfl,hta,?_⟩;unfold jV;unfold Vacola.verdict at q;cases hR:Vacola.readSchema Tx with
 |error e=>
  rw[hR]at q;refine fun H' d s' hd=>⟨d,rfl,rfl,fun e he=>?_⟩
  refine⟨_,rfl,rfl,_,_,hd,rfl,_,rfl,rfl,_,_,hd,rfl,by show 2≤sizeLine;decide,fun l hl=>?_⟩;exact q _ l (s'.trans (aM hl)) (s'.free hl) aj (by show 2≤2010;decide)
 |ok fs=>
  rw[hR]at q;intro H' t s' NK;refine⟨_,rfl,ta,_,rfl,.inl (ay.of (s' _ _ hta)),by show 2≤sizeLine;decide,fun l hl=>?_⟩;exact q _ l (s'.trans (aM hl)) (s'.free hl) (by rw[aj,bE];rfl) (by show 2≤2010;decide)
def iI(a:aH)(H:Hp)(ho g:Addr):Option Vacola.Fields→Prop
 |Option.none=>∃d tv,H ho=some (.ins a.cF d (gQ .aP tv))
 |some fs=>dD a H ho g fs
theorem iI.ins{H:Hp}{ho g:Addr}:∀{x:Option Vacola.Fields},iI a H ho g x→∃d sv tv,H ho=some (.ins a.cF d (gQ sv tv))
 |Option.none,⟨d,tv,h⟩=>⟨d,_,tv,h⟩
 |some _,⟨d,t,ta,h,_⟩=>⟨d,_,_,h⟩
theorem iI.on{H H':Hp}{ho g:Addr}(k:∀b o,H b=some o→(gO o∨b=ho)→b≠g→H' b=some o)(hg:ho≠g):∀{x:Option Vacola.Fields},iI a H ho g x→iI a H' ho g x
 |Option.none,⟨d,tv,h⟩=>⟨d,tv,k _ _ h (.inr rfl) hg⟩
 |some _,h=>dD.on h k hg
def HF(tb:Tb)(H H':Hp)(ho:Addr):Prop:=∀b o,H b=some o→b≠ho→(∀i<6,b≠tb i)→H' b=some o
def gS(a:aH)(tb:Tb)(H:Hp)(ho g:Addr)(x:Option Vacola.Fields)(ans:List Int)(Q:VK):Prop:=∀H' l,HF tb H H' ho→bz tb H'→iI a H' ho g x→H l=Option.none→H' l=some (.lst (ans.map V.int))→ans.length≤2010→Q (.ref l) H'
theorem oh{xs:List V}:∀ps,HO.lst xs≠.cV ps:=fun _ z=>by cases z
theorem lY{C d:Addr}{fs:List (Str×V)}:∀ps,HO.ins C d fs≠.cV ps:=fun _ z=>by cases z
theorem qW{C d:Addr}{fs:List (Str×V)}:∀φ,HO.ins C d fs≠.ext φ:=fun _ z=>by cases z
theorem gS.of{tb:Tb}{H:Hp}{ho g:Addr}{x:Option Vacola.Fields}{ans:List Int}{Q:VK}(h:gS a tb H ho g x ans Q)(hx:iI a H ho g x)(tabs:bz tb H)(hg:ho≠g):lX tb H ans Q:=fun H' l s' T' n e len=>by
 refine h H' l (fun b o q _ z=>s' b o q z) T' (hx.on (fun b o q c _=>?_) hg) n e len;rcases c with c|c
 ·exact s'.get tabs q c.no
 ·obtain⟨d,sv,tv,z⟩:=hx.ins
  rw[c,z]at q;cases q;rw[c];exact s'.ins tabs z
theorem lX.of{tb:Tb}{H:Hp}{ans:List Int}{Q:VK}(h:lX tb H ans Q)(tabs:bz tb H):lW H ans Q:=fun H' l s' n e len=>h H' l (cZ s') (tabs.same s') n e len
inductive xW(a:aH)(tb:Tb)(vs:List V)(H:Hp)(Q:VK)(E:XK):Prop
 |mk:∀ho g og ta T x,vs=[.ref ho,.ref ta]→iI a H ho g x→bz tb H→ho≠g→H g=some og→g≠ta→H ta=some (.lst (aC T))→(match Vacola.readSchema T with
 |.error _=>gS a tb H ho g x [-1] Q
 |.ok fs=>gS a tb H ho g (some fs) [0] Q)→xW a tb vs H Q E
theorem Ow{f:Addr}{fd:FuncData}{tb:Tb}(F:aK K "reply_hold" "reply_hold" vc f fd)(T:Txt K mg a)(m_Holder_hold_text:bG P w K mg base (bu P w) 28 a.cF "hold_text" ["self","text"] (qK a)):aF P w K mg base af 29 f fd ["holder","text"] (xW a tb):=by
 refine F.ok Mc (fun vs H Q E h=>by obtain⟨ho,g,og,ta,T,x,rfl,_⟩:=h;rfl) (fun cdv A outer s H vs Q E hr h=>?_);obtain⟨ho,g,og,ta,Tx,x,rfl,hx,tabs,hg,hog,gta,hta,q⟩:=h;refine⟨_,(ai (BZ T.err rfl rfl rfl rfl T.jO (fun pn xe E R po=>(aq (bS (B0 (pv 0) T.dN m_Holder_hold_text (hr.mono (by decide)) (dj rfl R) (aa (pv 1) ah))))) (fun pn e oe d vs h1 h2 h3=>(aq (aB (bM (aa (aA T.wm) ah)))))) (aq (aB (bM (aa aN ah))))),?_⟩;obtain⟨d,sv,tv,hho⟩:=hx.ins;refine⟨_,rfl,ho,d,_,rfl,hho,qJ (by decide+kernel),_,rfl,ho,d,sv,tv,ta,Tx,rfl,hho,hta,?_⟩;unfold jV;cases hR:Vacola.readSchema Tx with
 |error e=>
  rw[hR]at q;refine fun H' d s' hd=>⟨d,rfl,rfl,fun e he=>?_⟩
  refine⟨by show 1≤sizeLine;decide,fun l hl=>?_⟩;exact((q.of hx tabs hg).of tabs) _ l (s'.trans (aM hl)) (s'.free hl) aj (by show 1≤2010;decide)
 |ok fs=>
  rw[hR]at q;intro H' t k1 h1 NK;refine⟨by show 1≤sizeLine;decide,fun l hl=>?_⟩;have lho:l≠ho:=fun z=>by rw[z,h1]at hl;cases hl
  have s2:aI H' (upd H' l (.lst [V.int 0])):=aM hl;have eS:=AI hR;have taho:ta≠ho:=fun z=>by rw[z,hho]at hta;cases hta
  refine q _ l (fun b o z n _=>s2 _ _ (k1 b o z n)) ((tabs.keeps k1 hho lY qW).same s2) ⟨d,t,ta,s2 _ _ h1,NK.has.a_ (bZ.of_same s2),NK.kd,?_,?_,gta,fun z=>?_⟩ (k1.free hl lho) aj (by show 1≤2010;decide)
  ·rw[eS];exact s2 _ _ (k1 _ _ hta taho)
  ·rw[eS];exact hR
  ·rw[NK.fr g z]at hog;cases hog
theorem i8{t:TK}{c:Bool}{fs:Vacola.Fields}(h:t.kd=.group c fs):∃k fl tf,t=.group c k fl tf∧tf.fs=fs:=by
 cases t with
 |leaf _ _ _=>cases h
 |group c' k fl tf=>cases h;exact⟨k,fl,tf,rfl,rfl⟩
theorem CB(t:List Nat):(VacolaNeutral.encode (.bytes t)).map V.int=V.int (t.length:Int)::aC t:=by
 unfold VacolaNeutral.encode VacolaNeutral.nats aC;simp
theorem Wf.gk{fs:Vacola.Fields}(h:Wf fs):cS (.group false fs) 6:=⟨by decide,h.ne,h.wf⟩
theorem Wf.hgt{fs:Vacola.Fields}(h:Wf fs):dP fs≤6:=h.wf.wr.hgt
inductive xX(a:aH)(vs:List V)(H:Hp)(Q:VK)(E:XK):Prop
 |mk:∀ho g fs,vs=[.ref ho]→dD a H ho g fs→lW H (VacolaNeutral.encode (.bytes (Vacola.showSchema fs))) Q→xX a vs H Q E
theorem Ox{f:Addr}{fd:FuncData}(F:aK K "reply_show" "reply_show" vd f fd)(T:Txt K mg a):aF P w K mg base af 1 f fd ["holder"] (xX a):=by
 refine F.ok Me (fun vs H Q E h=>by obtain⟨ho,g,fs,rfl,_⟩:=h;rfl) (fun cdv A outer s H vs Q E hr h=>?_);obtain⟨ho,g,fs,rfl,⟨d,t,ta,hho,hk,hkd,hta,hR,_,_⟩,q⟩:=h;refine⟨_,(aq (aB (bU gg (bM (aa (bP cC rfl T.bY PySem.boot_len (aa (aD (pv 0) rfl) ah)) ah)) (aD (pv 0) rfl)))),?_⟩;have hw:=iw hR;have hl:=hw.len;refine⟨_,rfl,ho,_,d,_,_,rfl,hho,T.dN,T.kJ,Cr,ta,_,rfl,.inl (ay.of hta),by show 1≤sizeLine;decide,fun l hl=>?_⟩;have s1:=aM (o:=HO.lst [V.int ((aC (Vacola.showSchema fs)).length:Int)]) hl;refine⟨_,rfl,ho,_,d,_,_,rfl,s1 _ _ hho,T.dN,T.kJ,Cr,l,ta,_,_,rfl,rfl,aj,s1 _ _ hta,?_,fun m hm=>?_⟩
 ·rw[bE,sizeLine_eq];show 1+_≤_;omega
 ·refine q _ m (s1.trans (aM hm)) (s1.free hm) ?_ ?_
  ·rw[aj,CB,bE];rfl
  ·have e:(VacolaNeutral.encode (.bytes (Vacola.showSchema fs))).length=(Vacola.showSchema fs).length+1:=by
    unfold VacolaNeutral.encode VacolaNeutral.nats;simp
   omega
inductive xY(a:aH)(vs:List V)(H:Hp)(Q:VK)(E:XK):Prop
 |mk:∀ho g fs,vs=[.ref ho]→dD a H ho g fs→lW H (VacolaNeutral.encode (.count (Vacola.columns fs).length)) Q→xY a vs H Q E
theorem Oz{f:Addr}{fd:FuncData}(F:aK K "reply_columns" "reply_columns" ve f fd)(T:Txt K mg a)(c_columns_of:ao P w K mg base af 11 "columns_of" ["schema"] (lU a)):aF P w K mg base af 12 f fd ["holder"] (xY a):=by
 refine F.ok Mf (fun vs H Q E h=>by obtain⟨ho,g,fs,rfl,_⟩:=h;rfl) (fun cdv A outer s H vs Q E hr h=>?_);obtain⟨ho,g,fs,rfl,⟨d,t,ta,hho,hk,hkd,hta,hR,_,_⟩,q⟩:=h;refine⟨_,(aq (aB (bM (aa (bP cC rfl T.bY PySem.boot_len (aa (aG c_columns_of (hr.mono (by decide)) rfl az (aa (aD (pv 0) rfl) ah)) ah)) ah)))),?_⟩;have hw:=iw hR;obtain⟨k,fl,tf,rfl,rfl⟩:=i8 hkd;refine⟨_,rfl,ho,_,d,_,_,rfl,hho,T.dN,T.gM,jW,k,fl,tf,rfl,hk,hw.hgt,hw.lv,fun H1 l as s1 nl hl C=>?_⟩;refine⟨l,_,rfl,.inl (ay.of hl),by show 1≤sizeLine;decide,fun m hm=>?_⟩;refine q _ m (s1.trans (aM hm)) (s1.free hm) ?_ (by show 1≤2010;decide);rw[aj,List.length_map,C.len];rfl
def xZ:Vacola.Leaf→Int
 |.bit=>0
 |.int _=>1
 |.text _=>2
theorem OA(l:Vacola.Leaf):VacolaNeutral.leaf l=[xZ l,(leafSize l:Nat)]:=by cases l<;>rfl
inductive x8(a:aH)(vs:List V)(H:Hp)(Q:VK)(E:XK):Prop
 |mk:∀k l,vs=[.ref k]→Cm a H k l→Q (.int (xZ l)) H→x8 a vs H Q E
theorem OB{f:Addr}{fd:FuncData}(F:aK K "leaf_number" "leaf_number" vg f fd)(T:Txt K mg a):aF P w K mg base af 1 f fd ["kind"] (x8 a):=by
 refine F.ok Mg (fun vs H Q E h=>by obtain⟨k,l,rfl,_⟩:=h;rfl) (fun cdv A outer s H vs Q E hr h=>?_);obtain⟨k,l,rfl,⟨d,fl,hk⟩,q⟩:=h;refine⟨_,(ai (aU (aY bF (aD (pv 0) rfl) (aA T.lH) (aQ _)) (aq (aB aN)) aX) (ai (aU (aY bF (aD (pv 0) rfl) (aA T.lI) (aQ _)) (aq (aB aN)) aX) (aq (aB aN)))),?_⟩;refine⟨_,rfl,k,_,d,_,_,rfl,hk,T.bI,T.e9,gi,rfl,_,rfl,?_⟩;rw[bJ];cases l with
 |bit=>exact q
 |int n=>
  refine(if_neg (by show¬decide ((105:Int)=98)=true;decide)).mpr (nX ?_);dsimp only;refine⟨_,rfl,k,_,d,_,_,rfl,hk,T.bI,T.e9,gi,rfl,_,rfl,?_⟩;rw[bJ];exact q
 |text n=>
  refine(if_neg (by show¬decide ((116:Int)=98)=true;decide)).mpr (nX ?_);dsimp only;refine⟨_,rfl,k,_,d,_,_,rfl,hk,T.bI,T.e9,gi,rfl,_,rfl,?_⟩;rw[bJ];exact q
theorem HG{k:Addr}{r d:Nat}{p:Addr}:(qQ k r d p).lookup ("kind":Str)=some (.ref k):=rfl
theorem OC{k:Addr}{r d:Nat}{p:Addr}:(qQ k r d p).lookup ("repetition":Str)=some (.int (r:Int)):=rfl
theorem OD{k:Addr}{r d:Nat}{p:Addr}:(qQ k r d p).lookup ("definition":Str)=some (.int (d:Int)):=rfl
theorem x9{k:Addr}{r d:Nat}{p:Addr}:(qQ k r d p).lookup ("path":Str)=some (.ref p):=rfl
def oj(fs:Vacola.Fields)(n:Int):Vacola.Answer:=if n<0 then .refused (-3)else match(Vacola.columns fs)[n.toNat]? with
 |some c=>.column c
 |Option.none=>.refused (-3)
inductive x_(a:aH)(vs:List V)(H:Hp)(Q:VK)(E:XK):Prop
 |mk:∀ho g fs n,vs=[.ref ho,.int n]→dD a H ho g fs→lW H (VacolaNeutral.encode (oj fs n)) Q→x_ a vs H Q E
theorem OE{f:Addr}{fd:FuncData}(F:aK K "reply_column" "reply_column" vf f fd)(T:Txt K mg a)(c_columns_of:ao P w K mg base af 11 "columns_of" ["schema"] (lU a))(c_leaf_number:ao P w K mg base af 1 "leaf_number" ["kind"] (x8 a)):aF P w K mg base af 12 f fd ["holder","number"] (x_ a):=by
 refine F.ok vG (fun vs H Q E h=>by obtain⟨ho,g,fs,n,rfl,_⟩:=h;rfl) (fun cdv A outer s H vs Q E hr h=>?_);obtain⟨ho,g,fs,n,rfl,⟨d,t,ta,hho,hk,hkd,hta,hR,_,_⟩,q⟩:=h;refine⟨_,(ai (aO (i:=2) vG.nd rfl (Or.inl rfl) (aG c_columns_of (hr.mono (by decide)) rfl az (aa (aD (pv 0) rfl) ah))) (ai (aU (PW.pt (f7 (aY jh (pv 1) aN (aQ _)) (iR (aY ET (pv 1) (bP cC rfl T.bY PySem.boot_len (aa (pv 2) ah)) (aQ _))))) (aq (aB (bM (aa (aA T.qk) ah)))) aX) (ai (aO (i:=3) vG.nd rfl (Or.inl rfl) (bQ cA (pv 2) (pv 1) (fun _ _=>rfl))) (ai (aO (i:=4) vG.nd rfl (Or.inl rfl) (bM (aa (aG c_leaf_number (hr.mono (by decide)) rfl az (aa (aD (pv 3) rfl) ah)) (aa (aD (aD (pv 3) rfl) rfl) (aa (aD (pv 3) rfl) (aa (aD (pv 3) rfl) (aa (bP cC rfl T.bY PySem.boot_len (aa (aD (pv 3) rfl) ah)) ah))))))) (aq (aB (bU gg (pv 4) (aD (pv 3) rfl)))))))),?_⟩;have hw:=iw hR;obtain⟨k,fl,tf,rfl,rfl⟩:=i8 hkd;refine⟨_,rfl,ho,_,d,_,_,rfl,hho,T.dN,T.gM,jW,k,fl,tf,rfl,hk,hw.hgt,hw.lv,fun H1 l as s1 nl hl C=>?_⟩;have lasV:(as.map V.ref).length=(Vacola.columns tf.fs).length:=by rw[List.length_map,C.len]
 have bad:oj tf.fs n=.refused (-3)→([V.int (-3)]:List V).length≤sizeLine∧∀p,H1 p=Option.none→Q (.ref p) (upd H1 p (.lst [V.int (-3)])):=fun e=>⟨by show 1≤sizeLine;decide,fun m hm=>q _ m (s1.trans (aM hm)) (s1.free hm) (by rw[e,aj];rfl) (by rw[e];show 1≤2010;decide)⟩
 refine⟨_,rfl,_,_,rfl,rfl,_,rfl,?_⟩;refine bB (fun c=>?_) (fun c=>?_)
 ·have c':n<0:=of_decide_eq_true c
  exact bad (by unfold oj;rw[if_pos c'])
 have c':¬n<0:=fun z=>c (decide_eq_true z)
 refine⟨_,rfl,_,rfl,l,_,rfl,.inl (ay.of hl),_,_,rfl,rfl,_,rfl,?_⟩;rw[lasV];refine bB (fun c2=>?_) (fun c2=>?_)
 ·have c2':((Vacola.columns tf.fs).length:Int)≤n:=of_decide_eq_true c2
  exact bad (by unfold oj;rw[if_neg c',List.getElem?_eq_none (by omega)])
 have c2':n<((Vacola.columns tf.fs).length:Int):=by have:=of_decide_eq_false (Bool.eq_false_iff.mpr c2);omega
 have hlt:n.toNat<(Vacola.columns tf.fs).length:=by omega
 obtain⟨co,hco⟩:∃co,(Vacola.columns tf.fs)[n.toNat]? =some co:=⟨_,List.getElem?_eq_getElem hlt⟩;obtain⟨ca,hca⟩:∃ca,as[n.toNat]? =some ca:=⟨_,List.getElem?_eq_getElem (by rw[C.len];exact hlt)⟩;obtain⟨dc,kc,pc,hc1,hc2,hc3,_⟩:=C.at_ _ _ _ hca hco;obtain⟨dl,fl',hc2'⟩:=id hc2;have eA:oj tf.fs n=.column co:=by unfold oj;rw[if_neg c',hco]
 rw[eA]at q;refine nX ?_;dsimp only;refine⟨_,rfl,_,rfl,l,_,_,(.ref ca),rfl,rfl,ay.of hl,at_of (j:=n.toNat) (by omega) (by rw[List.getElem?_map,hca];rfl),?_⟩;refine⟨_,rfl,ca,_,dc,_,_,rfl,hc1,T.gy,T.nF,HG,kc,co.leaf,rfl,hc2,?_⟩;refine⟨_,rfl,ca,_,dc,_,_,rfl,hc1,T.gy,T.nF,HG,kc,_,dl,_,_,rfl,hc2',T.bI,T.jo,nM,?_⟩;refine⟨_,rfl,ca,_,dc,_,_,rfl,hc1,T.gy,T.qp,OC,?_⟩;refine⟨_,rfl,ca,_,dc,_,_,rfl,hc1,T.gy,T.qs,OD,?_⟩;refine⟨_,rfl,ca,_,dc,_,_,rfl,hc1,T.gy,T.kK,x9,pc,_,rfl,.inl (ay.of hc3),by show 5≤sizeLine;decide,fun m hm=>?_⟩;refine gN ?_;generalize hH2:upd H1 m (.lst _)=H2;have s2:aI H1 H2:=by rw[←hH2];exact aM hm
 have m2':H2 m=some (.lst [V.int (xZ co.leaf),V.int ((leafSize co.leaf:Nat):Int),V.int (co.rep:Int),V.int (co.defn:Int),V.int ((aC co.path).length:Int)]):=by rw[←hH2];exact aj
 have hpl:co.path.length≤6:=by
  have:=AQ tf.fs false [] 0 0 co (List.mem_of_getElem? hco);have:=hw.hgt;have e:([]:List Nat).length=0:=rfl;omega
 refine⟨_,rfl,_,rfl,ca,_,dc,_,_,rfl,s2 _ _ hc1,T.gy,T.kK,x9,m,pc,_,_,rfl,rfl,m2',s2 _ _ hc3,?_,fun m2 hm2=>?_⟩
 ·rw[bE,sizeLine_eq];show 5+_≤_;omega
 ·have eE:VacolaNeutral.encode (.column co)=xZ co.leaf::((leafSize co.leaf:Nat):Int)::(co.rep:Int)::(co.defn:Int)::(co.path.length:Int)::VacolaNeutral.nats co.path:=by
   show VacolaNeutral.leaf co.leaf++_=_;rw[OA];rfl
  refine q _ m2 ((s1.trans s2).trans (aM hm2)) (s1.free (s2.free hm2)) ?_ ?_
  ·rw[aj,eE,bE]
   unfold VacolaNeutral.nats aC;simp
  ·rw[eE]
   unfold VacolaNeutral.nats;simp;omega
theorem HH(t:List Nat):(VacolaNeutral.encode (.bytes t)).length=t.length+1:=by
 unfold VacolaNeutral.encode VacolaNeutral.nats;simp
theorem ya{S:Type}{m:Vacola.Head→S→Bool}{H:Hp}:∀(ss:List S)(t:TK)(n:Nat)(acc:List Fi),bq m ss t.sub=some acc→bK a H t→cS t.kd n→∀x∈acc,bW a H x∧gW x.h
 |[],t,n,acc,h,_,_,x,hx=>by cases h;cases hx
 |s::ss,t,n,acc,h,hk,hw,x,hx=>by
  rw[bq]at h;cases hf:t.sub.items.find? fun x=>m x.h s with
  |none=>rw[hf]at h;cases h
  |some y=>
   rw[hf]at h;have hy:=List.mem_of_find?_eq_some hf;obtain⟨l,hl,rfl⟩:=Option.map_eq_some_iff.mp h;have hI:=dY.mp hk.list.2 y hy;have hwy:=hw.sub.item hy;rcases List.mem_cons.mp hx with rfl|hx
   ·exact⟨hI,hwy.1⟩
   ·exact ya ss y.k (n-1) l hl hI.2.2.2 hwy.2 x hx
def CC(fs:Vacola.Fields)(p:List Int):Vacola.Answer:=match Vacola.namesAt p fs with
 |some l=>.bytes (Vacola.joinDots l)
 |Option.none=>.refused (-4)
inductive yb(a:aH)(tb:Tb)(vs:List V)(H:Hp)(Q:VK)(E:XK):Prop
 |mk:∀ho g fs pl p,vs=[.ref ho,.ref pl]→dD a H ho g fs→bz tb H→H pl=some (.lst (p.map V.int))→p.length≤100→lX tb H (VacolaNeutral.encode (CC fs p)) Q→yb a tb vs H Q E
theorem OF{f:Addr}{fd:FuncData}{tb:Tb}(F:aK K "reply_name" "reply_name" vh f fd)(T:Txt K mg a)(c_fields_by_path:ao P w K mg base af 4 "fields_by_path" ["schema","path"] (qV a tb))(c_dotted_name:ao P w K mg base af 1 "dotted_name" ["along"] (xU a)):aF P w K mg base af 5 f fd ["holder","path"] (yb a tb):=by
 refine F.ok Ce (fun vs H Q E h=>by obtain⟨ho,g,fs,pl,p,rfl,_⟩:=h;rfl) (fun cdv A outer s H vs Q E hr h=>?_);obtain⟨ho,g,fs,pl,p,rfl,⟨d,t,ta,hho,hk,hkd,hta,hR,_,_⟩,tabs,hpl,hp,q⟩:=h;refine⟨_,(ai (aO (i:=2) Ce.nd rfl (Or.inl rfl) (aG c_fields_by_path (hr.mono (by decide)) rfl az (aa (aD (pv 0) rfl) (aa (pv 1) ah)))) (ai (aU (aY bF (bP cC rfl T.bY PySem.boot_len (aa (pv 2) ah)) aN (aQ _)) (aq (aB (bM (aa (aA T.kH) ah)))) aX) (ai (aO (i:=3) Ce.nd rfl (Or.inl rfl) (aG c_dotted_name (hr.mono (by decide)) rfl az (aa (pv 2) ah))) (aq (aB (bU gg (bM (aa (bP cC rfl T.bY PySem.boot_len (aa (pv 3) ah)) ah)) (pv 3))))))),?_⟩;have hw:=iw hR;have hLINE:dB=100000:=rfl;obtain⟨k,fl,tf,rfl,rfl⟩:=i8 hkd;refine⟨_,rfl,ho,_,d,_,_,rfl,hho,T.dN,T.gM,jW,_,rfl,.group false k fl tf,6,pl,p,rfl,hk,hw.gk,hpl,by omega,tabs,fun H1 l s1 T1 nl hl=>?_⟩
 have eN:CC tf.fs p=match(bq aW p tf).getD []with
  |[]=>.refused (-4)
  |acc=>.bytes (Vacola.joinDots (acc.map fun x=>x.h.name)):=by
  unfold CC;rw[Dl];cases bq aW p tf with
  |none=>rfl
  |some acc=>cases acc<;>rfl
 have hl':H1 l=some (.lst (refs ((bq aW p tf).getD []))):=hl;refine gN ?_;refine⟨_,rfl,l,_,rfl,.inl (ay.of hl'),rfl,_,rfl,?_⟩;rw[bJ];cases hacc:(bq aW p tf).getD []with
 |nil=>
  rw[hacc]at eN;rw[eN]at q;refine⟨by show 1≤sizeLine;decide,fun m hm=>?_⟩;exact q _ m (s1.trans (cZ (aM hm))) (T1.same (aM hm)) (s1.lV tabs T1 hm) (by rw[aj];rfl) (by show 1≤2010;decide)
 |cons x r=>
  rw[hacc]at eN hl';rw[eN]at q;dsimp only at q
  have hg:bq aW p tf=some (x::r):=by
   cases h:bq aW p tf with
   |none=>rw[h]at hacc;cases hacc
   |some l=>rw[h]at hacc;rw[←hacc];rfl
  have hlen:(x::r).length≤100:=by rw[oQ hg];exact hp
  refine(if_neg (by rw[decide_eq_true_iff];show¬(((refs (x::r)).length:Int)=0);unfold refs;rw[List.length_map,List.length_cons];omega)).mpr (nX ?_);dsimp only;refine⟨_,rfl,l,x::r,rfl,hl',by simp,by omega,fun y hy=>?_,fun H2 m s2 hm hml=>?_⟩
  ·obtain⟨h1,h2⟩:=ya p (.group false k fl tf) 6 (x::r) hg hk hw.gk y hy
   exact⟨h1.a_ (s1.a_ tabs h1.obj),h2.nm⟩
  ·refine gN ?_
   refine⟨_,rfl,m,_,rfl,.inl (ay.of hm),by show 1≤sizeLine;decide,fun m2 hm2=>?_⟩;have s3:=aM (o:=HO.lst [V.int ((aC (Vacola.joinDots ((x::r).map fun x=>x.h.name))).length:Int)]) hm2;refine⟨_,rfl,m2,m,_,_,rfl,rfl,aj,s3 _ _ hm,?_,fun m3 hm3=>?_⟩
   ·rw[bE,sizeLine_eq];show 1+_≤_;omega
   ·have sA:aI H1 (upd (upd H2 m2 (HO.lst [V.int ((aC (Vacola.joinDots ((x::r).map fun x=>x.h.name))).length:Int)])) m3 (HO.lst ([V.int ((aC (Vacola.joinDots ((x::r).map fun x=>x.h.name))).length:Int)]++aC (Vacola.joinDots ((x::r).map fun x=>x.h.name))))):=(s2.trans s3).trans (aM hm3)
    refine q _ m3 (s1.trans (cZ sA)) (T1.same sA) (s1.lV tabs T1 (s2.free (s3.free hm3))) ?_ ?_
    ·rw[aj,CB,bE];rfl
    ·rw[HH];omega
theorem OG{K:PySem.W.Frag}{xs:List V}{g:TG}{tt:TT}{te:TE}{ta:TA}{vs:List Nat}{σ:L2.St}{H:Hp}{Q:VK}(H1:Hp)(b:Addr)(ht:∀R:List V→Hp→Prop,R [.ref b] H1→ta σ H R)(hS:ay K H1 b xs)
  (hD:∀D,H1 D=Option.none→∃Pv:Nat→Hp→Prop,Pv 0 (upd H1 D (.lst []))∧(∀i H,i≤xs.length→Pv i H→ay K H b xs)∧
   (∀i x H T,xs[i]? =some x→Pv i H→H T=Option.none→g (.ref T) (wipe σ vs) (upd H T (.tup [.int (i:Nat),x])) fun σ2 H2=>wipe σ2 vs=wipe σ vs∧tt σ2 H2 fun k H3=>if k=true then te σ2 H3 fun y H4=>∃acc,H4 D=some (.lst acc)∧acc.length<sizeLine∧Pv (i+1) (upd H4 D (.lst (acc++[y])))else Pv (i+1) H3)∧
   ∀H,Pv xs.length H→Q (.ref D) H):lB (FI K ta) g tt te vs σ H Q:=by
 refine ht _ ⟨b,xs,rfl,hS,fun D hd=>?_⟩;obtain⟨Pv,h0,hl,hs,he⟩:=hD D hd;refine⟨fun i m H=>m=xs.length-i∧i≤xs.length∧Pv i H,⟨xs.length,by simp,Nat.zero_le _,h0⟩,?_⟩;rintro i m H ⟨rfl,hi,p⟩;have q:=hl i H hi p;by_cases hlt:i<xs.length
 ·refine .inr ⟨⟨xs,xs[i],q,by simp[hlt]⟩,Pv (i+1),fun H' p'=>⟨xs.length-(i+1),by omega,rfl,hlt,p'⟩,fun v H' y=>?_⟩
  obtain⟨T,x,rfl,hT,rfl,hx⟩:=y;exact hs i x H T (hx xs q) p hT
 ·have e:i=xs.length:=by omega
  subst e;exact .inl ⟨⟨xs,q,Nat.le_refl _⟩,he H p⟩
theorem split_len:∀t:List Nat,(Vacola.splitDots t).length≤t.length+1
 |[]=>by simp[Vacola.splitDots]
 |c::r=>by
  have ih:=split_len r;rw[Vacola.splitDots];split
  ·simp;exact ih
  ·cases hs:Vacola.splitDots r with
   |nil=>simp
   |cons s l=>rw[hs]at ih;simp at ih⊢;omega
inductive yc(a:aH)(tb:Tb)(vs:List V)(H:Hp)(Q:VK)(E:XK):Prop
 |mk:∀ho g fs ta t,vs=[.ref ho,.ref ta]→dD a H ho g fs→bz tb H→H ta=some (.lst (aC t))→t.length≤5000→lX tb H (VacolaNeutral.encode (Vacola.finds fs t)) Q→yc a tb vs H Q E
theorem OH{f:Addr}{fd:FuncData}{tb:Tb}(F:aK K "reply_find" "reply_find" nh f fd)(T:Txt K mg a)(c_fields_by_names:ao P w K mg base af 4 "fields_by_names" ["schema","names"] (xT a tb))(c_split_names:ao P w K mg base af 1 "split_names" ["text"] xS)(c_columns_of:ao P w K mg base af 11 "columns_of" ["schema"] (lU a)):aF P w K mg base af 12 f fd ["holder","text"] (yc a tb):=by
 refine F.ok jN (fun vs H Q E h=>by obtain⟨ho,g,fs,ta,t,rfl,_⟩:=h;rfl) (fun cdv A outer s H vs Q E hr h=>?_);obtain⟨ho,g,fs,ta,Tx,rfl,⟨d,t,ta',hho,hk,hkd,hta',hR,_,_⟩,tabs,hta,hT,q⟩:=h;refine⟨_,(ai (aO (i:=2) jN.nd rfl (Or.inl rfl) (aG c_fields_by_names (hr.mono (by decide)) rfl az (aa (aD (pv 0) rfl) (aa (aG c_split_names (hr.mono (by decide)) rfl az (aa (pv 1) ah)) ah)))) (ai (aU (aY bF (bP cC rfl T.bY PySem.boot_len (aa (pv 2) ah)) aN (aQ _)) (aq (aB (bM (aa (aA T.kH) ah)))) aX) (ai (aO (i:=3) jN.nd rfl (Or.inr rfl) (pA (own:=[("field",6)]) rfl jN.nd (gu (pv 2)) (show iz ["holder","text","along","path","columns","within","field","number","column"] (aE nh) _ _ from⟨rfl,by decide+kernel,by decide+kernel,by decide+kernel,by decide+kernel⟩) (fun _ _ _ _ _=>(dR (i:=6) jN.nd rfl (Or.inl rfl))) (fun _ _ _ _ _=>tG) (fun _ _ _ _ _=>(qS (K:=K) rfl (pv 6) rfl)))) (ai (aO (i:=4) jN.nd rfl (Or.inl rfl) (aG c_columns_of (hr.mono (by decide)) rfl az (aa (aD (pv 0) rfl) ah))) (ai (BP (i:=5) (own:=[("number",7),("column",8)]) rfl jN.nd rfl rfl rfl (FJ rfl T.qo (aa (pv 4) ah)) (show iz ["holder","text","along","path","columns","within","field","number","column"] (aE nh) _ _ from⟨rfl,by decide+kernel,by decide+kernel,by decide+kernel,by decide+kernel⟩) (fun _ _ _ _ _=>(N4 (K:=K) (n:=2) rfl rfl (sM (dR (i:=7) jN.nd rfl (Or.inl rfl)) (sM (dR (i:=8) jN.nd rfl (Or.inl rfl)) EH)))) (fun _ _ _ _ _=>(tH (aY (HC (K:=K) rfl hr.units) (lz (Hz (K:=K) rfl) (qS (K:=K) rfl (pv 8) rfl) tw (jj (bP (N5 (K:=K) rfl) rfl T.bY PySem.boot_len (aa (pv 3) ah)))) (pv 3) (aQ _)))) (fun _ _ _ _ _=>(pv 7))) (aq (aB (bU gg (bM (aa (bQ cA (pv 5) aN (fun _ _=>rfl)) (aa (bP cC rfl T.bY PySem.boot_len (aa (pv 5) ah)) ah))) (pv 3))))))))),?_⟩;have hw:=iw hR;have hLINE:dB=100000:=rfl;obtain⟨k,fl,tf,rfl,rfl⟩:=i8 hkd;refine⟨_,rfl,ho,_,d,_,_,rfl,hho,T.dN,T.gM,jW,_,rfl,ta,Tx,rfl,hta,by omega,fun H0 nl ns s0 hnl N=>?_⟩;have T0:=tabs.same s0;refine⟨.group false k fl tf,6,nl,ns,Vacola.splitDots Tx,rfl,hk.a_ (bZ.of_same s0),hw.gk,hnl,by have:=split_len Tx;omega,N,T0,fun H1 l s1' T1 nl1 hl=>?_⟩;have s1:bL tb H H1:=(cZ s0).trans s1';have fr1:∀{b},H1 b=Option.none→H b=Option.none:=fun h=>s1.lV tabs T1 h
 have eN:Vacola.finds tf.fs Tx=match(bq gm (Vacola.splitDots Tx) tf).getD []with
  |[]=>.refused (-4)
  |acc=>.found (Vacola.rangeOf tf.fs (acc.map fun x=>x.h.number)).1 (Vacola.rangeOf tf.fs (acc.map fun x=>x.h.number)).2 (acc.map fun x=>x.h.number):=by
  unfold Vacola.finds;rw[Dm];cases bq gm (Vacola.splitDots Tx) tf with
  |none=>rfl
  |some acc=>cases acc<;>rfl
 have hl':H1 l=some (.lst (refs ((bq gm (Vacola.splitDots Tx) tf).getD []))):=hl;refine gN ?_;refine⟨_,rfl,l,_,rfl,.inl (ay.of hl'),rfl,_,rfl,?_⟩;rw[bJ];cases hacc:(bq gm (Vacola.splitDots Tx) tf).getD []with
 |nil=>
  rw[hacc]at eN;rw[eN]at q;refine⟨by show 1≤sizeLine;decide,fun m hm=>?_⟩;exact q _ m (s1.trans (cZ (aM hm))) (T1.same (aM hm)) (fr1 hm) (by rw[aj];rfl) (by show 1≤2010;decide)
 |cons x r=>
  rw[hacc]at eN hl';rw[eN]at q;dsimp only at q
  have hg:bq gm (Vacola.splitDots Tx) tf=some (x::r):=by
   cases h:bq gm (Vacola.splitDots Tx) tf with
   |none=>rw[h]at hacc;cases hacc
   |some l=>rw[h]at hacc;rw[←hacc];rfl
  have hlen:(x::r).length≤6:=Nat.le_trans (DS _ _ _ hg) hw.hgt;refine(if_neg (by rw[decide_eq_true_iff];show¬(((refs (x::r)).length:Int)=0);unfold refs;rw[List.length_map,List.length_cons];omega)).mpr (nX ?_);dsimp only;generalize hxs:x::r=acc at hl' q hg hlen;have hne:acc≠[]:=by rw[←hxs];simp
  obtain⟨co,hco,hpre⟩:=DR _ _ _ _ hg hne hw.wf false [] 0 0;generalize hp:acc.map (fun x=>x.h.number)=p at q hpre;have plen:p.length≤6:=by rw[←hp,List.length_map];exact hlen
  have hIx:∀y∈acc,bW a H1 y:=fun y hy=>by
   have h1:=(ya _ (.group false k fl tf) 6 acc hg hk hw.gk y hy).1;exact h1.a_ (s1.a_ tabs h1.obj)
  refine aS (nP (xs:=refs acc) H1 l (fun R h=>⟨_,rfl,h⟩) (ay.of hl') fun D hD=>⟨fun j H2=>aI H1 H2∧H2 D=some (.lst (aC (p.take j))),⟨aM hD,aj⟩,(fun j H2 _ ⟨h1,_⟩=>ay.of (h1 _ _ hl')),?_,?_⟩)
  ·rintro j v H2 hj ⟨h1,h2⟩
   unfold refs at hj;rw[List.getElem?_map]at hj;obtain⟨y,hy,rfl⟩:=Option.map_eq_some_iff.mp hj;obtain⟨⟨dy,hy1⟩,_⟩:=hIx y (List.mem_of_getElem? hy);refine⟨rfl,_,rfl,y.f,_,dy,_,_,rfl,h1 _ _ hy1,T.bC,T.gh,iF,_,h2,?_,?_⟩
   ·rw[bE,List.length_take,sizeLine_eq];omega
   ·refine⟨fun b o h=>by rw[au (aV h hD)];exact h1 b o h,?_⟩
    have hpj:p[j]? =some y.h.number:=by rw[←hp,List.getElem?_map,hy];rfl
    rw[aj,take_snoc hpj,i6]
  ·rintro H2 ⟨s2,hD2⟩
   have el:(refs acc).length=p.length:=by unfold refs;rw[List.length_map,←hp,List.length_map]
   rw[el,List.take_length]at hD2;refine gN ?_;have s02:bL tb H H2:=s1.trans (cZ s2);have T2:=T1.same s2;refine⟨_,rfl,ho,_,d,_,_,rfl,s02.ins tabs hho,T.dN,T.gM,jW,k,fl,tf,rfl,hk.a_ (s02.a_ tabs hk.obj),hw.hgt,hw.lv,fun H3 cl as s3 ncl hcl C=>?_⟩;refine gN ?_;have hD3:=s3 _ _ hD2;dsimp only;refine aS (OG (xs:=as.map V.ref) H3 cl (fun R h=>⟨_,rfl,h⟩) (ay.of hcl) fun W hW=>⟨fun j H4=>aI H3 H4∧H4 W=some (.lst (aC (fj (fun c:Vacola.Column=>p.isPrefixOf c.path) ((Vacola.columns tf.fs).take j) 0))),⟨aM hW,aj⟩,(fun j H4 _ ⟨h1,_⟩=>ay.of (h1 _ _ hcl)),?_,?_⟩)
   ·rintro j v H4 Tt hj ⟨h1,h2⟩ hTt
    rw[List.getElem?_map]at hj;obtain⟨ca,hca,rfl⟩:=Option.map_eq_some_iff.mp hj;have hjl:j<(Vacola.columns tf.fs).length:=by rw[←C.len];exact(List.getElem?_eq_some_iff.mp hca).1
    have hcj:(Vacola.columns tf.fs)[j]? =some (Vacola.columns tf.fs)[j]:=List.getElem?_eq_getElem hjl;generalize (Vacola.columns tf.fs)[j]=cj at hcj;obtain⟨dc,kc,pc,hc1,hc2,hc3,_⟩:=C.at_ j ca cj hca hcj;have s4:aI H4 (upd H4 Tt (.tup [.int (j:Nat),.ref ca])):=aM hTt;have s34:aI H3 (upd H4 Tt (.tup [.int (j:Nat),.ref ca])):=h1.trans s4;have hTW:Tt≠W:=fun z=>by rw[z,h2]at hTt;cases hTt
    refine⟨Tt,_,rfl,dW.of aj,rfl,_,_,rfl,_,_,rfl,rfl,rfl,?_⟩;refine⟨_,rfl,ca,_,dc,_,_,rfl,s34 _ _ hc1,T.gy,T.kK,x9,_,rfl,D,_,rfl,.inl (ay.of (s34 _ _ hD3)),_,rfl,pc,_,rfl,ay.of (s34 _ _ hc3),fun cu hcu=>?_⟩;have s5:=s34.trans (aM (o:=HO.lst (eu (aC cj.path) Option.none (some ((aC p).length:Int)))) hcu)
    have ecu:eu (aC cj.path) Option.none (some ((aC p).length:Int))=aC (cj.path.take p.length):=by
     rw[Oe,bE];unfold aC;rw[List.map_take]
    refine⟨_,rfl,_,_,nQ (ay.of (by rw[aj,ecu])),nQ (ay.of (s5 _ _ hD3)),shaped_ints _,shaped_ints _,_,rfl,?_⟩;rw[Co,IW]
    have tk:fj (fun c:Vacola.Column=>p.isPrefixOf c.path) ((Vacola.columns tf.fs).take (j+1)) 0=fj (fun c:Vacola.Column=>p.isPrefixOf c.path) ((Vacola.columns tf.fs).take j) 0++if p.isPrefixOf cj.path then[j]else[]:=by
     rw[take_snoc hcj,DK,fj,fj,List.length_take,Nat.min_eq_left (by omega),Nat.zero_add]
    have W5:upd (upd H4 Tt (.tup [.int (j:Nat),.ref ca])) cu (HO.lst (eu (aC cj.path) Option.none (some ((aC p).length:Int)))) W=some (.lst (aC (fj (fun c:Vacola.Column=>p.isPrefixOf c.path) ((Vacola.columns tf.fs).take j) 0))):=aM hcu _ _ (s4 _ _ h2);refine bB (fun c=>?_) (fun c=>?_)
    ·have c':p.isPrefixOf cj.path=true:=c
     rw[if_pos c']at tk;refine⟨_,rfl,_,W5,?_,fun b o h=>?_,?_⟩
     ·have:=sy (fun c:Vacola.Column=>p.isPrefixOf c.path) ((Vacola.columns tf.fs).take j) 0
      have h2':=List.length_filter_le (fun c:Vacola.Column=>p.isPrefixOf c.path) ((Vacola.columns tf.fs).take j);have h3':=sr tf.fs false [] 0 0;have h4':=hw.lv;rw[List.length_take]at h2';have h5':(Vacola.columns tf.fs).length=Vacola.leavesFields tf.fs:=h3';rw[bE,this,sizeLine_eq];omega
     ·rw[au (aV h hW)];exact s5 b o h
     ·rw[aj,tk,i6]
    ·have c':¬p.isPrefixOf cj.path=true:=c
     rw[if_neg c',List.append_nil]at tk;exact⟨s5,by rw[tk];exact W5⟩
   ·rintro H4 ⟨s4,hW4⟩
    rw[List.length_map,C.len,List.take_length]at hW4;refine gN ?_;have hex:∃c∈Vacola.columns tf.fs,(fun c:Vacola.Column=>p.isPrefixOf c.path) c=true:=⟨co,hco,List.isPrefixOf_iff_prefix.mpr (by simpa using hpre)⟩;have hhd:=DM (fun c:Vacola.Column=>p.isPrefixOf c.path) (Vacola.columns tf.fs) 0 hex;have hln:=sy (fun c:Vacola.Column=>p.isPrefixOf c.path) (Vacola.columns tf.fs) 0;have e1:(Vacola.rangeOf tf.fs p).1=(Vacola.columns tf.fs).findIdx fun c=>p.isPrefixOf c.path:=rfl
    have e2:(Vacola.rangeOf tf.fs p).2=((Vacola.columns tf.fs).filter fun c=>p.isPrefixOf c.path).length:=rfl;rw[←e1,Nat.zero_add]at hhd;rw[←e2]at hln;generalize hps:fj (fun c:Vacola.Column=>p.isPrefixOf c.path) (Vacola.columns tf.fs) 0=ps at hW4 hhd hln;generalize (Vacola.rangeOf tf.fs p).1=n1 at q hhd;generalize (Vacola.rangeOf tf.fs p).2=n2 at q hln
    have hat:(aC ps)[0]? =some (V.int (n1:Int)):=by
     rw[←List.head?_eq_getElem?];unfold aC;rw[List.head?_map,hhd];rfl
    have hD4:=s4 _ _ hD3;refine⟨_,rfl,W,_,_,(.int (n1:Int)),rfl,rfl,ay.of hW4,at_of (j:=0) rfl hat,_,rfl,W,_,rfl,.inl (ay.of hW4),by show 2≤sizeLine;decide,fun m hm=>?_⟩;rw[bE,hln];refine⟨_,rfl,m,D,_,_,rfl,rfl,aj,aM hm _ _ hD4,?_,fun m2 hm2=>?_⟩
    ·rw[bE,sizeLine_eq];show 2+_≤_;omega
    ·generalize hH6:upd (upd H4 m (.lst [V.int (n1:Int),V.int (n2:Int)])) m2 _=H6
     have sA:aI H1 H6:=by rw[←hH6];exact((s2.trans s3).trans s4).trans ((aM hm).trans (aM hm2))
     have fr6:H1 m2=Option.none:=(s2.trans (s3.trans s4)).free ((aM hm).free hm2);refine q _ m2 (s1.trans (cZ sA)) (T1.same sA) (fr1 fr6) ?_ ?_
     ·rw[←hH6,aj]
      unfold VacolaNeutral.encode VacolaNeutral.nats aC;simp
     ·unfold VacolaNeutral.encode VacolaNeutral.nats
      simp;omega
inductive qX(a:aH)(vs:List V)(H:Hp)(Q:VK)(E:XK):Prop
 |mk:∀(k1 k2:Addr)(t1 t2:TK)(x1 x2:Fi)(r1 r2:List Fi),vs=[.ref t1.at,.ref t2.at]→bK a H t1→bK a H t2→t1.sub.items=x1::r1→t2.sub.items=x2::r2→Q (.bl (decide (x2.h.number≠x1.h.number))) H→qX a vs H Q E
theorem OI{f:Addr}{fd:FuncData}(F:aK K "lost_first" "lost_first" u9 f fd)(T:Txt K mg a):aF P w K mg base af 1 f fd ["group","shape"] (qX a):=by
 refine F.ok Mb (fun vs H Q E h=>by obtain⟨k1,k2,t1,t2,x1,x2,r1,r2,rfl,_⟩:=h;rfl) (fun cdv A outer s H vs Q E hr h=>?_);obtain⟨k1,k2,t1,t2,x1,x2,r1,r2,rfl,hk1,hk2,i1,i2,q⟩:=h;refine⟨_,(aq (aB (jI f9 (aD (bQ cA (aD (pv 1) rfl) aN (fun _ _=>rfl)) rfl) (aD (bQ cA (aD (pv 0) rfl) aN (fun _ _=>rfl)) rfl) (aQ _)))),?_⟩;obtain⟨d1,sg1,sz1,h1,_,_⟩:=hk1.hd;obtain⟨d2,sg2,sz2,h2,_,_⟩:=hk2.hd;obtain⟨l1,f1⟩:=hk1.list;obtain⟨l2,f2⟩:=hk2.list;have hx1:=dY.mp f1 x1 (by rw[i1];exact List.mem_cons_self);have hx2:=dY.mp f2 x2 (by rw[i2];exact List.mem_cons_self);obtain⟨⟨e1,hx1⟩,_⟩:=hx1;obtain⟨⟨e2,hx2⟩,_⟩:=hx2;have a1:(t1.sub.as.map V.ref)[0]? =some (.ref x1.f):=by unfold TF.as;rw[i1];rfl
 have a2:(t2.sub.as.map V.ref)[0]? =some (.ref x2.f):=by unfold TF.as;rw[i2];rfl
 refine⟨_,rfl,t2.at,_,d2,_,_,rfl,h2,T.bI,T.c8,eU,t2.fl,_,_,(.ref x2.f),rfl,rfl,ay.of l2,at_of (j:=0) rfl a2,x2.f,_,e2,_,_,rfl,hx2,T.bC,T.gh,iF,?_⟩;refine⟨_,rfl,t1.at,_,d1,_,_,rfl,h1,T.bI,T.c8,eU,t1.fl,_,_,(.ref x1.f),rfl,rfl,ay.of l1,at_of (j:=0) rfl a1,x1.f,_,e1,_,_,rfl,hx1,T.bC,T.gh,iF,rfl,?_⟩
 have e:decide (((x2.h.number:Nat):Int)≠((x1.h.number:Nat):Int))=decide (x2.h.number≠x1.h.number):=by
  apply decide_eq_decide.mpr;omega
 rw[ia,e];exact q
inductive om(a:aH)(dd:Nat)(vs:List V)(H:Hp)(Q:VK)(E:XK):Prop
 |mk:∀(c:Bool)(k fl:Addr)(fs:TF)(d:Nat)(pl:Addr)(pas:List Addr)(ps:List (List Nat)),vs=[.ref k,.ref pl]→bK a H (.group c k fl fs)→cH fs.fs d→H pl=some (.lst (pas.map V.ref))→fY H pas ps→((∀q∈ps,q≠[]))→f6 ps fs.fs→ps.length≤100→dP fs.fs+1≤dd→(∀H' t',aI H H'→bK a H' t'→t'.kd=.group c (bD ps fs.fs)→(∀b∈t'.fp,H b=Option.none∨b∈fs.fp)→Q (.ref t'.at) H')→om a dd vs H Q E
inductive yd(a:aH)(dd:Nat)(vs:List V)(H:Hp)(Q:VK)(E:XK):Prop
 |mk:∀(x:Fi)(d:Nat)(pl:Addr)(pas:List Addr)(ps:List (List Nat)),vs=[.ref x.f,.ref pl]→bW a H x→cS x.k.kd d→H pl=some (.lst (pas.map V.ref))→fY H pas ps→((∀q∈ps,q∈iN x.k.kd))→ps≠[]→ps.length≤100→gX x.k.kd≤dd→(∀H' x',aI H H'→bW a H' x'→x'.h={x.h with mode:=jE x.h.mode x.k.kd (fZ ps x.k.kd)}→x'.k.kd=fZ ps x.k.kd→(∀b∈x'.fp,H b=Option.none∨b∈x.fp)→Q (.ref x'.f) H')→yd a dd vs H Q E
theorem OJ{f:Addr}{fd:FuncData}{dd k:Nat}(hk:3≤k)(F:aK K "shape_of_field" "shape_of_field" pX f fd)(T:Txt K mg a)(c_is_leaf:ao P w K mg base af 2 "is_leaf" ["kind"] (ic a eV))(c_lost_first:ao P w K mg base af 1 "lost_first" ["group","shape"] (qX a))
  (k_Field:dI P w K mg base af 1 "Field" a.cD ["self","number","name","mode","kind","default"] (dz a.cD 5 fun us=>([("number":Str),"name","mode","kind","default"]).zip us))
  (c_shape_of_group:ao P w K mg base af k "shape_of_group" ["group","paths"] (om a dd)):aF P w K mg base af (k+1) f fd ["field","paths"] (yd a dd):=by
 refine F.ok vF (fun vs H Q E h=>by obtain⟨x,d,pl,pas,ps,rfl,_⟩:=h;rfl) (fun cdv A outer s H vs Q E hr h=>?_);obtain⟨x,d,pl,pas,ps,rfl,hx,hw,hpl,N,hps,hne,hln,hh,q⟩:=h;refine⟨_,(ai (aU (c9 (aG c_is_leaf (hr.mono (by omega)) rfl az (aa (aD (pv 0) rfl) ah))) (aq (aB (pv 0))) aX) (ai (aO (i:=2) vF.nd rfl (Or.inl rfl) (aG c_shape_of_group (hr.mono (by omega)) rfl az (aa (aD (pv 0) rfl) (aa (pv 1) ah)))) (ai (aO (i:=3) vF.nd rfl (Or.inl rfl) (aD (pv 0) rfl)) (ai (aU (PW.pt (j_ (aY bF (pv 3) (aA T.kG) (aQ _)) (j9 (c9 (aG c_lost_first (hr.mono (by omega)) rfl az (aa (aD (pv 0) rfl) (aa (pv 2) ah))))))) (aq (aO (i:=3) vF.nd rfl (Or.inl rfl) (aA T.lG))) aX) (aq (aB (jM k_Field (hr.mono (by omega)) rfl az (aa (aD (pv 0) rfl) (aa (aD (pv 0) rfl) (aa (pv 3) (aa (pv 2) (aa (aD (pv 0) rfl) ah)))))))))))),?_⟩;have hx0:=hx;obtain⟨⟨dx,hx1⟩,hx2,hx3,hx4⟩:=hx0;refine⟨_,rfl,x.f,_,dx,_,_,rfl,hx1,T.bC,T.e_,gC,x.k,rfl,hx4,fun H0 s0=>⟨_,rfl,?_⟩⟩
 match hkx:x.k with
 |.leaf l kk kl=>
  refine⟨_,rfl,?_⟩;refine q H0 x s0 (hx.a_ (bZ.of_same s0)) ?_ ?_ fun b hb=>.inr hb
  ·rw[hkx];rfl
  ·rw[hkx];rfl
 |.group c kk kl gs=>
  rw[hkx]at hw hps hh hx4 q;have hx4':=hx4.a_ (bZ.of_same s0);refine(if_neg (by show¬false=true;decide)).mpr (nX ?_);dsimp only;have hw':cH gs.fs (d-1):=hw.2.2;have hps':∀q∈ps,q∈eY gs.fs:=hps;have hgt':1+dP gs.fs≤dd:=hh;refine⟨_,rfl,x.f,_,dx,_,_,rfl,s0 _ _ hx1,T.bC,T.e_,gC,_,rfl,c,kk,kl,gs,d-1,pl,pas,ps,(by rw[hkx];rfl),hx4',hw',s0 _ _ hpl,N.on (fun n _ o h=>s0 n o h),fun q hq z=>?_,f6.group hps',hln,by omega,fun H1 t' s1 ht' ekd hfp=>?_⟩
  ·obtain⟨n,r,e,_⟩:=mP gs.fs q (hps' q hq)
   rw[z]at e;cases e
  obtain⟨k',l',tf',rfl,etf⟩:=i8 ekd
  have ne1:gs.items≠[]:=fun z=>by
   have:=TF.fL gs;rw[z]at this;exact hw.2.1 (by rw[←this];rfl)
  obtain⟨q0,hq0⟩:=List.exists_mem_of_ne_nil _ hne;obtain⟨n0,r0,e0,hx0'⟩:=mP gs.fs q0 (hps' q0 hq0);have ne2':bD ps gs.fs≠.nil:=AX (by rw[←e0];exact hq0) hx0'
  have ne2:tf'.items≠[]:=fun z=>by
   have:=TF.fL tf';rw[z]at this;exact ne2' (by rw[←etf,←this];rfl)
  obtain⟨x1,r1,i1⟩:=List.exists_cons_of_ne_nil ne1;obtain⟨x2,r2,i2⟩:=List.exists_cons_of_ne_nil ne2
  have fst:∀{t:TF}{y:Fi}{r:List Fi},t.items=y::r→iM t.fs=some y.h.number:=fun{t y r} h=>by
   have:=TF.fL t;rw[h]at this;rw[←this];rfl
  have hm:jE x.h.mode (.group c gs.fs) (.group c (bD ps gs.fs))=if x.h.mode=.keyed∧x2.h.number≠x1.h.number then .many else x.h.mode:=by
   show(if x.h.mode=.keyed∧iM (bD ps gs.fs)≠iM gs.fs then Vacola.Mode.many else x.h.mode)=_;rw[←etf,fst i1,fst i2];simp
  have s01:aI H H1:=s0.trans s1;refine gN ?_;refine⟨_,rfl,x.f,_,dx,_,_,rfl,s01 _ _ hx1,T.bC,T.gK,jR,?_⟩;refine gN ?_;dsimp only;generalize hmm:jE x.h.mode (.group c gs.fs) (.group c (bD ps gs.fs))=mm at hm;refine join (fun σ' H2=>H2=H1∧σ'=[some (V.ref x.f),some (V.ref pl),some (V.ref k'),some (V.int ((Vacola.showMode mm:Nat):Int))]) ?_ (fun Nn hN=>?_)
  ·rintro σ' H2 ⟨rfl,rfl⟩
   refine⟨_,rfl,x.f,_,dx,_,_,rfl,s01 _ _ hx1,T.bC,T.gh,iF,?_⟩;refine⟨_,rfl,x.f,_,dx,_,_,rfl,s01 _ _ hx1,T.bC,T.iX,nO,?_⟩;refine⟨_,rfl,_,rfl,_,rfl,x.f,_,dx,_,_,rfl,s01 _ _ hx1,T.bC,T.iY,xE,?_⟩;intro y dy hy hdy hne';refine⟨y,dy,_,rfl,rfl,aj,rfl,?_⟩;rw[dQ];generalize hH4:upd (upd H2 dy (.own y)) y _=H4;have s4:aI H2 H4:=fun b o h=>by rw[←hH4,au (aV h hy),au (aV h hdy)];exact h
   have s04:aI H H4:=s01.trans s4;refine q H4 ⟨{x.h with mode:=mm},y,x.nm,x.da,.group c k' l' tf'⟩ s04 ⟨⟨dy,?_⟩,s04 _ _ hx2,hx3.a_ (bZ.of_same s04),ht'.a_ (bZ.of_same s4)⟩ ?_ ?_ fun b hb=>?_
   ·rw[←hH4,aj];rfl
   ·rw[←hmm];rfl
   ·show Vacola.Kind.group c tf'.fs=_
    rw[etf];rfl
   ·have hb':b∈y::x.nm::(dU x.h.dflt x.da++(TK.group c k' l' tf').fp):=hb
    rcases List.mem_cons.mp hb' with rfl|hb'
    ·exact .inl (s01.free hy)
    rcases List.mem_cons.mp hb' with rfl|hb'
    ·exact .inr (by simp[Fi.fp])
    rcases List.mem_append.mp hb' with hb'|hb'
    ·exact .inr (by simp[Fi.fp,hb'])
    ·rcases hfp b hb' with z|z
     ·exact .inl (s0.free z)
     ·exact .inr (k9 (by rw[hkx];simp[TK.fp,z]))
  ·refine⟨_,rfl,rfl,_,rfl,?_⟩
   rw[bJ,GO];refine bB (fun c2=>?_) (fun c2=>?_)
   ·have c2':x.h.mode=.keyed:=of_decide_eq_true c2
    refine⟨_,rfl,x.f,_,dx,_,_,rfl,s01 _ _ hx1,T.bC,T.e_,gC,_,rfl,kk,k',.group c kk kl gs,.group c k' l' tf',x1,x2,r1,r2,(by rw[hkx];rfl),hx4'.a_ (bZ.of_same s1),ht',i1,i2,_,rfl,?_⟩;by_cases hz:x2.h.number≠x1.h.number
    ·rw[decide_eq_true hz]
     rw[if_pos ⟨c2',hz⟩]at hm;refine hN _ _ ⟨rfl,?_⟩;rw[hm];rfl
    ·rw[decide_eq_false hz]
     rw[if_neg (fun z=>hz z.2)]at hm;refine hN _ _ ⟨rfl,?_⟩;rw[hm];rfl
   ·have c2':¬x.h.mode=.keyed:=of_decide_eq_false (Bool.eq_false_iff.mpr c2)
    rw[if_neg (fun z=>c2' z.1)]at hm;refine hN _ _ ⟨rfl,?_⟩;rw[hm];rfl
theorem OL{n:Nat}{ps:List (List Nat)}{i:Nat}{m:Nat}{q:List Nat}(h:ps[i]? =some (m::q)):strip n (ps.take (i+1))=strip n (ps.take i)++if m=n then[q]else[]:=by
 unfold strip;rw[take_snoc h,List.filterMap_append]
 congr 1
 rw[List.filterMap_cons];dsimp only;by_cases z:m=n
 ·rw[if_pos z,if_pos z];rfl
 ·rw[if_neg z,if_neg z];rfl
theorem HJ(n:Nat)(ps:List (List Nat)):(strip n ps).length≤ps.length:=List.length_filterMap_le _ _
theorem f6.item{ps:List (List Nat)}{fs:TF}{d:Nat}(L:f6 ps fs.fs)(w:cH fs.fs d){x:Fi}(hx:x∈fs.items):∀q∈strip x.h.number ps,q∈iN x.k.kd:=by
 have go:∀(l:List Fi),f6 ps (TF.of l).fs→cH (TF.of l).fs d→x∈l→∀q∈strip x.h.number ps,q∈iN x.k.kd:=by
  intro l
  induction l with
  |nil=>intro _ _ h;cases h
  |cons y l ih=>
   intro L w hx;rcases List.mem_cons.mp hx with rfl|hx
   ·exact L.head w
   ·exact ih (L.tail w) w.2.2.1 hx
 have e:=TF.fL fs;exact go fs.items (by rw[e];exact L) (by rw[e];exact w) hx
theorem OM{f:Addr}{fd:FuncData}{dd k:Nat}(hk:3≤k)(F:aK K "shape_of_group" "shape_of_group" m_ f fd)(T:Txt K mg a)
  (k_Kind:dI P w K mg base af 1 "Kind" a.b7 ["self","sign","size","fields"] (dz a.b7 3 fun us=>([("sign":Str),"size","fields"]).zip us))
  (c_shape_of_field:ao P w K mg base af k "shape_of_field" ["field","paths"] (yd a dd)):aF P w K mg base af (k+1) f fd ["group","paths"] (om a (dd+1)):=by
 refine F.ok qa (fun vs H Q E h=>by obtain⟨c,k,fl,fs,d,pl,pas,ps,rfl,_⟩:=h;rfl) (fun cdv A outer s H vs Q E hr h=>?_);obtain⟨c,g,fl,fs,d,pl,pas,ps,rfl,hg,hw,hpl,N,hne,L,hln,hh,q⟩:=h;refine⟨_,(ai (aO (i:=2) qa.nd rfl (Or.inl rfl) (bM ah)) (ai (gZ PassesOwn.never rfl (gu (aD (pv 0) rfl)) (dR (i:=3) qa.nd rfl (Or.inr rfl)) (ai (BP (i:=4) (own:=[("path",5)]) rfl qa.nd rfl rfl rfl (gu (pv 1)) (show iz ["group","paths","fields","field","within","path"] (aE m_) _ _ from⟨rfl,by decide+kernel,by decide+kernel,by decide+kernel,by decide+kernel⟩) (fun _ _ _ _ _=>(dR (i:=5) qa.nd rfl (Or.inl rfl))) (fun _ _ _ _ _=>(tH (aY bF (bQ (Cv (K:=K) rfl) (pv 5) aN (fun _ _=>rfl)) (qS (K:=K) rfl (pv 3) rfl) (aQ _)))) (fun _ _ _ _ _=>(lz (Hz (K:=K) rfl) (pv 5) (jj aN) tw))) (aq (aU (aY ji (bP cC rfl T.bY PySem.boot_len (aa (pv 4) ah)) aN (aQ _)) (aq (bS (eB PySem.F.plainAttrs_list PySem.F.slot_list_append PySem.F.type_list_append gb (pv 2) (aa (aG c_shape_of_field (hr.mono (by omega)) rfl az (aa (pv 3) (aa (pv 4) ah))) ah)))) aX)))) (aq (aB (jM k_Kind (hr.mono (by omega)) rfl az (aa (aD (pv 0) rfl) (aa (aD (pv 0) rfl) (aa (pv 2) ah)))))))),?_⟩;have hg0:=hg;obtain⟨⟨dg,hg1⟩,hg2,hg3⟩:=hg0;have h9:=oU hw;refine⟨Nat.zero_le _,fun Lf hLf=>?_⟩;have s0:aI H (upd H Lf (.lst [])):=aM hLf;refine gN ?_
 refine⟨_,rfl,g,_,dg,_,_,rfl,s0 _ _ hg1,T.bI,T.c8,eU,fl,rfl,⟨_,ay.of (s0 _ _ hg2)⟩,jH (xs:=fs.as.map V.ref) (fun i σ H'=>∃(acc:List Fi)(v3 v4 v5:Option V),σ=[some (V.ref g),some (V.ref pl),some (V.ref Lf),v3,v4,v5]∧aI H H'∧H' Lf=some (.lst (refs acc))∧(TF.of acc).fs=bD ps (TF.of (fs.items.take i)).fs∧acc.length≤i∧∀y∈acc,bW a H' y∧Lf∉y.fp∧∀b∈y.fp,H b=Option.none∨b∈fs.fp)
  ⟨[],Option.none,Option.none,Option.none,rfl,s0,aj,by rw[List.take_zero];show Vacola.Fields.nil=bD ps .nil;rw[bD],Nat.zero_le _,fun y hy=>by cases hy⟩ (fun i σ H' _ ⟨_,_,_,_,_,s1,_⟩=>ay.of (s1 _ _ hg2)) ?_ ?_⟩
 ·rintro i v σ H' hi ⟨acc,v3,v4,v5,rfl,s1,hL1,hf1,hl1,hI1⟩
  obtain⟨x,hxi,rfl,hx⟩:=qR hg3 hi;have hxm:=List.mem_of_getElem? hxi;have hil:i<fs.items.length:=(List.getElem?_eq_some_iff.mp hxi).1;have hx0:=hx;obtain⟨⟨dx,hx1⟩,hx2,hx3,hx4⟩:=hx0;refine gN ?_;dsimp only;refine aS (nP (xs:=pas.map V.ref) H' pl (fun R h=>⟨_,rfl,h⟩) (ay.of (s1 _ _ hpl)) fun D hD=>⟨fun j H2=>aI H' H2∧∃was,H2 D=some (.lst (was.map V.ref))∧fY H2 was (strip x.h.number (ps.take j))∧D∉was,⟨aM hD,[],aj,.nil,by simp⟩,(fun j H2 _ ⟨h1,_⟩=>ay.of (h1 _ _ (s1 _ _ hpl))),?_,?_⟩)
  ·rintro j v H2 hj ⟨h1,was,h2,h3,h4⟩
   rw[List.getElem?_map]at hj;obtain⟨pa,hpa,rfl⟩:=Option.map_eq_some_iff.mp hj;have hjl:j<ps.length:=by rw[←N.len];exact(List.getElem?_eq_some_iff.mp hpa).1
   have hpj:ps[j]? =some ps[j]:=List.getElem?_eq_getElem hjl;have hnn:ps[j]≠[]:=hne _ (List.getElem_mem hjl);generalize ps[j]=pj at hpj hnn;obtain⟨m,r,rfl⟩:=List.exists_cons_of_ne_nil hnn;have hpv:=h1 _ _ (s1 _ _ (N.at_ j pa _ hpa hpj));refine⟨rfl,_,rfl,pa,_,_,(.int (m:Int)),rfl,rfl,ay.of hpv,at_of (j:=0) rfl rfl,_,rfl,x.f,_,dx,_,_,rfl,h1 _ _ (s1 _ _ hx1),T.bC,T.gh,iF,rfl,_,rfl,?_⟩;rw[bJ];have tk:=OL (n:=x.h.number) hpj;refine bB (fun c2=>?_) (fun c2=>?_)
   ·have c2':m=x.h.number:=by have:(m:Int)=(x.h.number:Nat):=of_decide_eq_true c2;omega
    rw[if_pos c2']at tk;refine⟨_,rfl,_,rfl,pa,_,rfl,ay.of hpv,fun cu hcu=>?_⟩;have ecu:eu (aC (m::r)) (some 1) Option.none=aC r:=HE (aC (m::r)) 1;rw[ecu];have s3:=aM (o:=HO.lst (aC r)) hcu;have DH:H D=Option.none:=s1.free hD;have cuD:cu≠D:=fun z=>by rw[z,h2]at hcu;cases hcu
    refine⟨_,s3 _ _ h2,?_,fun b o h=>?_,was++[cu],?_,?_,?_⟩
    ·have z1:=HJ x.h.number (ps.take j)
     rw[List.length_take]at z1;rw[List.length_map,h3.len,sizeLine_eq];omega
    ·rw[au (aV h hD)];exact s3 _ _ (h1 _ _ h)
    ·rw[aj,List.map_append];rfl
    ·rw[tk]
     have z:=(h3.on (fun n _ o h=>s3 n o h)).snoc (n:=cu) (t:=r) aj;refine z.on fun n hn o h=>?_
     rw[au]
     ·exact h
     ·rintro rfl
      rcases List.mem_append.mp hn with y|y
      ·exact h4 y
      ·exact cuD (List.mem_singleton.mp y).symm
    ·intro y
     rcases List.mem_append.mp y with y|y
     ·exact h4 y
     ·exact cuD (List.mem_singleton.mp y).symm
   ·have c2':¬m=x.h.number:=fun z=>c2 (decide_eq_true (by rw[z]))
    rw[if_neg c2',List.append_nil]at tk;exact⟨h1,was,h2,by rw[tk];exact h3,h4⟩
  ·rintro H2 ⟨s2,was,hD2,N2,_⟩
   have ept:ps.take (pas.map V.ref).length=ps:=by rw[List.length_map,N.len,List.take_length]
   rw[ept]at N2;refine gN ?_;refine⟨_,rfl,D,_,rfl,.inl (ay.of hD2),_,_,rfl,rfl,_,rfl,?_⟩;have s02:aI H H2:=s1.trans s2;have hL2:=s2 _ _ hL1;have hI2:∀y∈acc,bW a H2 y∧Lf∉y.fp∧∀b∈y.fp,H b=Option.none∨b∈fs.fp:=fun y hy=>⟨(hI1 y hy).1.a_ (bZ.of_same s2),(hI1 y hy).2⟩
   have tkf:(TF.of (fs.items.take (i+1))).fs=c6 (TF.of (fs.items.take i)).fs (.cons x.h x.k.kd .nil):=by
    rw[take_snoc hxi,TF.rZ];rfl
   have tks:bD ps (TF.of (fs.items.take (i+1))).fs=c6 (TF.of acc).fs (bD ps (.cons x.h x.k.kd .nil)):=by
    rw[tkf,DU,hf1]
   rw[List.length_map,N2.len];refine bB (fun c2=>?_) (fun c2=>?_)
   ·have c2':(0:Int)<((strip x.h.number ps).length:Int):=of_decide_eq_true c2
    have hs:strip x.h.number ps≠[]:=fun z=>by rw[z]at c2';exact absurd c2' (by decide)
    refine⟨_,rfl,.inl ⟨rfl,_,ay.of hL2⟩,_,rfl,_,rfl,x,d,D,was,strip x.h.number ps,rfl,hx.a_ (bZ.of_same s02),(hw.item hxm).2,hD2,N2,L.item hw hxm,hs,?_,?_,fun H3 x' s3 hx' eh ek hfp=>?_⟩
    ·have:=HJ x.h.number ps;omega
    ·have:=su (fs:=fs.fs) (x:=(x.h,x.k.kd)) (by rw[TF.fM];exact List.mem_map_of_mem hxm)
     dsimp only at this;omega
    ·have hL3:=s3 _ _ hL2
     refine⟨Lf,_,_,rfl,rfl,hL3,?_,acc++[x'],_,_,_,rfl,fun b o h=>?_,?_,?_,?_,fun y hy=>?_⟩
     ·unfold refs;rw[List.length_map,sizeLine_eq];omega
     ·rw[au (aV h hLf)];exact s3 _ _ (s02 _ _ h)
     ·rw[aj];unfold refs;rw[List.map_append];rfl
     ·rw[tks,TF.rZ]
      congr 1
      rw[bD,if_neg hs,bD];show Vacola.Fields.cons x'.h x'.k.kd .nil=_;rw[eh,ek]
     ·rw[List.length_append];show acc.length+1≤i+1;omega
     ·have base':bW a H3 y∧Lf∉y.fp∧∀b∈y.fp,H b=Option.none∨b∈fs.fp:=by
       rcases List.mem_append.mp hy with hy|hy
       ·exact⟨(hI2 y hy).1.a_ (bZ.of_same s3),(hI2 y hy).2⟩
       ·rw[List.mem_singleton.mp hy]
        refine⟨hx',fun z=>?_,fun b hb=>?_⟩
        ·rcases hfp Lf z with z|z
         ·rw[hL2]at z;cases z
         ·obtain⟨o,ho,_⟩:=hx.obj Lf z
          rw[hLf]at ho;cases ho
        ·rcases hfp b hb with z|z
         ·exact .inl (s02.free z)
         ·exact .inr (gE hxm z)
      refine⟨base'.1.a_ ⟨fun b hb o h=>?_⟩,base'.2⟩;rw[au]
      ·exact h
      ·rintro rfl;exact base'.2.1 hb
   ·have hs:strip x.h.number ps=[]:=by
     have z:=of_decide_eq_false (Bool.eq_false_iff.mpr c2);exact List.length_eq_zero_iff.mp (by omega)
    refine⟨acc,_,_,_,rfl,s02,hL2,?_,by omega,hI2⟩;rw[tks,bD,if_pos hs,bD,rY]
 ·rintro σ H' ⟨acc,v3,v4,v5,rfl,s1,hL1,hf1,hl1,hI1⟩
  rw[List.length_map,TF.i_,List.take_length,TF.fL]at hf1;refine⟨_,rfl,g,_,dg,_,_,rfl,s1 _ _ hg1,T.bI,T.e9,gi,?_⟩;refine⟨_,rfl,g,_,dg,_,_,rfl,s1 _ _ hg1,T.bI,T.jo,nM,_,rfl,?_⟩;intro y dy hy hdy hne';refine⟨y,dy,_,rfl,rfl,aj,rfl,?_⟩;rw[dQ];generalize hH4:upd (upd H' dy (.own y)) y _=H4;have s4:aI H' H4:=fun b o h=>by rw[←hH4,au (aV h hy),au (aV h hdy)];exact h
  refine q H4 (.group c y Lf (TF.of acc)) (s1.trans s4) ⟨⟨dy,?_⟩,?_,dY.mpr fun z hz=>?_⟩ ?_ fun b hb=>?_
  ·rw[←hH4,aj];rfl
  ·have:=s4 _ _ hL1
   unfold TF.as;rw[TF.gV,List.map_map];exact this
  ·rw[TF.gV]at hz
   exact(hI1 z hz).1.a_ (bZ.of_same s4)
  ·show Vacola.Kind.group c (TF.of acc).fs=_
   rw[hf1]
  ·have hb':b∈y::Lf::(TF.of acc).fp:=hb
   rcases List.mem_cons.mp hb' with rfl|hb'
   ·exact .inl (s1.free hy)
   rcases List.mem_cons.mp hb' with rfl|hb'
   ·exact .inl hLf
   ·rw[TF.kY,TF.gV,List.mem_flatMap]at hb'
    obtain⟨z,hz,hb2⟩:=hb';exact(hI1 z hz).2.2 b hb2
theorem HK(T:Txt K mg a)(D1:aZ K mg "shape_of_group" m_ ["group","paths"])(D2:aZ K mg "shape_of_field" pX ["field","paths"])(c_is_leaf:ao P w K mg base af 2 "is_leaf" ["kind"] (ic a eV))(c_lost_first:ao P w K mg base af 1 "lost_first" ["group","shape"] (qX a))
  (k_Field:dI P w K mg base af 1 "Field" a.cD ["self","number","name","mode","kind","default"] (dz a.cD 5 fun us=>([("number":Str),"name","mode","kind","default"]).zip us))
  (k_Kind:dI P w K mg base af 1 "Kind" a.b7 ["self","sign","size","fields"] (dz a.b7 3 fun us=>([("sign":Str),"size","fields"]).zip us)):
  ∀dd,ao P w K mg base af (3+2*dd) "shape_of_group" ["group","paths"] (om a dd)
 |0=>D1.aJ fun f fd _=>xG fun vs H Q E h=>by
  obtain⟨c,k,fl,fs,d,pl,pas,ps,rfl,_,_,_,_,_,_,_,h1,_⟩:=h;omega
 |dd+1=>by
  have ih:=HK T D1 D2 c_is_leaf c_lost_first k_Field k_Kind dd;have cf:ao P w K mg base af (3+2*dd+1) "shape_of_field" ["field","paths"] (yd a dd):=D2.aJ fun f fd F=>OJ (by omega) F T c_is_leaf c_lost_first k_Field ih
  have cg:ao P w K mg base af (3+2*dd+1+1) "shape_of_group" ["group","paths"] (om a (dd+1)):=D1.aJ fun f fd F=>OM (by omega) F T k_Kind cf
  have e:3+2*(dd+1)=3+2*dd+1+1:=by omega
  rw[e];exact cg
theorem HL{A B:Type}(g:A→Option B)(h:A→B):∀l:List A,(∀x∈l,g x=some (h x))→l.filterMap g=l.map h
 |[],_=>rfl
 |x::l,hx=>by rw[List.filterMap_cons,hx x List.mem_cons_self,List.map_cons,HL g h l fun y hy=>hx y (List.mem_cons_of_mem _ hy)]
def jY(fs:Vacola.Fields)(i:Nat):List Nat:=(((Vacola.columns fs)[i]?).map fun c=>c.path).getD []
theorem CD{fs:Vacola.Fields}{i:Nat}{c:Vacola.Column}(h:(Vacola.columns fs)[i]? =some c):jY fs i=c.path:=by unfold jY;rw[h];rfl
theorem ON{fs:Vacola.Fields}{ns:List Int}(hw:Wf fs)(hk:mO fs)(h:∀i∈ns,i.toNat<(Vacola.columns fs).length):
  Vacola.shape fs (ns.map Int.toNat)=bD (ns.map fun i=>jY fs i.toNat) fs∧∀q∈ns.map (fun i=>jY fs i.toNat),q∈eY fs:=by
 have hp:∀q∈ns.map (fun i=>jY fs i.toNat),q∈eY fs:=fun q hq=>by
  obtain⟨i,hi,rfl⟩:=List.mem_map.mp hq;have e:=AW fs false [] 0 0
  have e':(Vacola.columns fs).map (·.path)=eY fs:=by
   have:(Vacola.columns fs).map (·.path)=(eY fs).map ([]++·):=e;rw[this];simp
  rw[CD (List.getElem?_eq_getElem (h i hi)),←e'];exact List.mem_map_of_mem (List.getElem_mem _)
 refine⟨?_,hp⟩;unfold Vacola.shape
 have e:(ns.map Int.toNat).filterMap (fun i=>((Vacola.columns fs)[i]?).map fun c=>c.path)=ns.map fun i=>jY fs i.toNat:=by
  rw[HL _ (fun i=>jY fs i),List.map_map]
  ·rfl
  ·intro i hi
   obtain⟨j,hj,rfl⟩:=List.mem_map.mp hi;have z:=List.getElem?_eq_getElem (h j hj);rw[CD z,z];rfl
 rw[e];exact AY fs _ _ [] 5 hw.wf hk (fun q _=>by rw[List.nil_append]) (f6.group hp)
inductive ye(a:aH)(vs:List V)(H:Hp)(Q:VK)(E:XK):Prop
 |mk:∀ho g fs nl ns,vs=[.ref ho,.ref nl]→dD a H ho g fs→H nl=some (.lst (ns.map V.int))→ns.length≤100→lW H (VacolaNeutral.encode (Vacola.keeps fs ns)) Q→ye a vs H Q E
theorem OO{f:Addr}{fd:FuncData}(F:aK K "reply_keep" "reply_keep" pY f fd)(T:Txt K mg a)(c_columns_of:ao P w K mg base af 11 "columns_of" ["schema"] (lU a))(c_shape_of_group:ao P w K mg base af 17 "shape_of_group" ["group","paths"] (om a 7))(c_write_kind:ao P w K mg base af 29 "write_kind" ["kind"] (lT a 13)):aF P w K mg base af 30 f fd ["holder","numbers"] (ye a):=by
 refine F.ok qc (fun vs H Q E h=>by obtain⟨ho,g,fs,nl,ns,rfl,_⟩:=h;rfl) (fun cdv A outer s H vs Q E hr h=>?_);obtain⟨ho,g,fs,nl,ns,rfl,⟨d,t,ta,hho,hk,hkd,hta,hR,_,_⟩,hnl,hn,q⟩:=h;refine⟨_,(ai (aO (i:=2) qc.nd rfl (Or.inr rfl) (aG c_columns_of (hr.mono (by decide)) rfl az (aa (aD (pv 0) rfl) ah))) (ai (aU (PW.pt (f7 (aY bF (bP cC rfl T.bY PySem.boot_len (aa (pv 1) ah)) aN (aQ _)) (f7 (aY jh (bP (Ky rfl) rfl T.w6 PyProof.Rows.boot_min (aa (pv 1) ah)) aN (aQ _)) (iR (aY ET (bP (Kw rfl) rfl T.wZ PyProof.Rows.boot_max (aa (pv 1) ah)) (bP cC rfl T.bY PySem.boot_len (aa (pv 2) ah)) (aQ _)))))) (aq (aB (bM (aa (aA T.qk) ah)))) aX) (ai (aO (i:=3) qc.nd rfl (Or.inl rfl) (aG c_write_kind (hr.mono (by decide)) rfl az (aa (aG c_shape_of_group (hr.mono (by decide)) rfl az (aa (aD (pv 0) rfl) (aa (pA (own:=[("number",4)]) rfl qc.nd (gu (pv 1)) (show iz ["holder","numbers","columns","text","number"] (aE pY) _ _ from⟨rfl,by decide+kernel,by decide+kernel,by decide+kernel,by decide+kernel⟩) (fun _ _ _ _ _=>(dR (i:=4) qc.nd rfl (Or.inl rfl))) (fun _ _ _ _ _=>tG) (fun _ _ _ _ _=>(qS (K:=K) rfl (bQ (Cv (K:=K) rfl) (pv 2) (pv 4) (fun _ _=>rfl)) rfl))) ah))) ah))) (aq (aB (bU gg (bM (aa (bP cC rfl T.bY PySem.boot_len (aa (pv 3) ah)) ah)) (pv 3))))))),?_⟩;have hw:=iw hR;have hky:=Ja hR;obtain⟨k,fl,tf,rfl,rfl⟩:=i8 hkd;refine⟨_,rfl,ho,_,d,_,_,rfl,hho,T.dN,T.gM,jW,k,fl,tf,rfl,hk,hw.hgt,hw.lv,fun H1 l as s1 nl1 hl C=>?_⟩;refine gN ?_;have lasV:(as.map V.ref).length=(Vacola.columns tf.fs).length:=by rw[List.length_map,C.len]
 have hnl1:=s1 _ _ hnl
 have bad:(ns=[]∨ns.any (fun i=>decide (i<0)||decide ((Vacola.columns tf.fs).length≤i.toNat))=true)→([V.int (-3)]:List V).length≤sizeLine∧∀p,H1 p=Option.none→Q (.ref p) (upd H1 p (.lst [V.int (-3)])):=fun e=>by
  have eA:Vacola.keeps tf.fs ns=.refused (-3):=by unfold Vacola.keeps;rw[if_pos e]
  exact⟨by show 1≤sizeLine;decide,fun m hm=>q _ m (s1.trans (aM hm)) (s1.free hm) (by rw[eA,aj];rfl) (by rw[eA];show 1≤2010;decide)⟩
 refine⟨_,rfl,nl,_,rfl,.inl (ay.of hnl1),rfl,_,rfl,?_⟩;rw[bJ,List.length_map];refine bB (fun c=>?_) (fun c=>?_)
 ·have c':(ns.length:Int)=0:=of_decide_eq_true c
  exact bad (.inl (List.length_eq_zero_iff.mp (by omega)))
 have c':¬(ns.length:Int)=0:=of_decide_eq_false (Bool.eq_false_iff.mpr c);have hpos:0<ns.length:=by omega
 refine⟨_,rfl,nl,ns,rfl,ay.of hnl1,hpos,fun lo hlo hlo'=>?_⟩;refine⟨_,_,rfl,rfl,_,rfl,?_⟩;refine bB (fun c2=>?_) (fun c2=>?_)
 ·have c2':lo<0:=of_decide_eq_true c2
  exact bad (.inr (List.any_eq_true.mpr ⟨lo,hlo,by rw[decide_eq_true c2'];rfl⟩))
 have c2':¬lo<0:=of_decide_eq_false (Bool.eq_false_iff.mpr c2);refine⟨_,rfl,nl,ns,rfl,ay.of hnl1,hpos,fun hi hhi hhi'=>?_⟩;refine⟨_,rfl,l,_,rfl,.inl (ay.of hl),_,_,rfl,rfl,_,rfl,?_⟩;rw[lasV];refine bB (fun c3=>?_) (fun c3=>?_)
 ·have c3':((Vacola.columns tf.fs).length:Int)≤hi:=of_decide_eq_true c3
  exact bad (.inr (List.any_eq_true.mpr ⟨hi,hhi,by rw[decide_eq_true (show(Vacola.columns tf.fs).length≤hi.toNat by omega),Bool.or_true]⟩))
 have c3':hi<((Vacola.columns tf.fs).length:Int):=by have:=of_decide_eq_false (Bool.eq_false_iff.mpr c3);omega
 have hin:∀i∈ns,0≤i∧i.toNat<(Vacola.columns tf.fs).length:=fun i hi'=>by
  have:=hlo' i hi';have:=hhi' i hi';omega
 obtain⟨eS,hpth⟩:=ON (ns:=ns) hw hky fun i hi=>(hin i hi).2
 have eA:Vacola.keeps tf.fs ns=.bytes (Vacola.showSchema (bD (ns.map fun i=>jY tf.fs i.toNat) tf.fs)):=by
  unfold Vacola.keeps;rw[if_neg,eS];rintro(z|z)
  ·rw[z]at hpos;exact absurd hpos (by decide)
  ·obtain⟨i,hi,e⟩:=List.any_eq_true.mp z
   have:=hin i hi;rw[Bool.or_eq_true,decide_eq_true_iff,decide_eq_true_iff]at e;omega
 rw[eA]at q;generalize hps:ns.map (fun i=>jY tf.fs i.toNat)=ps at q hpth;have psl:ps.length=ns.length:=by rw[←hps,List.length_map]
 refine nX ?_;dsimp only;refine aS ?_;refine⟨_,rfl,ho,_,d,_,_,rfl,s1 _ _ hho,T.dN,T.gM,jW,?_⟩;refine nP (xs:=ns.map V.int) H1 nl (fun R h=>⟨_,rfl,h⟩) (ay.of hnl1) fun D hD=>⟨fun j H2=>aI H1 H2∧∃pas,H2 D=some (.lst (pas.map V.ref))∧fY H2 pas (ps.take j)∧D∉pas,⟨aM hD,[],aj,.nil,by simp⟩,(fun j H2 _ ⟨h1,_⟩=>ay.of (h1 _ _ hnl1)),?_,?_⟩
 ·rintro j v H2 hj ⟨h1,pas,h2,h3,h4⟩
  rw[List.getElem?_map]at hj;obtain⟨i,hi,rfl⟩:=Option.map_eq_some_iff.mp hj;obtain⟨hi0,hil⟩:=hin i (List.mem_of_getElem? hi);obtain⟨co,hco⟩:∃co,(Vacola.columns tf.fs)[i.toNat]? =some co:=⟨_,List.getElem?_eq_getElem hil⟩;obtain⟨ca,hca⟩:∃ca,as[i.toNat]? =some ca:=⟨_,List.getElem?_eq_getElem (by rw[C.len];exact hil)⟩;obtain⟨dc,kc,pc,hc1,hc2,hc3,_⟩:=C.at_ _ _ _ hca hco;have hpj:ps[j]? =some co.path:=by rw[←hps,List.getElem?_map,hi,←CD hco];rfl
  refine⟨rfl,_,rfl,_,rfl,l,_,_,(.ref ca),rfl,rfl,ay.of (h1 _ _ hl),at_of (j:=i.toNat) (by omega) (by rw[List.getElem?_map,hca];rfl),ca,_,dc,_,_,rfl,h1 _ _ hc1,T.gy,T.kK,x9,_,h2,?_,fun b o h=>?_,pas++[pc],?_,?_,?_⟩
  ·rw[List.length_map,h3.len,List.length_take,sizeLine_eq];omega
  ·rw[au (aV h hD)];exact h1 b o h
  ·rw[aj,List.map_append];rfl
  ·rw[take_snoc hpj]
   refine(h3.snoc (h1 _ _ hc3)).on fun n hn o h=>?_
   rw[au]
   ·exact h
   ·rintro rfl
    rcases List.mem_append.mp hn with y|y
    ·exact h4 y
    ·rw[←List.mem_singleton.mp y,hD]at hc3;cases hc3
  ·intro y
   rcases List.mem_append.mp y with y|y
   ·exact h4 y
   ·rw[←List.mem_singleton.mp y,hD]at hc3;cases hc3
 ·rintro H2 ⟨s2,pas,hD2,N2,_⟩
  have ept:ps.take (ns.map V.int).length=ps:=by rw[List.length_map,←psl,List.take_length]
  rw[ept]at N2;have s02:aI H H2:=s1.trans s2;refine⟨false,k,fl,tf,5,D,pas,ps,rfl,hk.a_ (bZ.of_same s02),hw.wf,hD2,N2,fun q hq z=>?_,f6.group hpth,by omega,by have:=hw.hgt;omega,fun H3 t' s3 ht' ekd hfp=>?_⟩
  ·obtain⟨n,r,e,_⟩:=mP tf.fs q (hpth q hq)
   rw[z]at e;cases e
  ·have hlen:(Vacola.showKind t'.kd).length≤2000:=by
    rw[ekd];have z1:=DV ps (.group false tf.fs);rw[fZ]at z1;have z2:=hw.len;unfold Vacola.showSchema at z2;omega
   have hLINE:dB=100000:=rfl;refine⟨t',6,rfl,ht',?_,by decide,by omega,fun H4 m s4 nm hm=>?_⟩
   ·rw[ekd]
    have:=DY ps (.group false tf.fs) 6 hw.gk.wr;rw[fZ]at this;exact this
   ·refine gN ?_
    rw[ekd]at hm hlen;refine⟨_,rfl,m,_,rfl,.inl (ay.of hm),by show 1≤sizeLine;decide,fun m2 hm2=>?_⟩;have s5:=aM (o:=HO.lst [V.int ((aC (Vacola.showKind (.group false (bD ps tf.fs)))).length:Int)]) hm2;refine⟨_,rfl,m2,m,_,_,rfl,rfl,aj,s5 _ _ hm,?_,fun m3 hm3=>?_⟩
    ·rw[bE,sizeLine_eq];show 1+_≤_;omega
    ·have s04:=(s02.trans s3).trans s4
     refine q _ m3 ((s04.trans s5).trans (aM hm3)) (s04.free (s5.free hm3)) ?_ ?_
     ·rw[aj,CB,bE];rfl
     ·rw[HH]
      unfold Vacola.showSchema;omega
def settled(x:Option Vacola.Fields)(fs:Vacola.Fields):Option Vacola.Fields×List Int:=match Vacola.readSchema (Vacola.showSchema fs)with
 |.ok gs=>(some gs,[0])
 |.error f=>(x,[-10-(f.kind:Int)])
inductive lZ(a:aH)(tb:Tb)(vs:List V)(H:Hp)(Q:VK)(E:XK):Prop
 |mk:∀(ho g:Addr)(og:HO)(x:Option Vacola.Fields)(t:TK)(fs:Vacola.Fields)(e:Nat),vs=[.ref ho,.ref t.at]→iI a H ho g x→bz tb H→ho≠g→H g=some og→bK a H t→t.kd=.group false fs→dF t.kd e→e+1≤13→(Vacola.showKind t.kd).length≤dB→gS a tb H ho g (settled x fs).1 (settled x fs).2 Q→lZ a tb vs H Q E
theorem OP{f:Addr}{fd:FuncData}{tb:Tb}(F:aK K "settle" "settle" uK f fd)(T:Txt K mg a)(c_write_kind:ao P w K mg base af 29 "write_kind" ["kind"] (lT a 13))(m_Holder_hold_text:bG P w K mg base (bu P w) 28 a.cF "hold_text" ["self","text"] (qK a)):aF P w K mg base af 30 f fd ["holder","changed"] (lZ a tb):=by
 refine F.ok Gp (fun vs H Q E h=>by obtain⟨ho,g,og,x,t,fs,e,rfl,_⟩:=h;rfl) (fun cdv A outer s H vs Q E hr h=>?_);obtain⟨ho,g,og,x,t,fs,e,rfl,hx,tabs,hg,hog,hk,hkd,hwr,he,hln,q⟩:=h;refine⟨_,(ai (F9 (i:=2) T.err rfl rfl rfl Gp.nd rfl rfl rfl T.jO (fun pn xe E R po=>(aq (bS (B0 (pv 0) T.dN m_Holder_hold_text (hr.mono (by decide)) (dj rfl R) (aa (aG c_write_kind (hr.mono (by decide)) rfl az (aa (pv 1) ah)) ah))))) (fun pn e oe d vs h1 h2 h3=>(aq (aB (bM (aa (bU kj (aA T.wz) (BY T.err (by simp) h1 h2 h3 (pv 2) rfl)) ah)))))) (aq (aB (bM (aa aN ah))))),?_⟩;obtain⟨d,sv,tv,hho⟩:=hx.ins;refine⟨_,rfl,ho,d,_,rfl,hho,qJ (by decide+kernel),_,rfl,t,e,rfl,hk,hwr,he,hln,fun H1 ta s1 nta hta=>?_⟩;have hho1:=s1 _ _ hho;have eT:Vacola.showKind t.kd=Vacola.showSchema fs:=by rw[hkd];rfl
 rw[eT]at hta;refine⟨ho,d,sv,tv,ta,_,rfl,hho1,hta,?_⟩;unfold jV;unfold settled at q;cases hR:Vacola.readSchema (Vacola.showSchema fs)with
 |error e=>
  rw[hR]at q;refine fun H' d s' hd=>⟨d,rfl,rfl,fun e he=>?_⟩
  refine⟨_,rfl,rfl,_,_,hd,rfl,_,_,rfl,rfl,by show 1≤sizeLine;decide,fun l hl=>?_⟩;have s0:=s1.trans s';exact((q.of hx tabs hg).of tabs) _ l (s0.trans (aM hl)) (s0.free hl) aj (by show 1≤2010;decide)
 |ok fs'=>
  rw[hR]at q;intro H' t' k1 h1 NK;refine⟨by show 1≤sizeLine;decide,fun l hl=>?_⟩;have lho:l≠ho:=fun z=>by rw[z,h1]at hl;cases hl
  have s2:aI H' (upd H' l (.lst [V.int 0])):=aM hl;have eS:=AI hR;have taho:ta≠ho:=fun z=>by rw[z,hho]at nta;cases nta
  have gta:g≠ta:=fun z=>by rw[z,nta]at hog;cases hog
  have T1:=(tabs.same s1).keeps k1 hho1 lY qW;refine q _ l (fun b o z n _=>s2 _ _ (k1 b o (s1 _ _ z) n)) (T1.same s2) ⟨d,t',ta,s2 _ _ h1,NK.has.a_ (bZ.of_same s2),NK.kd,?_,?_,gta,fun z=>?_⟩ (s1.free (k1.free hl lho)) aj (by show 1≤2010;decide)
  ·rw[eS];exact s2 _ _ (k1 _ _ hta taho)
  ·rw[eS];exact hR
  ·have:=NK.fr g z
   rw[s1 _ _ hog]at this;cases this
def OQ(tb:Tb)(H:Hp)(Q:VK):Option Fi→Prop
 |Option.none=>∀H',bL tb H H'→bz tb H'→Q .aP H'
 |some x=>∀H',bL tb H H'→bz tb H'→Q (.ref x.f) H'
inductive oq(a:aH)(tb:Tb)(vs:List V)(H:Hp)(Q:VK)(E:XK):Prop
 |mk:∀(t:TK)(d:Nat)(pl:Addr)(p:List Int),vs=[.ref t.at,.ref pl]→bK a H t→cS t.kd d→H pl=some (.lst (p.map V.int))→p.length≤dB→bz tb H→OQ tb H Q ((bq aW p t.sub).bind List.getLast?)→oq a tb vs H Q E
theorem OR{f:Addr}{fd:FuncData}{tb:Tb}(F:aK K "field_or_none" "field_or_none" uL f fd)(T:Txt K mg a)(c_fields_by_path:ao P w K mg base af 4 "fields_by_path" ["schema","path"] (qV a tb)):aF P w K mg base af 5 f fd ["schema","path"] (oq a tb):=by
 refine F.ok Gq (fun vs H Q E h=>by obtain⟨t,d,pl,p,rfl,_⟩:=h;rfl) (fun cdv A outer s H vs Q E hr h=>?_);obtain⟨t,d,pl,p,rfl,hk,hw,hpl,hp,tabs,q⟩:=h;refine⟨_,(ai (aO (i:=2) Gq.nd rfl (Or.inl rfl) (aG c_fields_by_path (hr.mono (by decide)) rfl az (aa (pv 0) (aa (pv 1) ah)))) (ai (aU (aY bF (bP cC rfl T.bY PySem.boot_len (aa (pv 2) ah)) aN (aQ _)) (aq (aB jd)) aX) (aq (aB (bQ cA (pv 2) (sP sR aN) (fun _ _=>rfl)))))),?_⟩;refine⟨_,rfl,_,rfl,t,d,pl,p,rfl,hk,hw,hpl,hp,tabs,fun H1 l s1 T1 nl hl=>?_⟩;refine gN ?_;refine⟨_,rfl,l,_,rfl,.inl (ay.of hl),rfl,_,rfl,?_⟩;rw[bJ];cases hacc:(bq aW p t.sub).getD []with
 |nil=>
  have e:(bq aW p t.sub).bind List.getLast?=Option.none:=by
   cases h:bq aW p t.sub with
   |none=>rfl
   |some l=>rw[h]at hacc;cases(show l=[]from hacc);rfl
  rw[e]at q;exact q _ s1 T1
 |cons x r=>
  rw[hacc]at hl
  have e:(bq aW p t.sub).bind List.getLast?=(x::r).getLast?:=by
   cases h:bq aW p t.sub with
   |none=>rw[h]at hacc;cases hacc
   |some l=>rw[h]at hacc;rw[←hacc];rfl
  rw[e]at q;refine(if_neg (by rw[decide_eq_true_iff];show¬(((refs (x::r)).length:Int)=0);unfold refs;rw[List.length_map,List.length_cons];omega)).mpr (nX ?_);dsimp only;obtain⟨y,hy⟩:∃y,(x::r).getLast?=some y:=⟨_,List.getLast?_eq_some_getLast (by simp)⟩;rw[hy]at q;refine⟨_,rfl,_,rfl,l,_,_,(.ref y.f),rfl,rfl,ay.of hl,HA (by unfold refs;rw[List.getLast?_map,hy];rfl),?_⟩;exact q _ s1 T1
def OS(tb:Tb)(H:Hp)(Q:VK):Option TK→Prop
 |Option.none=>∀H',bL tb H H'→bz tb H'→Q .aP H'
 |some g=>∀H',bL tb H H'→bz tb H'→Q (.ref g.at) H'
inductive qY(a:aH)(tb:Tb)(vs:List V)(H:Hp)(Q:VK)(E:XK):Prop
 |mk:∀(c:Bool)(k fl:Addr)(fs:TF)(d:Nat)(pl:Addr)(p:List Int),vs=[.ref k,.ref pl]→bK a H (.group c k fl fs)→cS (.group c fs.fs) d→H pl=some (.lst (p.map V.int))→p.length≤dB→bz tb H→OS tb H Q ((TK.group c k fl fs).b_ p)→qY a tb vs H Q E
theorem OT{f:Addr}{fd:FuncData}{tb:Tb}(F:aK K "group_or_none" "group_or_none" uM f fd)(T:Txt K mg a)(c_field_or_none:ao P w K mg base af 5 "field_or_none" ["schema","path"] (oq a tb))(c_is_leaf:ao P w K mg base af 2 "is_leaf" ["kind"] (ic a eV)):aF P w K mg base af 6 f fd ["schema","path"] (qY a tb):=by
 refine F.ok Gr (fun vs H Q E h=>by obtain⟨c,k,fl,fs,d,pl,p,rfl,_⟩:=h;rfl) (fun cdv A outer s H vs Q E hr h=>?_);obtain⟨c,k,fl,fs,d,pl,p,rfl,hk,hw,hpl,hp,tabs,q⟩:=h;refine⟨_,(ai (aU (aY bF (bP cC rfl T.bY PySem.boot_len (aa (pv 1) ah)) aN (aQ _)) (aq (aB (pv 0))) aX) (ai (aO (i:=2) Gr.nd rfl (Or.inl rfl) (aG c_field_or_none (hr.mono (by decide)) rfl az (aa (pv 0) (aa (pv 1) ah)))) (ai (aU (PW.pt (f7 (iQ (je (pv 2))) (iR (c9 (aG c_is_leaf (hr.mono (by decide)) rfl az (aa (aD (pv 2) rfl) ah)))))) (aq (aB jd)) aX) (aq (aB (aD (pv 2) rfl)))))),?_⟩;refine⟨_,rfl,pl,_,rfl,.inl (ay.of hpl),rfl,_,rfl,?_⟩;rw[bJ,List.length_map];refine bB (fun c1=>?_) (fun c1=>?_)
 ·have c1':(p.length:Int)=0:=of_decide_eq_true c1
  have e:p=[]:=List.length_eq_zero_iff.mp (by omega);subst e;exact⟨_,rfl,q H (bL.refl tb H) tabs⟩
 ·have hne:p≠[]:=fun z=>c1 (decide_eq_true (by rw[z];rfl))
  refine nX ?_;dsimp only;have eG:=Dq p (.group c k fl fs) hne;refine⟨_,rfl,_,rfl,.group c k fl fs,d,pl,p,rfl,hk,hw,hpl,hp,tabs,?_⟩;cases hx:(bq aW p (TK.group c k fl fs).sub).bind List.getLast? with
  |none=>
   rw[hx]at eG;rw[show(TK.group c k fl fs).b_ p=Option.none from eG]at q;intro H1 s1 T1;exact⟨_,rfl,_,rfl,q H1 s1 T1⟩
  |some x=>
   rw[hx]at eG;intro H1 s1 T1
   obtain⟨l,hl,hlx⟩:∃l,bq aW p (TK.group c k fl fs).sub=some l∧l.getLast?=some x:=by
    cases h:bq aW p (TK.group c k fl fs).sub with
    |none=>rw[h]at hx;cases hx
    |some l=>rw[h]at hx;exact⟨l,rfl,hx⟩
   have hI:=(ya p (.group c k fl fs) d l hl hk hw x (List.mem_of_getLast? hlx)).1;have hI1:=hI.a_ (s1.a_ tabs hI.obj);have hI1':=hI1;obtain⟨⟨dx,hx1⟩,hx2,hx3,hx4⟩:=hI1';refine⟨_,rfl,_,rfl,?_⟩;refine(if_neg (by show¬false=true;decide)).mpr ?_;refine⟨_,rfl,x.f,_,dx,_,_,rfl,hx1,T.bC,T.e_,gC,x.k,rfl,hx4,fun H2 s2=>⟨_,rfl,?_⟩⟩;have sT:bL tb H H2:=s1.trans (cZ s2);have T2:=T1.same s2
   match hkx:x.k with
   |.leaf l' k' fl'=>
    have e:(TK.group c k fl fs).b_ p=Option.none:=by rw[eG,Option.bind_some,hkx]
    rw[e]at q;exact q H2 sT T2
   |.group c' k' fl' gs=>
    have e:(TK.group c k fl fs).b_ p=some (.group c' k' fl' gs):=by rw[eG,Option.bind_some,hkx]
    rw[e]at q;have z:=q H2 sT T2;refine⟨_,rfl,x.f,_,dx,_,_,rfl,s2 _ _ hx1,T.bC,T.e_,gC,?_⟩;rw[hkx];exact z
inductive yf(a:aH)(vs:List V)(H:Hp)(Q:VK)(E:XK):Prop
 |mk:∀(k dk fl:Addr)(sg sz:Int)(l:List Fi)(x:Fi),vs=[.ref k,.ref x.f]→H k=some (.ins a.b7 dk (gA sg sz fl))→H fl=some (.lst (refs l))→((∀y∈l,bW a H y))→bW a H x→l.length≤dB→Q .aP (upd H fl (.lst (refs (cX x l))))→yf a vs H Q E
theorem OU{f:Addr}{fd:FuncData}(F:aK K "put_field" "put_field" uO f fd)(T:Txt K mg a):aF P w K mg base af 1 f fd ["group","field"] (yf a):=by
 refine F.ok Cd (fun vs H Q E h=>by obtain⟨k,dk,fl,sg,sz,l,x,rfl,_⟩:=h;rfl) (fun cdv A outer s H vs Q E hr h=>?_);obtain⟨k,dk,fl,sg,sz,l,x,rfl,hk,hl,hI,hx,hln,q⟩:=h;refine⟨_,(ai (aO (i:=2) Cd.nd rfl (Or.inl rfl) aN) (ai (mT PassesOwn.never (PW.pt (j_ (aY jh (pv 2) (bP cC rfl T.bY PySem.boot_len (aa (aD (pv 0) rfl) ah)) (aQ _)) (j9 (aY jh (aD (bQ cA (aD (pv 0) rfl) (pv 2) (fun _ _=>rfl)) rfl) (aD (pv 1) rfl) (aQ _))))) (aq (aO (i:=2) Cd.nd rfl (Or.inl rfl) (bU iU (pv 2) aN)))) (aq (bS (eB PySem.F.plainAttrs_list PySem.F.slot_list_insert PySem.F.type_list_insert N7 (aD (pv 0) rfl) (aa (pv 2) (aa (pv 1) ah))))))),?_⟩;obtain⟨⟨dx,hx1⟩,_⟩:=hx;have hLINE:dB=100000:=rfl;have lr:(refs l).length=l.length:=by unfold refs;exact List.length_map _
 refine sC ?_;refine⟨fun m σ H'=>∃i,m=l.length-i∧H=H'∧σ=[some (V.ref k),some (V.ref x.f),some (V.int ((i:Nat):Int))]∧i≤e7 x l,⟨_,0,rfl,rfl,rfl,Nat.zero_le _⟩,?_⟩;rintro m σ H' ⟨i,rfl,rfl,rfl,hi⟩;have hil:=D8 x l;refine⟨_,rfl,_,rfl,k,_,dk,_,_,rfl,hk,T.bI,T.c8,eU,fl,_,rfl,.inl (ay.of hl),_,_,rfl,rfl,_,rfl,?_⟩;rw[lr]
 have stop:i=e7 x l→Q .aP (upd H fl (.lst ((refs l).take i++V.ref x.f::(refs l).drop i))):=fun e=>by
  have e2:(refs l).take i++V.ref x.f::(refs l).drop i=refs (cX x l):=by
   rw[D9,e];unfold refs;simp
  rw[e2];exact q
 have ins:i=e7 x l→∃(a:Addr)(xs:List V)(j:Nat)(y:V),V.ref fl=.ref a∧[V.int ((i:Nat):Int),V.ref x.f]=[V.int ((j:Nat):Int),y]∧H a=some (.lst xs)∧j≤xs.length∧xs.length<sizeLine∧Q .aP (upd H a (.lst (xs.take j++y::xs.drop j))):=fun e=>⟨fl,_,i,_,rfl,rfl,hl,by rw[lr];omega,by rw[lr,sizeLine_eq];omega,stop e⟩
 refine bB (fun c1=>?_) (fun c1=>?_)
 ·have c1':i<l.length:=by have:(i:Int)<(l.length:Int):=of_decide_eq_true c1;omega
  have hli:l[i]? =some l[i]:=List.getElem?_eq_getElem c1';obtain⟨⟨dy,hy1⟩,_⟩:=hI l[i] (List.getElem_mem c1');refine⟨_,rfl,k,_,dk,_,_,rfl,hk,T.bI,T.c8,eU,_,rfl,fl,_,_,(.ref l[i].f),rfl,rfl,ay.of hl,at_of (j:=i) rfl (by unfold refs;rw[List.getElem?_map,hli];rfl),l[i].f,_,dy,_,_,rfl,hy1,T.bC,T.gh,iF,?_⟩;refine⟨_,rfl,x.f,_,dx,_,_,rfl,hx1,T.bC,T.gh,iF,_,_,rfl,rfl,_,rfl,?_⟩;refine bB (fun c2=>?_) (fun c2=>?_)
  ·have c2':l[i].h.number<x.h.number:=by have:((l[i].h.number:Nat):Int)<((x.h.number:Nat):Int):=of_decide_eq_true c2;omega
   have hlt:i<e7 x l:=by
    rcases Nat.lt_or_ge i (e7 x l)with z|z
    ·exact z
    ·have e:i=e7 x l:=by omega
     exact absurd c2' (Ea x l l[i] (by rw[←e];exact hli))
   refine⟨fun σ' H'=>H=H'∧σ'=[some (V.ref k),some (V.ref x.f),some (V.int ((i+1:Nat):Int))],?_,?_⟩
   ·rintro σ' H' ⟨rfl,rfl⟩
    exact⟨l.length-(i+1),by omega,i+1,rfl,rfl,rfl,hlt⟩
   ·exact⟨_,rfl,_,_,rfl,rfl,rfl,rfl⟩
  ·have c2':¬l[i].h.number<x.h.number:=fun z=>c2 (decide_eq_true (by omega))
   have e:i=e7 x l:=by
    rcases Nat.lt_or_ge i (e7 x l)with z|z
    ·exact absurd (D_ x l i _ z hli) c2'
    ·omega
   exact⟨_,rfl,k,_,dk,_,_,rfl,hk,T.bI,T.c8,eU,.inl ⟨rfl,_,ay.of hl⟩,_,rfl,_,rfl,ins e⟩
 ·have c1':¬i<l.length:=fun z=>c1 (decide_eq_true (by omega))
  have e:i=e7 x l:=by omega
  exact⟨_,rfl,k,_,dk,_,_,rfl,hk,T.bI,T.c8,eU,.inl ⟨rfl,_,ay.of hl⟩,_,rfl,_,rfl,ins e⟩
theorem HM{n:Int}{g:TK→TK}:∀fs:TF,(fs.fN n g).as=fs.as
 |.nil=>rfl
 |.cons h f nm da k r=>by
  rw[TF.fN];split
  ·rfl
  ·rw[TF.Dg,TF.Dg,HM r]
theorem nodup_cons{h:Vacola.Head}{f nm da:Nat}{k:TK}{r:TF}(n:(TF.cons h f nm da k r).fp.Nodup):f∉k.fp∧nm∉k.fp∧(∀b∈dU h.dflt da,b∉k.fp)∧k.fp.Nodup∧r.fp.Nodup∧(∀b∈f::nm::(dU h.dflt da++k.fp),b∉r.fp):=by
 rw[TF.fp]at n;obtain⟨n1,n2,n3⟩:=List.nodup_append.mp n;rw[List.nodup_cons,List.nodup_cons,List.nodup_append]at n1;obtain⟨a1,a2,a3,a4,a5⟩:=n1;refine⟨fun z=>a1 (List.mem_cons_of_mem _ (List.mem_append_right _ z)),fun z=>a2 (List.mem_append_right _ z),fun b hb z=>a5 b hb b z rfl,a4,n2,fun b hb z=>n3 b hb b z rfl⟩
theorem HN{H H':Hp}{n:Int}{g:TK→TK}{S:List Addr}:∀(fs:TF)(x:Fi),(fs.items.find? fun y=>aW y.h n)=some x→fh a H fs→fs.fp.Nodup→(∀b∈S,b∈x.k.fp)→bK a H' (g x.k)→(g x.k).at=x.k.at→(∀b∈fs.fp,b∉S→∀o,H b=some o→H' b=some o)→fh a H' (fs.fN n g)
 |.nil,_,e,_,_,_,_,_,_=>by cases e
 |.cons h f nm da kk r,x,e,hF,nd,hS,hg,hat,kp=>by
  obtain⟨⟨⟨d,h1⟩,h2,h3,h4⟩,h5⟩:=hF;obtain⟨n1,n2,n3,n4,n5,n6⟩:=nodup_cons nd;rw[TF.fN];rw[TF.items,List.find?_cons]at e;have mf:f∈(TF.cons h f nm da kk r).fp:=by simp[TF.fp]
  have mn:nm∈(TF.cons h f nm da kk r).fp:=by simp[TF.fp]
  have md:∀b∈dU h.dflt da,b∈(TF.cons h f nm da kk r).fp:=fun b hb=>by simp[TF.fp,hb]
  have mk:∀b∈kk.fp,b∈(TF.cons h f nm da kk r).fp:=fun b hb=>by simp[TF.fp,hb]
  have mr:∀b∈r.fp,b∈(TF.cons h f nm da kk r).fp:=fun b hb=>by simp[TF.fp,hb]
  by_cases hn:(h.number:Int)=n
  ·rw[if_pos hn]
   rw[show aW h n=true from ir.mpr hn]at e;cases e;have nS:∀b,b∉kk.fp→b∉S:=fun b hb z=>hb (hS b z)
   refine⟨⟨⟨d,?_⟩,kp _ mn (nS _ n2) _ h2,h3.a_ ⟨fun b hb o q=>kp b (md b hb) (nS b (n3 b hb)) o q⟩,hg⟩,h5.a_ ⟨fun b hb o q=>kp b (mr b hb) (nS b fun z=>n6 b (by simp[z]) hb) o q⟩⟩;rw[show(g kk).at=kk.at from hat];exact kp _ mf (nS _ n1) _ h1
  ·rw[if_neg hn]
   rw[show aW h n=false from Bool.eq_false_iff.mpr fun z=>hn (ir.mp z)]at e;have hx:=List.mem_of_find?_eq_some e;have nS:∀b∈f::nm::(dU h.dflt da++kk.fp),b∉S:=fun b hb z=>n6 b hb (gE hx (k9 (hS b z)))
   refine⟨⟨⟨d,kp _ mf (nS _ (by simp)) _ h1⟩,kp _ mn (nS _ (by simp)) _ h2,h3.a_ ⟨fun b hb o q=>kp b (md b hb) (nS b (by simp[hb])) o q⟩,h4.a_ ⟨fun b hb o q=>kp b (mk b hb) (nS b (by simp[hb])) o q⟩⟩,?_⟩;exact HN r x e h5 n5 hS hg hat fun b hb=>kp b (mr b hb)
theorem CF{x:Fi}:x.k.fp.Sublist x.fp:=by
 unfold Fi.fp;exact List.Sublist.cons _ (List.Sublist.cons _ (List.sublist_append_right _ _))
theorem yg{t:TF}{x:Fi}(h:x∈t.items):x.fp.Sublist t.fp:=by
 rw[TF.kY]
 have:∀l:List Fi,x∈l→x.fp.Sublist (l.flatMap Fi.fp):=by
  intro l
  induction l with
  |nil=>intro h;cases h
  |cons y l ih=>
   intro h;rw[List.flatMap_cons];rcases List.mem_cons.mp h with rfl|h
   ·exact List.sublist_append_left _ _
   ·exact(ih h).trans (List.sublist_append_right _ _)
 exact this _ h
theorem yh{H H':Hp}{g0 g':TK}(hat:g'.at=g0.at)(hg':bK a H' g'):∀(p:List Int)(t:TK),bK a H t→t.b_ p=some g0→t.fp.Nodup→(∀b∈t.fp,b∉g0.fp→∀o,H b=some o→H' b=some o)→bK a H' (t.fS p fun _=>g')
 |[],.leaf _ _ _,_,h,_,_=>by cases h
 |[],.group c k fl fs,_,h,_,_=>hg'
 |_::_,.leaf _ _ _,_,h,_,_=>by rw[kZ]at h;cases h
 |n::p,.group c k fl fs,hk,h,nd,kp=>by
  obtain⟨⟨d,h1⟩,h2,h3⟩:=hk;have h':((fs.items.find? fun x=>aW x.h n).bind fun x=>x.k.b_ p)=some g0:=h;cases e:fs.items.find? fun x=>aW x.h n with
  |none=>rw[e]at h';cases h'
  |some x=>
   rw[e,Option.bind_some]at h';have hx:=List.mem_of_find?_eq_some e;have hS:∀b∈g0.fp,b∈x.k.fp:=oR p x.k g0 h';have hSf:∀b∈g0.fp,b∈fs.fp:=fun b hb=>gE hx (k9 (hS b hb))
   rw[TK.fp,List.nodup_cons,List.nodup_cons]at nd;obtain⟨nk,nfl,nfs⟩:=nd;have hxI:=dY.mp h3 x hx;have ndx:x.k.fp.Nodup:=nfs.sublist (CF.trans (yg hx));have ih:=yh hat hg' p x.k hxI.2.2.2 h' ndx fun b hb=>kp b (by simp[TK.fp,gE hx (k9 hb)])
   refine⟨⟨d,kp k (by simp[TK.fp]) (fun z=>nk (List.mem_cons_of_mem _ (hSf k z))) _ h1⟩,?_,?_⟩
   ·rw[HM]
    exact kp fl (by simp[TK.fp]) (fun z=>nfl (hSf fl z)) _ h2
   ·exact HN fs x e h3 nfs hS ih (TK.r9 (g:=fun _=>g') hat p x.k h') fun b hb=>kp b (by simp[TK.fp,hb])
theorem qZ:∀(p:List Int)(t g0:TK)(d:Nat),t.b_ p=some g0→cS t.kd d→∃d',d'≤d∧cS g0.kd d'
 |[],.leaf _ _ _,_,_,h,_=>by cases h
 |[],.group c k fl fs,g0,d,h,w=>by cases h;exact⟨d,Nat.le_refl _,w⟩
 |n::p,t,g0,d,h,w=>by
  have h':((t.sub.items.find? fun x=>aW x.h n).bind fun x=>x.k.b_ p)=some g0:=h;cases e:t.sub.items.find? fun x=>aW x.h n with
  |none=>rw[e]at h';cases h'
  |some x=>
   rw[e,Option.bind_some]at h';obtain⟨d',h1,h2⟩:=qZ p x.k g0 (d-1) h' (w.sub.item (List.mem_of_find?_eq_some e)).2;exact⟨d',by omega,h2⟩
theorem yi:∀(p:List Int)(t g0:TK),t.b_ p=some g0→∃c k fl fs,g0=.group c k fl fs
 |[],.leaf _ _ _,_,h=>by cases h
 |[],.group c k fl fs,g0,h=>by cases h;exact⟨_,_,_,_,rfl⟩
 |n::p,t,g0,h=>by
  have h':((t.sub.items.find? fun x=>aW x.h n).bind fun x=>x.k.b_ p)=some g0:=h;cases e:t.sub.items.find? fun x=>aW x.h n with
  |none=>rw[e]at h';cases h'
  |some x=>rw[e,Option.bind_some]at h';exact yi p x.k g0 h'
theorem q_{H:Hp}:∀(p:List Int)(t g0:TK),t.b_ p=some g0→bK a H t→bK a H g0
 |[],.leaf _ _ _,_,h,_=>by cases h
 |[],.group c k fl fs,g0,h,hk=>by cases h;exact hk
 |n::p,t,g0,h,hk=>by
  have h':((t.sub.items.find? fun x=>aW x.h n).bind fun x=>x.k.b_ p)=some g0:=h;cases e:t.sub.items.find? fun x=>aW x.h n with
  |none=>rw[e]at h';cases h'
  |some x=>
   rw[e,Option.bind_some]at h';exact q_ p x.k g0 h' (dY.mp hk.list.2 x (List.mem_of_find?_eq_some e)).2.2.2
theorem yj:∀(p:List Int)(t g0:TK),t.b_ p=some g0→t.fp.Nodup→g0.fp.Nodup
 |[],.leaf _ _ _,_,h,_=>by cases h
 |[],.group c k fl fs,g0,h,hk=>by cases h;exact hk
 |n::p,.leaf _ _ _,g0,h,hk=>by rw[kZ]at h;cases h
 |n::p,.group c k fl fs,g0,h,nd=>by
  have h':((fs.items.find? fun x=>aW x.h n).bind fun x=>x.k.b_ p)=some g0:=h;cases e:fs.items.find? fun x=>aW x.h n with
  |none=>rw[e]at h';cases h'
  |some x=>
   rw[e,Option.bind_some]at h';rw[TK.fp,List.nodup_cons,List.nodup_cons]at nd;exact yj p x.k g0 h' (nd.2.2.sublist (CF.trans (yg (List.mem_of_find?_eq_some e))))
theorem gS.step{tb:Tb}{H H6:Hp}{ho g:Addr}{x:Option Vacola.Fields}{ans:List Int}{Q:VK}(q:gS a tb H ho g x ans Q)(k:HF tb H H6 ho)(h6:∃o,H6 ho=some o)(T6:bz tb H6):gS a tb H6 ho g x ans Q:=fun H' l k' T' hx n e len=>by
 refine q H' l (fun b o z1 z2 z3=>k' b o (k b o z1 z2 z3) z2 z3) T' hx ?_ e len;cases z:H l with
 |none=>rfl
 |some o=>
  by_cases e1:l=ho
  ·obtain⟨o',h6⟩:=h6
   rw[e1,h6]at n;cases n
  ·by_cases e2:∀i<6,l≠tb i
   ·rw[k l o z e1 e2]at n;cases n
   ·exfalso
    apply e2;intro i hi e3;obtain⟨ps,q⟩:=Cw (T6.at_ i hi);rw[←e3,n]at q;cases q
theorem OV{x fs:Vacola.Fields}:(Vacola.settle ⟨some x⟩ fs).1.held=(settled (some x) fs).1∧VacolaNeutral.encode (Vacola.settle ⟨some x⟩ fs).2=(settled (some x) fs).2:=by
 unfold Vacola.settle settled;cases Vacola.readSchema (Vacola.showSchema fs)with
 |ok gs=>exact⟨rfl,rfl⟩
 |error f=>exact⟨rfl,rfl⟩
def ig(a:aH)(tb:Tb)(H:Hp)(ho g:Addr)(fs:Vacola.Fields)(r:Vacola.State×Vacola.Answer)(Q:VK):Prop:=gS a tb H ho g r.1.held (VacolaNeutral.encode r.2) Q
theorem refuse{tb:Tb}{H H2:Hp}{ho g:Addr}{fs:Vacola.Fields}{n:Int}{Q:VK}(q:ig a tb H ho g fs (⟨some fs⟩,.refused n) Q)(hx:dD a H ho g fs)(tabs:bz tb H)(hg:ho≠g)(s2:bL tb H H2)(T2:bz tb H2):([V.int n]:List V).length≤sizeLine∧∀p,H2 p=Option.none→Q (.ref p) (upd H2 p (.lst [V.int n])):=by
 refine⟨by show 1≤sizeLine;decide,fun m hm=>?_⟩;have q':lX tb H [n] Q:=gS.of (x:=some fs) q hx tabs hg;exact q' _ m (s2.trans (cZ (aM hm))) (T2.same (aM hm)) (s2.lV tabs T2 hm) aj (by show 1≤2010;decide)
theorem CG{tb:Tb}{H H6:Hp}{ho g:Addr}{og:HO}{fs fs':Vacola.Fields}{t':TK}{Q:VK}(q:ig a tb H ho g fs (Vacola.settle ⟨some fs⟩ fs') Q)(hx:dD a H ho g fs)(tabs:bz tb H)(hg:ho≠g)(hog:H g=some og)
  (k6:∀b o,H b=some o→(∀i<6,b≠tb i)→H6 b=some o)(T6:bz tb H6)(hk:bK a H6 t')(hkd:t'.kd=.group false fs')(hw:dF t'.kd 12)(hl:(Vacola.showKind t'.kd).length≤dB)(hgt:∀i<6,g≠tb i):lZ a tb [.ref ho,.ref t'.at] H6 Q E0:=by
 have hx':=hx;obtain⟨d,t,ta,hho,hk0,hkd0,hta,hR,g1,g2⟩:=hx';have ho6:=k6 _ _ hho (tabs.ne hho lY);refine⟨ho,g,og,some fs,t',fs',12,rfl,?_,T6,hg,k6 _ _ hog hgt,hk,hkd,hw,by decide,hl,?_⟩
 ·refine dD.on hx (fun b o z c _=>?_) hg
  rcases c with c|c
  ·exact k6 b o z (tabs.ne z c.no)
  ·rw[c]at z⊢
   rw[hho]at z;cases z;exact ho6
 ·have e:=OV (x:=fs) (fs:=fs')
  unfold ig at q;rw[e.1,e.2]at q;exact q.step (fun b o z _ n=>k6 b o z n) ⟨_,ho6⟩ T6
inductive yk(a:aH)(tb:Tb)(vs:List V)(H:Hp)(Q:VK)(E:XK):Prop
 |mk:∀(ho g:Addr)(xs:List V)(fs:Vacola.Fields)(pl:Addr)(p:List Int)(ta:Addr)(T:List Nat),vs=[.ref ho,.ref pl,.ref ta]→dD a H ho g fs→bz tb H→ho≠g→H g=some (.lst xs)→H pl=some (.lst (p.map V.int))→p.length≤100→H ta=some (.lst (aC T))→T.length≤5000→ig a tb H ho g fs (Vacola.adds ⟨some fs⟩ fs p T) Q→yk a tb vs H Q E
theorem OW{f:Addr}{fd:FuncData}{tb:Tb}(F:aK K "reply_add" "reply_add" uN f fd)(T:Txt K mg a)(m_Holder_schema_to_change:bG P w K mg base af 28 a.cF "schema_to_change" ["self"] (nU a))(c_group_or_none:ao P w K mg base af 6 "group_or_none" ["schema","path"] (qY a tb))(c_schema_or_none:ao P w K mg base af 28 "schema_or_none" ["text"] (qI a))(c_put_field:ao P w K mg base af 1 "put_field" ["group","field"] (yf a))(c_settle:ao P w K mg base af 30 "settle" ["holder","changed"] (lZ a tb)):aF P w K mg base af 31 f fd ["holder","path","text"] (yk a tb):=by
 refine F.ok p8 (fun vs H Q E h=>by obtain⟨ho,g,xs,fs,pl,p,ta,T,rfl,_⟩:=h;rfl) (fun cdv A outer s H vs Q E hr h=>?_);obtain⟨ho,g,xs,fs,pl,p,ta,Tx,rfl,hx,tabs,hg,hog,hpl,hp,hta,hT,q⟩:=h;refine⟨_,(ai (aO (i:=3) p8.nd rfl (Or.inl rfl) (bR (pv 0) T.dN m_Holder_schema_to_change (hr.mono (by decide)) az)) (ai (aO (i:=4) p8.nd rfl (Or.inl rfl) (aG c_group_or_none (hr.mono (by decide)) rfl az (aa (pv 3) (aa (pv 1) ah)))) (ai (aU (iQ (je (pv 4))) (aq (aB (bM (aa (aA T.kH) ah)))) aX) (ai (aO (i:=5) p8.nd rfl (Or.inl rfl) (aG c_schema_or_none (hr.mono (by decide)) rfl az (aa (bU gg (bU gg (bM (aa (aA T.iW) ah)) (pv 2)) (bM (aa (aA T.lF) ah))) ah))) (ai (aU (iQ (je (pv 5))) (aq (aB (bM (aa (aA T.lK) ah)))) aX) (ai (gZ PassesOwn.never rfl (gu (aD (pv 5) rfl)) (dR (i:=6) p8.nd rfl (Or.inl rfl)) (aq (bS (aG c_put_field (hr.mono (by decide)) rfl az (aa (pv 4) (aa (pv 6) ah)))))) (aq (aB (aG c_settle (hr.mono (by decide)) rfl az (aa (pv 0) (aa (pv 3) ah))))))))))),?_⟩;have hx':=hx;obtain⟨d,t0,ta0,hho,hk0,hkd0,hta0,hR,g1,g2⟩:=hx';have hw:=iw hR;have hLINE:dB=100000:=rfl;refine⟨_,rfl,ho,d,_,rfl,hho,qJ (by decide+kernel),ho,d,_,ta0,_,fs,rfl,hho,hta0,hR,fun H1 t s1 NK=>?_⟩;refine gN ?_;obtain⟨k,fl,tf,rfl,rfl⟩:=i8 NK.kd;have T1:=tabs.same s1;refine⟨_,rfl,_,rfl,false,k,fl,tf,6,pl,p,rfl,NK.has,hw.gk,s1 _ _ hpl,by omega,T1,?_⟩;cases hG:(TK.group false k fl tf).b_ p with
 |none=>
  have e:Vacola.adds ⟨some tf.fs⟩ tf.fs p Tx=(⟨some tf.fs⟩,.refused (-4)):=by
   unfold Vacola.adds;rw[Iv hG]
  rw[e]at q;intro H2 s2 T2;refine gN ?_;exact⟨_,rfl,_,rfl,refuse q hx tabs hg ((cZ s1).trans s2) T2⟩
 |some g0=>
  obtain⟨c0,k0,gfl,gs,rfl⟩:=yi _ _ _ hG;intro H2 s2 T2;refine gN ?_;refine⟨_,rfl,_,rfl,?_⟩;refine(if_neg (by show¬false=true;decide)).mpr (nX ?_);dsimp only;have s02:bL tb H H2:=(cZ s1).trans s2;have hta2:=s02.lst tabs hta;refine aS ?_;refine⟨by show 1≤sizeLine;decide,fun l1 n1=>?_⟩;have sa:=aM (o:=HO.lst [V.int 123]) n1;refine⟨_,rfl,l1,ta,_,_,rfl,rfl,aj,sa _ _ hta2,?_,fun l2 n2=>?_⟩
  ·rw[bE,sizeLine_eq];show 1+_≤_;omega
  have sb:=sa.trans (aM (o:=HO.lst ([V.int 123]++aC Tx)) n2);refine⟨by show 1≤sizeLine;decide,fun l3 n3=>?_⟩;have l23:l2≠l3:=aV aj n3;have sc:=sb.trans (aM (o:=HO.lst [V.int 125]) n3);refine⟨l2,l3,_,_,rfl,rfl,(by rw[au l23];exact aj),aj,?_,fun l4 n4=>?_⟩
  ·rw[List.length_append,bE,sizeLine_eq];show 1+_+1≤_;omega
  generalize hH3:upd (upd (upd (upd H2 l1 (HO.lst [V.int 123])) l2 (HO.lst ([V.int 123]++aC Tx))) l3 (HO.lst [V.int 125])) l4 _=H3;have s3:aI H2 H3:=by rw[←hH3];exact sc.trans (aM n4)
  have h4:H3 l4=some (.lst (aC (123::(Tx++[125])))):=by
   rw[←hH3,aj];unfold aC;simp
  refine⟨l4,_,rfl,h4,?_⟩;have T3:=T2.same s3;have s03:bL tb H H3:=s02.trans (cZ s3)
  have inG1:∃f0,Vacola.inGroup id p tf.fs=some f0:=by
   obtain⟨f0,h,_⟩:=oV (G:=id) (g':=.group c0 k0 gfl gs) rfl p false k fl tf hG;exact⟨f0,h⟩
  obtain⟨f0,hf0⟩:=inG1;cases hR2:Vacola.readSchema (123::(Tx++[125]))with
  |error e2=>
   have e:Vacola.adds ⟨some tf.fs⟩ tf.fs p Tx=(⟨some tf.fs⟩,.refused (-5)):=by
    unfold Vacola.adds;rw[hf0,hR2]
   rw[e]at q;intro H4 s4;refine gN ?_;exact⟨_,rfl,_,rfl,refuse q hx tabs hg (s03.trans (cZ s4)) (T3.same s4)⟩
  |ok new=>
   intro H4 t2 s4 NK2;refine gN ?_;obtain⟨k2,fl2,tf2,rfl,rfl⟩:=i8 NK2.kd;refine⟨_,rfl,_,rfl,?_⟩;refine(if_neg (by show¬false=true;decide)).mpr (nX ?_);dsimp only;have hw2:=iw hR2;have T4:=T3.same s4;have s04:bL tb H H4:=s03.trans (cZ s4);have s14:bL tb H1 H4:=(s2.trans (cZ s3)).trans (cZ s4);have hk4:bK a H4 (.group false k fl tf):=NK.has.a_ (s14.a_ T1 NK.has.obj);have hg4:=q_ _ _ _ hG hk4;have ndG:=yj _ _ _ hG NK.nd;have hg4':=hg4;obtain⟨⟨dg,hg41⟩,hg42,hg43⟩:=hg4';have hn2:=NK2.has;obtain⟨⟨d2,hn21⟩,hn22,hn23⟩:=hn2;have gflin:gfl∈(TK.group false k fl tf).fp:=oR _ _ _ hG gfl (by simp[TK.fp]);have gflH:H gfl=Option.none:=NK.fr gfl gflin
   have gfl3:H3 gfl=some (.lst (gs.as.map V.ref)):=by
    have z:=q_ _ _ _ hG (NK.has.a_ (((s2.trans (cZ s3))).a_ T1 NK.has.obj));exact z.2.1
   have n2f:∀b∈(TK.group false k2 fl2 tf2).fp,b≠gfl:=fun b hb z=>by
    have:=NK2.fr b hb;rw[z,gfl3]at this;cases this
   rw[TK.fp,List.nodup_cons,List.nodup_cons]at ndG;have gI:∀y∈gs.items,bW a H4 y∧gfl∉y.fp:=fun y hy=>⟨dY.mp hg43 y hy,fun z=>ndG.2.1 (gE hy z)⟩
   have nI:∀y∈tf2.items,bW a H4 y∧gfl∉y.fp:=fun y hy=>⟨dY.mp hn23 y hy,fun z=>n2f gfl (by simp[TK.fp,gE hy z]) rfl⟩
   have OX:=oU (show cH gs.fs _ from(qZ _ _ _ 6 hG hw.gk).choose_spec.2.2.2);have len2:=oU hw2.wf;have keepI:∀{H':Hp}{y:Fi},(∀b,b≠gfl→H' b=H4 b)→bW a H4 y→gfl∉y.fp→bW a H' y:=fun hh hy hn=>hy.a_ ⟨fun b hb o z=>by rw[hh b (fun e=>hn (e▸hb))];exact z⟩
   have kgfl:k0≠gfl:=fun z=>ndG.1 (by rw[z];exact List.mem_cons_self)
   refine⟨_,rfl,k2,_,d2,_,_,rfl,hn21,T.bI,T.c8,eU,fl2,rfl,⟨_,ay.of hn22⟩,jH (xs:=tf2.as.map V.ref) (fun i σ H'=>∃v6,σ=[some (V.ref ho),some (V.ref pl),some (V.ref ta),some (V.ref k),some (V.ref k0),some (V.ref k2),v6]∧(∀b,b≠gfl→H' b=H4 b)∧H' gfl=some (.lst (refs (cT (tf2.items.take i) gs.items)))) ⟨Option.none,rfl,fun _ _=>rfl,?_⟩ (fun i σ H' _ ⟨_,_,hh,_⟩=>ay.of (by rw[hh fl2 (n2f fl2 (by simp[TK.fp]))];exact hn22)) ?_ ?_⟩
   ·rw[hg42]
    unfold refs TF.as;rw[List.map_map];rfl
   ·rintro i v σ H' hi ⟨v6,rfl,hh,hc⟩
    obtain⟨y,hyi,rfl,hy⟩:=qR hn23 hi;have hym:=List.mem_of_getElem? hyi;refine gN ?_;refine⟨_,rfl,_,rfl,k0,dg,gfl,_,_,cT (tf2.items.take i) gs.items,y,rfl,by rw[hh k0 kgfl];exact hg41,hc,fun z hz=>?_,keepI hh (nI y hym).1 (nI y hym).2,?_,_,rfl,fun b hb=>?_,?_⟩
    ·rcases sD.mp hz with hz|hz
     ·have:=nI z (List.mem_of_mem_take hz)
      exact keepI hh this.1 this.2
     ·exact keepI hh (gI z hz).1 (gI z hz).2
    ·rw[D7,List.length_take];omega
    ·rw[au hb];exact hh b hb
    ·rw[aj,take_snoc hyi,D4]
   ·rintro σ H6 ⟨v6,rfl,hh,hc⟩
    rw[List.length_map,TF.i_,List.take_length]at hc
    have eG:(TK.group c0 k0 gfl (TF.of (cT tf2.items gs.items))).kd=.group c0 ((fun z=>tf2.fs.merge z) gs.fs):=by
     show Vacola.Kind.group c0 (TF.of (cT tf2.items gs.items)).fs=_;rw[D0,TF.fL,TF.fL]
    obtain⟨f1,hf1,hf1k⟩:=oV (G:=fun z=>tf2.fs.merge z) eG p false k fl tf hG
    have e:Vacola.adds ⟨some tf.fs⟩ tf.fs p Tx=Vacola.settle ⟨some tf.fs⟩ f1:=by
     unfold Vacola.adds;rw[hf0,hR2];dsimp only;rw[hf1];rfl
    rw[e]at q
    have hg6:bK a H6 (.group c0 k0 gfl (TF.of (cT tf2.items gs.items))):=by
     refine⟨⟨dg,by rw[hh k0 kgfl];exact hg41⟩,?_,dY.mpr fun z hz=>?_⟩
     ·rw[hc];unfold refs TF.as;rw[TF.gV,List.map_map];rfl
     ·rw[TF.gV]at hz
      rcases sD.mp hz with hz|hz
      ·exact keepI hh (nI z hz).1 (nI z hz).2
      ·exact keepI hh (gI z hz).1 (gI z hz).2
    have hk6:=yh (g0:=.group c0 k0 gfl gs) (g':=.group c0 k0 gfl (TF.of (cT tf2.items gs.items))) rfl hg6 p _ hk4 hG NK.nd fun b hb hn o z=>by
     rw[hh b (fun e=>hn (by rw[e];simp[TK.fp]))];exact z
    obtain⟨d',hd',wG⟩:=qZ _ _ _ 6 hG hw.gk
    have wG':dF (TK.group c0 k0 gfl (TF.of (cT tf2.items gs.items))).kd 6:=by
     refine⟨by decide,A1 fun z hz=>?_⟩;rcases sD.mp hz with hz|hz
     ·have:=hw2.wf.item hz
      exact⟨this.1,this.2.wr⟩
     ·have:=(show cH gs.fs (d'-1)from wG.2.2).item hz
      exact⟨this.1,this.2.wr.mono (by omega)⟩
    have hwr:=sE wG' p _ 6 hG hw.gk.wr;have hlen:=sG (g':=.group c0 k0 gfl (TF.of (cT tf2.items gs.items))) p _ hG
    have k6:∀b o,H b=some o→(∀i<6,b≠tb i)→H6 b=some o:=fun b o z n=>by
     rw[hh b (aV z gflH)];exact s04 b o z n
    have T6:bz tb H6:=by
     refine T4.keeps (r:=gfl) (fun b o z n=>?_) hg42 oh (fun φ z=>by cases z);rw[hh b n];exact z
    have at6:((TK.group false k fl tf).fS p fun _=>.group c0 k0 gfl (TF.of (cT tf2.items gs.items))).at=k:=TK.r9 (g:=fun _=>.group c0 k0 gfl (TF.of (cT tf2.items gs.items))) (t':=.group c0 k0 gfl gs) rfl p _ hG;refine⟨_,rfl,_,rfl,?_⟩;have z:=CG q hx tabs hg hog k6 T6 hk6 hf1k hwr ?_ (tabs.ne hog oh)
    ·rw[at6]at z;exact z
    ·have b1:=El tf2.items gs.items
     rw[TF.fL,TF.fL]at b1;have b2:=hw2.len;have b3:=hw.len;unfold Vacola.showSchema at b2 b3
     have e1:(Vacola.showKind (TK.group c0 k0 gfl (TF.of (cT tf2.items gs.items))).kd).length=(Vacola.showFields (TF.of (cT tf2.items gs.items)).fs).length+2:=by
      show(Vacola.showKind (.group c0 _)).length=_;rw[Vacola.showKind];simp
     have e2:(Vacola.showKind (TK.group c0 k0 gfl gs).kd).length=(Vacola.showFields gs.fs).length+2:=by
      show(Vacola.showKind (.group c0 _)).length=_;rw[Vacola.showKind];simp
     have e3:(Vacola.showKind (TK.group false k fl tf).kd).length=(Vacola.showKind (.group false tf.fs)).length:=rfl
     have e4:(Vacola.showKind (.group false tf2.fs)).length=(Vacola.showFields tf2.fs).length+2:=by
      rw[Vacola.showKind];simp
     omega
theorem OY{g:Int→Vacola.Fields→Vacola.Fields}{p:List Int}{tf:TF}(h:(bq aW p tf).bind List.getLast?=Option.none):Vacola.onField g p tf.fs=Option.none:=by
 unfold Vacola.onField;cases p.getLast? with
 |none=>rfl
 |some n=>rw[oO,h];rfl
theorem HP{g:Int→Vacola.Fields→Vacola.Fields}{p:List Int}{n:Int}{tf:TF}{x:Fi}(h:(bq aW p tf).bind List.getLast?=some x)(hn:p.getLast?=some n):Vacola.onField g p tf.fs=Vacola.inGroup (g n) p.dropLast tf.fs:=by
 unfold Vacola.onField;rw[hn,oO,h];rfl
theorem HQ{p:List Int}{t:TK}{x:Fi}(h:(bq aW p t.sub).bind List.getLast?=some x):∃g0 n,t.b_ p.dropLast=some g0∧p.getLast?=some n∧g0.sub.items.find? (fun y=>aW y.h n)=some x:=by
 cases hl:bq aW p t.sub with
 |none=>rw[hl]at h;cases h
 |some l=>
  rw[hl]at h
  have hne:p≠[]:=by
   rintro rfl;cases hl;cases h
  exact Dr p t l x hne hl h
theorem sF{K:PySem.W.Frag}{ta te:TE}{m:Str}{u:TS}{D:Ends}{σ:L2.St}{H:Hp}(h:Bo K ta te m {D with nx:=fun σ' H'=>u D σ' H'} σ H):jG (Bo K ta te m) u D σ H:=h
inductive yl(a:aH)(tb:Tb)(vs:List V)(H:Hp)(Q:VK)(E:XK):Prop
 |mk:∀(ho g:Addr)(xs:List V)(fs:Vacola.Fields)(pl:Addr)(p:List Int),vs=[.ref ho,.ref pl]→dD a H ho g fs→bz tb H→ho≠g→H g=some (.lst xs)→H pl=some (.lst (p.map V.int))→p.length≤100→(ig a tb H ho g fs (Vacola.settles ⟨some fs⟩ (Vacola.onField (fun n gs=>gs.remove n) p fs)) Q)→yl a tb vs H Q E
theorem OZ{f:Addr}{fd:FuncData}{tb:Tb}(F:aK K "reply_drop" "reply_drop" pR f fd)(T:Txt K mg a)(m_Holder_schema_to_change:bG P w K mg base af 28 a.cF "schema_to_change" ["self"] (nU a))(c_field_or_none:ao P w K mg base af 5 "field_or_none" ["schema","path"] (oq a tb))(c_group_or_none:ao P w K mg base af 6 "group_or_none" ["schema","path"] (qY a tb))(c_settle:ao P w K mg base af 30 "settle" ["holder","changed"] (lZ a tb)):aF P w K mg base af 31 f fd ["holder","path"] (yl a tb):=by
 refine F.ok p9 (fun vs H Q E h=>by obtain⟨ho,g,xs,fs,pl,p,rfl,_⟩:=h;rfl) (fun cdv A outer s H vs Q E hr h=>?_);obtain⟨ho,g,xs,fs,pl,p,rfl,hx,tabs,hg,hog,hpl,hp,q⟩:=h;refine⟨_,(ai (aO (i:=2) p9.nd rfl (Or.inl rfl) (bR (pv 0) T.dN m_Holder_schema_to_change (hr.mono (by decide)) az)) (ai (aU (iQ (je (aG c_field_or_none (hr.mono (by decide)) rfl az (aa (pv 2) (aa (pv 1) ah))))) (aq (aB (bM (aa (aA T.kH) ah)))) aX) (ai (aO (i:=3) p9.nd rfl (Or.inl rfl) (aG c_group_or_none (hr.mono (by decide)) rfl az (aa (pv 2) (aa (lz mW (pv 1) tw (jj (sP sR aN))) ah)))) (ai (cM (pv 3) (pA (own:=[("field",4)]) rfl p9.nd (gu (aD (pv 3) rfl)) (show iz ["holder","path","schema","group","field"] (aE pR) _ _ from⟨rfl,by decide+kernel,by decide+kernel,by decide+kernel,by decide+kernel⟩) (fun _ _ _ _ _=>(dR (i:=4) p9.nd rfl (Or.inl rfl))) (fun _ _ _ _ _=>(tH (aY f9 (qS (K:=K) rfl (pv 4) rfl) (bQ (Cv (K:=K) rfl) (pv 1) (sP sR aN) (fun _ _=>rfl)) (aQ _)))) (fun _ _ _ _ _=>(pv 4))) rfl) (aq (aB (aG c_settle (hr.mono (by decide)) rfl az (aa (pv 0) (aa (pv 2) ah))))))))),?_⟩;have hx':=hx;obtain⟨d,t0,ta0,hho,hk0,hkd0,hta0,hR,g1,g2⟩:=hx';have hw:=iw hR;have hLINE:dB=100000:=rfl;refine⟨_,rfl,ho,d,_,rfl,hho,qJ (by decide+kernel),ho,d,_,ta0,_,fs,rfl,hho,hta0,hR,fun H1 t s1 NK=>?_⟩;refine gN ?_;obtain⟨k,fl,tf,rfl,rfl⟩:=i8 NK.kd;have T1:=tabs.same s1;refine⟨_,rfl,_,rfl,.group false k fl tf,6,pl,p,rfl,NK.has,hw.gk,s1 _ _ hpl,by omega,T1,?_⟩;cases hF:(bq aW p (TK.group false k fl tf).sub).bind List.getLast? with
 |none=>
  rw[OY (tf:=tf) hF]at q;intro H2 s2 T2;exact⟨_,rfl,refuse q hx tabs hg ((cZ s1).trans s2) T2⟩
 |some x=>
  obtain⟨g0,n,hG,hn,hfx⟩:=HQ hF;rw[HP (tf:=tf) hF hn]at q;obtain⟨c0,k0,gfl,gs,rfl⟩:=yi _ _ _ hG;intro H2 s2 T2;refine⟨_,rfl,?_⟩;refine(if_neg (by show¬false=true;decide)).mpr (nX ?_);dsimp only;have s02:bL tb H H2:=(cZ s1).trans s2;have hpl2:=s02.lst tabs hpl;refine aS ?_;refine⟨_,rfl,_,rfl,_,rfl,_,rfl,pl,_,rfl,ay.of hpl2,fun l1 n1=>?_⟩;have ec:eu (p.map V.int) Option.none (some (-1))=p.dropLast.map V.int:=by rw[Of,List.map_dropLast]
  rw[ec];have sa:=aM (o:=HO.lst (p.dropLast.map V.int)) n1;have s12:bL tb H1 (upd H2 l1 (HO.lst (p.dropLast.map V.int))):=s2.trans (cZ sa);have hkA:=NK.has.a_ (s12.a_ T1 NK.has.obj);refine⟨false,k,fl,tf,6,l1,p.dropLast,rfl,hkA,hw.gk,aj,by rw[List.length_dropLast];omega,T2.same sa,?_⟩;rw[hG];intro H4 s4 T4;refine gN ?_;have s04:bL tb H H4:=(s02.trans (cZ sa)).trans s4;have s14:bL tb H1 H4:=s12.trans s4;have hpl4:=s04.lst tabs hpl;have hk4:bK a H4 (.group false k fl tf):=NK.has.a_ (s14.a_ T1 NK.has.obj);have hg4:=q_ _ _ _ hG hk4;have ndG:=yj _ _ _ hG NK.nd;have hg4':=hg4;obtain⟨⟨dg,hg41⟩,hg42,hg43⟩:=hg4';rw[TK.fp,List.nodup_cons,List.nodup_cons]at ndG;obtain⟨d',hd',wG⟩:=qZ _ _ _ 6 hG hw.gk;have wgs:cH gs.fs (d'-1):=wG.2.2;have OX:=oU wgs;have k0in:k0∈(TK.group false k fl tf).fp:=oR _ _ _ hG k0 (by simp[TK.fp]);have k0H:H k0=Option.none:=NK.fr k0 k0in;refine sF ?_;refine nP (xs:=gs.as.map V.ref) H4 gfl (fun R h=>⟨_,rfl,k0,_,dg,_,_,rfl,hg41,T.bI,T.c8,eU,h⟩) (ay.of hg42) fun D hD=>⟨fun j H5=>aI H4 H5∧H5 D=some (.lst (refs ((gs.items.take j).filter fun y=>decide ((y.h.number:Int)≠n)))),⟨aM hD,aj⟩,(fun j H5 _ ⟨h1,_⟩=>ay.of (h1 _ _ hg42)),?_,?_⟩
  ·rintro j v H5 hj ⟨h1,h2⟩
   obtain⟨y,hyj,rfl,hy⟩:=qR hg43 hj;obtain⟨⟨dy,hy1⟩,_⟩:=hy;refine⟨rfl,_,rfl,y.f,_,dy,_,_,rfl,h1 _ _ hy1,T.bC,T.gh,iF,_,rfl,_,rfl,pl,_,_,(.int n),rfl,rfl,ay.of (h1 _ _ hpl4),HA (by rw[List.getLast?_map,hn];rfl),rfl,_,rfl,?_⟩;rw[ia]
   have tk:(gs.items.take (j+1)).filter (fun y=>decide ((y.h.number:Int)≠n))=(gs.items.take j).filter (fun y=>decide ((y.h.number:Int)≠n))++if decide ((y.h.number:Int)≠n)=true then[y]else[]:=by
    rw[take_snoc hyj,List.filter_append,List.filter_cons,List.filter_nil]
   refine bB (fun c=>?_) (fun c=>?_)
   ·rw[if_pos c]at tk
    refine⟨_,rfl,_,h2,?_,fun b o h=>?_,?_⟩
    ·have:=List.length_filter_le (fun y:Fi=>decide ((y.h.number:Int)≠n)) (gs.items.take j)
     rw[List.length_take]at this;unfold refs;rw[List.length_map,sizeLine_eq];omega
    ·rw[au (aV h hD)];exact h1 b o h
    ·rw[aj,tk];unfold refs;rw[List.map_append];rfl
   ·rw[if_neg c,List.append_nil]at tk
    exact⟨h1,by rw[tk];exact h2⟩
  ·rintro H5 ⟨s5,hD5⟩
   rw[List.length_map,TF.i_,List.take_length]at hD5;refine⟨_,rfl,k0,_,dg,_,rfl,s5 _ _ hg41,T.bI,T.c8,(by show 3<1000;decide),?_⟩;generalize hH6:upd H5 k0 _=H6;have h6k:H6 k0=some (.ins a.b7 dg (gA ((Vacola.openSign c0:Nat):Int) 0 D)):=by rw[←hH6,aj];rfl
   have hh:∀b,b≠k0→H6 b=H5 b:=fun b hb=>by rw[←hH6,au hb]
   have Dk:D≠k0:=fun z=>by rw[z,hg41]at hD;cases hD
   generalize hl':gs.items.filter (fun y=>decide ((y.h.number:Int)≠n))=l' at hD5;have memF:∀y∈l',y∈gs.items:=fun y hy=>by rw[←hl']at hy;exact(List.mem_filter.mp hy).1
   have eG:(TK.group c0 k0 D (TF.of l')).kd=.group c0 ((fun z=>z.remove n) gs.fs):=by
    show Vacola.Kind.group c0 (TF.of l').fs=_;rw[←hl',Eb gs.items (d'-1) (by rw[TF.fL];exact wgs),TF.fL]
   obtain⟨f1,hf1,hf1k⟩:=oV (G:=fun z=>z.remove n) eG p.dropLast false k fl tf hG;rw[hf1]at q
   have hg6:bK a H6 (.group c0 k0 D (TF.of l')):=by
    refine⟨⟨dg,h6k⟩,?_,dY.mpr fun z hz=>?_⟩
    ·rw[hh D Dk,hD5];unfold refs TF.as;rw[TF.gV,List.map_map];rfl
    ·rw[TF.gV]at hz
     have hzm:=memF z hz;refine(dY.mp hg43 z hzm).a_ ⟨fun b hb o h=>?_⟩;rw[hh b]
     ·exact s5 _ _ h
     ·rintro rfl
      exact ndG.1 (List.mem_cons_of_mem _ (gE hzm hb))
   have hk6:=yh (g0:=.group c0 k0 gfl gs) (g':=.group c0 k0 D (TF.of l')) rfl hg6 p.dropLast _ hk4 hG NK.nd fun b hb hn o z=>by
    rw[hh b (fun e=>hn (by rw[e];simp[TK.fp]))];exact s5 _ _ z
   have wG':dF (TK.group c0 k0 D (TF.of l')).kd 6:=by
    refine⟨by decide,A1 fun z hz=>?_⟩;have:=wgs.item (memF z hz);exact⟨this.1,this.2.wr.mono (by omega)⟩
   have hwr:=sE wG' p.dropLast _ 6 hG hw.gk.wr;have hlen:=sG (g':=.group c0 k0 D (TF.of l')) p.dropLast _ hG
   have k6:∀b o,H b=some o→(∀i<6,b≠tb i)→H6 b=some o:=fun b o z n=>by
    rw[hh b (aV z k0H)];exact s5 _ _ (s04 b o z n)
   have T6:bz tb H6:=by
    refine(T4.same s5).keeps (r:=k0) (fun b o z n=>?_) (s5 _ _ hg41) lY qW;rw[hh b n];exact z
   have at6:((TK.group false k fl tf).fS p.dropLast fun _=>.group c0 k0 D (TF.of l')).at=k:=TK.r9 (g:=fun _=>.group c0 k0 D (TF.of l')) (t':=.group c0 k0 gfl gs) rfl p.dropLast _ hG;refine⟨_,rfl,_,rfl,?_⟩;have z:=CG q hx tabs hg hog k6 T6 hk6 hf1k hwr ?_ (tabs.ne hog oh)
   ·rw[at6]at z;exact z
   ·have b1:=Em (fun y=>decide ((y.h.number:Int)≠n)) gs.items
    rw[hl',TF.fL]at b1;have b3:=hw.len;unfold Vacola.showSchema at b3
    have e1:(Vacola.showKind (TK.group c0 k0 D (TF.of l')).kd).length=(Vacola.showFields (TF.of l').fs).length+2:=by
     show(Vacola.showKind (.group c0 _)).length=_;rw[Vacola.showKind];simp
    have e2:(Vacola.showKind (TK.group c0 k0 gfl gs).kd).length=(Vacola.showFields gs.fs).length+2:=by
     show(Vacola.showKind (.group c0 _)).length=_;rw[Vacola.showKind];simp
    have e3:(Vacola.showKind (TK.group false k fl tf).kd).length=(Vacola.showKind (.group false tf.fs)).length:=rfl;omega
def l0(a:aH)(H:Hp)(x:Fi)(bad:Int)(Q:VK):Option (Vacola.Head×Vacola.Kind)→Prop
 |Option.none=>∀H',aI H H'→Q (.int bad) H'
 |some y=>∀H' x',Keeps H H' x.f→x'.f=x.f→x'.h=y.1→x'.k.kd=y.2→bW a H' x'→Q (.int 0) H'
theorem rj{H H':Hp}{x:Fi}(hx:bW a H x)(nd:x.fp.Nodup)(k:Keeps H H' x.f):H' x.nm=some (.lst (aC x.h.name))∧iD H' x.h.dflt x.da∧bK a H' x.k:=by
 obtain⟨_,h2,h3,h4⟩:=hx;unfold Fi.fp at nd;rw[List.nodup_cons]at nd;have n:∀b∈x.nm::(dU x.h.dflt x.da++x.k.fp),b≠x.f:=fun b hb z=>nd.1 (z▸hb)
 exact⟨k _ _ h2 (n _ (by simp)),h3.a_ ⟨fun b hb o z=>k b o z (n b (by simp[hb]))⟩,h4.a_ ⟨fun b hb o z=>k b o z (n b (by simp[hb]))⟩⟩
def l_(T:List Nat)(h:Vacola.Head)(k:Vacola.Kind):Option (Vacola.Head×Vacola.Kind):=if Vacola.goodName T then some ({h with name:=T},k)else Option.none
inductive rm(a:aH)(vs:List V)(H:Hp)(Q:VK)(E:XK):Prop
 |mk:∀(x:Fi)(ta:Addr)(T:List Nat),vs=[.ref x.f,.ref ta]→bW a H x→x.fp.Nodup→H ta=some (.lst (aC T))→T.length≤5000→l0 a H x (-5) Q (l_ T x.h x.k.kd)→rm a vs H Q E
theorem O0{f:Addr}{fd:FuncData}(F:aK K "change_name" "change_name" uQ f fd)(T:Txt K mg a)(c_is_name:ao P w K mg base af 3 "is_name" ["text"] (qB K)):aF P w K mg base af 4 f fd ["field","text"] (rm a):=by
 refine F.ok L5 (fun vs H Q E h=>by obtain⟨x,ta,T,rfl,_⟩:=h;rfl) (fun cdv A outer s H vs Q E hr h=>?_);obtain⟨x,ta,Tx,rfl,hx,nd,hta,hT,q⟩:=h;refine⟨_,(ai (aU (jf (c9 (aG c_is_name (hr.mono (by decide)) rfl az (aa (pv 1) ah)))) (aq (aB (aA T.lK))) aX) (ai (cM (pv 0) (pv 1) rfl) (aq (aB aN)))),?_⟩;refine⟨_,rfl,ta,Tx,rfl,ay.of hta,hT,fun H1 s1=>⟨_,rfl,?_⟩⟩;unfold l_ at q;cases hg:Vacola.goodName Tx with
 |false=>
  rw[hg]at q;exact q H1 s1
 |true=>
  rw[hg]at q;have hx1:=hx.a_ (bZ.of_same s1);obtain⟨⟨d,h1⟩,_⟩:=id hx1;refine⟨_,rfl,_,rfl,x.f,_,d,_,rfl,h1,T.bC,T.iX,(by show 5<1000;decide),?_⟩;generalize hH2:upd H1 x.f _=H2;have k2:Keeps H1 H2 x.f:=fun b o z n=>by rw[←hH2,au n];exact z
  have taf:ta≠x.f:=fun z=>by have:=s1 _ _ hta;rw[z,h1]at this;cases this
  obtain⟨r1,r2,r3⟩:=rj hx1 nd k2;exact q H2 ⟨{x.h with name:=Tx},x.f,ta,x.da,x.k⟩ (fun b o z n=>k2 _ _ (s1 _ _ z) n) rfl rfl rfl ⟨⟨d,by rw[←hH2,aj];rfl⟩,k2 _ _ (s1 _ _ hta) taf,r2,r3⟩
def modeV:Option Vacola.Mode→Int
 |Option.none=>-1
 |some m=>(Vacola.showMode m:Nat)
inductive yo(vs:List V)(H:Hp)(Q:VK)(E:XK):Prop
 |mk:∀n:Int,vs=[.int n]→(∀H',aI H H'→Q (.int (modeV (Vacola.modeAt n))) H')→yo vs H Q E
theorem O1{f:Addr}{fd:FuncData}(F:aK K "mode_by_number" "mode_by_number" tY f fd)(T:Txt K mg a):aF P w K mg base af 1 f fd ["number"] yo:=by
 refine F.ok Gb (fun vs H Q E h=>by obtain⟨n,rfl,_⟩:=h;rfl) (fun cdv A outer s H vs Q E hr h=>?_);obtain⟨n,rfl,q⟩:=h;refine⟨_,(ai (aO (i:=1) Gb.nd rfl (Or.inl rfl) (Bp (aa (aA T.jm) (aa (aA T.qh) (aa (aA T.lG) (aa (aA T.kG) ah)))))) (ai (aU (sV gw jh aN (pv 0) (bP cC rfl T.bY PySem.boot_len (aa (pv 1) ah))) (aq (aB (bQ By (pv 1) (pv 0) (fun _ _=>rfl)))) aX) (aq (aB (aA T.nB))))),?_⟩;refine⟨by show 4≤sizeLine;decide,fun p hp=>?_⟩;refine gN ?_;have s1:aI H (upd H p (.tup [V.int 33,V.int 63,V.int 42,V.int 37])):=aM hp;have hat:dW K (upd H p (.tup [V.int 33,V.int 63,V.int 42,V.int 37])) p [V.int 33,V.int 63,V.int 42,V.int 37]:=dW.of aj
 have no:¬(0≤n∧n<4)→modeV (Vacola.modeAt n)=-1:=fun h=>by
  have e:Vacola.modeAt n=Option.none:=by
   unfold Vacola.modeAt;rw[if_neg (by omega),if_neg (by omega),if_neg (by omega),if_neg (by omega)]
  rw[e];rfl
 refine⟨_,rfl,_,_,rfl,rfl,_,rfl,?_⟩;refine bB (fun c=>?_) (fun c=>?_)
 ·have c':0≤n:=of_decide_eq_true c
  refine⟨_,rfl,p,_,rfl,.inr hat,_,_,rfl,rfl,_,rfl,?_⟩;refine bB (fun c2=>?_) (fun c2=>?_)
  ·have c2':n<4:=of_decide_eq_true c2
   have h4:n=0∨n=1∨n=2∨n=3:=by omega
   rcases h4 with rfl|rfl|rfl|rfl
   ·exact⟨_,rfl,_,rfl,p,_,_,_,rfl,rfl,hat,rfl,q _ s1⟩
   ·exact⟨_,rfl,_,rfl,p,_,_,_,rfl,rfl,hat,rfl,q _ s1⟩
   ·exact⟨_,rfl,_,rfl,p,_,_,_,rfl,rfl,hat,rfl,q _ s1⟩
   ·exact⟨_,rfl,_,rfl,p,_,_,_,rfl,rfl,hat,rfl,q _ s1⟩
  ·have c2':¬n<4:=of_decide_eq_false (Bool.eq_false_iff.mpr c2)
   have z:=q _ s1;rw[no (by omega)]at z;exact z
 ·have c':¬0≤n:=of_decide_eq_false (Bool.eq_false_iff.mpr c)
  have z:=q _ s1;rw[no (by omega)]at z;exact⟨_,rfl,z⟩
def mh(m:Int)(h:Vacola.Head)(k:Vacola.Kind):Option (Vacola.Head×Vacola.Kind):=(Vacola.modeAt m).map fun x=>({h with mode:=x},k)
inductive rq(a:aH)(vs:List V)(H:Hp)(Q:VK)(E:XK):Prop
 |mk:∀(x:Fi)(n:Int),vs=[.ref x.f,.int n]→bW a H x→x.fp.Nodup→l0 a H x (-6) Q (mh n x.h x.k.kd)→rq a vs H Q E
theorem O2{f:Addr}{fd:FuncData}(F:aK K "change_mode" "change_mode" uR f fd)(T:Txt K mg a)(c_mode_by_number:ao P w K mg base af 1 "mode_by_number" ["number"] yo):aF P w K mg base af 2 f fd ["field","number"] (rq a):=by
 refine F.ok Gs (fun vs H Q E h=>by obtain⟨x,n,rfl,_⟩:=h;rfl) (fun cdv A outer s H vs Q E hr h=>?_);obtain⟨x,n,rfl,hx,nd,q⟩:=h;refine⟨_,(ai (aO (i:=2) Gs.nd rfl (Or.inl rfl) (aG c_mode_by_number (hr.mono (by decide)) rfl az (aa (pv 1) ah))) (ai (aU (aY bF (pv 2) (aA T.nB) (aQ _)) (aq (aB (aA T.wu))) aX) (ai (cM (pv 0) (pv 2) rfl) (aq (aB aN))))),?_⟩;refine⟨_,rfl,n,rfl,fun H1 s1=>?_⟩;refine gN ?_;unfold mh at q;refine⟨_,rfl,rfl,_,rfl,?_⟩;rw[bJ];cases hm:Vacola.modeAt n with
 |none=>
  rw[hm]at q;exact q H1 s1
 |some m=>
  rw[hm]at q;refine(if_neg (by rw[decide_eq_true_iff];show¬((Vacola.showMode m:Nat):Int)=-1;omega)).mpr (nX ?_);dsimp only;have hx1:=hx.a_ (bZ.of_same s1);obtain⟨⟨d,h1⟩,_⟩:=id hx1;refine⟨_,rfl,_,rfl,x.f,_,d,_,rfl,h1,T.bC,T.gK,(by show 5<1000;decide),?_⟩;generalize hH2:upd H1 x.f _=H2;have k2:Keeps H1 H2 x.f:=fun b o z n=>by rw[←hH2,au n];exact z
  obtain⟨r1,r2,r3⟩:=rj hx1 nd k2;exact q H2 ⟨{x.h with mode:=m},x.f,x.nm,x.da,x.k⟩ (fun b o z n=>k2 _ _ (s1 _ _ z) n) rfl rfl rfl ⟨⟨d,by rw[←hH2,aj];rfl⟩,r1,r2,r3⟩
def HR(a:aH)(H:Hp)(Q:VK):Option Vacola.Kind→Prop
 |Option.none=>∀H',aI H H'→Q .aP H'
 |some k=>∀H' t,aI H H'→kO a H H' t k→Q (.ref t.at) H'
inductive yp(a:aH)(vs:List V)(H:Hp)(Q:VK)(E:XK):Prop
 |mk:∀(ta:Addr)(T:List Nat),vs=[.ref ta]→H ta=some (.lst (aC T))→T.length≤5000→HR a H Q (Vacola.kindOf T)→yp a vs H Q E
theorem O3{f:Addr}{fd:FuncData}(F:aK K "kind_or_none" "kind_or_none" uT f fd)(T:Txt K mg a)(c_schema_or_none:ao P w K mg base af 28 "schema_or_none" ["text"] (qI a)):aF P w K mg base af 29 f fd ["text"] (yp a):=by
 refine F.ok Gv (fun vs H Q E h=>by obtain⟨ta,T,rfl,_⟩:=h;rfl) (fun cdv A outer s H vs Q E hr h=>?_);obtain⟨ta,Tx,rfl,hta,hT,q⟩:=h;refine⟨_,(ai (aO (i:=1) Gv.nd rfl (Or.inl rfl) (aG c_schema_or_none (hr.mono (by decide)) rfl az (aa (bU gg (bU gg (bM (aa (aA T.iW) (aa (aA T.qi) (aa (aA T.lJ) (aa (aA T.jm) ah))))) (pv 0)) (bM (aa (aA T.lF) ah))) ah))) (ai (aU (PW.pt (f7 (iQ (je (pv 1))) (f7 (aY ji (bP cC rfl T.bY PySem.boot_len (aa (aD (pv 1) rfl) ah)) aN (aQ _)) (iR (iQ (Jv (aD (bQ cA (aD (pv 1) rfl) aN (fun _ _=>rfl)) rfl))))))) (aq (aB jd)) aX) (aq (aB (aD (bQ cA (aD (pv 1) rfl) aN (fun _ _=>rfl)) rfl))))),?_⟩;refine⟨by show 4≤sizeLine;decide,fun l1 n1=>?_⟩;have sa:=aM (o:=HO.lst [V.int 123,V.int 49,V.int 97,V.int 33]) n1;refine⟨_,rfl,l1,ta,_,_,rfl,rfl,aj,sa _ _ hta,?_,fun l2 n2=>?_⟩
 ·rw[bE,sizeLine_eq];show 4+_≤_;omega
 have sb:=sa.trans (aM (o:=HO.lst ([V.int 123,V.int 49,V.int 97,V.int 33]++aC Tx)) n2);refine⟨by show 1≤sizeLine;decide,fun l3 n3=>?_⟩;have l23:l2≠l3:=aV aj n3;have sc:=sb.trans (aM (o:=HO.lst [V.int 125]) n3);refine⟨l2,l3,_,_,rfl,rfl,(by rw[au l23];exact aj),aj,?_,fun l4 n4=>?_⟩
 ·rw[List.length_append,bE,sizeLine_eq];show 4+_+1≤_;omega
 generalize hH3:upd (upd (upd (upd H l1 (HO.lst [V.int 123,V.int 49,V.int 97,V.int 33])) l2 (HO.lst ([V.int 123,V.int 49,V.int 97,V.int 33]++aC Tx))) l3 (HO.lst [V.int 125])) l4 _=H3;have s3:aI H H3:=by rw[←hH3];exact sc.trans (aM n4)
 have h4:H3 l4=some (.lst (aC ([123,49,97,33]++(Tx++[125])))):=by
  rw[←hH3,aj];unfold aC;simp
 refine⟨l4,_,rfl,h4,?_⟩;unfold Vacola.kindOf at q;cases hR:Vacola.readSchema ([123,49,97,33]++(Tx++[125]))with
 |error e=>
  rw[hR]at q;intro H4 s4;refine gN ?_;exact⟨_,rfl,_,rfl,q H4 (s3.trans s4)⟩
 |ok fs=>
  rw[hR]at q;intro H4 t s4 NK;refine gN ?_;have s04:=s3.trans s4;have hw:=iw hR;obtain⟨k,fl,tf,rfl,rfl⟩:=i8 NK.kd;have hk:=NK.has;obtain⟨⟨dk,hk1⟩,hk2,hk3⟩:=hk;refine⟨_,rfl,_,rfl,?_⟩;refine(if_neg (by show¬false=true;decide)).mpr ?_;refine⟨_,rfl,k,_,dk,_,_,rfl,hk1,T.bI,T.c8,eU,fl,_,rfl,.inl (ay.of hk2),_,_,rfl,rfl,_,rfl,?_⟩
  have hne:tf.items≠[]:=fun z=>hw.ne (by
   have:=TF.fL tf;rw[z]at this;rw[←this];rfl)
  obtain⟨x,r,hxr⟩:=List.exists_cons_of_ne_nil hne
  have etf:tf.fs=.cons x.h x.k.kd (TF.of r).fs:=by
   have:=TF.fL tf;rw[hxr]at this;rw[←this];rfl
  rw[etf]at q;have hl:(tf.as.map V.ref).length=r.length+1:=by rw[List.length_map,TF.i_,hxr];rfl
  rw[hl];refine bB (fun c=>?_) (fun c=>?_)
  ·have c':(1:Int)<((r.length+1:Nat):Int):=of_decide_eq_true c
   cases r with
   |nil=>exact absurd c' (by decide)
   |cons y r=>exact q H4 s04
  ·have c':¬(1:Int)<((r.length+1:Nat):Int):=of_decide_eq_false (Bool.eq_false_iff.mpr c)
   have er:r=[]:=List.length_eq_zero_iff.mp (by omega);subst er;have hxm:x∈tf.items:=by rw[hxr];exact List.mem_cons_self
   have hI:=dY.mp hk3 x hxm;obtain⟨⟨dx,hx1⟩,hx2,hx3,hx4⟩:=id hI;have hat:(tf.as.map V.ref)[0]? =some (.ref x.f):=by unfold TF.as;rw[hxr];rfl
   refine⟨_,rfl,k,_,dk,_,_,rfl,hk1,T.bI,T.c8,eU,fl,_,_,(.ref x.f),rfl,rfl,ay.of hk2,at_of (j:=0) rfl hat,x.f,_,dx,_,_,rfl,hx1,T.bC,T.iY,xE,_,rfl,?_⟩;have q':HR a H Q (if x.h.dflt=Option.none then some x.k.kd else Option.none):=q;cases hd:x.h.dflt with
   |some v=>
    rw[hd,if_neg (by simp)]at q';cases v with
    |num z=>exact q' H4 s04
    |str z=>exact q' H4 s04
   |none=>
    rw[hd,if_pos rfl]at q';refine(if_neg (by show¬false=true;decide)).mpr (nX ?_);dsimp only;refine⟨_,rfl,k,_,dk,_,_,rfl,hk1,T.bI,T.c8,eU,fl,_,_,(.ref x.f),rfl,rfl,ay.of hk2,at_of (j:=0) rfl hat,x.f,_,dx,_,_,rfl,hx1,T.bC,T.e_,gC,?_⟩;have nd:=NK.nd;rw[TK.fp,List.nodup_cons,List.nodup_cons]at nd;exact q' H4 x.k s04 ⟨hx4,rfl,nd.2.2.sublist (CF.trans (yg hxm)),fun b hb=>s3.free (NK.fr b (by simp[TK.fp,gE hxm (k9 hb)]))⟩
def mj(T:List Nat)(h:Vacola.Head)(_:Vacola.Kind):Option (Vacola.Head×Vacola.Kind):=(Vacola.kindOf T).map fun k=>(h,k)
inductive rz(a:aH)(vs:List V)(H:Hp)(Q:VK)(E:XK):Prop
 |mk:∀(x:Fi)(ta:Addr)(T:List Nat),vs=[.ref x.f,.ref ta]→bW a H x→x.fp.Nodup→H ta=some (.lst (aC T))→T.length≤5000→l0 a H x (-5) Q (mj T x.h x.k.kd)→rz a vs H Q E
theorem O4{f:Addr}{fd:FuncData}(F:aK K "change_kind" "change_kind" uS f fd)(T:Txt K mg a)(c_kind_or_none:ao P w K mg base af 29 "kind_or_none" ["text"] (yp a)):aF P w K mg base af 30 f fd ["field","text"] (rz a):=by
 refine F.ok Gu (fun vs H Q E h=>by obtain⟨x,ta,T,rfl,_⟩:=h;rfl) (fun cdv A outer s H vs Q E hr h=>?_);obtain⟨x,ta,Tx,rfl,hx,nd,hta,hT,q⟩:=h;refine⟨_,(ai (aO (i:=2) Gu.nd rfl (Or.inl rfl) (aG c_kind_or_none (hr.mono (by decide)) rfl az (aa (pv 1) ah))) (ai (aU (iQ (je (pv 2))) (aq (aB (aA T.lK))) aX) (ai (cM (pv 0) (pv 2) rfl) (aq (aB aN))))),?_⟩;refine⟨_,rfl,ta,Tx,rfl,hta,hT,?_⟩;unfold mj at q;cases hm:Vacola.kindOf Tx with
 |none=>
  rw[hm]at q;intro H1 s1;refine gN ?_;exact⟨_,rfl,_,rfl,q H1 s1⟩
 |some k=>
  rw[hm]at q;intro H1 t s1 NK;refine gN ?_;refine⟨_,rfl,_,rfl,?_⟩;refine(if_neg (by show¬false=true;decide)).mpr (nX ?_);dsimp only;have hx1:=hx.a_ (bZ.of_same s1);obtain⟨⟨d,h1⟩,_⟩:=id hx1;refine⟨_,rfl,_,rfl,x.f,_,d,_,rfl,h1,T.bC,T.e_,(by show 5<1000;decide),?_⟩;generalize hH2:upd H1 x.f _=H2;have k2:Keeps H1 H2 x.f:=fun b o z n=>by rw[←hH2,au n];exact z
  obtain⟨r1,r2,r3⟩:=rj hx1 nd k2
  have hxf:∀b∈t.fp,b≠x.f:=fun b hb z=>by
   have:=NK.fr b hb;obtain⟨⟨d',h1'⟩,_⟩:=hx;rw[z,h1']at this;cases this
  exact q H2 ⟨x.h,x.f,x.nm,x.da,t⟩ (fun b o z n=>k2 _ _ (s1 _ _ z) n) rfl rfl NK.kd ⟨⟨d,by rw[←hH2,aj];rfl⟩,r1,r2,NK.has.a_ ⟨fun b hb o z=>k2 b o z (hxf b hb)⟩⟩
def mq(T:List Nat)(h:Vacola.Head)(k:Vacola.Kind):Option (Vacola.Head×Vacola.Kind):=if T=[]then some ({h with dflt:=Option.none},k)else(Vacola.literalOf k T).map fun v=>({h with dflt:=some v},k)
inductive rA(a:aH)(vs:List V)(H:Hp)(Q:VK)(E:XK):Prop
 |mk:∀(x:Fi)(d:Nat)(ta:Addr)(T:List Nat),vs=[.ref x.f,.ref ta]→bW a H x→x.fp.Nodup→cS x.k.kd d→H ta=some (.lst (aC T))→T.length≤5000→l0 a H x (-5) Q (mq T x.h x.k.kd)→rA a vs H Q E
theorem O5{f:Addr}{fd:FuncData}(F:aK K "change_default" "change_default" uU f fd)(T:Txt K mg a)(c_literal_or_none:ao P w K mg base af 8 "literal_or_none" ["text","kind"] (xJ a)):aF P w K mg base af 9 f fd ["field","text"] (rA a):=by
 refine F.ok Gw (fun vs H Q E h=>by obtain⟨x,d,ta,T,rfl,_⟩:=h;rfl) (fun cdv A outer s H vs Q E hr h=>?_);obtain⟨x,dw,ta,Tx,rfl,hx,nd,hw,hta,hT,q⟩:=h;refine⟨_,(ai (aU (aY bF (bP cC rfl T.bY PySem.boot_len (aa (pv 1) ah)) aN (aQ _)) (ai (cM (pv 0) jd rfl) (aq (aB aN))) aX) (ai (aO (i:=2) Gw.nd rfl (Or.inl rfl) (aG c_literal_or_none (hr.mono (by decide)) rfl az (aa (pv 1) (aa (aD (pv 0) rfl) ah)))) (ai (aU (iQ (je (pv 2))) (aq (aB (aA T.lK))) aX) (ai (cM (pv 0) (pv 2) rfl) (aq (aB aN)))))),?_⟩;refine⟨_,rfl,ta,_,rfl,.inl (ay.of hta),rfl,_,rfl,?_⟩;rw[bJ,bE];unfold mq at q;refine bB (fun c=>?_) (fun c=>?_)
 ·have c':(Tx.length:Int)=0:=of_decide_eq_true c
  have e:Tx=[]:=List.length_eq_zero_iff.mp (by omega);rw[if_pos e]at q;obtain⟨⟨d,h1⟩,_⟩:=id hx;refine⟨_,rfl,x.f,_,d,_,rfl,h1,T.bC,T.iY,(by show 5<1000;decide),?_⟩;generalize hH2:upd H x.f _=H2;have k2:Keeps H H2 x.f:=fun b o z n=>by rw[←hH2,au n];exact z
  obtain⟨r1,r2,r3⟩:=rj hx nd k2;exact q H2 ⟨{x.h with dflt:=Option.none},x.f,x.nm,x.da,x.k⟩ k2 rfl rfl rfl ⟨⟨d,by rw[←hH2,aj];rfl⟩,r1,trivial,r3⟩
 ·have e:Tx≠[]:=fun z=>c (decide_eq_true (by rw[z];rfl))
  rw[if_neg e]at q;refine nX ?_;dsimp only;obtain⟨⟨d,h1⟩,h2,h3,h4⟩:=id hx;refine⟨_,rfl,_,rfl,x.f,_,d,_,_,rfl,h1,T.bC,T.e_,gC,ta,Tx,x.k,rfl,hta,hT,h4,fun l el=>?_,?_⟩
  ·rw[el]at hw;exact hw
  ·cases hm:Vacola.literalOf x.k.kd Tx with
   |none=>
    rw[hm]at q;intro H1 s1;refine gN ?_;exact⟨_,rfl,_,rfl,q H1 s1⟩
   |some v=>
    rw[hm]at q;intro H1 da s1 hD fD;refine gN ?_;have hx1:=hx.a_ (bZ.of_same s1);have hnn:decide (ju (some v) da=V.aP)=false:=by cases v<;>rfl
    refine⟨_,rfl,_,rfl,?_⟩;refine(if_neg (by rw[hnn];decide)).mpr (nX ?_);dsimp only;have h1':=s1 _ _ h1;refine⟨_,rfl,_,rfl,x.f,_,d,_,rfl,h1',T.bC,T.iY,(by show 5<1000;decide),?_⟩;generalize hH2:upd H1 x.f _=H2;have k2:Keeps H1 H2 x.f:=fun b o z n=>by rw[←hH2,au n];exact z
    obtain⟨r1,r2,r3⟩:=rj hx1 nd k2
    have hdf:∀b∈dU (some v) da,b≠x.f:=fun b hb z=>by
     have:=fD b hb;rw[z,h1]at this;cases this
    exact q H2 ⟨{x.h with dflt:=some v},x.f,x.nm,da,x.k⟩ (fun b o z n=>k2 _ _ (s1 _ _ z) n) rfl rfl rfl ⟨⟨d,by rw[←hH2,aj];rfl⟩,r1,hD.a_ ⟨fun b hb o z=>k2 b o z (hdf b hb)⟩,r3⟩
abbrev Gh:=Vacola.Head→Vacola.Kind→Option (Vacola.Head×Vacola.Kind)
inductive ou(a:aH)(G:Gh)(bad:Int)(Pre:Hp→Prop)(vs:List V)(H:Hp)(Q:VK)(E:XK):Prop
 |mk:∀(x:Fi)(d:Nat),vs=[.ref x.f]→bW a H x→x.fp.Nodup→cS x.k.kd d→Pre H→l0 a H x bad Q (G x.h x.k.kd)→ou a G bad Pre vs H Q E
structure rB(G:Gh):Prop where
 ok:∀h k h' k',G h k=some (h',k')→gW h→cS k 5→gW h'∧dF k' 5∧(cK h' k').length≤(cK h k).length+10000
theorem HS{n:Int}{x x' z:Fi}:∀{l:List Fi},(l.find? fun y=>aW y.h n)=some x→(l.flatMap Fi.fp).Nodup→z∈cU n x' l→z=x'∨(z∈l∧∀b∈z.fp,b∉x.fp)
 |[],h,_,_=>by cases h
 |y::l,h,nd,hz=>by
  rw[cU]at hz;rw[List.find?_cons]at h;rw[List.flatMap_cons,List.nodup_append]at nd;obtain⟨_,nd2,nd3⟩:=nd;by_cases hn:(y.h.number:Int)=n
  ·rw[show aW y.h n=true from ir.mpr hn]at h
   cases h;rw[if_pos hn]at hz;rcases List.mem_cons.mp hz with hz|hz
   ·exact .inl hz
   ·exact .inr ⟨List.mem_cons_of_mem _ hz,fun b hb hb'=>nd3 b hb' b (List.mem_flatMap.mpr ⟨z,hz,hb⟩) rfl⟩
  ·rw[show aW y.h n=false from Bool.eq_false_iff.mpr fun w=>hn (ir.mp w)]at h
   rw[if_neg hn]at hz;have hx:=List.mem_of_find?_eq_some h;rcases List.mem_cons.mp hz with hz|hz
   ·exact .inr ⟨by rw[hz];exact List.mem_cons_self,fun b hb hb'=>nd3 b (by rw[←hz];exact hb) b (List.mem_flatMap.mpr ⟨x,hx,hb'⟩) rfl⟩
   ·rcases HS h nd2 hz with h1|⟨h1,h2⟩
    ·exact .inl h1
    ·exact .inr ⟨List.mem_cons_of_mem _ h1,h2⟩
inductive mw(P:Program)(w:World)(K:PySem.W.Frag)(mg:Str→Option Value)(base:Heap)(a:aH)(tb:Tb)(vs:List V)(H:Hp)(Q:VK)(E:XK):Prop
 |mk:∀(ho g:Addr)(xs:List V)(fs:Vacola.Fields)(pl:Addr)(p:List Int)(lf:Addr)(lfd:FuncData)(G:Gh)(bad:Int)(Pre:Hp→Prop),vs=[.ref ho,.ref pl,.ref lf]→dD a H ho g fs→bz tb H→ho≠g→H g=some (.lst xs)→H pl=some (.lst (p.map V.int))→p.length≤100→H lf=some (iH lf lfd)→jx P w K mg base 31 lf (ou a G bad Pre)→bad<0→Pre H→((∀H H',bL tb H H'→bz tb H→Pre H→Pre H'))→rB G→ig a tb H ho g fs (Vacola.changes ⟨some fs⟩ fs p bad G) Q→mw P w K mg base a tb vs H Q E
theorem O6{f:Addr}{fd:FuncData}{tb:Tb}(F:aK K "change_field" "change_field" uP f fd)(T:Txt K mg a)(m_Holder_schema_to_change:bG P w K mg base af 28 a.cF "schema_to_change" ["self"] (nU a))(c_field_or_none:ao P w K mg base af 5 "field_or_none" ["schema","path"] (oq a tb))(c_settle:ao P w K mg base af 30 "settle" ["holder","changed"] (lZ a tb)):aF P w K mg base af 32 f fd ["holder","path","change"] (mw P w K mg base a tb):=by
 refine F.ok vE (fun vs H Q E h=>by obtain⟨ho,g,xs,fs,pl,p,lf,lfd,G,bad,Pre,rfl,_⟩:=h;rfl) (fun cdv A outer s H vs Q E hr h=>?_);obtain⟨ho,g,xs,fs,pl,p,lf,lfd,G,bad,Pre,rfl,hx,tabs,hg,hog,hpl,hp,hlf,hlam,hbad,hPre,hMono,hGh,q⟩:=h;refine⟨_,(ai (aO (i:=3) vE.nd rfl (Or.inl rfl) (bR (pv 0) T.dN m_Holder_schema_to_change (hr.mono (by decide)) az)) (ai (aO (i:=4) vE.nd rfl (Or.inl rfl) (aG c_field_or_none (hr.mono (by decide)) rfl az (aa (pv 3) (aa (pv 1) ah)))) (ai (aU (iQ (je (pv 4))) (aq (aB (bM (aa (aA T.kH) ah)))) aX) (ai (aO (i:=5) vE.nd rfl (Or.inl rfl) (Hv (P:=P) (w:=w) (K:=K) (mg:=mg) (base:=base) (k:=31) ⟨rfl,rfl,rfl,rfl,rfl⟩ (pv 2) (hr.mono (by decide)) (aa (pv 4) ah))) (ai (aU (aY jh (pv 5) aN (aQ _)) (aq (aB (bM (aa (pv 5) ah)))) aX) (aq (aB (aG c_settle (hr.mono (by decide)) rfl az (aa (pv 0) (aa (pv 3) ah)))))))))),?_⟩;have hx':=hx;obtain⟨d,t0,ta0,hho,hk0,hkd0,hta0,hR,g1,g2⟩:=hx';have hw:=iw hR;have hLINE:dB=100000:=rfl;refine⟨_,rfl,ho,d,_,rfl,hho,qJ (by decide+kernel),ho,d,_,ta0,_,fs,rfl,hho,hta0,hR,fun H1 t s1 NK=>?_⟩;refine gN ?_;obtain⟨k,fl,tf,rfl,rfl⟩:=i8 NK.kd;have T1:=tabs.same s1;refine⟨_,rfl,_,rfl,.group false k fl tf,6,pl,p,rfl,NK.has,hw.gk,s1 _ _ hpl,by omega,T1,?_⟩;cases hF:(bq aW p (TK.group false k fl tf).sub).bind List.getLast? with
 |none=>
  have e:Vacola.changes ⟨some tf.fs⟩ tf.fs p bad G=(⟨some tf.fs⟩,.refused (-4)):=by
   unfold Vacola.changes;have z:=oO p tf;rw[show(bq aW p tf).bind List.getLast?=Option.none from hF]at z;rw[z];rfl
  rw[e]at q;intro H2 s2 T2;refine gN ?_;exact⟨_,rfl,_,rfl,refuse q hx tabs hg ((cZ s1).trans s2) T2⟩
 |some x=>
  obtain⟨g0,n,hG,hn,hfx⟩:=HQ hF;obtain⟨c0,k0,gfl,gs,rfl⟩:=yi _ _ _ hG
  have eat:Vacola.atPath p tf.fs=some (x.h,x.k.kd):=by
   have z:=oO p tf;rw[show(bq aW p tf).bind List.getLast?=some x from hF]at z;rw[z];rfl
  intro H2 s2 T2;refine gN ?_;refine⟨_,rfl,_,rfl,?_⟩;refine(if_neg (by show¬false=true;decide)).mpr (nX ?_);dsimp only;have s02:bL tb H H2:=(cZ s1).trans s2;have hk2:bK a H2 (.group false k fl tf):=NK.has.a_ (s2.a_ T1 NK.has.obj);have hg2:=q_ _ _ _ hG hk2;have ndG:=yj _ _ _ hG NK.nd;obtain⟨⟨dg,hg21⟩,hg22,hg23⟩:=id hg2;obtain⟨d',hd',wG⟩:=qZ _ _ _ 6 hG hw.gk;have wgs:cH gs.fs (d'-1):=wG.2.2;have hxm:x∈gs.items:=List.mem_of_find?_eq_some hfx;have hxI:=dY.mp hg23 x hxm;have wx:=wgs.item hxm;have wx5:cS x.k.kd (d'-1):=wx.2;have ndG':=ndG;rw[TK.fp,List.nodup_cons,List.nodup_cons]at ndG';have xnd:x.fp.Nodup:=ndG'.2.2.sublist (yg hxm);have hlf2:=s02.get tabs hlf (fun _ z=>by cases z);have hPre2:=hMono H H2 s02 tabs hPre;refine⟨_,rfl,lf,lfd,rfl,_,rfl,_,hlf2,hlam,x,d'-1,rfl,hxI,xnd,wx5,hPre2,?_⟩;cases hGx:G x.h x.k.kd with
  |none=>
   have e:Vacola.changes ⟨some tf.fs⟩ tf.fs p bad G=(⟨some tf.fs⟩,.refused bad):=by
    unfold Vacola.changes;rw[eat];dsimp only;rw[hGx]
   rw[e]at q;intro H3 s3;refine gN ?_;refine⟨_,rfl,_,_,rfl,rfl,_,rfl,?_⟩;rw[decide_eq_true hbad];exact⟨_,rfl,refuse q hx tabs hg (s02.trans (cZ s3)) (T2.same s3)⟩
  |some y=>
   obtain⟨h',k'⟩:=y;intro H6 x' k6' xf xh0 xk0 hI6;have xh:x'.h=h':=xh0;have xk:x'.k.kd=k':=xk0;refine gN ?_;refine⟨_,rfl,_,_,rfl,rfl,_,rfl,?_⟩;refine(if_neg (by decide)).mpr (nX ?_);dsimp only
   have xfin:x.f∈(TK.group c0 k0 gfl gs).fp:=by
    have:x.f∈gs.fp:=gE hxm (by simp[Fi.fp]);simp[TK.fp,this]
   have xfT:x.f∈(TK.group false k fl tf).fp:=oR _ _ _ hG _ xfin;have xfH:H x.f=Option.none:=NK.fr _ xfT;have nk0:k0≠x.f:=fun z=>ndG'.1 (by rw[z];exact List.mem_cons_of_mem _ (gE hxm (by simp[Fi.fp])))
   have ngf:gfl≠x.f:=fun z=>ndG'.2.1 (by rw[z];exact gE hxm (by simp[Fi.fp]))
   have eG:(TK.group c0 k0 gfl (TF.of (cU n x' gs.items))).kd=.group c0 ((fun z=>z.change n fun _ _=>(h',k')) gs.fs):=by
    show Vacola.Kind.group c0 (TF.of (cU n x' gs.items)).fs=_;rw[Ec,TF.fL,xh,xk]
   obtain⟨f1,hf1,hf1k⟩:=oV (G:=fun z=>z.change n fun _ _=>(h',k')) eG p.dropLast false k fl tf hG
   have e:Vacola.changes ⟨some tf.fs⟩ tf.fs p bad G=Vacola.settle ⟨some tf.fs⟩ f1:=by
    unfold Vacola.changes;rw[eat];dsimp only;rw[hGx];dsimp only;rw[HP (tf:=tf) hF hn];rw[hf1];rfl
   rw[e]at q
   have hg6:bK a H6 (.group c0 k0 gfl (TF.of (cU n x' gs.items))):=by
    refine⟨⟨dg,k6' _ _ hg21 nk0⟩,?_,dY.mpr fun z hz=>?_⟩
    ·have z:=k6' _ _ hg22 ngf
     rw[z];have z2:=Ed (n:=n) (x:=x') (l:=gs.items) hfx xf;unfold TF.as;rw[TF.gV,z2]
    ·rw[TF.gV]at hz
     rcases HS hfx (by rw[←TF.kY];exact ndG'.2.2) hz with rfl|⟨h1,h2⟩
     ·exact hI6
     ·exact(dY.mp hg23 z h1).a_ ⟨fun b hb o q=>k6' b o q (fun e=>h2 b hb (by rw[e];simp[Fi.fp]))⟩
   have hk6:=yh (g0:=.group c0 k0 gfl gs) (g':=.group c0 k0 gfl (TF.of (cU n x' gs.items))) rfl hg6 p.dropLast _ hk2 hG NK.nd fun b hb hn o z=>k6' b o z (fun e=>hn (by rw[e];exact xfin))
   obtain⟨gh1,gh2,gh3⟩:=hGh.ok _ _ _ _ hGx wx.1 (Eo wx5 (by omega))
   have wG':dF (TK.group c0 k0 gfl (TF.of (cU n x' gs.items))).kd 6:=by
    refine⟨by decide,A1 fun z hz=>?_⟩;rcases Ef hz with rfl|hz
    ·rw[xh,xk];exact⟨gh1,gh2⟩
    ·have:=wgs.item hz
     exact⟨this.1,this.2.wr.mono (by omega)⟩
   have hwr:=sE wG' p.dropLast _ 6 hG hw.gk.wr;have hlen:=sG (g':=.group c0 k0 gfl (TF.of (cU n x' gs.items))) p.dropLast _ hG;have k6:∀b o,H b=some o→(∀i<6,b≠tb i)→H6 b=some o:=fun b o z n=>k6' _ _ (s02 b o z n) (aV z xfH)
   have T6:bz tb H6:=T2.keeps k6' hxI.1.choose_spec lY qW;have at6:((TK.group false k fl tf).fS p.dropLast fun _=>.group c0 k0 gfl (TF.of (cU n x' gs.items))).at=k:=TK.r9 (g:=fun _=>.group c0 k0 gfl (TF.of (cU n x' gs.items))) (t':=.group c0 k0 gfl gs) rfl p.dropLast _ hG;refine⟨_,rfl,_,rfl,?_⟩;have z:=CG q hx tabs hg hog k6 T6 hk6 hf1k hwr ?_ (tabs.ne hog oh)
   ·rw[at6]at z;exact z
   ·have b1:=En n x' gs.items
    rw[TF.fL,xh,xk]at b1;have b3:=hw.len;unfold Vacola.showSchema at b3
    have e1:(Vacola.showKind (TK.group c0 k0 gfl (TF.of (cU n x' gs.items))).kd).length=(Vacola.showFields (TF.of (cU n x' gs.items)).fs).length+2:=by
     show(Vacola.showKind (.group c0 _)).length=_;rw[Vacola.showKind];simp
    have e2:(Vacola.showKind (TK.group c0 k0 gfl gs).kd).length=(Vacola.showFields gs.fs).length+2:=by
     show(Vacola.showKind (.group c0 _)).length=_;rw[Vacola.showKind];simp
    have e3:(Vacola.showKind (TK.group false k fl tf).kd).length=(Vacola.showKind (.group false tf.fs)).length:=rfl
    have b4:(cK x.h x.k.kd).length≤(Vacola.showFields gs.fs).length:=by
     rw[sj];exact sq _ _ (List.mem_map.mpr ⟨(x.h,x.k.kd),by rw[TF.fM];exact List.mem_map_of_mem hxm,rfl⟩)
    have b5:(Vacola.showFields gs.fs).length≤2000:=by
     have:=Er _ _ _ hG;have e5:(Vacola.showKind (TK.group c0 k0 gfl gs).kd).length≤(Vacola.showKind (TK.group false k fl tf).kd).length:=this;omega
    omega
theorem O7(T:List Nat):rB (l_ T):=⟨fun h k h' k' e wh wk=>by
 unfold l_ at e;split at e
 ·rename_i hg
  cases e;obtain⟨g1,g2,g3⟩:=Ds hg;refine⟨⟨wh.lo,wh.hi,g1,g2,g3,wh.df⟩,wk.wr,?_⟩;unfold cK Vacola.showHead Vacola.showDefault;simp;omega
 ·cases e⟩
theorem O8(m:Int):rB (mh m):=⟨fun h k h' k' e wh wk=>by
 unfold mh at e;obtain⟨x,hx,e⟩:=Option.map_eq_some_iff.mp e;cases e;refine⟨DX wh _,wk.wr,?_⟩;unfold cK Vacola.showHead Vacola.showDefault;simp⟩
theorem O9(T:List Nat):rB (mj T):=⟨fun h k h' k' e wh wk=>by
 unfold mj at e;obtain⟨x,hx,e⟩:=Option.map_eq_some_iff.mp e;cases e;unfold Vacola.kindOf at hx;split at hx
 ·rename_i h0 k0 hR
  split at hx
  ·cases hx
   have hw:=iw hR;have wk':=hw.wf.2.1;refine⟨wh,wk'.wr,?_⟩;have hl:=hw.len;unfold Vacola.showSchema at hl;rw[Vacola.showKind]at hl;have b:=A0 h0 k' .nil;have b5:(Vacola.showKind k').length≤(cK h0 k').length:=by unfold cK;simp;omega
   have b6:=Ei h k k';simp at hl;omega
  ·cases hx
 ·cases hx⟩
theorem O_{T:List Nat}(hT:T.length≤5000):rB (mq T):=⟨fun h k h' k' e wh wk=>by
 unfold mq at e;split at e
 ·cases e
  refine⟨⟨wh.lo,wh.hi,wh.nm,wh.nb,wh.n0,trivial⟩,wk.wr,?_⟩;unfold cK Vacola.showHead Vacola.showDefault;simp;omega
 ·obtain⟨v,hv,e⟩:=Option.map_eq_some_iff.mp e
  cases e;unfold Vacola.literalOf at hv;split at hv
  ·rename_i l
   split at hv
   ·rename_i v' hR
    split at hv
    ·rename_i hf
     cases hv;have hs:=Dd hR;refine⟨⟨wh.lo,wh.hi,wh.nm,wh.nb,wh.n0,Du (show iu l from wk) hR hf⟩,wk.wr,?_⟩
     have hl:(Vacola.showLit v).length≤5000:=by
      rw[hs]at hT;simpa using hT
     unfold cK Vacola.showHead Vacola.showDefault;simp;omega
    ·cases hv
   ·cases hv
  ·cases hv⟩
def i9(lf:Addr)(lfd:FuncData)(lc:Addr)(lq:Str)(c:Addr)(v:V)(Ex:Hp→Prop)(H:Hp):Prop:=H lf=some (iH lf lfd)∧H lc=some (jw lc lq)∧Hs H c v∧Ex H
theorem i9.mono{tb:Tb}{H H':Hp}{lf:Addr}{lfd:FuncData}{lc:Addr}{lq:Str}{c:Addr}{v:V}{Ex:Hp→Prop}(hE:bL tb H H'→bz tb H→Ex H→Ex H')(s:bL tb H H')(T:bz tb H)(h:i9 lf lfd lc lq c v Ex H):i9 lf lfd lc lq c v Ex H':=by
 obtain⟨h1,h2,⟨o,u,h3,h4⟩,h5⟩:=h;exact⟨s.get T h1 (fun _ z=>by cases z),s.get T h2 (fun _ z=>by cases z),⟨o,u,s.get T h3 (fun _ z=>by cases z),h4⟩,hE s T h5⟩
theorem yq{H:Hp}{c:Addr}{φ:Heap→Prop}{x:Fi}{bad:Int}{Q:VK}(hc:H c=some (.ext φ)):∀{r:Option (Vacola.Head×Vacola.Kind)},l0 a H x bad Q r→l0 a (fH H [c]) x bad (fun r H'=>(∀b∈[c],H' b=Option.none)→Q r (i7 H H' [c])) r
 |Option.none,q=>fun H' s _=>q _ fun b o z=>by
  by_cases hb:b=c
  ·rw[hb,Ct (by simp),←hb];exact z
  ·rw[jz (by simp[hb])]
   exact s b o (by rw[jy (by simp[hb])];exact z)
 |some y,q=>fun H' x' k e1 e2 e3 hI n=>by
  refine q _ x' (fun b o z nb=>?_) e1 e2 e3 (hI.a_ ⟨fun b hb o z=>?_⟩)
  ·by_cases hb:b=c
   ·rw[hb,Ct (by simp),←hb];exact z
   ·rw[jz (by simp[hb])]
    exact k b o (by rw[jy (by simp[hb])];exact z) nb
  ·rw[jz]
   ·exact z
   ·intro hb'
    rw[n b hb']at z;cases z
theorem yr{H:Hp}{c:Addr}{φ:Heap→Prop}{x:Fi}(hc:H c=some (.ext φ))(hx:bW a H x):bW a (fH H [c]) x:=hx.a_ ⟨fun b hb o z=>by
 rw[jy]
 ·exact z
 ·intro hb'
  obtain⟨u,h1,h2⟩:=hx.obj b hb;rw[List.mem_singleton.mp hb',hc]at h1;cases h1;exact h2⟩
theorem CH{H:Hp}{c:Addr}{φ:Heap→Prop}{b:Addr}{xs:List V}(hc:H c=some (.ext φ))(hb:H b=some (.lst xs)):fH H [c] b=some (.lst xs):=by
 rw[jy]
 ·exact hb
 ·intro hb'
  rw[List.mem_singleton.mp hb',hc]at hb;cases hb
def ow(ta:Addr)(T:List Nat)(H:Hp):Prop:=H ta=some (.lst (aC T))
theorem yt{y:Str}{c:Addr}:[(y,c)].lookup y=some c:=by simp[List.lookup]
theorem CI:("text":Str)≠"field":=by decide+kernel
theorem Pa:("number":Str)≠"field":=by decide+kernel
theorem Pb{lf lc c ta:Addr}{lfd:FuncData}{Tx:List Nat}(hT:Tx.length≤5000)(hl:n_ 2 [("text",c)] lc lfd)(c_change_name:ao P w K mg base af 4 "change_name" ["field","text"] (rm a)):jx P w K mg base 31 lf (ou a (l_ Tx) (-5) (i9 lf lfd lc (tQ 2) c (.ref ta) (ow ta Tx))):=by
 refine nY (p:="field") (k:=30) (cvs:=[.ref ta]) hl (.one _ _ _) (fun u=>by obtain⟨pm,ctv,rfl⟩:=hl;rfl) rfl rfl rfl (by decide+kernel) rfl (fun y h=>by rw[List.mem_singleton.mp h];exact⟨CI,rfl⟩) (fun y h=>?_) (fun vs H Q E h=>?_) (fun A outer s H v Q E hr h=>?_)
 ·have all:∀z∈(qU (kQ (kR 2))).names,z.2=.free→z.1="text":=by decide+kernel
  have e:y="text":=all _ (PySem.mem_of_lookup h) rfl;rw[e];exact⟨c,yt⟩
 ·obtain⟨x,d,rfl,_,_,_,⟨h1,h2,h3,_⟩,_⟩:=h
  refine⟨rfl,h1,h2,fun i y v e1 e2=>?_⟩
  match i,e1,e2 with
  |0,e1,e2=>cases e1;cases e2;exact h3
  |i+1,e1,_=>simp at e1
 ·obtain⟨x,d,e,hx,nd,wk,⟨h1,h2,⟨o,u,h3,h4⟩,h5⟩,q⟩:=h
  cases e;refine⟨_,aG c_change_name (hr.mono (by decide)) rfl az (aa (pv 0) (aa (pv 1) ah)),?_⟩;exact⟨_,rfl,_,rfl,x,ta,Tx,rfl,yr h3 hx,nd,CH h3 h5,hT,yq h3 q⟩
theorem Pc{lf lc c ta:Addr}{lfd:FuncData}{Tx:List Nat}(hT:Tx.length≤5000)(hl:n_ 4 [("text",c)] lc lfd)(c_change_kind:ao P w K mg base af 30 "change_kind" ["field","text"] (rz a)):jx P w K mg base 31 lf (ou a (mj Tx) (-5) (i9 lf lfd lc (tQ 4) c (.ref ta) (ow ta Tx))):=by
 refine nY (p:="field") (k:=30) (cvs:=[.ref ta]) hl (.one _ _ _) (fun u=>by obtain⟨pm,ctv,rfl⟩:=hl;rfl) rfl rfl rfl (by decide+kernel) rfl (fun y h=>by rw[List.mem_singleton.mp h];exact⟨CI,rfl⟩) (fun y h=>?_) (fun vs H Q E h=>?_) (fun A outer s H v Q E hr h=>?_)
 ·have all:∀z∈(qU (kQ (kR 4))).names,z.2=.free→z.1="text":=by decide+kernel
  have e:y="text":=all _ (PySem.mem_of_lookup h) rfl;rw[e];exact⟨c,yt⟩
 ·obtain⟨x,d,rfl,_,_,_,⟨h1,h2,h3,_⟩,_⟩:=h
  refine⟨rfl,h1,h2,fun i y v e1 e2=>?_⟩
  match i,e1,e2 with
  |0,e1,e2=>cases e1;cases e2;exact h3
  |i+1,e1,_=>simp at e1
 ·obtain⟨x,d,e,hx,nd,wk,⟨h1,h2,⟨o,u,h3,h4⟩,h5⟩,q⟩:=h
  cases e;refine⟨_,aG c_change_kind (hr.mono (by decide)) rfl az (aa (pv 0) (aa (pv 1) ah)),?_⟩;exact⟨_,rfl,_,rfl,x,ta,Tx,rfl,yr h3 hx,nd,CH h3 h5,hT,yq h3 q⟩
theorem Pd{lf lc c ta:Addr}{lfd:FuncData}{Tx:List Nat}(hT:Tx.length≤5000)(hl:n_ 5 [("text",c)] lc lfd)(c_change_default:ao P w K mg base af 9 "change_default" ["field","text"] (rA a)):jx P w K mg base 31 lf (ou a (mq Tx) (-5) (i9 lf lfd lc (tQ 5) c (.ref ta) (ow ta Tx))):=by
 refine nY (p:="field") (k:=30) (cvs:=[.ref ta]) hl (.one _ _ _) (fun u=>by obtain⟨pm,ctv,rfl⟩:=hl;rfl) rfl rfl rfl (by decide+kernel) rfl (fun y h=>by rw[List.mem_singleton.mp h];exact⟨CI,rfl⟩) (fun y h=>?_) (fun vs H Q E h=>?_) (fun A outer s H v Q E hr h=>?_)
 ·have all:∀z∈(qU (kQ (kR 5))).names,z.2=.free→z.1="text":=by decide+kernel
  have e:y="text":=all _ (PySem.mem_of_lookup h) rfl;rw[e];exact⟨c,yt⟩
 ·obtain⟨x,d,rfl,_,_,_,⟨h1,h2,h3,_⟩,_⟩:=h
  refine⟨rfl,h1,h2,fun i y v e1 e2=>?_⟩
  match i,e1,e2 with
  |0,e1,e2=>cases e1;cases e2;exact h3
  |i+1,e1,_=>simp at e1
 ·obtain⟨x,d,e,hx,nd,wk,⟨h1,h2,⟨o,u,h3,h4⟩,h5⟩,q⟩:=h
  cases e;refine⟨_,aG c_change_default (hr.mono (by decide)) rfl az (aa (pv 0) (aa (pv 1) ah)),?_⟩;exact⟨_,rfl,_,rfl,x,d,ta,Tx,rfl,yr h3 hx,nd,wk,CH h3 h5,hT,yq h3 q⟩
theorem Pe{lf lc c:Addr}{lfd:FuncData}{m:Int}(hl:n_ 3 [("number",c)] lc lfd)(c_change_mode:ao P w K mg base af 2 "change_mode" ["field","number"] (rq a)):jx P w K mg base 31 lf (ou a (mh m) (-6) (i9 lf lfd lc (tQ 3) c (.int m) (fun _=>True))):=by
 refine nY (p:="field") (k:=30) (cvs:=[.int m]) hl (.one _ _ _) (fun u=>by obtain⟨pm,ctv,rfl⟩:=hl;rfl) rfl rfl rfl (by decide+kernel) rfl (fun y h=>by rw[List.mem_singleton.mp h];exact⟨Pa,rfl⟩) (fun y h=>?_) (fun vs H Q E h=>?_) (fun A outer s H v Q E hr h=>?_)
 ·have all:∀z∈(qU (kQ (kR 3))).names,z.2=.free→z.1="number":=by decide+kernel
  have e:y="number":=all _ (PySem.mem_of_lookup h) rfl;rw[e];exact⟨c,yt⟩
 ·obtain⟨x,d,rfl,_,_,_,⟨h1,h2,h3,_⟩,_⟩:=h
  refine⟨rfl,h1,h2,fun i y v e1 e2=>?_⟩
  match i,e1,e2 with
  |0,e1,e2=>cases e1;cases e2;exact h3
  |i+1,e1,_=>simp at e1
 ·obtain⟨x,d,e,hx,nd,wk,⟨h1,h2,⟨o,u,h3,h4⟩,h5⟩,q⟩:=h
  cases e;refine⟨_,aG c_change_mode (hr.mono (by decide)) rfl az (aa (pv 0) (aa (pv 1) ah)),?_⟩;exact⟨_,rfl,_,rfl,x,m,rfl,yr h3 hx,nd,yq h3 q⟩
theorem yu{tb:Tb}{H H1:Hp}{ho g c d:Addr}{sv tv:V}{o:Obj}{u:Option Value}{fs:Vacola.Fields}{r:Vacola.State×Vacola.Answer}{Q:VK}(q:ig a tb H ho g fs r Q)(tabs:bz tb H)(T1:bz tb H1)(s1:bL tb H H1)(n1:H1 c=Option.none)(hho:H ho=some (.ins a.cF d (gQ sv tv)))(hg:ho≠g)(hd:o.data=.cell u):
  ig a tb (upd H1 c (gj c o)) ho g fs r (fun r H3=>H3 c=some (gj c o)∧Q r (fQ H3 c)):=fun H' l k' T' hx n e len=>by
 have hh1:=s1.ins tabs hho;have hoc:ho≠c:=aV hh1 n1;have T2:bz tb (upd H1 c (gj c o)):=T1.same (aM n1);have ct:∀i<6,c≠tb i:=T2.ne aj (fun _ z=>by cases z);have hc':H' c=some (gj c o):=k' c _ aj (Ne.symm hoc) ct;refine⟨hc',q _ l (fun b o' z nb nt=>?_) ⟨T'.inj,fun i hi=>?_⟩ (hx.on (fun b o' z cc _=>?_) hg) ?_ ?_ len⟩
 ·have z1:=s1 b o' z nt
  have bc:b≠c:=aV z1 n1;rw[g_ bc];exact k' b o' (by rw[au bc];exact z1) nb nt
 ·rcases T'.at_ i hi with z|⟨c',z1,z2⟩
  ·exact .inl (by rw[g_ (Ne.symm (ct i hi))];exact z)
  ·refine .inr ⟨c',by rw[g_ (Ne.symm (ct i hi))];exact z1,?_⟩
   rw[g_]
   ·exact z2
   ·intro e'
    rw[e',hc']at z2;exact N8 hd (Option.some.inj z2)
 ·rw[g_]
  ·exact z
  ·rintro rfl
   rcases cc with cc|cc
   ·rw[hc']at z;cases z;exact cc
   ·exact hoc cc.symm
 ·have lc:l≠c:=fun z=>by rw[z,aj]at n;cases n
  rw[au lc]at n;exact s1.lV tabs T1 n
 ·have lc:l≠c:=fun z=>by rw[z,aj]at n;cases n
  rw[g_ lc];exact e
theorem yw{tb:Tb}{H H1:Hp}{ho g c:Addr}{o:Obj}{fs:Vacola.Fields}(hx:dD a H ho g fs)(tabs:bz tb H)(s1:bL tb H H1)(n1:H1 c=Option.none)(hg:ho≠g):dD a (upd H1 c (gj c o)) ho g fs:=by
 obtain⟨d,t,ta,hho,_⟩:=id hx;refine dD.on hx (fun b o' z cc _=>aM n1 _ _ ?_) hg;rcases cc with cc|cc
 ·exact s1.get tabs z cc.no
 ·rw[cc]at z⊢
  rw[hho]at z;cases z;exact s1.ins tabs hho
inductive jB(a:aH)(tb:Tb)(aJ:List Int→List Nat→Vacola.Call)(vs:List V)(H:Hp)(Q:VK)(E:XK):Prop
 |mk:∀(ho g:Addr)(xs:List V)(fs:Vacola.Fields)(pl:Addr)(p:List Int)(ta:Addr)(T:List Nat),vs=[.ref ho,.ref pl,.ref ta]→dD a H ho g fs→bz tb H→ho≠g→H g=some (.lst xs)→H pl=some (.lst (p.map V.int))→p.length≤100→H ta=some (.lst (aC T))→T.length≤5000→ig a tb H ho g fs (Vacola.stepHeld ⟨some fs⟩ fs (aJ p T)) Q→jB a tb aJ vs H Q E
theorem Pf{f c0:Addr}{fd:FuncData}{tb:Tb}(F:jA K "reply_rename" "reply_rename" pS f fd c0 (tb 2))(T:Txt K mg a)(hK:K.In base)(hB:BMain mg base)(c_change_field:ao P w K mg base af 32 "change_field" ["holder","path","change"] (mw P w K mg base a tb))(c_change_name:ao P w K mg base af 4 "change_name" ["field","text"] (rm a)):aF P w K mg base af 33 f fd ["holder","path","text"] (jB a tb .rename):=by
 refine F.ok L0 (fun vs H Q E h=>by obtain⟨ho,g,xs,fs,pl,p,ta,T,rfl,_⟩:=h;rfl) (fun A outer s H vs Q E hr h=>?_);obtain⟨ho,g,xs,fs,pl,p,ta,Tx,rfl,hx,tabs,hg,hog,hpl,hp,hta,hT,q⟩:=h;obtain⟨d,t0,ta0,hho,_⟩:=id hx;refine⟨_,(aq (aB (xQ c_change_field (hr.mono (by decide)) rfl (aa (pv 0) (aa (pv 1) (aa (nW (codeHd_of_K hK F.hd) hB rfl rfl rfl) ah))) (i:=2) rfl rfl rfl (Nat.le_succ _)))),?_⟩;refine⟨_,rfl,_,rfl,tabs.at_ 2 (by decide),fun H1 lf lfd lc k1 t1 c1 f1 nf li=>?_⟩;obtain⟨T1,s1⟩:=tabs.lam (i:=2) (by decide) k1 t1;refine⟨_,rfl,fun o u hd ru n1=>?_⟩;have n:=aM (o:=gj (s.heap.objs.size+1) o) n1;refine⟨ho,g,xs,fs,pl,p,lf,lfd,l_ Tx,-5,i9 lf lfd lc (tQ 2) (s.heap.objs.size+1) (.ref ta) (ow ta Tx),rfl,yw hx tabs s1 n1 hg,T1.same n,hg,n _ _ (s1.lst tabs hog),n _ _ (s1.lst tabs hpl),hp,n _ _ f1,Pb hT li c_change_name,by decide,⟨n _ _ f1,n _ _ c1,⟨o,u,aj,hd,ru⟩,n _ _ (s1.lst tabs hta)⟩,fun H H' s T h=>h.mono (fun s T e=>s.lst T e) s T,O7 Tx,?_⟩;exact yu (a:=a) (r:=Vacola.changes ⟨some fs⟩ fs p (-5) (l_ Tx)) q tabs T1 s1 n1 hho hg hd
theorem Pg{f c0:Addr}{fd:FuncData}{tb:Tb}(F:jA K "reply_rekind" "reply_rekind" pU f fd c0 (tb 4))(T:Txt K mg a)(hK:K.In base)(hB:BMain mg base)(c_change_field:ao P w K mg base af 32 "change_field" ["holder","path","change"] (mw P w K mg base a tb))(c_change_kind:ao P w K mg base af 30 "change_kind" ["field","text"] (rz a)):aF P w K mg base af 33 f fd ["holder","path","text"] (jB a tb .rekind):=by
 refine F.ok L3 (fun vs H Q E h=>by obtain⟨ho,g,xs,fs,pl,p,ta,T,rfl,_⟩:=h;rfl) (fun A outer s H vs Q E hr h=>?_);obtain⟨ho,g,xs,fs,pl,p,ta,Tx,rfl,hx,tabs,hg,hog,hpl,hp,hta,hT,q⟩:=h;obtain⟨d,t0,ta0,hho,_⟩:=id hx;refine⟨_,(aq (aB (xQ c_change_field (hr.mono (by decide)) rfl (aa (pv 0) (aa (pv 1) (aa (nW (codeHd_of_K hK F.hd) hB rfl rfl rfl) ah))) (i:=2) rfl rfl rfl (Nat.le_succ _)))),?_⟩;refine⟨_,rfl,_,rfl,tabs.at_ 4 (by decide),fun H1 lf lfd lc k1 t1 c1 f1 nf li=>?_⟩;obtain⟨T1,s1⟩:=tabs.lam (i:=4) (by decide) k1 t1;refine⟨_,rfl,fun o u hd ru n1=>?_⟩;have n:=aM (o:=gj (s.heap.objs.size+1) o) n1;refine⟨ho,g,xs,fs,pl,p,lf,lfd,mj Tx,-5,i9 lf lfd lc (tQ 4) (s.heap.objs.size+1) (.ref ta) (ow ta Tx),rfl,yw hx tabs s1 n1 hg,T1.same n,hg,n _ _ (s1.lst tabs hog),n _ _ (s1.lst tabs hpl),hp,n _ _ f1,Pc hT li c_change_kind,by decide,⟨n _ _ f1,n _ _ c1,⟨o,u,aj,hd,ru⟩,n _ _ (s1.lst tabs hta)⟩,fun H H' s T h=>h.mono (fun s T e=>s.lst T e) s T,O9 Tx,?_⟩;exact yu (a:=a) (r:=Vacola.changes ⟨some fs⟩ fs p (-5) (mj Tx)) q tabs T1 s1 n1 hho hg hd
theorem Ph{f c0:Addr}{fd:FuncData}{tb:Tb}(F:jA K "reply_default" "reply_default" pV f fd c0 (tb 5))(T:Txt K mg a)(hK:K.In base)(hB:BMain mg base)(c_change_field:ao P w K mg base af 32 "change_field" ["holder","path","change"] (mw P w K mg base a tb))(c_change_default:ao P w K mg base af 9 "change_default" ["field","text"] (rA a)):aF P w K mg base af 33 f fd ["holder","path","text"] (jB a tb .dflt):=by
 refine F.ok L4 (fun vs H Q E h=>by obtain⟨ho,g,xs,fs,pl,p,ta,T,rfl,_⟩:=h;rfl) (fun A outer s H vs Q E hr h=>?_);obtain⟨ho,g,xs,fs,pl,p,ta,Tx,rfl,hx,tabs,hg,hog,hpl,hp,hta,hT,q⟩:=h;obtain⟨d,t0,ta0,hho,_⟩:=id hx;refine⟨_,(aq (aB (xQ c_change_field (hr.mono (by decide)) rfl (aa (pv 0) (aa (pv 1) (aa (nW (codeHd_of_K hK F.hd) hB rfl rfl rfl) ah))) (i:=2) rfl rfl rfl (Nat.le_succ _)))),?_⟩;refine⟨_,rfl,_,rfl,tabs.at_ 5 (by decide),fun H1 lf lfd lc k1 t1 c1 f1 nf li=>?_⟩;obtain⟨T1,s1⟩:=tabs.lam (i:=5) (by decide) k1 t1;refine⟨_,rfl,fun o u hd ru n1=>?_⟩;have n:=aM (o:=gj (s.heap.objs.size+1) o) n1;refine⟨ho,g,xs,fs,pl,p,lf,lfd,mq Tx,-5,i9 lf lfd lc (tQ 5) (s.heap.objs.size+1) (.ref ta) (ow ta Tx),rfl,yw hx tabs s1 n1 hg,T1.same n,hg,n _ _ (s1.lst tabs hog),n _ _ (s1.lst tabs hpl),hp,n _ _ f1,Pd hT li c_change_default,by decide,⟨n _ _ f1,n _ _ c1,⟨o,u,aj,hd,ru⟩,n _ _ (s1.lst tabs hta)⟩,fun H H' s T h=>h.mono (fun s T e=>s.lst T e) s T,O_ hT,?_⟩;exact yu (a:=a) (r:=Vacola.changes ⟨some fs⟩ fs p (-5) (mq Tx)) q tabs T1 s1 n1 hho hg hd
inductive yx(a:aH)(tb:Tb)(vs:List V)(H:Hp)(Q:VK)(E:XK):Prop
 |mk:∀(ho g:Addr)(xs:List V)(fs:Vacola.Fields)(m:Int)(pl:Addr)(p:List Int),vs=[.ref ho,.int m,.ref pl]→dD a H ho g fs→bz tb H→ho≠g→H g=some (.lst xs)→H pl=some (.lst (p.map V.int))→p.length≤100→ig a tb H ho g fs (Vacola.stepHeld ⟨some fs⟩ fs (.remode m p)) Q→yx a tb vs H Q E
theorem Pj{f c0:Addr}{fd:FuncData}{tb:Tb}(F:jA K "reply_remode" "reply_remode" pT f fd c0 (tb 3))(T:Txt K mg a)(hK:K.In base)(hB:BMain mg base)(c_change_field:ao P w K mg base af 32 "change_field" ["holder","path","change"] (mw P w K mg base a tb))(c_change_mode:ao P w K mg base af 2 "change_mode" ["field","number"] (rq a)):aF P w K mg base af 33 f fd ["holder","number","path"] (yx a tb):=by
 refine F.ok L1 (fun vs H Q E h=>by obtain⟨ho,g,xs,fs,m,pl,p,rfl,_⟩:=h;rfl) (fun A outer s H vs Q E hr h=>?_);obtain⟨ho,g,xs,fs,m,pl,p,rfl,hx,tabs,hg,hog,hpl,hp,q⟩:=h;obtain⟨d,t0,ta0,hho,_⟩:=id hx;refine⟨_,(aq (aB (xQ c_change_field (hr.mono (by decide)) rfl (aa (pv 0) (aa (pv 2) (aa (nW (codeHd_of_K hK F.hd) hB rfl rfl rfl) ah))) (i:=1) rfl rfl rfl (Nat.le_succ _)))),?_⟩;refine⟨_,rfl,_,rfl,tabs.at_ 3 (by decide),fun H1 lf lfd lc k1 t1 c1 f1 nf li=>?_⟩;obtain⟨T1,s1⟩:=tabs.lam (i:=3) (by decide) k1 t1;refine⟨_,rfl,fun o u hd ru n1=>?_⟩;have n:=aM (o:=gj (s.heap.objs.size+1) o) n1;refine⟨ho,g,xs,fs,pl,p,lf,lfd,mh m,-6,i9 lf lfd lc (tQ 3) (s.heap.objs.size+1) (.int m) (fun _=>True),rfl,yw hx tabs s1 n1 hg,T1.same n,hg,n _ _ (s1.lst tabs hog),n _ _ (s1.lst tabs hpl),hp,n _ _ f1,Pe li c_change_mode,by decide,⟨n _ _ f1,n _ _ c1,⟨o,u,aj,hd,ru⟩,trivial⟩,fun H H' s T h=>h.mono (fun s T e=>e) s T,O8 m,?_⟩;exact yu (a:=a) (r:=Vacola.changes ⟨some fs⟩ fs p (-6) (mh m)) q tabs T1 s1 n1 hho hg hd
def eW(nl:Addr)(p:Nat):List (Str×V):=[("numbers",.ref nl),("place",.int ((p:Nat):Int))]
theorem CJ{nl:Addr}{p:Nat}:(eW nl p).lookup ("numbers":Str)=some (.ref nl):=rfl
theorem rC{nl:Addr}{p:Nat}:(eW nl p).lookup ("place":Str)=some (.int ((p:Nat):Int)):=rfl
theorem oz{nl:Addr}{p:Nat}{m:Str}(h:¬m="numbers"∧¬m="place"):(eW nl p).lookup m=Option.none:=by
 unfold eW;simp only[List.lookup,beq_eq_false_iff_ne.mpr h.1,beq_eq_false_iff_ne.mpr h.2]
structure kT(K:PySem.W.Frag)(a:aH)(H:Hp)(cl d nl:Addr)(l:List Int)(p:Nat):Prop where
 ob:H cl=some (.ins a.bH d (eW nl p))
 ls:ay K H nl (l.map V.int)
theorem Pk{H H':Hp}{r nl C d:Addr}{fs:List (Str×V)}{xs:List V}(h:ay K H nl xs)(hr:H r=some (.ins C d fs))(k:Keeps H H' r):ay K H' nl xs:=by
 rcases h with h|h
 ·refine .inl ?_
  rcases h with h|⟨o,h⟩
  ·exact .inl (k _ _ h (iO h hr (by intro z;cases z)))
  ·exact .inr ⟨o,k _ _ h (iO h hr (by intro z;cases z))⟩
 ·exact .inr h
theorem kT.move{H H':Hp}{cl d nl:Addr}{l:List Int}{p p':Nat}(h:kT K a H cl d nl l p)(k:Keeps H H' cl)(e:H' cl=some (.ins a.bH d (eW nl p'))):kT K a H' cl d nl l p':=⟨e,Pk h.ls h.ob k⟩
inductive yy(K:PySem.W.Frag)(a:aH)(vs:List V)(H:Hp)(Q:VK)(E:XK):Prop
 |mk:∀cl d nl l p,vs=[.ref cl]→kT K a H cl d nl l p→Q (.bl (decide (p<l.length))) H→yy K a vs H Q E
theorem Pn{f:Addr}{fd:FuncData}(F:aK K "are_left" "Calls.are_left" vm f fd)(T:Txt K mg a):aF P w K mg base af 1 f fd ["self"] (yy K a):=by
 refine F.ok Mi (fun vs H Q E h=>by obtain⟨cl,d,nl,l,p,rfl,_⟩:=h;rfl) (fun cdv A outer s H vs Q E hr h=>?_);obtain⟨cl,d,nl,l,p,rfl,C,q⟩:=h;refine⟨_,(aq (aB (jI jh (aD (pv 0) rfl) (bP cC rfl T.bY PySem.boot_len (aa (aD (pv 0) rfl) ah)) (aQ _)))),?_⟩;refine⟨_,rfl,cl,_,d,_,_,rfl,C.ob,T.eH,T.iZ,rC,_,rfl,cl,_,d,_,_,rfl,C.ob,T.eH,T.lN,CJ,nl,_,rfl,.inl C.ls,_,_,rfl,rfl,?_⟩
 have e:decide (((p:Nat):Int)<(((l.map V.int).length:Nat):Int))=decide (p<l.length):=by
  rw[List.length_map];apply decide_eq_decide.mpr;omega
 rw[←e]at q;exact q
inductive oA(K:PySem.W.Frag)(a:aH)(vs:List V)(H:Hp)(Q:VK)(E:XK):Prop
 |mk:∀cl d nl l p z,vs=[.ref cl]→kT K a H cl d nl l p→l[p]? =some z→Q (.int z) (upd H cl (.ins a.bH d (eW nl (p+1))))→oA K a vs H Q E
theorem Po{f:Addr}{fd:FuncData}(F:aK K "take_number" "Calls.take_number" vn f fd)(T:Txt K mg a):aF P w K mg base af 1 f fd ["self"] (oA K a):=by
 refine F.ok GA (fun vs H Q E h=>by obtain⟨cl,d,nl,l,p,z,rfl,_⟩:=h;rfl) (fun cdv A outer s H vs Q E hr h=>?_);obtain⟨cl,d,nl,l,p,z,rfl,C,hz,q⟩:=h;refine⟨_,(ai (aO (i:=1) GA.nd rfl (Or.inl rfl) (bQ cA (aD (pv 0) rfl) (aD (pv 0) rfl) (fun _ _=>rfl))) (ai (cM (pv 0) (bU iU (aD (pv 0) rfl) aN) rfl) (aq (aB (pv 1))))),?_⟩;refine⟨_,rfl,cl,_,d,_,_,rfl,C.ob,T.eH,T.lN,CJ,_,rfl,cl,_,d,_,_,rfl,C.ob,T.eH,T.iZ,rC,nl,_,_,(.int z),rfl,rfl,C.ls,at_of (j:=p) rfl (by rw[List.getElem?_map,hz];rfl),?_⟩;refine gN ?_;refine⟨_,rfl,cl,_,d,_,_,rfl,C.ob,T.eH,T.iZ,rC,_,_,rfl,rfl,_,rfl,cl,_,d,_,rfl,C.ob,T.eH,T.iZ,(by show 2<1000;decide),?_⟩;exact⟨_,rfl,q⟩
inductive yz(K:PySem.W.Frag)(a:aH)(vs:List V)(H:Hp)(Q:VK)(E:XK):Prop
 |mk:∀cl d nl l p x s,vs=[.ref cl]→kT K a H cl d nl l p→PyFlat.row (l.drop p)=some (x,s)→(∀H' r p',Keeps H H' cl→H' cl=some (.ins a.bH d (eW nl p'))→l.drop p'=s→p<p'→H r=Option.none→H' r=some (.lst (x.map V.int))→Q (.ref r) H')→yz K a vs H Q E
theorem HU{l x s:List Int}(h:PyFlat.row l=some (x,s)):∃(n:Nat)(r:List Int),l=(n:Int)::r∧n≤r.length∧x=r.take n∧s=r.drop n:=by
 cases l with
 |nil=>cases h
 |cons z r=>
  by_cases hz:0≤z∧z.toNat≤r.length
  ·rw[PyFlat.row,if_pos hz]at h
   cases h;exact⟨z.toNat,r,by rw[Int.toNat_of_nonneg hz.1],hz.2,rfl,rfl⟩
  ·rw[PyFlat.row,if_neg hz]at h
   cases h
theorem Pp{f:Addr}{fd:FuncData}(F:aK K "take_row" "Calls.take_row" vo f fd)(T:Txt K mg a)(m_Calls_take_number:bG P w K mg base af 1 a.bH "take_number" ["self"] (oA K a)):aF P w K mg base af 2 f fd ["self"] (yz K a):=by
 refine F.ok Cf (fun vs H Q E h=>by obtain⟨cl,d,nl,l,p,x,s,rfl,_⟩:=h;rfl) (fun cdv A outer s H vs Q E hr h=>?_);obtain⟨cl,d,nl,l,p,x,sx,rfl,C,hrow,q⟩:=h;refine⟨_,(ai (aO (i:=1) Cf.nd rfl (Or.inl rfl) (bR (pv 0) T.eH m_Calls_take_number (hr.mono (by decide)) az)) (ai (aO (i:=2) Cf.nd rfl (Or.inl rfl) (aD (pv 0) rfl)) (ai (cM (pv 0) (bU iU (pv 2) (pv 1)) rfl) (aq (aB (lz mW (aD (pv 0) rfl) (jj (pv 2)) (jj (aD (pv 0) rfl)))))))),?_⟩;obtain⟨n,r,e,hn,rfl,rfl⟩:=HU hrow
 have hp:l[p]? =some (n:Int):=by
  have:=congrArg List.head? e;rw[List.head?_drop]at this;exact this
 have edr:l.drop (p+1)=r:=by
  have:(l.drop p).drop 1=r:=by rw[e];rfl
  rw[List.drop_drop]at this;exact this
 refine⟨_,rfl,cl,d,_,rfl,C.ob,oz (by decide+kernel),cl,d,nl,l,p,_,rfl,C,hp,?_⟩;refine gN ?_;generalize hH1:upd H cl (.ins a.bH d (eW nl (p+1)))=H1;have k1:Keeps H H1 cl:=fun b o z nb=>by rw[←hH1,au nb];exact z
 have c1:H1 cl=some (.ins a.bH d (eW nl (p+1))):=by rw[←hH1];exact aj
 refine⟨_,rfl,cl,_,d,_,_,rfl,c1,T.eH,T.iZ,rC,?_⟩;refine gN ?_;refine⟨_,rfl,_,rfl,_,_,rfl,rfl,_,rfl,cl,_,d,_,rfl,c1,T.eH,T.iZ,(by show 2<1000;decide),?_⟩;generalize hH2:upd H1 cl _=H2;have k2:Keeps H H2 cl:=k1.trans fun b o z nb=>by rw[←hH2,au nb];exact z
 have c2:H2 cl=some (.ins a.bH d (eW nl (p+1+n))):=by rw[←hH2,aj];rfl
 have C2:=C.move k2 c2;refine⟨_,rfl,cl,_,d,_,_,rfl,c2,T.eH,T.lN,CJ,_,rfl,_,rfl,_,rfl,cl,_,d,_,_,rfl,c2,T.eH,T.iZ,rC,_,rfl,nl,_,rfl,C2.ls,fun m hm=>?_⟩
 have ec:eu (l.map V.int) (some ((p+1:Nat):Int)) (some ((p+1+n:Nat):Int))=(r.take n).map V.int:=by
  rw[Og,←List.map_drop,←List.map_take,edr]
 have mcl:m≠cl:=fun z=>by rw[z,c2]at hm;cases hm
 refine q _ m (p+1+n) (fun b o z nb=>?_) ?_ ?_ (by omega) ?_ ?_
 ·exact aM hm _ _ (k2 b o z nb)
 ·exact aM hm _ _ c2
 ·rw[←edr,List.drop_drop]
 ·exact k2.free hm mcl
 ·rw[aj,←ec]
structure gU(H:Hp)(ns:List Addr)(ts:List (List Int)):Prop where
 len:ns.length=ts.length
 at_:∀(i:Nat)(n:Addr)(t:List Int),ns[i]? =some n→ts[i]? =some t→H n=some (.lst (t.map V.int))
theorem gU.nil{H:Hp}:gU H [] []:=⟨rfl,fun i n t h _=>by simp at h⟩
theorem gU.on{H H':Hp}{ns:List Addr}{ts:List (List Int)}(h:gU H ns ts)(k:∀n∈ns,∀o,H n=some o→H' n=some o):gU H' ns ts:=⟨h.len,fun i n t h1 h2=>k n (List.mem_of_getElem? h1) _ (h.at_ i n t h1 h2)⟩
theorem gU.snoc{H:Hp}{ns:List Addr}{ts:List (List Int)}{n:Addr}{t:List Int}(h:gU H ns ts)(hn:H n=some (.lst (t.map V.int))):gU H (ns++[n]) (ts++[t]):=by
 refine⟨by rw[List.length_append,List.length_append,h.len];rfl,fun i x c h1 h2=>?_⟩;by_cases hi:i<ns.length
 ·rw[List.getElem?_append_left hi]at h1
  rw[List.getElem?_append_left (by rw[←h.len];exact hi)]at h2;exact h.at_ i x c h1 h2
 ·rw[List.getElem?_append_right (by omega)]at h1
  rw[List.getElem?_append_right (by rw[←h.len];omega),←h.len]at h2
  match i-ns.length,h1,h2 with
  |0,h1,h2=>
   cases h1;cases h2;exact hn
  |j+1,h1,_=>simp at h1
def nH:List Nat:=[0,0,0,0,1,0,0,0,0,0,1,0,0,0]
def rH:List Nat:=[1,1,0,0,0,1,1,2,1,2,1,2,2,1]
theorem CK{m:Nat}{r:List Int}{xs:List (List Int)}{t:List Int}(h:PyFlat.rows (m+1) r=some (xs,t)):∃x s ys,PyFlat.row r=some (x,s)∧PyFlat.rows m s=some (ys,t)∧xs=x::ys:=by
 rw[PyFlat.rows]at h;cases hr:PyFlat.row r with
 |none=>rw[hr]at h;cases h
 |some y=>
  obtain⟨x,s⟩:=y;rw[hr]at h;dsimp only at h;cases h2:PyFlat.rows m s with
  |none=>rw[h2]at h;cases h
  |some z=>
   obtain⟨ys,t'⟩:=z;rw[h2]at h;cases h;exact⟨x,s,ys,rfl,h2,rfl⟩
theorem CM:∀{k:Nat}{r:List Int}{xs:List (List Int)}{t:List Int},PyFlat.rows k r=some (xs,t)→xs.length=k
 |0,r,xs,t,h=>by cases h;rfl
 |k+1,r,xs,t,h=>by
  obtain⟨x,s,ys,_,h2,rfl⟩:=CK h;rw[List.length_cons,CM h2]
inductive yC(K:PySem.W.Frag)(a:aH)(vs:List V)(H:Hp)(Q:VK)(E:XK):Prop
 |mk:∀(cl d nl:Addr)(l:List Int)(p j n k:Nat)(xs:List (List Int))(t:List Int),vs=[.ref cl,.int ((j:Nat):Int)]→kT K a H cl d nl l p→nH[j]? =some n→rH[j]? =some k→n≤(l.drop p).length→PyFlat.rows k ((l.drop p).drop n)=some (xs,t)→(∀H' hl ra p',Keeps H H' cl→H' cl=some (.ins a.bH d (eW nl p'))→l.drop p'=t→H hl=Option.none→H' hl=some (.lst (((l.drop p).take n).map V.int++ra.map V.ref))→gU H' ra xs→(∀b∈ra,H b=Option.none)→hl≠cl→Q (.ref hl) H')→yC K a vs H Q E
theorem Pq{j n:Nat}:nH[j]? =some n→n≤1∧j<14:=fun h=>by
 have hj:=(List.getElem?_eq_some_iff.mp h).1;have:∀n∈nH,n≤1:=by decide
 exact⟨this n (List.mem_of_getElem? h),hj⟩
theorem Pr{j n:Nat}:rH[j]? =some n→n≤2:=fun h=>by
 have:∀n∈rH,n≤2:=by decide
 exact this n (List.mem_of_getElem? h)
theorem HV{l:List Nat}{j n:Nat}(h:l[j]? =some n):gF (l.map fun(c:Nat)=>V.int (c:Int)) ((j:Nat):Int)=some (.int ((n:Nat):Int)):=at_of (j:=j) rfl (by rw[List.getElem?_map,h];rfl)
theorem Pu{f:Addr}{fd:FuncData}(F:aK K "take_handed" "Calls.take_handed" vp f fd)(T:Txt K mg a)(m_Calls_take_number:bG P w K mg base af 1 a.bH "take_number" ["self"] (oA K a))(m_Calls_take_row:bG P w K mg base af 2 a.bH "take_row" ["self"] (yz K a)):aF P w K mg base af 3 f fd ["self","call"] (yC K a):=by
 refine F.ok vH (fun vs H Q E h=>by obtain⟨cl,d,nl,l,p,j,n,k,xs,t,rfl,_⟩:=h;rfl) (fun cdv A outer s H vs Q E hr h=>?_);obtain⟨cl,d,nl,l,p,j,n,k,xs,t,rfl,C,hn,hk,hle,hrows,q⟩:=h;refine⟨_,(ai (aO (i:=2) vH.nd rfl (Or.inl rfl) (bM ah)) (ai (gZ PassesOwn.never rfl (Bb rfl T.nE (aa (bQ By (Ga T.wO) (pv 1) (fun _ _=>rfl)) ah)) (dR (i:=3) vH.nd rfl (Or.inl rfl)) (aq (bS (eB PySem.F.plainAttrs_list PySem.F.slot_list_append PySem.F.type_list_append gb (pv 2) (aa (bR (pv 0) T.eH m_Calls_take_number (hr.mono (by decide)) az) ah))))) (ai (gZ PassesOwn.never rfl (Bb rfl T.nE (aa (bQ By (Ga T.wQ) (pv 1) (fun _ _=>rfl)) ah)) (dR (i:=3) vH.nd rfl (Or.inl rfl)) (aq (bS (eB PySem.F.plainAttrs_list PySem.F.slot_list_append PySem.F.type_list_append gb (pv 2) (aa (bR (pv 0) T.eH m_Calls_take_row (hr.mono (by decide)) az) ah))))) (aq (aB (pv 2)))))),?_⟩;obtain⟨hn1,hj⟩:=Pq hn;have hk2:=Pr hk;refine⟨Nat.zero_le _,fun L hL=>?_⟩;refine gN ?_;have Lcl:L≠cl:=fun z=>by rw[z,C.ob]at hL;cases hL
 have c0:upd H L (.lst []) cl=some (.ins a.bH d (eW nl p)):=aM hL _ _ C.ob;refine⟨_,rfl,a.nu,_,_,_,rfl,rfl,.inr T.wR,HV (l:=nH) hn,_,rfl,by omega,by omega,Be (n:=n) (fun i σ H'=>∃v3,σ=[some (V.ref cl),some (V.int ((j:Nat):Int)),some (V.ref L),v3]∧Keeps H H' cl∧H' cl=some (.ins a.bH d (eW nl (p+i)))∧H' L=some (.lst (((l.drop p).take i).map V.int))) ⟨Option.none,rfl,(fun b o z _=>aM hL _ _ z),c0,by rw[List.take_zero];exact aj⟩ ?_ ?_⟩
 ·rintro i σ H' hi ⟨v3,rfl,k1,c1,l1⟩
  refine gN ?_;have C1:=C.move k1 c1;obtain⟨z0,hz⟩:∃z0,l[p+i]? =some z0:=⟨_,List.getElem?_eq_getElem (by rw[List.length_drop]at hle;omega)⟩;refine⟨_,rfl,.inl ⟨rfl,_,ay.of l1⟩,_,rfl,cl,d,_,rfl,c1,oz (by decide+kernel),cl,d,nl,l,p+i,_,rfl,C1,hz,L,_,_,rfl,rfl,(by rw[au Lcl];exact l1),?_,_,rfl,fun b o z nb=>?_,?_,?_⟩
  ·rw[List.length_map,List.length_take,sizeLine_eq];omega
  ·rw[au (aV z hL),au nb];exact k1 b o z nb
  ·rw[au (Ne.symm Lcl)];exact aj
  ·have e:(l.drop p)[i]? =some z0:=by rw[List.getElem?_drop];exact hz
   rw[aj,take_snoc e,List.map_append];rfl
 ·rintro σ H1 ⟨v3,rfl,k1,c1,l1⟩
  refine⟨_,rfl,a.nv,_,_,_,rfl,rfl,.inr T.wU,HV (l:=rH) hk,_,rfl,by omega,by omega,Be (n:=k) (fun i σ H'=>∃v3 ra pi,σ=[some (V.ref cl),some (V.int ((j:Nat):Int)),some (V.ref L),v3]∧Keeps H H' cl∧H' cl=some (.ins a.bH d (eW nl pi))∧H' L=some (.lst (((l.drop p).take n).map V.int++ra.map V.ref))∧ra.length=i∧gU H' ra (xs.take i)∧(∀b∈ra,H b=Option.none)∧L∉ra∧cl∉ra∧PyFlat.rows (k-i) (l.drop pi)=some (xs.drop i,t)) ⟨v3,[],p+n,rfl,k1,c1,by rw[List.map_nil,List.append_nil];exact l1,rfl,.nil,(by simp),(by simp),(by simp),by rw[←List.drop_drop];exact hrows⟩ ?_ ?_⟩
  ·rintro i σ H' hi ⟨v4,ra,pi,rfl,k2,c2,l2,hra,N,fr,Lra,clra,hr2⟩
   refine gN ?_;have C2:=C.move k2 c2;rw[show k-i=(k-(i+1))+1 by omega]at hr2;obtain⟨x,s',ys,hrow,hr3,exs⟩:=CK hr2;refine⟨_,rfl,.inl ⟨rfl,_,ay.of l2⟩,_,rfl,cl,d,_,rfl,c2,oz (by decide+kernel),cl,d,nl,l,pi,x,s',rfl,C2,hrow,fun H3 r p' k3 c3 e3 _ nr hr'=>?_⟩;have rL:r≠L:=fun z=>by rw[z,l2]at nr;cases nr
   have rcl:r≠cl:=fun z=>by rw[z,c2]at nr;cases nr
   have l3:=k3 _ _ l2 Lcl;refine⟨L,_,_,rfl,rfl,l3,?_,_,ra++[r],p',rfl,fun b o z nb=>?_,?_,?_,?_,?_,?_,?_,?_,?_⟩
   ·rw[List.length_append,List.length_map,List.length_map,List.length_take,hra,sizeLine_eq];omega
   ·rw[au (aV z hL)];exact k3 _ _ (k2 b o z nb) nb
   ·rw[au (Ne.symm Lcl)];exact c3
   ·rw[aj,List.map_append,List.append_assoc];rfl
   ·rw[List.length_append,hra];rfl
   ·have hxi:xs[i]? =some x:=by
     have:=congrArg List.head? exs;rw[List.head?_drop]at this;exact this
    rw[take_snoc hxi];refine((N.on (fun n' hn' o z=>k3 _ _ z (fun e=>clra (e▸hn')))).snoc hr').on fun n' hn' o z=>?_
    rw[au]
    ·exact z
    ·rintro rfl
     rcases List.mem_append.mp hn' with y|y
     ·exact Lra y
     ·exact rL (List.mem_singleton.mp y).symm
   ·intro b hb
    rcases List.mem_append.mp hb with y|y
    ·exact fr b y
    ·rw[List.mem_singleton.mp y];exact k2.free nr rcl
   ·intro y
    rcases List.mem_append.mp y with y|y
    ·exact Lra y
    ·exact rL (List.mem_singleton.mp y).symm
   ·intro y
    rcases List.mem_append.mp y with y|y
    ·exact clra y
    ·exact rcl (List.mem_singleton.mp y).symm
   ·have e4:xs.drop (i+1)=ys:=by
     have:(xs.drop i).drop 1=ys:=by rw[exs];rfl
     rw[List.drop_drop]at this;exact this
    rw[e3,e4];exact hr3
  ·rintro σ H' ⟨v4,ra,pi,rfl,k2,c2,l2,hra,N,fr,Lra,clra,hr2⟩
   have hxl:=CM hrows;rw[←hxl,List.take_length]at N;rw[Nat.sub_self]at hr2
   have e5:l.drop pi=t:=by
    have z:=hr2;rw[PyFlat.rows]at z;exact(Prod.mk.inj (Option.some.inj z)).2
   exact⟨_,rfl,q H' L ra pi k2 c2 e5 hL l2 N fr Lcl⟩
theorem cJ{i:Nat}{A z:Int}{t v:TS}{D:Ends}{σ:L2.St}{H:Hp}(hs:σ[i]? =some (some (V.int z)))(hz:z≠A)(h:v D σ H):jG (lg (ko (ki o6 (gq i) (tC (.int A)))) t mS) v D σ H:=by
 refine⟨_,hs,rfl,_,rfl,?_⟩;rw[bJ];exact(if_neg (by rw[decide_eq_true_iff];exact hz)).mpr h
theorem iJ{i:Nat}{A z:Int}{t v:TS}{D:Ends}{σ:L2.St}{H:Hp}(hs:σ[i]? =some (some (V.int z)))(hz:z=A)(h:t {D with nx:=v D} σ H):jG (lg (ko (ki o6 (gq i) (tC (.int A)))) t mS) v D σ H:=by
 refine⟨_,hs,rfl,_,rfl,?_⟩;rw[bJ];exact(if_pos (by rw[decide_eq_true_iff];exact hz)).mpr h
def oB:Vacola.Call→Int
 |.check _=>0
 |.hold _=>1
 |.show=>2
 |.columns=>3
 |.column _=>4
 |.find _=>5
 |.name _=>6
 |.add _ _=>7
 |.drop _=>8
 |.rename _ _=>9
 |.remode _ _=>10
 |.rekind _ _=>11
 |.dflt _ _=>12
 |.keep _=>13
def kU(H:Hp)(r:Addr)(t:List Nat):Prop:=H r=some (.lst (aC t))∧t.length≤5000
def kW(H:Hp)(r:Addr)(p:List Int):Prop:=H r=some (.lst (p.map V.int))∧p.length≤100
def CN(H:Hp)(g:Addr)(hv:List V):Vacola.Call→Prop
 |.check t=>∃r,hv=[.ref r]∧kU H r t
 |.hold t=>∃r,hv=[.ref r]∧kU H r t∧g≠r
 |.show=>True
 |.columns=>True
 |.column n=>hv=[.int n]
 |.find t=>∃r,hv=[.ref r]∧kU H r t
 |.name p=>∃r,hv=[.ref r]∧kW H r p
 |.add p t=>∃r s,hv=[.ref r,.ref s]∧kW H r p∧kU H s t
 |.drop p=>∃r,hv=[.ref r]∧kW H r p
 |.rename p t=>∃r s,hv=[.ref r,.ref s]∧kW H r p∧kU H s t
 |.remode m p=>∃r,hv=[.int m,.ref r]∧kW H r p
 |.rekind p t=>∃r s,hv=[.ref r,.ref s]∧kW H r p∧kU H s t
 |.dflt p t=>∃r s,hv=[.ref r,.ref s]∧kW H r p∧kU H s t
 |.keep l=>∃r,hv=[.ref r]∧kW H r l
def yD:Vacola.Call→Bool
 |.show=>true
 |.columns=>true
 |.column _=>true
 |.find _=>true
 |.name _=>true
 |.keep _=>true
 |_=>false
def yE:Vacola.Call→Bool
 |.add _ _=>true
 |.drop _=>true
 |.rename _ _=>true
 |.remode _ _=>true
 |.rekind _ _=>true
 |.dflt _ _=>true
 |_=>false
inductive mz(a:aH)(tb:Tb)(is:Vacola.Call→Bool)(vs:List V)(H:Hp)(Q:VK)(E:XK):Prop
 |mk:∀(ho g:Addr)(xs:List V)(fs:Vacola.Fields)(c:Vacola.Call)(z:Int)(hl:Addr)(hv:List V),vs=[.ref ho,.int z,.ref hl]→z=oB c→is c=true→dD a H ho g fs→bz tb H→ho≠g→H g=some (.lst xs)→H hl=some (.lst hv)→CN H g hv c→ig a tb H ho g fs (Vacola.stepHeld ⟨some fs⟩ fs c) Q→mz a tb is vs H Q E
theorem CO{tb:Tb}{H:Hp}{ho g:Addr}{fs:Vacola.Fields}{ans:Vacola.Answer}{Q:VK}(q:ig a tb H ho g fs (⟨some fs⟩,ans) Q)(hx:dD a H ho g fs)(tabs:bz tb H)(hg:ho≠g):lX tb H (VacolaNeutral.encode ans) Q:=gS.of (x:=some fs) q hx tabs hg
theorem yF{tb:Tb}{H:Hp}{ho g:Addr}{fs:Vacola.Fields}{ans:Vacola.Answer}{Q:VK}(q:ig a tb H ho g fs (⟨some fs⟩,ans) Q)(hx:dD a H ho g fs)(tabs:bz tb H)(hg:ho≠g):lW H (VacolaNeutral.encode ans) Q:=(CO q hx tabs hg).of tabs
theorem Pw{f:Addr}{fd:FuncData}{tb:Tb}(F:aK K "answer_question" "answer_question" vt f fd)(T:Txt K mg a)(c_reply_show:ao P w K mg base af 1 "reply_show" ["holder"] (xX a))(c_reply_columns:ao P w K mg base af 12 "reply_columns" ["holder"] (xY a))(c_reply_column:ao P w K mg base af 12 "reply_column" ["holder","number"] (x_ a))
  (c_reply_find:ao P w K mg base af 12 "reply_find" ["holder","text"] (yc a tb))(c_reply_name:ao P w K mg base af 5 "reply_name" ["holder","path"] (yb a tb))(c_reply_keep:ao P w K mg base af 30 "reply_keep" ["holder","numbers"] (ye a)):aF P w K mg base af 31 f fd ["holder","call","handed"] (mz a tb yD):=by
 refine F.ok Ml (fun vs H Q E h=>by obtain⟨ho,g,xs,fs,c,z,hl,hv,rfl,_⟩:=h;rfl) (fun cdv A outer s H vs Q E hr h=>?_);obtain⟨ho,g,xs,fs,c,z,hl,hv,rfl,hz,his,hx,tabs,hg,hog,hhl,hh,q⟩:=h;refine⟨_,(ai (aU (aY bF (pv 1) (aA T.wC) (aQ _)) (aq (aB (aG c_reply_show (hr.mono (by decide)) rfl az (aa (pv 0) ah)))) aX) (ai (aU (aY bF (pv 1) (aA T.wD) (aQ _)) (aq (aB (aG c_reply_columns (hr.mono (by decide)) rfl az (aa (pv 0) ah)))) aX) (ai (aU (aY bF (pv 1) (aA T.wF) (aQ _)) (aq (aB (aG c_reply_column (hr.mono (by decide)) rfl az (aa (pv 0) (aa (bQ cA (pv 2) aN (fun _ _=>rfl)) ah))))) aX) (ai (aU (aY bF (pv 1) (aA T.wH) (aQ _)) (aq (aB (aG c_reply_find (hr.mono (by decide)) rfl az (aa (pv 0) (aa (bQ cA (pv 2) aN (fun _ _=>rfl)) ah))))) aX) (ai (aU (aY bF (pv 1) (aA T.wI) (aQ _)) (aq (aB (aG c_reply_name (hr.mono (by decide)) rfl az (aa (pv 0) (aa (bQ cA (pv 2) aN (fun _ _=>rfl)) ah))))) aX) (aq (aB (aG c_reply_keep (hr.mono (by decide)) rfl az (aa (pv 0) (aa (bQ cA (pv 2) aN (fun _ _=>rfl)) ah)))))))))),?_⟩
 match c,hz,his,hh,q with
 |.show,hz,_,hh,q=>
  obtain rfl:z=2:=hz;refine iJ rfl rfl ?_;exact⟨_,rfl,ho,g,fs,rfl,hx,yF q hx tabs hg⟩
 |.columns,hz,_,hh,q=>
  obtain rfl:z=3:=hz;refine cJ rfl (by decide) (iJ rfl rfl ?_);exact⟨_,rfl,ho,g,fs,rfl,hx,yF q hx tabs hg⟩
 |.column n,hz,_,hh,q=>
  obtain rfl:z=4:=hz;obtain rfl:hv=[.int n]:=hh;refine cJ rfl (by decide) (cJ rfl (by decide) (iJ rfl rfl ?_));exact⟨_,rfl,_,rfl,hl,_,_,(.int n),rfl,rfl,ay.of hhl,at_of (j:=0) rfl rfl,ho,g,fs,n,rfl,hx,yF q hx tabs hg⟩
 |.find t,hz,_,hh,q=>
  obtain rfl:z=5:=hz;obtain⟨r,rfl,h1,h2⟩:=hh;refine cJ rfl (by decide) (cJ rfl (by decide) (cJ rfl (by decide) (iJ rfl rfl ?_)));exact⟨_,rfl,_,rfl,hl,_,_,(.ref r),rfl,rfl,ay.of hhl,at_of (j:=0) rfl rfl,ho,g,fs,r,t,rfl,hx,tabs,h1,h2,CO q hx tabs hg⟩
 |.name p,hz,_,hh,q=>
  obtain rfl:z=6:=hz;obtain⟨r,rfl,h1,h2⟩:=hh;refine cJ rfl (by decide) (cJ rfl (by decide) (cJ rfl (by decide) (cJ rfl (by decide) (iJ rfl rfl ?_))));exact⟨_,rfl,_,rfl,hl,_,_,(.ref r),rfl,rfl,ay.of hhl,at_of (j:=0) rfl rfl,ho,g,fs,r,p,rfl,hx,tabs,h1,h2,CO q hx tabs hg⟩
 |.keep l,hz,_,hh,q=>
  obtain rfl:z=13:=hz;obtain⟨r,rfl,h1,h2⟩:=hh;refine cJ rfl (by decide) (cJ rfl (by decide) (cJ rfl (by decide) (cJ rfl (by decide) (cJ rfl (by decide) ?_))));exact⟨_,rfl,_,rfl,hl,_,_,(.ref r),rfl,rfl,ay.of hhl,at_of (j:=0) rfl rfl,ho,g,fs,r,l,rfl,hx,h1,h2,yF q hx tabs hg⟩
theorem Px{f:Addr}{fd:FuncData}{tb:Tb}(F:aK K "answer_change" "answer_change" vv f fd)(T:Txt K mg a)(c_reply_add:ao P w K mg base af 31 "reply_add" ["holder","path","text"] (yk a tb))(c_reply_drop:ao P w K mg base af 31 "reply_drop" ["holder","path"] (yl a tb))(c_reply_rename:ao P w K mg base af 33 "reply_rename" ["holder","path","text"] (jB a tb .rename))
  (c_reply_remode:ao P w K mg base af 33 "reply_remode" ["holder","number","path"] (yx a tb))(c_reply_rekind:ao P w K mg base af 33 "reply_rekind" ["holder","path","text"] (jB a tb .rekind))(c_reply_default:ao P w K mg base af 33 "reply_default" ["holder","path","text"] (jB a tb .dflt)):aF P w K mg base af 34 f fd ["holder","call","handed"] (mz a tb yE):=by
 refine F.ok Mm (fun vs H Q E h=>by obtain⟨ho,g,xs,fs,c,z,hl,hv,rfl,_⟩:=h;rfl) (fun cdv A outer s H vs Q E hr h=>?_);obtain⟨ho,g,xs,fs,c,z,hl,hv,rfl,hz,his,hx,tabs,hg,hog,hhl,hh,q⟩:=h;refine⟨_,(ai (aU (aY bF (pv 1) (aA T.ql) (aQ _)) (aq (aB (aG c_reply_add (hr.mono (by decide)) rfl az (aa (pv 0) (aa (bQ cA (pv 2) aN (fun _ _=>rfl)) (aa (bQ cA (pv 2) aN (fun _ _=>rfl)) ah)))))) aX) (ai (aU (aY bF (pv 1) (aA T.wJ) (aQ _)) (aq (aB (aG c_reply_drop (hr.mono (by decide)) rfl az (aa (pv 0) (aa (bQ cA (pv 2) aN (fun _ _=>rfl)) ah))))) aX) (ai (aU (aY bF (pv 1) (aA T.wK) (aQ _)) (aq (aB (aG c_reply_rename (hr.mono (by decide)) rfl az (aa (pv 0) (aa (bQ cA (pv 2) aN (fun _ _=>rfl)) (aa (bQ cA (pv 2) aN (fun _ _=>rfl)) ah)))))) aX) (ai (aU (aY bF (pv 1) (aA T.wL) (aQ _)) (aq (aB (aG c_reply_remode (hr.mono (by decide)) rfl az (aa (pv 0) (aa (bQ cA (pv 2) aN (fun _ _=>rfl)) (aa (bQ cA (pv 2) aN (fun _ _=>rfl)) ah)))))) aX) (ai (aU (aY bF (pv 1) (aA T.wM) (aQ _)) (aq (aB (aG c_reply_rekind (hr.mono (by decide)) rfl az (aa (pv 0) (aa (bQ cA (pv 2) aN (fun _ _=>rfl)) (aa (bQ cA (pv 2) aN (fun _ _=>rfl)) ah)))))) aX) (aq (aB (aG c_reply_default (hr.mono (by decide)) rfl az (aa (pv 0) (aa (bQ cA (pv 2) aN (fun _ _=>rfl)) (aa (bQ cA (pv 2) aN (fun _ _=>rfl)) ah))))))))))),?_⟩
 match c,hz,his,hh,q with
 |.add p t,hz,_,hh,q=>
  obtain rfl:z=7:=hz;obtain⟨r,s',rfl,h1,h2⟩:=hh;refine iJ rfl rfl ?_;exact⟨_,rfl,_,rfl,hl,_,_,(.ref r),rfl,rfl,ay.of hhl,at_of (j:=0) rfl rfl,_,rfl,hl,_,_,(.ref s'),rfl,rfl,ay.of hhl,at_of (j:=1) rfl rfl,ho,g,xs,fs,r,p,s',t,rfl,hx,tabs,hg,hog,h1.1,h1.2,h2.1,h2.2,q⟩
 |.drop p,hz,_,hh,q=>
  obtain rfl:z=8:=hz;obtain⟨r,rfl,h1⟩:=hh;refine cJ rfl (by decide) (iJ rfl rfl ?_);exact⟨_,rfl,_,rfl,hl,_,_,(.ref r),rfl,rfl,ay.of hhl,at_of (j:=0) rfl rfl,ho,g,xs,fs,r,p,rfl,hx,tabs,hg,hog,h1.1,h1.2,q⟩
 |.rename p t,hz,_,hh,q=>
  obtain rfl:z=9:=hz;obtain⟨r,s',rfl,h1,h2⟩:=hh;refine cJ rfl (by decide) (cJ rfl (by decide) (iJ rfl rfl ?_));exact⟨_,rfl,_,rfl,hl,_,_,(.ref r),rfl,rfl,ay.of hhl,at_of (j:=0) rfl rfl,_,rfl,hl,_,_,(.ref s'),rfl,rfl,ay.of hhl,at_of (j:=1) rfl rfl,ho,g,xs,fs,r,p,s',t,rfl,hx,tabs,hg,hog,h1.1,h1.2,h2.1,h2.2,q⟩
 |.remode m p,hz,_,hh,q=>
  obtain rfl:z=10:=hz;obtain⟨r,rfl,h1⟩:=hh;refine cJ rfl (by decide) (cJ rfl (by decide) (cJ rfl (by decide) (iJ rfl rfl ?_)));exact⟨_,rfl,_,rfl,hl,_,_,(.int m),rfl,rfl,ay.of hhl,at_of (j:=0) rfl rfl,_,rfl,hl,_,_,(.ref r),rfl,rfl,ay.of hhl,at_of (j:=1) rfl rfl,ho,g,xs,fs,m,r,p,rfl,hx,tabs,hg,hog,h1.1,h1.2,q⟩
 |.rekind p t,hz,_,hh,q=>
  obtain rfl:z=11:=hz;obtain⟨r,s',rfl,h1,h2⟩:=hh;refine cJ rfl (by decide) (cJ rfl (by decide) (cJ rfl (by decide) (cJ rfl (by decide) (iJ rfl rfl ?_))));exact⟨_,rfl,_,rfl,hl,_,_,(.ref r),rfl,rfl,ay.of hhl,at_of (j:=0) rfl rfl,_,rfl,hl,_,_,(.ref s'),rfl,rfl,ay.of hhl,at_of (j:=1) rfl rfl,ho,g,xs,fs,r,p,s',t,rfl,hx,tabs,hg,hog,h1.1,h1.2,h2.1,h2.2,q⟩
 |.dflt p t,hz,_,hh,q=>
  obtain rfl:z=12:=hz;obtain⟨r,s',rfl,h1,h2⟩:=hh;refine cJ rfl (by decide) (cJ rfl (by decide) (cJ rfl (by decide) (cJ rfl (by decide) (cJ rfl (by decide) ?_))));exact⟨_,rfl,_,rfl,hl,_,_,(.ref r),rfl,rfl,ay.of hhl,at_of (j:=0) rfl rfl,_,rfl,hl,_,_,(.ref s'),rfl,rfl,ay.of hhl,at_of (j:=1) rfl rfl,ho,g,xs,fs,r,p,s',t,rfl,hx,tabs,hg,hog,h1.1,h1.2,h2.1,h2.2,q⟩
theorem Py{A B z:Int}{t v:TS}{D:Ends}{σ:L2.St}{H:Hp}{i:Nat}(hs:σ[i]? =some (some (V.int z)))(h1:A≤z)(h2:z≤B)(h:t {D with nx:=v D} σ H):
  jG (lg (ko (sS (g4 fun i j=>.bl (decide (i≤j))) (g4 fun i j=>.bl (decide (i≤j))) (tC (.int A)) (gq i) (tC (.int B)))) t mS) v D σ H:=by
 refine⟨_,hs,_,_,rfl,rfl,_,rfl,?_⟩;refine(if_pos (decide_eq_true h1)).mpr ?_;refine⟨_,_,rfl,rfl,_,rfl,?_⟩;exact(if_pos (decide_eq_true h2)).mpr h
theorem Pz{A B z:Int}{t v:TS}{D:Ends}{σ:L2.St}{H:Hp}{i:Nat}(hs:σ[i]? =some (some (V.int z)))(h1:¬(A≤z∧z≤B))(h:v D σ H):
  jG (lg (ko (sS (g4 fun i j=>.bl (decide (i≤j))) (g4 fun i j=>.bl (decide (i≤j))) (tC (.int A)) (gq i) (tC (.int B)))) t mS) v D σ H:=by
 refine⟨_,hs,_,_,rfl,rfl,_,rfl,?_⟩;by_cases hA:A≤z
 ·refine(if_pos (decide_eq_true hA)).mpr ?_
  refine⟨_,_,rfl,rfl,_,rfl,?_⟩;exact(if_neg (by rw[decide_eq_true_iff];exact fun hB=>h1 ⟨hA,hB⟩)).mpr h
 ·refine(if_neg (by rw[decide_eq_true_iff];exact hA)).mpr ?_
  exact⟨_,rfl,h⟩
inductive yG(a:aH)(tb:Tb)(vs:List V)(H:Hp)(Q:VK)(E:XK):Prop
 |mk:∀(ho g:Addr)(xs:List V)(st:Vacola.State)(c:Vacola.Call)(z:Int)(hl:Addr)(hv:List V),vs=[.ref ho,.int z,.ref hl]→z=oB c→iI a H ho g st.held→bz tb H→ho≠g→H g=some (.lst xs)→H hl=some (.lst hv)→CN H g hv c→gS a tb H ho g (Vacola.step st c).1.held (VacolaNeutral.encode (Vacola.step st c).2) Q→yG a tb vs H Q E
theorem PB{f:Addr}{fd:FuncData}{tb:Tb}(F:aK K "answer_call" "answer_call" vq f fd)(T:Txt K mg a)(c_reply_check:ao P w K mg base af 28 "reply_check" ["text"] (xV a))(c_reply_hold:ao P w K mg base af 29 "reply_hold" ["holder","text"] (xW a tb))(c_answer_change:ao P w K mg base af 34 "answer_change" ["holder","call","handed"] (mz a tb yE))(c_answer_question:ao P w K mg base af 31 "answer_question" ["holder","call","handed"] (mz a tb yD)):aF P w K mg base af 35 f fd ["holder","call","handed"] (yG a tb):=by
 refine F.ok Mj (fun vs H Q E h=>by obtain⟨ho,g,xs,st,c,z,hl,hv,rfl,_⟩:=h;rfl) (fun cdv A outer s H vs Q E hr h=>?_);obtain⟨ho,g,xs,st,c,z,hl,hv,rfl,hz,hx,tabs,hg,hog,hhl,hh,q⟩:=h;refine⟨_,(ai (aU (aY bF (pv 1) (aA T.wA) (aQ _)) (aq (aB (aG c_reply_check (hr.mono (by decide)) rfl az (aa (bQ cA (pv 2) aN (fun _ _=>rfl)) ah)))) aX) (ai (aU (aY bF (pv 1) (aA T.wB) (aQ _)) (aq (aB (aG c_reply_hold (hr.mono (by decide)) rfl az (aa (pv 0) (aa (bQ cA (pv 2) aN (fun _ _=>rfl)) ah))))) aX) (ai (aU (iQ (je (aD (pv 0) rfl))) (aq (aB (bM (aa (aA T.wo) ah)))) aX) (ai (aU (sV gw gw (aA T.ql) (pv 1) (aA T.wN)) (aq (aB (aG c_answer_change (hr.mono (by decide)) rfl az (aa (pv 0) (aa (pv 1) (aa (pv 2) ah)))))) aX) (aq (aB (aG c_answer_question (hr.mono (by decide)) rfl az (aa (pv 0) (aa (pv 1) (aa (pv 2) ah)))))))))),?_⟩;by_cases hck:∃t,c=.check t
 ·obtain⟨t,rfl⟩:=hck
  obtain rfl:z=0:=hz;obtain⟨r,rfl,h1⟩:=hh;refine iJ rfl rfl ?_;exact⟨_,rfl,hl,_,_,(.ref r),rfl,rfl,ay.of hhl,at_of (j:=0) rfl rfl,r,t,rfl,h1.1,(gS.of q hx tabs hg).of tabs⟩
 by_cases hhd:∃t,c=.hold t
 ·obtain⟨t,rfl⟩:=hhd
  obtain rfl:z=1:=hz;obtain⟨r,rfl,h1,h2⟩:=hh;refine cJ rfl (by decide) (iJ rfl rfl ?_);refine⟨_,rfl,_,rfl,hl,_,_,(.ref r),rfl,rfl,ay.of hhl,at_of (j:=0) rfl rfl,ho,g,_,r,t,st.held,rfl,hx,tabs,hg,hog,h2,h1.1,?_⟩
  have e:Vacola.step st (.hold t)=match Vacola.readSchema t with
   |.ok fs=>({st with held:=some fs},.done)
   |.error _=>(st,.refused (-1)):=rfl
  rw[e]at q;cases hR:Vacola.readSchema t with
  |ok fs=>rw[hR]at q;exact q
  |error e=>rw[hR]at q;exact q
 have hz2:2≤z∧z≤13:=by
  rw[hz];cases c with
  |check t=>exact absurd ⟨t,rfl⟩ hck
  |hold t=>exact absurd ⟨t,rfl⟩ hhd
  |_=>simp[oB]
 refine cJ rfl (by omega) (cJ rfl (by omega) ?_)
 have eS:Vacola.step st c=match st.held with
  |Option.none=>(st,.refused (-2))
  |some fs=>Vacola.stepHeld st fs c:=by
  cases c with
  |check t=>exact absurd ⟨t,rfl⟩ hck
  |hold t=>exact absurd ⟨t,rfl⟩ hhd
  |_=>rfl
 rw[eS]at q;obtain⟨hld⟩:=st;cases hld with
 |none=>
  obtain⟨d,tv,hho⟩:=id hx;refine⟨_,rfl,ho,_,d,_,_,rfl,hho,T.dN,T.gM,jW,_,rfl,?_⟩;refine⟨by show 1≤sizeLine;decide,fun m hm=>?_⟩;exact((gS.of (x:=Option.none) q hx tabs hg).of tabs) _ m (aM hm) hm aj (by show 1≤2010;decide)
 |some fs=>
  obtain⟨d,t,ta,hho,_⟩:=id hx;refine⟨_,rfl,ho,_,d,_,_,rfl,hho,T.dN,T.gM,jW,_,rfl,?_⟩;refine(if_neg (by show¬false=true;decide)).mpr (nX ?_);dsimp only;cases hch:yE c with
  |true=>
   have:7≤z∧z≤12:=by
    rw[hz];cases c<;>first|(cases hch;done)|(simp[oB];done)
   refine Py rfl this.1 this.2 ?_;exact⟨_,rfl,_,rfl,_,rfl,ho,g,xs,fs,c,z,hl,hv,rfl,hz,hch,hx,tabs,hg,hog,hhl,hh,q⟩
  |false=>
   have:¬(7≤z∧z≤12):=by
    rw[hz];cases c<;>first|(cases hch;done)|(simp[oB];done)
   have his:yD c=true:=by
    cases c with
    |check t=>exact absurd ⟨t,rfl⟩ hck
    |hold t=>exact absurd ⟨t,rfl⟩ hhd
    |_=>first|rfl|cases hch
   refine Pz rfl this ?_;exact⟨_,rfl,_,rfl,_,rfl,ho,g,xs,fs,c,z,hl,hv,rfl,hz,his,hx,tabs,hg,hog,hhl,hh,q⟩
theorem PD(c:List (List Int)):PyVacola.whole c=c:=by
 rcases c with _|⟨x,_|⟨p,_|⟨t,_|⟨u,l⟩⟩⟩⟩<;>try rfl
 all_goals rcases x with _|⟨z,_|⟨m,_|⟨m2,l2⟩⟩⟩<;>try rfl
 all_goals rcases z with n|n<;>try rfl
 all_goals(rcases n with _|_|_|_|_|_|_|_|_|_|_|_|_|_|n<;>rfl)
theorem kX{x:List Int}(h:(x.all fun(z:Int)=>VacolaNeutral.natural z 8)=true):NeutralIO.bytes x=true∧x.map V.int=aC (VacolaNeutral.text x):=by
 have hz:∀z∈x,0≤z∧z<256:=fun z hz=>by
  have:=List.all_eq_true.mp h z hz;unfold VacolaNeutral.natural at this;rw[Bool.and_eq_true,decide_eq_true_iff,decide_eq_true_iff]at this;have e:(2:Int)^8=256:=by decide
  omega
 constructor
 ·unfold NeutralIO.bytes
  rw[List.all_eq_true];intro z hz';have:=hz z hz';rw[Bool.and_eq_true,decide_eq_true_iff,decide_eq_true_iff];omega
 ·unfold aC VacolaNeutral.text
  rw[List.map_map];apply List.map_congr_left;intro z hz';have:=hz z hz';show V.int z=V.int ((z.toNat:Nat):Int);rw[Int.toNat_of_nonneg this.1]
theorem mC{H:Hp}{ra:List Addr}{x:List Int}(h:gU H ra [x]):∃r,ra=[r]∧H r=some (.lst (x.map V.int)):=by
 have hl:=h.len
 match ra,hl,h with
 |[r],_,h=>exact⟨r,rfl,h.at_ 0 r x rfl rfl⟩
theorem yH{H:Hp}{ra:List Addr}{x y:List Int}(h:gU H ra [x,y]):∃r s,ra=[r,s]∧H r=some (.lst (x.map V.int))∧H s=some (.lst (y.map V.int)):=by
 have hl:=h.len
 match ra,hl,h with
 |[r,s],_,h=>exact⟨r,s,rfl,h.at_ 0 r x rfl rfl,h.at_ 1 s y rfl rfl⟩
theorem PF{H:Hp}{ra:List Addr}(h:gU H ra []):ra=[]:=List.length_eq_zero_iff.mp h.len
theorem mD{H:Hp}{r:Addr}{x:List Int}(h1:(x.all fun(z:Int)=>VacolaNeutral.natural z 8)=true)(h2:x.length≤5000)(h:H r=some (.lst (x.map V.int))):kU H r (VacolaNeutral.text x):=⟨by rw[←(kX h1).2];exact h,by unfold VacolaNeutral.text;rw[List.length_map];exact h2⟩
structure PJ(c:List (List Int)):Prop where
 ex:∃(z:Int)(ns:List Int)(xs:List (List Int))(k:Vacola.Call)(j:Nat),c=(z::ns)::xs∧VacolaNeutral.callOf c=some k∧z=oB k∧z=(j:Int)∧nH[j]? =some ns.length∧rH[j]? =some xs.length∧
  ∀(H:Hp)(g:Addr)(ra:List Addr),gU H ra xs→(∀b∈ra,g≠b)→CN H g (ns.map V.int++ra.map V.ref) k
theorem jZ{a:Bool}{p:Prop}[Decidable p](h:(a&&decide p)=true):a=true∧p:=by
 rw[Bool.and_eq_true,decide_eq_true_iff]at h;exact h
theorem yI{a b:Bool}{p q:Prop}[Decidable p][Decidable q](h:((a&&decide p)&&(b&&decide q))=true):(a=true∧p)∧b=true∧q:=
 have z:=Bool.and_eq_true_iff.mp h;⟨jZ z.1,jZ z.2⟩
theorem PK{c:List (List Int)}(h:VacolaNeutral.asked1 c=true):PJ c:=by
 rcases c with _|⟨w,_|⟨x,_|⟨y,_|⟨u,l⟩⟩⟩⟩<;>try exact absurd h Bool.false_ne_true
 all_goals rcases w with _|⟨z,_|⟨m,_|⟨m2,l2⟩⟩⟩<;>try exact absurd h Bool.false_ne_true
 all_goals rcases z with n|n<;>try exact absurd h Bool.false_ne_true
 all_goals(rcases n with _|_|_|_|_|_|_|_|_|_|_|_|_|_|n<;>try exact absurd h Bool.false_ne_true)
 ·exact⟨2,[],[],.show,2,rfl,rfl,rfl,rfl,rfl,rfl,fun H g ra hI hg=>trivial⟩
 ·exact⟨3,[],[],.columns,3,rfl,rfl,rfl,rfl,rfl,rfl,fun H g ra hI hg=>trivial⟩
 ·exact⟨4,[m],[],.column m,4,rfl,rfl,rfl,rfl,rfl,rfl,fun H g ra hI hg=>by rw[PF hI];rfl⟩
 ·have h:=jZ h
  exact⟨0,[],[x],.check (VacolaNeutral.text x),0,rfl,by exact if_pos (kX h.1).1,rfl,rfl,rfl,rfl,fun H g ra hI hg=>by
   obtain⟨r,rfl,h1⟩:=mC hI;exact⟨r,rfl,mD h.1 h.2 h1⟩⟩
 ·have h:=jZ h
  exact⟨1,[],[x],.hold (VacolaNeutral.text x),1,rfl,by exact if_pos (kX h.1).1,rfl,rfl,rfl,rfl,fun H g ra hI hg=>by
   obtain⟨r,rfl,h1⟩:=mC hI;exact⟨r,rfl,mD h.1 h.2 h1,hg r List.mem_cons_self⟩⟩
 ·have h:=jZ h
  exact⟨5,[],[x],.find (VacolaNeutral.text x),5,rfl,by exact if_pos (kX h.1).1,rfl,rfl,rfl,rfl,fun H g ra hI hg=>by
   obtain⟨r,rfl,h1⟩:=mC hI;exact⟨r,rfl,mD h.1 h.2 h1⟩⟩
 ·have h:=jZ h
  exact⟨6,[],[x],.name x,6,rfl,rfl,rfl,rfl,rfl,rfl,fun H g ra hI hg=>by
   obtain⟨r,rfl,h1⟩:=mC hI;exact⟨r,rfl,h1,h.2⟩⟩
 ·have h:=jZ h
  exact⟨8,[],[x],.drop x,8,rfl,rfl,rfl,rfl,rfl,rfl,fun H g ra hI hg=>by
   obtain⟨r,rfl,h1⟩:=mC hI;exact⟨r,rfl,h1,h.2⟩⟩
 ·have h:=jZ h
  exact⟨13,[],[x],.keep x,13,rfl,rfl,rfl,rfl,rfl,rfl,fun H g ra hI hg=>by
   obtain⟨r,rfl,h1⟩:=mC hI;exact⟨r,rfl,h1,h.2⟩⟩
 ·have z:=Bool.and_eq_true_iff.mp h
  exact⟨10,[m],[x],.remode m x,10,rfl,rfl,rfl,rfl,rfl,rfl,fun H g ra hI hg=>by
   obtain⟨r,rfl,h1⟩:=mC hI;exact⟨r,rfl,h1,(jZ z.2).2⟩⟩
 ·have h:=yI h
  exact⟨7,[],[x,y],.add x (VacolaNeutral.text y),7,rfl,by exact if_pos (kX h.2.1).1,rfl,rfl,rfl,rfl,fun H g ra hI hg=>by
   obtain⟨r,s,rfl,h1,h2⟩:=yH hI;exact⟨r,s,rfl,⟨h1,h.1.2⟩,mD h.2.1 h.2.2 h2⟩⟩
 ·have h:=yI h
  exact⟨9,[],[x,y],.rename x (VacolaNeutral.text y),9,rfl,by exact if_pos (kX h.2.1).1,rfl,rfl,rfl,rfl,fun H g ra hI hg=>by
   obtain⟨r,s,rfl,h1,h2⟩:=yH hI;exact⟨r,s,rfl,⟨h1,h.1.2⟩,mD h.2.1 h.2.2 h2⟩⟩
 ·have h:=yI h
  exact⟨11,[],[x,y],.rekind x (VacolaNeutral.text y),11,rfl,by exact if_pos (kX h.2.1).1,rfl,rfl,rfl,rfl,fun H g ra hI hg=>by
   obtain⟨r,s,rfl,h1,h2⟩:=yH hI;exact⟨r,s,rfl,⟨h1,h.1.2⟩,mD h.2.1 h.2.2 h2⟩⟩
 ·have h:=yI h
  exact⟨12,[],[x,y],.dflt x (VacolaNeutral.text y),12,rfl,by exact if_pos (kX h.2.1).1,rfl,rfl,rfl,rfl,fun H g ra hI hg=>by
   obtain⟨r,s,rfl,h1,h2⟩:=yH hI;exact⟨r,s,rfl,⟨h1,h.1.2⟩,mD h.2.1 h.2.2 h2⟩⟩
theorem PL{sh:Int→Option (Nat×Nat)}{p:Int}{r:List Int}{c:List (List Int)}{t:List Int}(h:PyFlat.call sh (p::r)=some (c,t)):∃n k xs,n≤r.length∧PyFlat.rows k (r.drop n)=some (xs,t)∧c=(p::r.take n)::xs:=by
 rw[PyFlat.call]at h;cases hs:sh p with
 |none=>rw[hs]at h;cases h
 |some y=>
  obtain⟨n,k⟩:=y;rw[hs]at h;dsimp only at h;by_cases hn:r.length<n
  ·rw[if_pos hn]at h;cases h
  ·rw[if_neg hn]at h
   cases hr:PyFlat.rows k (r.drop n)with
   |none=>rw[hr]at h;cases h
   |some z=>
    obtain⟨xs,t'⟩:=z;rw[hr]at h;cases h;exact⟨n,k,xs,by omega,hr,rfl⟩
theorem HW:∀{k:Nat}{r:List Int}{xs:List (List Int)}{t:List Int},PyFlat.rows k r=some (xs,t)→t.length≤r.length
 |0,r,xs,t,h=>by cases h;exact Nat.le_refl _
 |k+1,r,xs,t,h=>by
  obtain⟨x,s,ys,h1,h2,rfl⟩:=CK h;have:=HW h2;obtain⟨n,r',rfl,_,_,rfl⟩:=HU h1;rw[List.length_drop]at this;rw[List.length_cons];omega
theorem PM{sh:Int→Option (Nat×Nat)}{f:Nat}{cs:List (List (List Int))}(h:PyFlat.calls sh f []=some cs):cs=[]:=by
 cases f<;>(cases h;rfl)
theorem PN{sh:Int→Option (Nat×Nat)}{f:Nat}{p:Int}{r:List Int}{cs:List (List (List Int))}(h:PyFlat.calls sh f (p::r)=some cs):∃f' c t cs',PyFlat.call sh (p::r)=some (c,t)∧PyFlat.calls sh f' t=some cs'∧cs=c::cs':=by
 cases f with
 |zero=>cases h
 |succ f=>
  rw[PyFlat.calls]at h;cases hc:PyFlat.call sh (p::r)with
  |none=>rw[hc]at h;cases h
  |some y=>
   obtain⟨c,t⟩:=y;rw[hc]at h;dsimp only at h;cases h2:PyFlat.calls sh f t with
   |none=>rw[h2]at h;cases h
   |some cs'=>
    rw[h2]at h;cases h;exact⟨f,c,t,cs',rfl,h2,rfl⟩
theorem PR(x:List Int)(l:List (List Int)):PyFlat.told (x::l)=((x.length:Int)::x)++PyFlat.told l:=by
 unfold PyFlat.told;rw[List.flatMap_cons]
theorem PU{l:List Int}(h:PyVacola.answers_asked l=true):∃cs,PyFlat.calls PyVacola.shape l.length l=some cs∧cs.length≤400∧(∀c∈cs,VacolaNeutral.asked1 c=true)∧PyVacola.answers l=PyFlat.told (PyFlat.played VacolaNeutral.step VacolaNeutral.start cs):=by
 unfold PyVacola.answers_asked PyVacola.calls at h;cases hc:PyFlat.calls PyVacola.shape l.length l with
 |none=>rw[hc]at h;cases h
 |some cs=>
  rw[hc]at h;dsimp only at h
  have e:cs.map PyVacola.whole=cs:=by
   rw[show PyVacola.whole=id from funext PD];simp
  rw[e,Bool.and_eq_true]at h;refine⟨cs,rfl,?_,?_,?_⟩
  ·have:=h.1
   unfold PyFlat.atMost at this;exact of_decide_eq_true this
  ·have:=h.2
   unfold VacolaNeutral.asked at this;rw[Bool.and_eq_true]at this;exact List.all_eq_true.mp this.1
  ·unfold PyVacola.answers PyVacola.calls
   rw[hc];dsimp only;rw[e]
theorem PV{f:Addr}{fd:FuncData}(F:aK K "__init__" "Calls.__init__" vj f fd)(T:Txt K mg a):aF P w K mg base af 1 f fd ["self","numbers"] (dz a.bH 1 fun us=>([("numbers":Str),"place"]).zip (us++[.int 0])):=by
 refine F.ok Mh (fun vs H Q E h=>by obtain⟨p,dx,us,rfl,hl,_⟩:=h;rw[List.length_cons,hl];rfl) (fun cdv A outer s H vs Q E hr h=>?_);obtain⟨p,dx,us,rfl,hl,hp,q⟩:=h
 match us,hl,q with
 |[x],_,q=>
  refine⟨_,(ai (cM (pv 0) (pv 1) rfl) (aq (cM (pv 0) aN rfl))),?_⟩;refine⟨_,rfl,_,rfl,p,_,dx,_,rfl,hp,T.eH,T.lN,(by show 0<1000;decide),?_⟩;refine⟨_,rfl,p,_,dx,_,rfl,aj,T.eH,T.iZ,(by show 1<1000;decide),?_⟩;rw[dQ];exact q
theorem PX{X:Cx}{CX:f_}{k:Nat}{C:Addr}{ps:List Str}{sp:Sp}{E:XK}{x:Str}{p pos:Pos}(c:dI X.prog X.w X.K X.mg X.base CX k x C ps sp)(hr:bX (k+1) X.A)(hg:Gl X x)(hx:Passes CX X E)(hdb:(x==("__debug__":Str))=false:=by decide):PE X (.Call (.Name x p) [] [] pos) (s_ C sp [] E kq):=by
 obtain⟨f,fd,ok,b,mk,mg⟩:=c;exact J8 mk ok hr hg mg b .nil hx hdb
theorem PY{C d nl:Addr}{p:Nat}:¬gO (.ins C d (eW nl p)):=by
 rintro(⟨sg,sz,fl,h⟩|⟨n,nm,m,k,v,h⟩)
 ·have h:=congrArg (fun l=>l.head?.map (·.1)) h
  have h:("numbers":Str)="sign":=Option.some.inj h;exact absurd h (by decide+kernel)
 ·have h:=congrArg (fun l=>l.head?.map (·.1)) h
  have h:("numbers":Str)="number":=Option.some.inj h;exact absurd h (by decide+kernel)
theorem PZ{C d nl D e:Addr}{p:Nat}{sv tv:V}:HO.ins C d (eW nl p)≠.ins D e (gQ sv tv):=fun z=>by
 have z:=HO.ins.inj z;have h:=congrArg (fun l=>l.head?.map (·.1)) z.2.2;have h:("numbers":Str)="schema":=Option.some.inj h;exact absurd h (by decide+kernel)
theorem P0{tb:Tb}{H H':Hp}{nl:Addr}{xs:List V}(h:ay K H nl xs)(T:bz tb H)(s:bL tb H H'):ay K H' nl xs:=by
 rcases h with h|h
 ·refine .inl ?_
  rcases h with h|⟨o,h⟩
  ·exact .inl (s.get T h (fun _ z=>by cases z))
  ·exact .inr ⟨o,s.get T h (fun _ z=>by cases z)⟩
 ·exact .inr h
inductive yJ(K:PySem.W.Frag)(tb:Tb)(vs:List V)(H:Hp)(Q:VK)(E:XK):Prop
 |mk:∀(nl:Addr)(l:List Int),vs=[.ref nl]→ay K H nl (l.map V.int)→bz tb H→PyVacola.answers_asked l=true→(∀H' r,bL tb H H'→bz tb H'→H r=Option.none→H' r=some (.lst ((PyVacola.answers l).map V.int))→Q (.ref r) H')→yJ K tb vs H Q E
structure Mid(K:PySem.W.Frag)(a:aH)(tb:Tb)(H:Hp)(l:List Int)(R:List Int)(nl cl d ho g:Addr)(m:Nat)(σ:L2.St)(H':Hp):Prop where
 ex:∃(p f:Nat)(st:Vacola.State)(cs:List (List (List Int)))(gv:List Int)(v4 v5:Option V),m=(l.drop p).length∧σ=[some (V.ref nl),some (V.ref cl),some (V.ref ho),some (V.ref g),v4,v5]∧H' cl=some (.ins a.bH d (eW nl p))∧iI a H' ho g st.held∧H' g=some (.lst (gv.map V.int))∧
  PyFlat.calls PyVacola.shape f (l.drop p)=some cs∧(∀c∈cs,VacolaNeutral.asked1 c=true)∧gv++PyFlat.told (PyFlat.played VacolaNeutral.step st cs)=R∧gv.length+2011*cs.length≤804400
 sm:bL tb H H'
 tb:bz tb H'
theorem P1{f:Addr}{fd:FuncData}{tb:Tb}(F:aK K "answers" "answers" ni f fd)(T:Txt K mg a)(k_Calls:dI P w K mg base af 1 "Calls" a.bH ["self","numbers"] (dz a.bH 1 fun us=>([("numbers":Str),"place"]).zip (us++[.int 0])))(k_Holder:dI P w K mg base af 1 "Holder" a.cF ["self"] (xK a))
  (m_Calls_are_left:bG P w K mg base af 1 a.bH "are_left" ["self"] (yy K a))(m_Calls_take_number:bG P w K mg base af 1 a.bH "take_number" ["self"] (oA K a))(m_Calls_take_handed:bG P w K mg base af 3 a.bH "take_handed" ["self","call"] (yC K a))(c_answer_call:ao P w K mg base af 35 "answer_call" ["holder","call","handed"] (yG a tb)):aF P w K mg base af 36 f fd ["calls"] (yJ K tb):=by
 refine F.ok nq (fun vs H Q E h=>by obtain⟨nl,l,rfl,_⟩:=h;rfl) (fun cdv A outer s H vs Q E hr h=>?_);obtain⟨nl,l,rfl,hnl,tabs,hask,q⟩:=h;refine⟨_,(ai (aO (i:=1) nq.nd rfl (Or.inl rfl) (jM k_Calls (hr.mono (by decide)) rfl az (aa (pv 0) ah))) (ai (aO (i:=2) nq.nd rfl (Or.inl rfl) (PX k_Holder (hr.mono (by decide)) rfl az)) (ai (aO (i:=3) nq.nd rfl (Or.inl rfl) (bM ah)) (ai (mT PassesOwn.never (c9 (bR (pv 1) T.eH m_Calls_are_left (hr.mono (by decide)) az)) (ai (aO (i:=4) nq.nd rfl (Or.inl rfl) (bR (pv 1) T.eH m_Calls_take_number (hr.mono (by decide)) az)) (ai (aO (i:=5) nq.nd rfl (Or.inl rfl) (aG c_answer_call (hr.mono (by decide)) rfl az (aa (pv 2) (aa (pv 4) (aa (B0 (pv 1) T.eH m_Calls_take_handed (hr.mono (by decide)) az (aa (pv 4) ah)) ah))))) (ai (bS (eB PySem.F.plainAttrs_list PySem.F.slot_list_append PySem.F.type_list_append gb (pv 3) (aa (bP cC rfl T.bY PySem.boot_len (aa (pv 5) ah)) ah))) (aq (bS (eB PySem.F.plainAttrs_list PySem.F.slot_list_extend PySem.F.type_list_extend tD (pv 3) (aa (pv 5) ah)))))))) (aq (aB (pv 3))))))),?_⟩;obtain⟨cs,hcs,hlen,hall,hans⟩:=PU hask;rw[hans]at q;generalize hRe:PyFlat.told (PyFlat.played VacolaNeutral.step VacolaNeutral.start cs)=R at q;have hsz:sizeLine=16777216∨1000000≤sizeLine:=.inr (by decide);have hsz':1000000≤sizeLine:=by decide
 refine⟨_,rfl,?_⟩;intro cl d ncl nd hne;refine⟨cl,d,_,rfl,rfl,aj,rfl,?_⟩;rw[dQ];generalize hH1:upd (upd H d (.own cl)) cl _=H1;have s1:aI H H1:=fun b o h=>by rw[←hH1,au (aV h ncl),au (aV h nd)];exact h
 have c1:H1 cl=some (.ins a.bH d (eW nl 0)):=by rw[←hH1];exact aj
 refine gN ?_;intro ho dh nho ndh hneh;have hoh:upd (upd H1 dh (.own ho)) ho (.ins a.cF dh []) ho=some (.ins a.cF dh []):=aj;refine⟨ho,dh,rfl,aj,fun H2 tl k2 htl h2=>⟨rfl,?_⟩⟩;have s2:aI H1 H2:=fun b o h=>k2 b o (by rw[au (aV h nho),au (aV h ndh)];exact h) (aV h nho)
 refine gN ?_;refine⟨Nat.zero_le _,fun g ng=>?_⟩;refine gN ?_;have s3:aI H2 (upd H2 g (.lst [])):=aM ng;have s03:aI H (upd H2 g (.lst [])):=(s1.trans s2).trans s3;have clH:H cl=Option.none:=ncl;have hoH:H ho=Option.none:=s1.free nho;have gH:H g=Option.none:=(s1.trans s2).free ng;have hog:ho≠g:=aV h2 ng;have clg:cl≠g:=aV (s2 _ _ c1) ng;refine⟨Mid K a tb H l R nl cl d ho g,⟨_,⟨0,l.length,VacolaNeutral.start,cs,[],Option.none,Option.none,rfl,rfl,s3 _ _ (s2 _ _ c1),⟨dh,_,s3 _ _ h2⟩,aj,by rw[List.drop_zero];exact hcs,hall,by rw[List.nil_append];exact hRe,by show 0+_≤_;omega⟩,cZ s03,tabs.same s03⟩,?_⟩;rintro m σ H' ⟨⟨p,f',st,cs',gv,v4,v5,rfl,rfl,hcl,hx,hgv,hcs',hall',hRR,hbd⟩,sm,T'⟩;have C:kT K a H' cl d nl l p:=⟨hcl,P0 hnl tabs sm⟩;obtain⟨dho,sv,tv,hho⟩:=hx.ins;have clho:cl≠ho:=iO hcl hho PZ;refine⟨_,rfl,cl,d,_,rfl,hcl,oz (by decide+kernel),cl,d,nl,l,p,rfl,C,_,rfl,?_⟩;refine bB (fun c=>?_) (fun c=>?_)
 ·have hp:p<l.length:=of_decide_eq_true c
  obtain⟨z,hz⟩:∃z,l[p]? =some z:=⟨_,List.getElem?_eq_getElem hp⟩
  have hdr:l.drop p=z::l.drop (p+1):=by
   rw[List.drop_eq_getElem_cons hp];congr 1;exact(List.getElem?_eq_some_iff.mp hz).2
  rw[hdr]at hcs';obtain⟨f2,cc,t,cs2,hcall,hcs2,rfl⟩:=PN hcs';obtain⟨n,kk,xs,hn,hrows,rfl⟩:=PL hcall;obtain⟨z',ns,xs',k,j,ec,hof,hzk,hzj,hnH,hrH,hHands⟩:=(PK (hall' _ List.mem_cons_self)).ex;obtain⟨e1,e2⟩:=List.cons.inj ec;obtain⟨e3,e4⟩:=List.cons.inj e1;subst e2 e3 e4;have hnl':((l.drop (p+1)).take n).length=n:=by rw[List.length_take];omega
  rw[hnl']at hnH;rw[CM hrows]at hrH
  have tshort:t.length<(l.drop p).length:=by
   have:=HW hrows;rw[List.length_drop]at this;rw[hdr,List.length_cons];omega
  refine⟨Mid K a tb H l R nl cl d ho g t.length,fun σ2 H2 hM=>⟨_,tshort,hM⟩,?_⟩;refine⟨_,rfl,cl,d,_,rfl,hcl,oz (by decide+kernel),cl,d,nl,l,p,z,rfl,C,hz,?_⟩;refine gN ?_;generalize hH4:upd H' cl (.ins a.bH d (eW nl (p+1)))=H4;have k4:Keeps H' H4 cl:=fun b o z nb=>by rw[←hH4,au nb];exact z
  have c4:H4 cl=some (.ins a.bH d (eW nl (p+1))):=by rw[←hH4];exact aj
  have C4:=C.move k4 c4;refine⟨_,rfl,_,rfl,_,rfl,cl,d,_,rfl,c4,oz (by decide+kernel),_,rfl,cl,d,nl,l,p+1,j,n,kk,xs,t,by rw[hzj];rfl,C4,hnH,hrH,hn,hrows,fun H5 hl ra p' k5 c5 ep nhl hhl hra hfr hlcl=>?_⟩;have k45:Keeps H' H5 cl:=k4.trans k5;have T5:=(T'.keeps k45 hcl lY qW);have hg5:=k45 _ _ hgv (Ne.symm clg)
  have hx5:iI a H5 ho g st.held:=hx.on (fun b o z cc _=>k45 b o z (fun e=>by
   rcases cc with cc|cc
   ·rw[e,hcl]at z;cases z;exact PY cc
   ·exact clho (e.symm.trans cc))) hog
  refine⟨ho,g,_,st,k,z,hl,_,rfl,hzk,hx5,T5,hog,hg5,hhl,hHands H5 g ra hra (fun b hb e=>?_),fun H6 al k6 T6 hx6 nal hal hlen6=>?_⟩
  ·have:=hfr b hb
   rw[←e,k4 _ _ hgv (Ne.symm clg)]at this;cases this
  refine gN ?_;have gT:∀i<6,g≠tb i:=T5.ne hg5 oh;have hg6:=k6 _ _ hg5 (Ne.symm hog) gT;have alg:al≠g:=fun e=>by rw[e,hg5]at nal;cases nal
  have estep:VacolaNeutral.step st ((z::(l.drop (p+1)).take n)::xs)=((Vacola.step st k).1,VacolaNeutral.encode (Vacola.step st k).2):=by
   unfold VacolaNeutral.step;rw[hof]
  generalize hans6:VacolaNeutral.encode (Vacola.step st k).2=ans at hal hlen6 estep
  have hb1:gv.length+2011*cs2.length+2011≤804400:=by
   rw[List.length_cons]at hbd;omega
  refine⟨_,rfl,.inl ⟨rfl,_,ay.of hg6⟩,_,rfl,al,_,rfl,.inl (ay.of hal),g,_,_,rfl,rfl,hg6,by rw[List.length_map];omega,?_⟩;generalize hH7:upd H6 g (.lst (gv.map V.int++[V.int (((ans.map V.int).length:Nat):Int)]))=H7;have k7:Keeps H6 H7 g:=fun b o z nb=>by rw[←hH7,au nb];exact z
  have g7:H7 g=some (.lst (gv.map V.int++[V.int (((ans.map V.int).length:Nat):Int)])):=by rw[←hH7];exact aj
  refine⟨_,rfl,.inl ⟨rfl,_,ay.of g7⟩,_,rfl,g,al,_,_,rfl,rfl,g7,k7 _ _ hal alg,by rw[List.length_append,List.length_map,List.length_map];show _+1+_≤_;omega,?_⟩;generalize hH8:upd H7 g _=H8;have k8:Keeps H6 H8 g:=k7.trans fun b o z nb=>by rw[←hH8,au nb];exact z
  have g8:H8 g=some (.lst ((gv++((ans.length:Int)::ans)).map V.int)):=by
   rw[←hH8,aj,List.length_map,List.map_append,List.append_assoc];rfl
  have clT:∀i<6,cl≠tb i:=T5.ne c5 lY
  have s8:bL tb H H8:=fun b o zb nb=>by
   have z1:=sm b o zb nb;have bcl:=aV zb clH;have bho:=aV zb hoH;have bg:=aV zb gH;exact k8 _ _ (k6 _ _ (k45 _ _ z1 bcl) bho nb) bg
  refine⟨⟨p',f2,(Vacola.step st k).1,cs2,gv++((ans.length:Int)::ans),_,_,by rw[ep],rfl,?_,hx6.on (fun b o z cc nb=>k8 b o z nb) hog,g8,by rw[ep];exact hcs2,fun c hc=>hall' c (List.mem_cons_of_mem _ hc),?_,?_⟩,s8,T6.keeps k8 hg6 oh (fun φ z=>by cases z)⟩
  ·exact k8 _ _ (k6 _ _ c5 clho clT) clg
  ·rw[←hRR,PyFlat.played,estep,PR,List.append_assoc]
  ·rw[List.length_append,List.length_cons];omega
 ·have hp:¬p<l.length:=of_decide_eq_false (Bool.eq_false_iff.mpr c)
  rw[List.drop_eq_nil_of_le (by omega)]at hcs';have:=PM hcs';subst this
  have eR:gv=R:=by
   rw[←hRR,PyFlat.played];show gv=gv++[];rw[List.append_nil]
  rw[eR]at hgv;exact⟨_,rfl,q H' g sm T' gH hgv⟩
end Vp
end
section
namespace L2
open PySem PySem.Spec PyProof.Rows
open PySem.W (WData Codec OpenSpec Well WellAll ReadsW ReadsAllW tabObj noTabs)
section
variable{K:PySem.W.Frag}{H H':Hp}
theorem ay.up(k:∀b o,H b=some o→H' b=some o){a:Addr}{xs:List V}(h:ay K H a xs):ay K H' a xs:=by
 rcases h with h|h
 ·rcases h with h|⟨o,h⟩
  ·exact .inl (.inl (k _ _ h))
  ·exact .inl (.inr ⟨o,k _ _ h⟩)
 ·exact .inr h
theorem dW.up(k:∀b o,H b=some o→H' b=some o){a:Addr}{xs:List V}(h:dW K H a xs):dW K H' a xs:=by
 rcases h with h|h
 ·rcases h with h|⟨o,h⟩
  ·exact .inl (.inl (k _ _ h))
  ·exact .inl (.inr ⟨o,k _ _ h⟩)
 ·exact .inr h
mutual
theorem Dw.up(k:∀b o,H b=some o→H' b=some o):∀(d:WData)(v:V),Dw K H v d→Dw K H' v d
 |.none,_,x=>by cases x;exact .aP
 |.bool b,_,x=>by cases x;exact .bl b
 |.int i,_,x=>by cases x;exact .int i
 |.str s,_,x=>by cases x;exact .str s
 |.bytes b,_,x=>by
  cases x with
  |fk b=>exact .fk b
 |.list ds,_,x=>by
  cases x with
  |lst hs ha=>exact .lst (hs.up k) (Dw.yK k ds _ ha)
 |.tuple ds,_,x=>by
  cases x with
  |tup hs ha=>exact .tup (hs.up k) (Dw.yK k ds _ ha)
 |.float _,_,x=>by cases x
 |.dict _,_,x=>by cases x
 |.bytearray _,_,x=>by cases x
 |.set _,_,x=>by cases x
 |.frozenset _,_,x=>by cases x
 |.obj _ _,_,x=>by cases x
theorem Dw.yK(k:∀b o,H b=some o→H' b=some o):∀(ds:List WData)(vs:List V),g6 K H vs ds→g6 K H' vs ds
 |[],_,x=>by cases x;exact .nil
 |d::ds,_,x=>by
  cases x with
  |cons h1 h2=>exact .cons (Dw.up k d _ h1) (Dw.yK k ds _ h2)
end
end
def fJ(tb:Nat→Addr)(H:Hp):Hp:=fun b=>if(List.range 6).any (fun i=>tb i==b)=true then some (.cV #[])else H b
theorem yL{tb:Nat→Addr}{H:Hp}{i:Nat}(hi:i<6):fJ tb H (tb i)=some (.cV #[]):=by
 have h:((List.range 6).any fun j=>tb j==tb i)=true:=List.any_eq_true.mpr ⟨i,List.mem_range.mpr hi,beq_self_eq_true _⟩;unfold fJ;rw[if_pos h]
theorem rD{tb:Nat→Addr}{H:Hp}{b:Addr}(h:∀i<6,b≠tb i):fJ tb H b=H b:=by
 unfold fJ;rw[if_neg];intro z;obtain⟨i,hi,e⟩:=List.any_eq_true.mp z;exact h i (List.mem_range.mp hi) (beq_iff_eq.mp e).symm
theorem P4{P:Program}{w:World}{K:PySem.W.Frag}{mg mb:Str→Option Value}{k:Nat}{fa:Addr}{fd:FuncData}{ps:List Str}{sp:Sp}{s₁:Shared}{vals:List Value}{ds:List WData}{R:PySem.W.WRecords}{cl:Str→Option Addr}{d0:WData}{tb:Nat→Addr}
  (KX:K.In s₁.heap)(hns:s₁.heap.Ns mainGlobals mg)(hb:s₁.heap.Ns builtinsNs mb)(hbb:∀x:Str,x≠"__name__"→mb x=bootBuiltins x)(hlim:s₁.heap.NoLimit)(hg:s₁.gens=#[])
  (hwl:WellAll w.params s₁.heap vals ds)(hpl:iA ds=true)(hwt:∀d∈ds,d.weight≤1048576)(hr:bX k callerA)(hnt:noTabs K=true)(hT:∀i<6,s₁.heap.get? (tb i)=some (tabObj #[]))(hTc:∀i<6,isCodeTable s₁.heap (tb i))(hbm:BMain mg s₁.heap)
  (F:∀base:Heap,K.In base→base.Ns mainGlobals mg→BMain mg base→aF P w K mg base af k fa fd ps sp)(hbind:∀(s:Shared)(us:List Value),us.length=ps.length→BindsTo s fd ⟨us,[]⟩ (ps.zip us))(hlen:ds.length=ps.length)
  (hsp:∀(H:Hp)(xs:List V),(∀i<6,H (tb i)=some (.cV #[]))→g6 K H xs ds→sp xs H (fun v H'=>Dw K H' v d0) E0):
  codeAny (model P w) callerA (.call (.ref fa) ⟨vals,[]⟩) (fun r s'=>∃u as,r=.ok (.ret u)∧ReadsW R cl s'.heap u d0 as∧OldK s₁.heap s'.heap∧s'.os=s₁.os∧AllBare s'.gens) s₁:=by
 obtain⟨A,ho,ar⟩:=tL ds vals hwl hpl hwt;have hO:FY (fE K s₁.heap A):=KZ ar;have hok1:cy P w (fE K s₁.heap A) s₁.heap:=K0 ar;have hS:=tR KX ar ds vals hwl hpl ho;have hV:=mZ ho;have hK:∀b u,fE K s₁.heap A b=some u→K.lookup b=Option.none:=fun b u q=>(tO ar q).1
 have noA:∀{b:Addr}{o:Obj},s₁.heap.get? b=some o→(∀vs n,o.data≠.seq vs n)→fE K s₁.heap A b=Option.none:=fun{b o} e d=>by
  cases q:fE K s₁.heap A b with
  |none=>rfl
  |some u=>
   obtain⟨_,vs,_,_,⟨e2,_⟩|⟨e2,_⟩⟩:=tO ar q
   ·rw[e2]at e
    cases e;exact absurd rfl (d _ _)
   ·rw[e2]at e
    cases e;exact absurd rfl (d _ _)
 generalize fE K s₁.heap A=H1 at hO hok1 hS hK noA;have nt1:∀i<6,H1 (tb i)=Option.none:=fun i hi=>noA (hT i hi) (fun _ _ z=>by cases z)
 have up:∀b o,H1 b=some o→fJ tb H1 b=some o:=fun b o e=>by
  rw[rD]
  ·exact e
  ·intro i hi z
   rw[z,nt1 i hi]at e;cases e
 have hok:cy P w (fJ tb H1) s₁.heap:=fun b u e=>by
  by_cases hb':∀i<6,b≠tb i
  ·rw[rD hb']at e
   exact(hok1 b u e).stay (fun _ _ _ z=>z) (fun d z=>up _ _ z) fun d xs z=>up _ _ z
  ·have:∃i,i<6∧b=tb i:=Classical.byContradiction fun n=>hb' fun i hi z=>n ⟨i,hi,z⟩
   obtain⟨i,hi,rfl⟩:=this;rw[yL hi]at e;cases e;exact hT i hi
 have hS2:=Dw.yK up ds _ hS;have hTH:∀i<6,fJ tb H1 (tb i)=some (.cV #[]):=fun i hi=>yL hi
 have none2:∀{b:Addr}{o:Obj},s₁.heap.get? b=some o→(∀vs n,o.data≠.seq vs n)→(o≠tabObj #[])→fJ tb H1 b=Option.none:=fun{b o} e d n=>by
  rw[rD]
  ·exact noA e d
  ·intro i hi z
   rw[z,hT i hi]at e;exact n (Option.some.inj e).symm
 have base_of:∀{b:Addr}{o:Obj},s₁.heap.get? b=some o→fJ tb H1 b=Option.none→(jb s₁.heap (fJ tb H1)).get? b=some o:=fun e n=>Jl e n
 have nsK:∀{b:Addr}{m:Str→Option Value},s₁.heap.Ns b m→(jb s₁.heap (fJ tb H1)).Ns b m:=fun{b m} ⟨o,es,ep,e,d,r⟩=>⟨o,es,ep,base_of e (none2 e (fun _ _ z=>by rw[d]at z;cases z) (fun z=>by rw[z]at d;cases d)),d,r⟩
 have nK:∀b o,K.lookup b=some o→fJ tb H1 b=Option.none:=fun b o e=>by
  rw[rD]
  ·cases q:H1 b with
   |none=>rfl
   |some u=>
    rw[hK b u q]at e;cases e
  ·intro i hi z
   have h2:=List.all_eq_true.mp hnt (b,o) (PySem.W.mem_of_lookupK e);have h3:=KX b o e;rw[z,hT i hi]at h3;cases h3;exact absurd (show false=true from h2) Bool.false_ne_true
 have hKb:K.In (jb s₁.heap (fJ tb H1)):=fun b o e=>base_of (KX b o e) (nK b o e)
 have hM:Mod K mg (jb s₁.heap (fJ tb H1)):=⟨hKb,nsK hns,⟨mb,nsK hb,hbb⟩,let⟨mc,h1,h2⟩:=hlim;⟨mc,nsK h1,h2⟩⟩
 have hBM:BMain mg (jb s₁.heap (fJ tb H1)):=by
  obtain⟨bm,ob,b1,b2,b3,b4,b5,b6⟩:=hbm;exact⟨bm,ob,b1,b2,base_of b3 (none2 b3 (fun _ _ z=>by rw[b6]at z;cases z) (fun z=>by rw[z]at b6;cases b6)),b4,b5,b6⟩
 have e0:jJ P w K mg (jb s₁.heap (fJ tb H1)) callerA [] s₁ (fJ tb H1):=⟨rfl,hM,fun b o e=>Jm e,Nat.le_of_eq (Jk _ _),trivial,fun b hb=>absurd (show b∈([]:List Addr)from hb) (by simp),hok,.of_eq hg⟩;have hl:vals.length=ps.length:=by rw[tK hwl];exact hlen
 refine codeAny_mono ((F _ hKb (nsK hns) hBM).run callerA [] s₁ (fJ tb H1) ⟨vals,[]⟩ vals (vals.map toV) _ _ hr e0 (hbind s₁ vals hl) hV (hsp _ _ hTH hS2)) fun r s' x=>?_
 cases r with
 |error e=>exact False.elim x
 |ok fl=>
  cases fl with
  |next=>exact False.elim x
  |brk=>exact False.elim x
  |cont=>exact False.elim x
  |ret u=>
   obtain⟨v,H',os,bare,un,hok',r',q⟩:=x
   have old:∀b o,s₁.heap.get? b=some o→s'.heap.get? b=some o∨∃i,i<6∧b=tb i∧∃ps,s'.heap.get? b=some (tabObj ps):=fun b o e=>by
    cases q2:fJ tb H1 b with
    |none=>exact .inl (un.keep b o e q2 (by intro z;exact absurd (show b∈([]:List Addr)from z) (by simp)) (by simp))
    |some u2=>
     by_cases hb':∀i<6,b≠tb i
     ·rw[rD hb']at q2
      rcases hO b with z|⟨ob,u3,z⟩
      ·rw[q2]at z
       cases z
      ·have z2:=un.d7 b ob _ (up _ _ z)
       obtain⟨e1,_⟩:=hok b _ (up _ _ z);obtain⟨e2,_⟩:=hok' b _ z2;rw[e]at e1;cases e1;exact .inl e2
     ·have:∃i,i<6∧b=tb i:=Classical.byContradiction fun n=>hb' fun i hi z=>n ⟨i,hi,z⟩
      obtain⟨i,hi,rfl⟩:=this;obtain⟨more,z⟩:=un.d8 (tb i) _ (yL hi);exact .inr ⟨i,hi,rfl,_,hok' _ _ z⟩
   have KX':K.In s'.heap:=fun b o e=>by
    rcases old b o (KX b o e)with z|⟨i,hi,z,_⟩
    ·exact z
    ·have:=nK b o e
     rw[z,yL hi]at this;cases this
   obtain⟨as,hrd⟩:=Dw.reads (R:=R) (cl:=cl) hok' KX' d0 v u q r';refine⟨u,as,rfl,hrd,⟨fun b o e=>?_,fun b o e=>?_⟩,os,bare⟩
   ·rcases old b o e with z|⟨i,hi,rfl,ps,hP⟩
    ·exact .inl z
    ·have e2:=hT i hi
     rw[e]at e2;cases e2;exact .inr (.inl ⟨hTc i hi,rfl,#[],ps,rfl,by rw[Array.empty_append];exact hP⟩)
   ·rcases old b o e with z|⟨i,hi,rfl,ps,hP⟩
    ·exact⟨o,z⟩
    ·exact⟨_,hP⟩
end L2
end
section
namespace Vp
open PySem PySem.Spec PyProof.Rows L2
variable{P:Program}{w:World}{K:PySem.W.Frag}{mg:Str→Option Value}{base:Heap}{a:aH}{tb:Tb}
structure j0(K:PySem.W.Frag)(mg:Str→Option Value)(x:Str)(st:Stmt)(ps:List Str)(T:Addr):Prop where
 ex:∃f fd c,jA K x x st f fd c T∧Binds K fd ps []∧PySem.W.keepIn K (.ref f)=true∧mg x=some (.ref f)
theorem j0.aJ{CX:f_}{k:Nat}{sp:Sp}{x:Str}{st:Stmt}{ps:List Str}{T:Addr}(D:j0 K mg x st ps T)(h:∀f fd c,jA K x x st f fd c T→aF P w K mg base CX k f fd ps sp):ao P w K mg base CX k x ps sp:=by
 obtain⟨f,fd,c,F,b,kp,m⟩:=D.ex;exact⟨f,fd,h f fd c F,b,kp,m⟩
structure CP(K:PySem.W.Frag)(a:aH):Prop where
 ex:∃fd,aK K "__init__" "Fault.__init__" m8 a.kE fd∧Binds K fd ["self","kind","place"] []
theorem CP.aJ(E:CP K a)(h:∀fd,aK K "__init__" "Fault.__init__" m8 a.kE fd→aF P w K mg base af 1 a.kE fd ["self","kind","place"] (kM a)):fF P w K mg base a:=by
 obtain⟨fd,F,b⟩:=E.ex;exact⟨fd,h fd F,b⟩
structure HX(K:PySem.W.Frag)(mg:Str→Option Value)(a:aH)(tb:Tb):Prop where
 yM:aZ K mg "is_digit" tU ["sign"]
 yN:aZ K mg "is_letter" tV ["sign"]
 yO:aZ K mg "is_name_sign" tW ["sign"]
 yP:aZ K mg "is_mode" tX ["sign"]
 yQ:aZ K mg "is_leaf_sign" tZ ["sign"]
 yR:aZ K mg "stands_as_itself" t6 ["byte"]
 yS:ie K a.aR "sign_here" "Reader.sign_here" ud ["self"]
 yT:ie K a.aR "skip_sign" "Reader.skip_sign" ue ["self"]
 yU:ie K a.aR "take_digits" "Reader.take_digits" uf ["self"]
 yV:ie K a.aR "take_name_signs" "Reader.take_name_signs" ug ["self"]
 yW:aZ K mg "number_of" uh ["digits"]
 yX:CP K a
 yY:jU K mg "Kind" a.b7 "Kind.__init__" t7 ["self","sign","size","fields"]
 yZ:jU K mg "Field" a.cD "Field.__init__" t8 ["self","number","name","mode","kind","default"]
 y9:jU K mg "Reader" a.aR "Reader.__init__" uc ["self","text"]
 y_:aZ K mg "short_number" uC ["digits"]
 za:aZ K mg "read_sixteenth" uy ["reader","start"]
 zc:aZ K mg "read_escaped" ux ["reader","start"]
 zd:aZ K mg "read_byte" uw ["reader","start"]
 ze:aZ K mg "read_bit" uq ["reader"]
 zf:aZ K mg "fits_bits" uu ["number","bits"]
 zg:aZ K mg "read_whole" ur ["reader","bits"]
 zh:aZ K mg "read_text" uv ["reader","most"]
 zj:aZ K mg "read_literal" uo ["reader","kind"]
 zk:aZ K mg "is_leaf" m9 ["kind"]
 zl:aZ K mg "has_key" t9 ["kind"]
 zm:aZ K mg "read_number" uB ["reader","group"]
 zo:aZ K mg "is_name" pM ["text"]
 zp:aZ K mg "read_name" uD ["reader","group"]
 zq:aZ K mg "read_mode" uE ["reader","group"]
 zu:aZ K mg "read_leaf" uF ["reader"]
 zv:aZ K mg "read_default" uG ["reader","group","field"]
 zw:aZ K mg "read_kind" pN ["reader","depth"]
 zx:aZ K mg "read_field" pL ["reader","group","depth"]
 zy:aZ K mg "read_group" pK ["reader","depth"]
 zA:aZ K mg "read_schema" uz ["text"]
 zB:aZ K mg "schema_or_none" uA ["text"]
 zC:aZ K mg "literal_or_none" um ["text","kind"]
 zD:jU K mg "Holder" a.cF "Holder.__init__" uV ["self"]
 zE:ie K a.cF "hold_text" "Holder.hold_text" uW ["self","text"]
 zF:ie K a.cF "schema_to_change" "Holder.schema_to_change" uX ["self"]
 zG:aZ K mg "write_number" pQ ["number"]
 zH:aZ K mg "write_byte" uJ ["byte"]
 zI:aZ K mg "write_size" uH ["kind"]
 zJ:aZ K mg "write_literal" uI ["value"]
 zK:aZ K mg "write_field" pP ["field"]
 zL:aZ K mg "write_kind" pO ["kind"]
 zM:aZ K mg "repetition_step" u6 ["field"]
 zN:aZ K mg "definition_step" u7 ["field","group"]
 zO:aZ K mg "gather_columns" pW ["group","repetition","definition","path","found"]
 zP:aZ K mg "columns_of" uZ ["schema"]
 zQ:jU K mg "Column" a.dM "Column.__init__" uY ["self","kind","repetition","definition","path"]
 zR:aZ K mg "split_names" t_ ["text"]
 rE:aZ K mg "fields_along" pJ ["schema","steps","step_of"]
 rF:j0 K mg "fields_by_names" pH ["schema","names"] (tb 0)
 rG:j0 K mg "fields_by_path" pI ["schema","path"] (tb 1)
 zS:aZ K mg "dotted_name" ua ["along"]
 zU:aZ K mg "reply_check" u_ ["text"]
 zV:aZ K mg "reply_hold" vc ["holder","text"]
 zW:aZ K mg "reply_show" vd ["holder"]
 zX:aZ K mg "reply_columns" ve ["holder"]
 zY:aZ K mg "leaf_number" vg ["kind"]
 zZ:aZ K mg "reply_column" vf ["holder","number"]
 z6:aZ K mg "reply_name" vh ["holder","path"]
 z7:aZ K mg "reply_find" nh ["holder","text"]
 z8:aZ K mg "lost_first" u9 ["group","shape"]
 z9:aZ K mg "shape_of_field" pX ["field","paths"]
 z_:aZ K mg "shape_of_group" m_ ["group","paths"]
 Aa:aZ K mg "reply_keep" pY ["holder","numbers"]
 Ab:aZ K mg "settle" uK ["holder","changed"]
 Ac:aZ K mg "field_or_none" uL ["schema","path"]
 Ad:aZ K mg "group_or_none" uM ["schema","path"]
 Ae:aZ K mg "put_field" uO ["group","field"]
 Af:aZ K mg "reply_add" uN ["holder","path","text"]
 Ag:aZ K mg "reply_drop" pR ["holder","path"]
 Ah:aZ K mg "change_name" uQ ["field","text"]
 Ai:aZ K mg "mode_by_number" tY ["number"]
 Aj:aZ K mg "change_mode" uR ["field","number"]
 Ak:aZ K mg "kind_or_none" uT ["text"]
 Al:aZ K mg "change_kind" uS ["field","text"]
 Am:aZ K mg "change_default" uU ["field","text"]
 An:aZ K mg "change_field" uP ["holder","path","change"]
 rJ:j0 K mg "reply_rename" pS ["holder","path","text"] (tb 2)
 rK:j0 K mg "reply_rekind" pU ["holder","path","text"] (tb 4)
 rM:j0 K mg "reply_default" pV ["holder","path","text"] (tb 5)
 rN:j0 K mg "reply_remode" pT ["holder","number","path"] (tb 3)
 Ao:ie K a.bH "are_left" "Calls.are_left" vm ["self"]
 Aq:ie K a.bH "take_number" "Calls.take_number" vn ["self"]
 Ar:ie K a.bH "take_row" "Calls.take_row" vo ["self"]
 As:ie K a.bH "take_handed" "Calls.take_handed" vp ["self","call"]
 Au:aZ K mg "answer_question" vt ["holder","call","handed"]
 Av:aZ K mg "answer_change" vv ["holder","call","handed"]
 Aw:aZ K mg "answer_call" vq ["holder","call","handed"]
 Ax:jU K mg "Calls" a.bH "Calls.__init__" vj ["self","numbers"]
 Ay:aZ K mg "answers" ni ["calls"]
theorem P5{f:Addr}{fd:FuncData}(F:aK K "answers" "answers" ni f fd)(T:Txt K mg a)(R:HX K mg a tb)(hK:K.In base)(hB:BMain mg base):aF P w K mg base af 36 f fd ["calls"] (yJ K tb):=by
 have c_is_digit:ao P w K mg base af 1 "is_digit" ["sign"] (ff jq):=R.yM.aJ fun f fd F=>Mn F T
 have c_is_letter:ao P w K mg base af 1 "is_letter" ["sign"] (ff kL):=R.yN.aJ fun f fd F=>Mp F T
 have c_is_name_sign:ao P w K mg base af 2 "is_name_sign" ["sign"] (ff lO):=R.yO.aJ fun f fd F=>Mq F T c_is_digit c_is_letter
 have c_is_mode:ao P w K mg base af 1 "is_mode" ["sign"] (jt nG):=R.yP.aJ fun f fd F=>Mr F T
 have c_is_leaf_sign:ao P w K mg base af 1 "is_leaf_sign" ["sign"] (jt jr):=R.yQ.aJ fun f fd F=>Ms F T
 have c_stands_as_itself:ao P w K mg base af 1 "stands_as_itself" ["byte"] (ff zPlain):=R.yR.aJ fun f fd F=>Mt F T
 have m_Reader_sign_here:bG P w K mg base af 1 a.aR "sign_here" ["self"] (fW a):=R.yS.aJ fun f fd F=>Mu F T
 have m_Reader_skip_sign:bG P w K mg base af 1 a.aR "skip_sign" ["self"] (gz a):=R.yT.aJ fun f fd F=>Mv F T
 have m_Reader_take_digits:bG P w K mg base af 2 a.aR "take_digits" ["self"] (jP a Vacola.isDigit):=R.yU.aJ fun f fd F=>Mw F T c_is_digit m_Reader_sign_here m_Reader_skip_sign
 have m_Reader_take_name_signs:bG P w K mg base af 3 a.aR "take_name_signs" ["self"] (jP a Vacola.nameSign):=R.yV.aJ fun f fd F=>Mx F T c_is_name_sign m_Reader_sign_here m_Reader_skip_sign
 have c_number_of:ao P w K mg base af 1 "number_of" ["digits"] (qv K):=R.yW.aJ fun f fd F=>My F T
 have cE:fF P w K mg base a:=R.yX.aJ fun fd F=>Mz F T
 have k_Kind:dI P w K mg base af 1 "Kind" a.b7 ["self","sign","size","fields"] (dz a.b7 3 fun us=>([("sign":Str),"size","fields"]).zip us):=R.yY.aJ fun f fd F=>MA F T
 have k_Field:dI P w K mg base af 1 "Field" a.cD ["self","number","name","mode","kind","default"] (dz a.cD 5 fun us=>([("number":Str),"name","mode","kind","default"]).zip us):=R.yZ.aJ fun f fd F=>MB F T
 have k_Reader:dI P w K mg base af 1 "Reader" a.aR ["self","text"] (dz a.aR 1 fun us=>([("text":Str),"place","leaves"]).zip (us++[.int 0,.int 0])):=R.y9.aJ fun f fd F=>MC F T
 have c_short_number:ao P w K mg base af 2 "short_number" ["digits"] (qx K):=R.y_.aJ fun f fd F=>MD F T c_number_of
 have c_read_sixteenth:ao P w K mg base (bu P w) 3 "read_sixteenth" ["reader","start"] (xq a):=R.za.aJ fun f fd F=>ME F T cE c_is_digit m_Reader_sign_here m_Reader_skip_sign
 have c_read_escaped:ao P w K mg base (bu P w) 4 "read_escaped" ["reader","start"] (xu a):=R.zc.aJ fun f fd F=>MG F T cE c_read_sixteenth c_stands_as_itself
 have c_read_byte:ao P w K mg base (bu P w) 5 "read_byte" ["reader","start"] (xw a):=R.zd.aJ fun f fd F=>MH F T cE c_read_escaped c_stands_as_itself m_Reader_sign_here m_Reader_skip_sign
 have c_read_bit:ao P w K mg base (bu P w) 3 "read_bit" ["reader"] (xx a):=R.ze.aJ fun f fd F=>MK F T cE m_Reader_sign_here m_Reader_skip_sign
 have c_fits_bits:ao P w K mg base af 1 "fits_bits" ["number","bits"] xy:=R.zf.aJ fun f fd F=>ML F T
 have c_read_whole:ao P w K mg base (bu P w) 3 "read_whole" ["reader","bits"] (xC a):=R.zg.aJ fun f fd F=>MM F T cE c_number_of c_fits_bits m_Reader_sign_here m_Reader_skip_sign m_Reader_take_digits
 have c_read_text:ao P w K mg base (bu P w) 6 "read_text" ["reader","most"] (xD a):=R.zh.aJ fun f fd F=>MO F T cE c_read_byte m_Reader_sign_here m_Reader_skip_sign
 have c_read_literal:ao P w K mg base (bu P w) 7 "read_literal" ["reader","kind"] (qy a):=R.zj.aJ fun f fd F=>MP F T c_read_bit c_read_whole c_read_text
 have c_is_leaf:ao P w K mg base af 2 "is_leaf" ["kind"] (ic a eV):=R.zk.aJ fun f fd F=>MQ F T c_is_leaf_sign
 have c_has_key:ao P w K mg base af 3 "has_key" ["kind"] (qz a):=R.zl.aJ fun f fd F=>MT F T c_is_leaf
 have c_read_number:ao P w K mg base (bu P w) 3 "read_number" ["reader","group"] (qA a):=R.zm.aJ fun f fd F=>MW F T cE c_short_number m_Reader_take_digits
 have c_is_name:ao P w K mg base af 3 "is_name" ["text"] (qB K):=R.zo.aJ fun f fd F=>MZ F T c_is_letter c_is_name_sign
 have c_read_name:ao P w K mg base (bu P w) 4 "read_name" ["reader","group"] (qC a):=R.zp.aJ fun f fd F=>M1 F T cE c_is_name m_Reader_take_name_signs
 have c_read_mode:ao P w K mg base (bu P w) 3 "read_mode" ["reader","group"] (qD a):=R.zq.aJ fun f fd F=>M5 F T cE c_is_mode m_Reader_sign_here m_Reader_skip_sign
 have c_read_leaf:ao P w K mg base (bu P w) 3 "read_leaf" ["reader"] (qE a):=R.zu.aJ fun f fd F=>M6 F T cE c_short_number k_Kind m_Reader_sign_here m_Reader_skip_sign m_Reader_take_digits
 have c_read_default:ao P w K mg base (bu P w) 8 "read_default" ["reader","group","field"] (qF a):=R.zv.aJ fun f fd F=>M8 F T cE c_is_leaf c_read_literal m_Reader_skip_sign
 have c_read_group:=Hg T cE R.zy R.zx R.zw c_is_leaf_sign c_read_leaf c_read_number c_read_name c_read_mode c_has_key k_Field k_Kind c_read_default m_Reader_sign_here m_Reader_skip_sign 6;have c_read_schema:ao P w K mg base (bu P w) 27 "read_schema" ["text"] (lR a):=R.zA.aJ fun f fd F=>Nq F T cE c_read_group k_Reader m_Reader_sign_here
 have c_schema_or_none:ao P w K mg base af 28 "schema_or_none" ["text"] (qI a):=R.zB.aJ fun f fd F=>Nr F T c_read_schema
 have c_literal_or_none:ao P w K mg base af 8 "literal_or_none" ["text","kind"] (xJ a):=R.zC.aJ fun f fd F=>Nt F T c_is_leaf c_read_literal k_Reader
 have k_Holder:dI P w K mg base af 1 "Holder" a.cF ["self"] (xK a):=R.zD.aJ fun f fd F=>Nu F T
 have m_Holder_hold_text:bG P w K mg base (bu P w) 28 a.cF "hold_text" ["self","text"] (qK a):=R.zE.aJ fun f fd F=>Ny F T c_read_schema
 have m_Holder_schema_to_change:bG P w K mg base af 28 a.cF "schema_to_change" ["self"] (nU a):=R.zF.aJ fun f fd F=>Nz F T c_read_schema
 have c_write_number:ao P w K mg base af 1 "write_number" ["number"] lS:=R.zG.aJ fun f fd F=>NG F T
 have c_write_byte:ao P w K mg base af 2 "write_byte" ["byte"] xM:=R.zH.aJ fun f fd F=>NH F T c_stands_as_itself
 have c_write_size:ao P w K mg base af 2 "write_size" ["kind"] (qL a):=R.zI.aJ fun f fd F=>NI F T c_write_number
 have c_write_literal:ao P w K mg base af 3 "write_literal" ["value"] qM:=R.zJ.aJ fun f fd F=>NJ F T c_write_number c_write_byte
 have c_repetition_step:ao P w K mg base af 1 "repetition_step" ["field"] (qO a):=R.zM.aJ fun f fd F=>NR F T
 have c_definition_step:ao P w K mg base af 1 "definition_step" ["field","group"] (qP a):=R.zN.aJ fun f fd F=>NS F T
 have k_Column:dI P w K mg base af 1 "Column" a.dM ["self","kind","repetition","definition","path"] (dz a.dM 4 fun us=>([("kind":Str),"repetition","definition","path"]).zip us):=R.zQ.aJ fun f fd F=>NX F T
 have c_gather_columns:=Hr T R.zO c_repetition_step c_definition_step c_is_leaf k_Column 7;have c_columns_of:ao P w K mg base af 11 "columns_of" ["schema"] (lU a):=R.zP.aJ fun f fd F=>NW F T c_gather_columns
 have c_split_names:ao P w K mg base af 1 "split_names" ["text"] xS:=R.zR.aJ fun f fd F=>N_ F T
 have c_along_nam:ao P w K mg base af 3 "fields_along" ["schema","steps","step_of"] (nZ P w K mg base a gm Cz fun x=>.ref x.nm):=R.rE.aJ fun f fd F=>HD F T Om
 have c_along_num:ao P w K mg base af 3 "fields_along" ["schema","steps","step_of"] (nZ P w K mg base a aW CA fun x=>.int (x.h.number:Nat)):=R.rE.aJ fun f fd F=>HD F T Oo
 have c_fields_by_names:ao P w K mg base af 4 "fields_by_names" ["schema","names"] (xT a tb):=R.rF.aJ fun f fd c F=>Oq F T hK hB c_along_nam
 have c_fields_by_path:ao P w K mg base af 4 "fields_by_path" ["schema","path"] (qV a tb):=R.rG.aJ fun f fd c F=>Ot F T hK hB c_along_num
 have c_dotted_name:ao P w K mg base af 1 "dotted_name" ["along"] (xU a):=R.zS.aJ fun f fd F=>Ou F T
 have c_reply_check:ao P w K mg base af 28 "reply_check" ["text"] (xV a):=R.zU.aJ fun f fd F=>Ov F T c_read_schema
 have c_reply_hold:ao P w K mg base af 29 "reply_hold" ["holder","text"] (xW a tb):=R.zV.aJ fun f fd F=>Ow F T m_Holder_hold_text
 have c_reply_show:ao P w K mg base af 1 "reply_show" ["holder"] (xX a):=R.zW.aJ fun f fd F=>Ox F T
 have c_reply_columns:ao P w K mg base af 12 "reply_columns" ["holder"] (xY a):=R.zX.aJ fun f fd F=>Oz F T c_columns_of
 have c_leaf_number:ao P w K mg base af 1 "leaf_number" ["kind"] (x8 a):=R.zY.aJ fun f fd F=>OB F T
 have c_reply_column:ao P w K mg base af 12 "reply_column" ["holder","number"] (x_ a):=R.zZ.aJ fun f fd F=>OE F T c_columns_of c_leaf_number
 have c_reply_name:ao P w K mg base af 5 "reply_name" ["holder","path"] (yb a tb):=R.z6.aJ fun f fd F=>OF F T c_fields_by_path c_dotted_name
 have c_reply_find:ao P w K mg base af 12 "reply_find" ["holder","text"] (yc a tb):=R.z7.aJ fun f fd F=>OH F T c_fields_by_names c_split_names c_columns_of
 have c_lost_first:ao P w K mg base af 1 "lost_first" ["group","shape"] (qX a):=R.z8.aJ fun f fd F=>OI F T
 have c_shape_of_group:=HK T R.z_ R.z9 c_is_leaf c_lost_first k_Field k_Kind 7;have c_write_kind:=Hq T R.zL R.zK c_is_leaf c_write_size c_write_number c_write_literal 13;have c_reply_keep:ao P w K mg base af 30 "reply_keep" ["holder","numbers"] (ye a):=R.Aa.aJ fun f fd F=>OO F T c_columns_of c_shape_of_group c_write_kind
 have c_settle:ao P w K mg base af 30 "settle" ["holder","changed"] (lZ a tb):=R.Ab.aJ fun f fd F=>OP F T c_write_kind m_Holder_hold_text
 have c_field_or_none:ao P w K mg base af 5 "field_or_none" ["schema","path"] (oq a tb):=R.Ac.aJ fun f fd F=>OR F T c_fields_by_path
 have c_group_or_none:ao P w K mg base af 6 "group_or_none" ["schema","path"] (qY a tb):=R.Ad.aJ fun f fd F=>OT F T c_field_or_none c_is_leaf
 have c_put_field:ao P w K mg base af 1 "put_field" ["group","field"] (yf a):=R.Ae.aJ fun f fd F=>OU F T
 have c_reply_add:ao P w K mg base af 31 "reply_add" ["holder","path","text"] (yk a tb):=R.Af.aJ fun f fd F=>OW F T m_Holder_schema_to_change c_group_or_none c_schema_or_none c_put_field c_settle
 have c_reply_drop:ao P w K mg base af 31 "reply_drop" ["holder","path"] (yl a tb):=R.Ag.aJ fun f fd F=>OZ F T m_Holder_schema_to_change c_field_or_none c_group_or_none c_settle
 have c_change_name:ao P w K mg base af 4 "change_name" ["field","text"] (rm a):=R.Ah.aJ fun f fd F=>O0 F T c_is_name
 have c_mode_by_number:ao P w K mg base af 1 "mode_by_number" ["number"] yo:=R.Ai.aJ fun f fd F=>O1 F T
 have c_change_mode:ao P w K mg base af 2 "change_mode" ["field","number"] (rq a):=R.Aj.aJ fun f fd F=>O2 F T c_mode_by_number
 have c_kind_or_none:ao P w K mg base af 29 "kind_or_none" ["text"] (yp a):=R.Ak.aJ fun f fd F=>O3 F T c_schema_or_none
 have c_change_kind:ao P w K mg base af 30 "change_kind" ["field","text"] (rz a):=R.Al.aJ fun f fd F=>O4 F T c_kind_or_none
 have c_change_default:ao P w K mg base af 9 "change_default" ["field","text"] (rA a):=R.Am.aJ fun f fd F=>O5 F T c_literal_or_none
 have c_change_field:ao P w K mg base af 32 "change_field" ["holder","path","change"] (mw P w K mg base a tb):=R.An.aJ fun f fd F=>O6 F T m_Holder_schema_to_change c_field_or_none c_settle
 have c_reply_rename:ao P w K mg base af 33 "reply_rename" ["holder","path","text"] (jB a tb .rename):=R.rJ.aJ fun f fd c F=>Pf F T hK hB c_change_field c_change_name
 have c_reply_rekind:ao P w K mg base af 33 "reply_rekind" ["holder","path","text"] (jB a tb .rekind):=R.rK.aJ fun f fd c F=>Pg F T hK hB c_change_field c_change_kind
 have c_reply_default:ao P w K mg base af 33 "reply_default" ["holder","path","text"] (jB a tb .dflt):=R.rM.aJ fun f fd c F=>Ph F T hK hB c_change_field c_change_default
 have c_reply_remode:ao P w K mg base af 33 "reply_remode" ["holder","number","path"] (yx a tb):=R.rN.aJ fun f fd c F=>Pj F T hK hB c_change_field c_change_mode
 have m_Calls_are_left:bG P w K mg base af 1 a.bH "are_left" ["self"] (yy K a):=R.Ao.aJ fun f fd F=>Pn F T
 have m_Calls_take_number:bG P w K mg base af 1 a.bH "take_number" ["self"] (oA K a):=R.Aq.aJ fun f fd F=>Po F T
 have m_Calls_take_row:bG P w K mg base af 2 a.bH "take_row" ["self"] (yz K a):=R.Ar.aJ fun f fd F=>Pp F T m_Calls_take_number
 have m_Calls_take_handed:bG P w K mg base af 3 a.bH "take_handed" ["self","call"] (yC K a):=R.As.aJ fun f fd F=>Pu F T m_Calls_take_number m_Calls_take_row
 have c_answer_question:ao P w K mg base af 31 "answer_question" ["holder","call","handed"] (mz a tb yD):=R.Au.aJ fun f fd F=>Pw F T c_reply_show c_reply_columns c_reply_column c_reply_find c_reply_name c_reply_keep
 have c_answer_change:ao P w K mg base af 34 "answer_change" ["holder","call","handed"] (mz a tb yE):=R.Av.aJ fun f fd F=>Px F T c_reply_add c_reply_drop c_reply_rename c_reply_remode c_reply_rekind c_reply_default
 have c_answer_call:ao P w K mg base af 35 "answer_call" ["holder","call","handed"] (yG a tb):=R.Aw.aJ fun f fd F=>PB F T c_reply_check c_reply_hold c_answer_change c_answer_question
 have k_Calls:dI P w K mg base af 1 "Calls" a.bH ["self","numbers"] (dz a.bH 1 fun us=>([("numbers":Str),"place"]).zip (us++[.int 0])):=R.Ax.aJ fun f fd F=>PV F T
 exact P1 F T k_Calls k_Holder m_Calls_are_left m_Calls_take_number m_Calls_take_handed c_answer_call
end Vp
end
section
namespace Vp
open PySem PySem.Spec PyProof.Rows L2
variable{K:PySem.W.Frag}{mg:Str→Option Value}{a:aH}{tb:Tb}{h:Heap}
def mE(K:PySem.W.Frag)(f:Addr)(x q:Str)(st:Stmt):Prop:=∃(oc:Value)(od:Option Addr)(kV doc pm:Value)(an:Option Addr)(cdv ct:Value)(osl:Array (Option Value)),
 K.lookup f=some ⟨oc,od,.func (PySem.W.fnOf x q (fT st) (e8 st) (aE st) .none kV doc pm an cdv ct),osl⟩∧PySem.W.codeIn K cdv q=true∧PySem.W.keepIn K (.ref f)=true
theorem CQ{f:Addr}{x q:Str}{st:Stmt}{oc:Value}{od:Option Addr}{kV doc pm:Value}{an:Option Addr}{cdv ct:Value}{osl:Array (Option Value)}(l:K.lookup f=some ⟨oc,od,.func (PySem.W.fnOf x q (fT st) (e8 st) (aE st) .none kV doc pm an cdv ct),osl⟩)(c:PySem.W.codeIn K cdv q=true)(k:PySem.W.keepIn K (.ref f)=true):mE K f x q st:=⟨oc,od,kV,doc,pm,an,cdv,ct,osl,l,c,k⟩
def br(K:PySem.W.Frag)(x:Str)(st:Stmt):Prop:=∃f,PySem.W.nsIn K mainGlobals x=some (some (.ref f))∧mE K f x x st
theorem P6{x:Str}{st:Stmt}{f:Addr}(a:PySem.W.nsIn K mainGlobals x=some (some (.ref f)))(i:mE K f x x st):br K x st:=⟨f,a,i⟩
def eX(K:PySem.W.Frag)(C:Addr)(m q:Str)(st:Stmt):Prop:=∃f,PySem.W.findIn K (.ref C) m=some (some (.ref f))∧PySem.W.isFn K (.ref f)=true∧mE K f m q st
theorem P7{C f:Addr}{m q:Str}{st:Stmt}(a:PySem.W.findIn K (.ref C) m=some (some (.ref f)))(b:PySem.W.isFn K (.ref f)=true)(i:mE K f m q st):eX K C m q st:=⟨f,a,b,i⟩
def jC(K:PySem.W.Frag)(x:Str)(st:Stmt)(T:Addr):Prop:=∃(f c:Addr)(oc:Value)(od:Option Addr)(kV doc pm:Value)(an:Option Addr)(ct:Value)(osl:Array (Option Value)),
 PySem.W.nsIn K mainGlobals x=some (some (.ref f))∧K.lookup f=some ⟨oc,od,.func (PySem.W.fnOf x x (fT st) (e8 st) (aE st) .none kV doc pm an (.ref c) ct),osl⟩∧PySem.W.codeIn K (.ref c) x=true∧PySem.W.keepIn K (.ref f)=true∧PySem.W.codeHdIn K c T=true
theorem P8{x:Str}{st:Stmt}{T f c:Addr}{oc:Value}{od:Option Addr}{kV doc pm:Value}{an:Option Addr}{ct:Value}{osl:Array (Option Value)}(a:PySem.W.nsIn K mainGlobals x=some (some (.ref f)))(l:K.lookup f=some ⟨oc,od,.func (PySem.W.fnOf x x (fT st) (e8 st) (aE st) .none kV doc pm an (.ref c) ct),osl⟩)(co:PySem.W.codeIn K (.ref c) x=true)(k:PySem.W.keepIn K (.ref f)=true)(hd:PySem.W.codeHdIn K c T=true):jC K x st T:=⟨f,c,oc,od,kV,doc,pm,an,ct,osl,a,l,co,k,hd⟩
theorem Az{f:Addr}{x q:Str}{st:Stmt}(i:mE K f x q st):∃fd,aK K x q st f fd∧PySem.W.keepIn K (.ref f)=true:=by
 obtain⟨oc,od,kV,doc,pm,an,cdv,ct,osl,l,c,k⟩:=i;exact⟨_,BQ l c k,k⟩
abbrev Bd(x q:Str)(st:Stmt)(ps:List Str):Prop:=∀(kV doc pm:Value)(an:Option Addr)(cdv ct:Value)(us:List Value),us.length=ps.length→bindArgs (PySem.W.fnOf x q (fT st) (e8 st) (aE st) .none kV doc pm an cdv ct) ⟨us,[]⟩=pure (ps.zip us)
theorem bd1{x q:Str}{st:Stmt}{p0:Str}(f:∀kV doc pm an cdv ct u0,bindArgs (PySem.W.fnOf x q (fT st) (e8 st) (aE st) .none kV doc pm an cdv ct) ⟨[u0],[]⟩=pure [(p0,u0)]):Bd x q st [p0]:=fun _ _ _ _ _ _ us hl=>match us,hl with|[_],_=>f _ _ _ _ _ _ _
theorem bd2{x q:Str}{st:Stmt}{p0 p1:Str}(f:∀kV doc pm an cdv ct u0 u1,bindArgs (PySem.W.fnOf x q (fT st) (e8 st) (aE st) .none kV doc pm an cdv ct) ⟨[u0,u1],[]⟩=pure [(p0,u0),(p1,u1)]):Bd x q st [p0,p1]:=fun _ _ _ _ _ _ us hl=>match us,hl with|[_,_],_=>f _ _ _ _ _ _ _ _
theorem bd3{x q:Str}{st:Stmt}{p0 p1 p2:Str}(f:∀kV doc pm an cdv ct u0 u1 u2,bindArgs (PySem.W.fnOf x q (fT st) (e8 st) (aE st) .none kV doc pm an cdv ct) ⟨[u0,u1,u2],[]⟩=pure [(p0,u0),(p1,u1),(p2,u2)]):Bd x q st [p0,p1,p2]:=fun _ _ _ _ _ _ us hl=>match us,hl with|[_,_,_],_=>f _ _ _ _ _ _ _ _ _
theorem bd4{x q:Str}{st:Stmt}{p0 p1 p2 p3:Str}(f:∀kV doc pm an cdv ct u0 u1 u2 u3,bindArgs (PySem.W.fnOf x q (fT st) (e8 st) (aE st) .none kV doc pm an cdv ct) ⟨[u0,u1,u2,u3],[]⟩=pure [(p0,u0),(p1,u1),(p2,u2),(p3,u3)]):Bd x q st [p0,p1,p2,p3]:=fun _ _ _ _ _ _ us hl=>match us,hl with|[_,_,_,_],_=>f _ _ _ _ _ _ _ _ _ _
theorem bd5{x q:Str}{st:Stmt}{p0 p1 p2 p3 p4:Str}(f:∀kV doc pm an cdv ct u0 u1 u2 u3 u4,bindArgs (PySem.W.fnOf x q (fT st) (e8 st) (aE st) .none kV doc pm an cdv ct) ⟨[u0,u1,u2,u3,u4],[]⟩=pure [(p0,u0),(p1,u1),(p2,u2),(p3,u3),(p4,u4)]):Bd x q st [p0,p1,p2,p3,p4]:=fun _ _ _ _ _ _ us hl=>match us,hl with|[_,_,_,_,_],_=>f _ _ _ _ _ _ _ _ _ _ _
theorem bd6{x q:Str}{st:Stmt}{p0 p1 p2 p3 p4 p5:Str}(f:∀kV doc pm an cdv ct u0 u1 u2 u3 u4 u5,bindArgs (PySem.W.fnOf x q (fT st) (e8 st) (aE st) .none kV doc pm an cdv ct) ⟨[u0,u1,u2,u3,u4,u5],[]⟩=pure [(p0,u0),(p1,u1),(p2,u2),(p3,u3),(p4,u4),(p5,u5)]):Bd x q st [p0,p1,p2,p3,p4,p5]:=fun _ _ _ _ _ _ us hl=>match us,hl with|[_,_,_,_,_,_],_=>f _ _ _ _ _ _ _ _ _ _ _ _
theorem br.ok{x:Str}{st:Stmt}{ps:List Str}(D:br K x st)(X:K.In h)(G:h.Ns mainGlobals mg)(b:Bd x x st ps:=by first|exact bd1 fun _ _ _ _ _ _ _=>by kernel_rfl|exact bd2 fun _ _ _ _ _ _ _ _=>by kernel_rfl|exact bd3 fun _ _ _ _ _ _ _ _ _=>by kernel_rfl|exact bd4 fun _ _ _ _ _ _ _ _ _ _=>by kernel_rfl|exact bd5 fun _ _ _ _ _ _ _ _ _ _ _=>by kernel_rfl|exact bd6 fun _ _ _ _ _ _ _ _ _ _ _ _=>by kernel_rfl):aZ K mg x st ps:=by
 obtain⟨f,a,i⟩:=D;obtain⟨fd,F,k⟩:=Az i;exact⟨f,fd,F,F.binds b,k,PySem.W.mg_of X G a⟩
theorem eX.ok{C:Addr}{m q:Str}{st:Stmt}{ps:List Str}(D:eX K C m q st)(b:Bd m q st ps:=by first|exact bd1 fun _ _ _ _ _ _ _=>by kernel_rfl|exact bd2 fun _ _ _ _ _ _ _ _=>by kernel_rfl|exact bd3 fun _ _ _ _ _ _ _ _ _=>by kernel_rfl|exact bd4 fun _ _ _ _ _ _ _ _ _ _=>by kernel_rfl|exact bd5 fun _ _ _ _ _ _ _ _ _ _ _=>by kernel_rfl|exact bd6 fun _ _ _ _ _ _ _ _ _ _ _ _=>by kernel_rfl):ie K C m q st ps:=by
 obtain⟨f,a,i,j⟩:=D;obtain⟨fd,F,k⟩:=Az j;exact⟨f,fd,F,F.binds b,a,i,k⟩
theorem eX.cls{C:Addr}{x q:Str}{st:Stmt}{ps:List Str}(D:eX K C "__init__" q st)(X:K.In h)(G:h.Ns mainGlobals mg)(g:PySem.W.nsIn K mainGlobals x=some (some (.ref C)))(mk:PySem.W.makesIn K C=true)(kc:PySem.W.keepIn K (.ref C)=true)(b:Bd "__init__" q st ps:=by first|exact bd1 fun _ _ _ _ _ _ _=>by kernel_rfl|exact bd2 fun _ _ _ _ _ _ _ _=>by kernel_rfl|exact bd3 fun _ _ _ _ _ _ _ _ _=>by kernel_rfl|exact bd4 fun _ _ _ _ _ _ _ _ _ _=>by kernel_rfl|exact bd5 fun _ _ _ _ _ _ _ _ _ _ _=>by kernel_rfl|exact bd6 fun _ _ _ _ _ _ _ _ _ _ _ _=>by kernel_rfl):jU K mg x C q st ps:=by
 obtain⟨f,a,i,j⟩:=D;obtain⟨fd,F,k⟩:=Az j;exact⟨f,fd,F,F.binds b,⟨mk,a,i,kc⟩,PySem.W.mg_of X G g⟩
theorem jC.ok{x:Str}{st:Stmt}{ps:List Str}{T:Addr}(D:jC K x st T)(X:K.In h)(G:h.Ns mainGlobals mg)(b:Bd x x st ps:=by first|exact bd1 fun _ _ _ _ _ _ _=>by kernel_rfl|exact bd2 fun _ _ _ _ _ _ _ _=>by kernel_rfl|exact bd3 fun _ _ _ _ _ _ _ _ _=>by kernel_rfl|exact bd4 fun _ _ _ _ _ _ _ _ _ _=>by kernel_rfl|exact bd5 fun _ _ _ _ _ _ _ _ _ _ _=>by kernel_rfl|exact bd6 fun _ _ _ _ _ _ _ _ _ _ _ _=>by kernel_rfl):j0 K mg x st ps T:=by
 obtain⟨f,c,oc,od,kV,doc,pm,an,ct,osl,g,l,co,k,hd⟩:=D;exact⟨f,_,c,⟨⟨oc,od,kV,doc,pm,an,ct,osl,rfl,l,co⟩,hd⟩,(BQ l co k).binds b,k,PySem.W.mg_of X G g⟩
theorem P9:Bd "__init__" "Fault.__init__" m8 ["self","kind","place"]:=fun _ _ _ _ _ _ us hl=>match us,hl with|[_,_,_],_=>rfl
theorem P_:Bd "answers" "answers" ni ["calls"]:=fun _ _ _ _ _ _ us hl=>match us,hl with|[_],_=>rfl
structure CS(K:PySem.W.Frag)(a:aH)(tb:Tb):Prop where
 yM:br K "is_digit" tU
 yN:br K "is_letter" tV
 yO:br K "is_name_sign" tW
 yP:br K "is_mode" tX
 yQ:br K "is_leaf_sign" tZ
 yR:br K "stands_as_itself" t6
 yS:eX K a.aR "sign_here" "Reader.sign_here" ud
 yT:eX K a.aR "skip_sign" "Reader.skip_sign" ue
 yU:eX K a.aR "take_digits" "Reader.take_digits" uf
 yV:eX K a.aR "take_name_signs" "Reader.take_name_signs" ug
 yW:br K "number_of" uh
 yX:mE K a.kE "__init__" "Fault.__init__" m8
 yY:eX K a.b7 "__init__" "Kind.__init__" t7
 Qa:PySem.W.nsIn K mainGlobals "Kind"=some (some (.ref a.b7))
 Qc:PySem.W.makesIn K a.b7=true
 Qd:PySem.W.keepIn K (.ref a.b7)=true
 yZ:eX K a.cD "__init__" "Field.__init__" t8
 Qe:PySem.W.nsIn K mainGlobals "Field"=some (some (.ref a.cD))
 Qg:PySem.W.makesIn K a.cD=true
 Qh:PySem.W.keepIn K (.ref a.cD)=true
 y9:eX K a.aR "__init__" "Reader.__init__" uc
 Qi:PySem.W.nsIn K mainGlobals "Reader"=some (some (.ref a.aR))
 Qj:PySem.W.makesIn K a.aR=true
 Qk:PySem.W.keepIn K (.ref a.aR)=true
 y_:br K "short_number" uC
 za:br K "read_sixteenth" uy
 zc:br K "read_escaped" ux
 zd:br K "read_byte" uw
 ze:br K "read_bit" uq
 zf:br K "fits_bits" uu
 zg:br K "read_whole" ur
 zh:br K "read_text" uv
 zj:br K "read_literal" uo
 zk:br K "is_leaf" m9
 zl:br K "has_key" t9
 zm:br K "read_number" uB
 zo:br K "is_name" pM
 zp:br K "read_name" uD
 zq:br K "read_mode" uE
 zu:br K "read_leaf" uF
 zv:br K "read_default" uG
 zw:br K "read_kind" pN
 zx:br K "read_field" pL
 zy:br K "read_group" pK
 zA:br K "read_schema" uz
 zB:br K "schema_or_none" uA
 zC:br K "literal_or_none" um
 zD:eX K a.cF "__init__" "Holder.__init__" uV
 Ql:PySem.W.nsIn K mainGlobals "Holder"=some (some (.ref a.cF))
 Qm:PySem.W.makesIn K a.cF=true
 Qn:PySem.W.keepIn K (.ref a.cF)=true
 zE:eX K a.cF "hold_text" "Holder.hold_text" uW
 zF:eX K a.cF "schema_to_change" "Holder.schema_to_change" uX
 zG:br K "write_number" pQ
 zH:br K "write_byte" uJ
 zI:br K "write_size" uH
 zJ:br K "write_literal" uI
 zK:br K "write_field" pP
 zL:br K "write_kind" pO
 zM:br K "repetition_step" u6
 zN:br K "definition_step" u7
 zO:br K "gather_columns" pW
 zP:br K "columns_of" uZ
 zQ:eX K a.dM "__init__" "Column.__init__" uY
 Qo:PySem.W.nsIn K mainGlobals "Column"=some (some (.ref a.dM))
 Qp:PySem.W.makesIn K a.dM=true
 Qq:PySem.W.keepIn K (.ref a.dM)=true
 zR:br K "split_names" t_
 rE:br K "fields_along" pJ
 rF:jC K "fields_by_names" pH (tb 0)
 rG:jC K "fields_by_path" pI (tb 1)
 zS:br K "dotted_name" ua
 zU:br K "reply_check" u_
 zV:br K "reply_hold" vc
 zW:br K "reply_show" vd
 zX:br K "reply_columns" ve
 zY:br K "leaf_number" vg
 zZ:br K "reply_column" vf
 z6:br K "reply_name" vh
 z7:br K "reply_find" nh
 z8:br K "lost_first" u9
 z9:br K "shape_of_field" pX
 z_:br K "shape_of_group" m_
 Aa:br K "reply_keep" pY
 Ab:br K "settle" uK
 Ac:br K "field_or_none" uL
 Ad:br K "group_or_none" uM
 Ae:br K "put_field" uO
 Af:br K "reply_add" uN
 Ag:br K "reply_drop" pR
 Ah:br K "change_name" uQ
 Ai:br K "mode_by_number" tY
 Aj:br K "change_mode" uR
 Ak:br K "kind_or_none" uT
 Al:br K "change_kind" uS
 Am:br K "change_default" uU
 An:br K "change_field" uP
 rJ:jC K "reply_rename" pS (tb 2)
 rK:jC K "reply_rekind" pU (tb 4)
 rM:jC K "reply_default" pV (tb 5)
 rN:jC K "reply_remode" pT (tb 3)
 Ao:eX K a.bH "are_left" "Calls.are_left" vm
 Aq:eX K a.bH "take_number" "Calls.take_number" vn
 Ar:eX K a.bH "take_row" "Calls.take_row" vo
 As:eX K a.bH "take_handed" "Calls.take_handed" vp
 Au:br K "answer_question" vt
 Av:br K "answer_change" vv
 Aw:br K "answer_call" vq
 Ax:eX K a.bH "__init__" "Calls.__init__" vj
 Qs:PySem.W.nsIn K mainGlobals "Calls"=some (some (.ref a.bH))
 Qt:PySem.W.makesIn K a.bH=true
 Qu:PySem.W.keepIn K (.ref a.bH)=true
 Ay:br K "answers" ni
theorem CS.Qv(R:CS K a tb)(X:K.In h)(G:h.Ns mainGlobals mg):HX K mg a tb where
 yM:=R.yM.ok X G
 yN:=R.yN.ok X G
 yO:=R.yO.ok X G
 yP:=R.yP.ok X G
 yQ:=R.yQ.ok X G
 yR:=R.yR.ok X G
 yS:=R.yS.ok
 yT:=R.yT.ok
 yU:=R.yU.ok
 yV:=R.yV.ok
 yW:=R.yW.ok X G
 yX:=let⟨fd,F,_⟩:=Az R.yX;⟨fd,F,F.binds P9⟩
 yY:=R.yY.cls X G R.Qa R.Qc R.Qd
 yZ:=R.yZ.cls X G R.Qe R.Qg R.Qh
 y9:=R.y9.cls X G R.Qi R.Qj R.Qk
 y_:=R.y_.ok X G
 za:=R.za.ok X G
 zc:=R.zc.ok X G
 zd:=R.zd.ok X G
 ze:=R.ze.ok X G
 zf:=R.zf.ok X G
 zg:=R.zg.ok X G
 zh:=R.zh.ok X G
 zj:=R.zj.ok X G
 zk:=R.zk.ok X G
 zl:=R.zl.ok X G
 zm:=R.zm.ok X G
 zo:=R.zo.ok X G
 zp:=R.zp.ok X G
 zq:=R.zq.ok X G
 zu:=R.zu.ok X G
 zv:=R.zv.ok X G
 zw:=R.zw.ok X G
 zx:=R.zx.ok X G
 zy:=R.zy.ok X G
 zA:=R.zA.ok X G
 zB:=R.zB.ok X G
 zC:=R.zC.ok X G
 zD:=R.zD.cls X G R.Ql R.Qm R.Qn
 zE:=R.zE.ok
 zF:=R.zF.ok
 zG:=R.zG.ok X G
 zH:=R.zH.ok X G
 zI:=R.zI.ok X G
 zJ:=R.zJ.ok X G
 zK:=R.zK.ok X G
 zL:=R.zL.ok X G
 zM:=R.zM.ok X G
 zN:=R.zN.ok X G
 zO:=R.zO.ok X G
 zP:=R.zP.ok X G
 zQ:=R.zQ.cls X G R.Qo R.Qp R.Qq
 zR:=R.zR.ok X G
 rE:=R.rE.ok X G
 rF:=R.rF.ok X G
 rG:=R.rG.ok X G
 zS:=R.zS.ok X G
 zU:=R.zU.ok X G
 zV:=R.zV.ok X G
 zW:=R.zW.ok X G
 zX:=R.zX.ok X G
 zY:=R.zY.ok X G
 zZ:=R.zZ.ok X G
 z6:=R.z6.ok X G
 z7:=R.z7.ok X G
 z8:=R.z8.ok X G
 z9:=R.z9.ok X G
 z_:=R.z_.ok X G
 Aa:=R.Aa.ok X G
 Ab:=R.Ab.ok X G
 Ac:=R.Ac.ok X G
 Ad:=R.Ad.ok X G
 Ae:=R.Ae.ok X G
 Af:=R.Af.ok X G
 Ag:=R.Ag.ok X G
 Ah:=R.Ah.ok X G
 Ai:=R.Ai.ok X G
 Aj:=R.Aj.ok X G
 Ak:=R.Ak.ok X G
 Al:=R.Al.ok X G
 Am:=R.Am.ok X G
 An:=R.An.ok X G
 rJ:=R.rJ.ok X G
 rK:=R.rK.ok X G
 rM:=R.rM.ok X G
 rN:=R.rN.ok X G
 Ao:=R.Ao.ok
 Aq:=R.Aq.ok
 Ar:=R.Ar.ok
 As:=R.As.ok
 Au:=R.Au.ok X G
 Av:=R.Av.ok X G
 Aw:=R.Aw.ok X G
 Ax:=R.Ax.cls X G R.Qs R.Qt R.Qu
 Ay:=R.Ay.ok X G
structure CT(K:PySem.W.Frag)(a:aH):Prop where
 fR:∃t,PySem.W.nsIn K mainGlobals "MALFORMED"=some (some (.int (1) t))
 vI:∃t,PySem.W.nsIn K mainGlobals "NUMBER_NOT_GREATER"=some (some (.int (2) t))
 vJ:∃t,PySem.W.nsIn K mainGlobals "NAME_TWICE"=some (some (.int (3) t))
 vK:∃t,PySem.W.nsIn K mainGlobals "MODE_IN_CHOICE"=some (some (.int (4) t))
 lE:∃t,PySem.W.nsIn K mainGlobals "OUT_OF_RANGE"=some (some (.int (5) t))
 vL:∃t,PySem.W.nsIn K mainGlobals "NO_KEY"=some (some (.int (6) t))
 vM:∃t,PySem.W.nsIn K mainGlobals "TOO_DEEP"=some (some (.int (7) t))
 vN:∃t,PySem.W.nsIn K mainGlobals "TOO_MANY_LEAVES"=some (some (.int (8) t))
 vO:∃t,PySem.W.nsIn K mainGlobals "DEFAULT_MISPLACED"=some (some (.int (9) t))
 vP:∃t,PySem.W.nsIn K mainGlobals "TOO_LONG"=some (some (.int (10) t))
 iW:∃t,PySem.W.nsIn K mainGlobals "RECORD_START"=some (some (.int (123) t))
 lF:∃t,PySem.W.nsIn K mainGlobals "RECORD_END"=some (some (.int (125) t))
 ny:∃t,PySem.W.nsIn K mainGlobals "CHOICE_START"=some (some (.int (60) t))
 qd:∃t,PySem.W.nsIn K mainGlobals "CHOICE_END"=some (some (.int (62) t))
 qe:∃t,PySem.W.nsIn K mainGlobals "SEPARATOR"=some (some (.int (59) t))
 qf:∃t,PySem.W.nsIn K mainGlobals "EQUALS"=some (some (.int (61) t))
 vQ:∃t,PySem.W.nsIn K mainGlobals "MINUS"=some (some (.int (45) t))
 kF:∃t,PySem.W.nsIn K mainGlobals "QUOTE"=some (some (.int (34) t))
 nA:∃t,PySem.W.nsIn K mainGlobals "BACKSLASH"=some (some (.int (92) t))
 qg:∃t,PySem.W.nsIn K mainGlobals "DOT"=some (some (.int (46) t))
 vR:∃t,PySem.W.nsIn K mainGlobals "UNDERSCORE"=some (some (.int (95) t))
 jm:∃t,PySem.W.nsIn K mainGlobals "MODE_ONE"=some (some (.int (33) t))
 qh:∃t,PySem.W.nsIn K mainGlobals "MODE_PERHAPS"=some (some (.int (63) t))
 lG:∃t,PySem.W.nsIn K mainGlobals "MODE_MANY"=some (some (.int (42) t))
 kG:∃t,PySem.W.nsIn K mainGlobals "MODE_KEYED"=some (some (.int (37) t))
 lH:∃t,PySem.W.nsIn K mainGlobals "BIT"=some (some (.int (98) t))
 lI:∃t,PySem.W.nsIn K mainGlobals "WHOLE"=some (some (.int (105) t))
 vS:∃t,PySem.W.nsIn K mainGlobals "TEXT"=some (some (.int (116) t))
 jn:∃t,PySem.W.nsIn K mainGlobals "DIGIT_0"=some (some (.int (48) t))
 qi:∃t,PySem.W.nsIn K mainGlobals "DIGIT_1"=some (some (.int (49) t))
 vU:∃t,PySem.W.nsIn K mainGlobals "DIGIT_9"=some (some (.int (57) t))
 lJ:∃t,PySem.W.nsIn K mainGlobals "LETTER_A"=some (some (.int (97) t))
 vV:∃t,PySem.W.nsIn K mainGlobals "LETTER_F"=some (some (.int (102) t))
 vW:∃t,PySem.W.nsIn K mainGlobals "LETTER_Z"=some (some (.int (122) t))
 vX:∃t,PySem.W.nsIn K mainGlobals "BLANK"=some (some (.int (32) t))
 vY:∃t,PySem.W.nsIn K mainGlobals "TILDE"=some (some (.int (126) t))
 nB:∃t,PySem.W.nsIn K mainGlobals "NO_SIGN"=some (some (.int (-1) t))
 vZ:∃t,PySem.W.nsIn K mainGlobals "MOST_DIGITS"=some (some (.int (19) t))
 qj:∃t,PySem.W.nsIn K mainGlobals "MOST_BYTES"=some (some (.int (2000) t))
 v9:∃t,PySem.W.nsIn K mainGlobals "MOST_DEPTH"=some (some (.int (6) t))
 v_:∃t,PySem.W.nsIn K mainGlobals "MOST_LEAVES"=some (some (.int (40) t))
 wc:∃t,PySem.W.nsIn K mainGlobals "MOST_NAME_SIGNS"=some (some (.int (12) t))
 we:∃t,PySem.W.nsIn K mainGlobals "MOST_NUMBER_DIGITS"=some (some (.int (3) t))
 wg:∃t,PySem.W.nsIn K mainGlobals "LEAST_BITS"=some (some (.int (2) t))
 wj:∃t,PySem.W.nsIn K mainGlobals "MOST_BITS"=some (some (.int (64) t))
 wm:∃t,PySem.W.nsIn K mainGlobals "NO_SCHEMA"=some (some (.int (-1) t))
 wo:∃t,PySem.W.nsIn K mainGlobals "NOTHING_HELD"=some (some (.int (-2) t))
 qk:∃t,PySem.W.nsIn K mainGlobals "NO_COLUMN"=some (some (.int (-3) t))
 kH:∃t,PySem.W.nsIn K mainGlobals "NO_FIELD"=some (some (.int (-4) t))
 lK:∃t,PySem.W.nsIn K mainGlobals "UNFIT_TEXT"=some (some (.int (-5) t))
 wu:∃t,PySem.W.nsIn K mainGlobals "NO_MODE"=some (some (.int (-6) t))
 wz:∃t,PySem.W.nsIn K mainGlobals "UNSETTLED"=some (some (.int (-10) t))
 wA:∃t,PySem.W.nsIn K mainGlobals "CHECK"=some (some (.int (0) t))
 wB:∃t,PySem.W.nsIn K mainGlobals "HOLD"=some (some (.int (1) t))
 wC:∃t,PySem.W.nsIn K mainGlobals "SHOW"=some (some (.int (2) t))
 wD:∃t,PySem.W.nsIn K mainGlobals "COLUMNS"=some (some (.int (3) t))
 wF:∃t,PySem.W.nsIn K mainGlobals "COLUMN"=some (some (.int (4) t))
 wH:∃t,PySem.W.nsIn K mainGlobals "FIND"=some (some (.int (5) t))
 wI:∃t,PySem.W.nsIn K mainGlobals "NAME"=some (some (.int (6) t))
 ql:∃t,PySem.W.nsIn K mainGlobals "ADD"=some (some (.int (7) t))
 wJ:∃t,PySem.W.nsIn K mainGlobals "DROP"=some (some (.int (8) t))
 wK:∃t,PySem.W.nsIn K mainGlobals "RENAME"=some (some (.int (9) t))
 wL:∃t,PySem.W.nsIn K mainGlobals "REMODE"=some (some (.int (10) t))
 wM:∃t,PySem.W.nsIn K mainGlobals "REKIND"=some (some (.int (11) t))
 wN:∃t,PySem.W.nsIn K mainGlobals "DEFAULT"=some (some (.int (12) t))
 qm:∃t,PySem.W.nsIn K mainGlobals "SIXTEENTHS"=some (some (.str "0123456789abcdef" t))
 wO:PySem.W.nsIn K mainGlobals "NUMBERS_HANDED"=some (some (.ref a.nu))
 wQ:PySem.W.nsIn K mainGlobals "ROWS_HANDED"=some (some (.ref a.nv))
 wR:pG K a.nu [.int 0,.int 0,.int 0,.int 0,.int 1,.int 0,.int 0,.int 0,.int 0,.int 0,.int 1,.int 0,.int 0,.int 0]
 wU:pG K a.nv [.int 1,.int 1,.int 0,.int 0,.int 0,.int 1,.int 1,.int 2,.int 1,.int 2,.int 1,.int 2,.int 2,.int 1]
 wV:PySem.W.nsIn K mainGlobals "all"=some Option.none
 qo:PySem.W.nsIn K mainGlobals "enumerate"=some Option.none
 wW:PySem.W.nsIn K mainGlobals "int"=some Option.none
 wX:PySem.W.nsIn K mainGlobals "isinstance"=some Option.none
 bY:PySem.W.nsIn K mainGlobals "len"=some Option.none
 wY:PySem.W.nsIn K mainGlobals "list"=some Option.none
 wZ:PySem.W.nsIn K mainGlobals "max"=some Option.none
 w6:PySem.W.nsIn K mainGlobals "min"=some Option.none
 nD:PySem.W.nsIn K mainGlobals "ord"=some Option.none
 nE:PySem.W.nsIn K mainGlobals "range"=some Option.none
 w9:PySem.W.nsIn K mainGlobals "str"=some Option.none
 bI:dG K a.b7
 bC:dG K a.cD
 bx:dG K a.aR
 dN:dG K a.cF
 gy:dG K a.dM
 eH:dG K a.bH
 e9:PySem.W.findIn K (.ref a.b7) "sign"=some Option.none
 jo:PySem.W.findIn K (.ref a.b7) "size"=some Option.none
 c8:PySem.W.findIn K (.ref a.b7) "fields"=some Option.none
 gh:PySem.W.findIn K (.ref a.cD) "number"=some Option.none
 iX:PySem.W.findIn K (.ref a.cD) "name"=some Option.none
 gK:PySem.W.findIn K (.ref a.cD) "mode"=some Option.none
 e_:PySem.W.findIn K (.ref a.cD) "kind"=some Option.none
 iY:PySem.W.findIn K (.ref a.cD) "default"=some Option.none
 kI:PySem.W.findIn K (.ref a.aR) "text"=some Option.none
 dX:PySem.W.findIn K (.ref a.aR) "place"=some Option.none
 lM:PySem.W.findIn K (.ref a.aR) "leaves"=some Option.none
 gM:PySem.W.findIn K (.ref a.cF) "schema"=some Option.none
 kJ:PySem.W.findIn K (.ref a.cF) "text"=some Option.none
 nF:PySem.W.findIn K (.ref a.dM) "kind"=some Option.none
 qp:PySem.W.findIn K (.ref a.dM) "repetition"=some Option.none
 qs:PySem.W.findIn K (.ref a.dM) "definition"=some Option.none
 kK:PySem.W.findIn K (.ref a.dM) "path"=some Option.none
 lN:PySem.W.findIn K (.ref a.bH) "numbers"=some Option.none
 iZ:PySem.W.findIn K (.ref a.bH) "place"=some Option.none
 jO:PySem.W.nsIn K mainGlobals "Fault"=some (some (.ref a.dJ))
 err:gJ K a.dJ a.kE ["kind","place"]
theorem CT.txt(R:CT K a)(X:K.In h)(G:h.Ns mainGlobals mg):Txt K mg a where
 fR:=let⟨t,e⟩:=R.fR;⟨t,PySem.W.mg_of X G e⟩
 vI:=let⟨t,e⟩:=R.vI;⟨t,PySem.W.mg_of X G e⟩
 vJ:=let⟨t,e⟩:=R.vJ;⟨t,PySem.W.mg_of X G e⟩
 vK:=let⟨t,e⟩:=R.vK;⟨t,PySem.W.mg_of X G e⟩
 lE:=let⟨t,e⟩:=R.lE;⟨t,PySem.W.mg_of X G e⟩
 vL:=let⟨t,e⟩:=R.vL;⟨t,PySem.W.mg_of X G e⟩
 vM:=let⟨t,e⟩:=R.vM;⟨t,PySem.W.mg_of X G e⟩
 vN:=let⟨t,e⟩:=R.vN;⟨t,PySem.W.mg_of X G e⟩
 vO:=let⟨t,e⟩:=R.vO;⟨t,PySem.W.mg_of X G e⟩
 vP:=let⟨t,e⟩:=R.vP;⟨t,PySem.W.mg_of X G e⟩
 iW:=let⟨t,e⟩:=R.iW;⟨t,PySem.W.mg_of X G e⟩
 lF:=let⟨t,e⟩:=R.lF;⟨t,PySem.W.mg_of X G e⟩
 ny:=let⟨t,e⟩:=R.ny;⟨t,PySem.W.mg_of X G e⟩
 qd:=let⟨t,e⟩:=R.qd;⟨t,PySem.W.mg_of X G e⟩
 qe:=let⟨t,e⟩:=R.qe;⟨t,PySem.W.mg_of X G e⟩
 qf:=let⟨t,e⟩:=R.qf;⟨t,PySem.W.mg_of X G e⟩
 vQ:=let⟨t,e⟩:=R.vQ;⟨t,PySem.W.mg_of X G e⟩
 kF:=let⟨t,e⟩:=R.kF;⟨t,PySem.W.mg_of X G e⟩
 nA:=let⟨t,e⟩:=R.nA;⟨t,PySem.W.mg_of X G e⟩
 qg:=let⟨t,e⟩:=R.qg;⟨t,PySem.W.mg_of X G e⟩
 vR:=let⟨t,e⟩:=R.vR;⟨t,PySem.W.mg_of X G e⟩
 jm:=let⟨t,e⟩:=R.jm;⟨t,PySem.W.mg_of X G e⟩
 qh:=let⟨t,e⟩:=R.qh;⟨t,PySem.W.mg_of X G e⟩
 lG:=let⟨t,e⟩:=R.lG;⟨t,PySem.W.mg_of X G e⟩
 kG:=let⟨t,e⟩:=R.kG;⟨t,PySem.W.mg_of X G e⟩
 lH:=let⟨t,e⟩:=R.lH;⟨t,PySem.W.mg_of X G e⟩
 lI:=let⟨t,e⟩:=R.lI;⟨t,PySem.W.mg_of X G e⟩
 vS:=let⟨t,e⟩:=R.vS;⟨t,PySem.W.mg_of X G e⟩
 jn:=let⟨t,e⟩:=R.jn;⟨t,PySem.W.mg_of X G e⟩
 qi:=let⟨t,e⟩:=R.qi;⟨t,PySem.W.mg_of X G e⟩
 vU:=let⟨t,e⟩:=R.vU;⟨t,PySem.W.mg_of X G e⟩
 lJ:=let⟨t,e⟩:=R.lJ;⟨t,PySem.W.mg_of X G e⟩
 vV:=let⟨t,e⟩:=R.vV;⟨t,PySem.W.mg_of X G e⟩
 vW:=let⟨t,e⟩:=R.vW;⟨t,PySem.W.mg_of X G e⟩
 vX:=let⟨t,e⟩:=R.vX;⟨t,PySem.W.mg_of X G e⟩
 vY:=let⟨t,e⟩:=R.vY;⟨t,PySem.W.mg_of X G e⟩
 nB:=let⟨t,e⟩:=R.nB;⟨t,PySem.W.mg_of X G e⟩
 vZ:=let⟨t,e⟩:=R.vZ;⟨t,PySem.W.mg_of X G e⟩
 qj:=let⟨t,e⟩:=R.qj;⟨t,PySem.W.mg_of X G e⟩
 v9:=let⟨t,e⟩:=R.v9;⟨t,PySem.W.mg_of X G e⟩
 v_:=let⟨t,e⟩:=R.v_;⟨t,PySem.W.mg_of X G e⟩
 wc:=let⟨t,e⟩:=R.wc;⟨t,PySem.W.mg_of X G e⟩
 we:=let⟨t,e⟩:=R.we;⟨t,PySem.W.mg_of X G e⟩
 wg:=let⟨t,e⟩:=R.wg;⟨t,PySem.W.mg_of X G e⟩
 wj:=let⟨t,e⟩:=R.wj;⟨t,PySem.W.mg_of X G e⟩
 wm:=let⟨t,e⟩:=R.wm;⟨t,PySem.W.mg_of X G e⟩
 wo:=let⟨t,e⟩:=R.wo;⟨t,PySem.W.mg_of X G e⟩
 qk:=let⟨t,e⟩:=R.qk;⟨t,PySem.W.mg_of X G e⟩
 kH:=let⟨t,e⟩:=R.kH;⟨t,PySem.W.mg_of X G e⟩
 lK:=let⟨t,e⟩:=R.lK;⟨t,PySem.W.mg_of X G e⟩
 wu:=let⟨t,e⟩:=R.wu;⟨t,PySem.W.mg_of X G e⟩
 wz:=let⟨t,e⟩:=R.wz;⟨t,PySem.W.mg_of X G e⟩
 wA:=let⟨t,e⟩:=R.wA;⟨t,PySem.W.mg_of X G e⟩
 wB:=let⟨t,e⟩:=R.wB;⟨t,PySem.W.mg_of X G e⟩
 wC:=let⟨t,e⟩:=R.wC;⟨t,PySem.W.mg_of X G e⟩
 wD:=let⟨t,e⟩:=R.wD;⟨t,PySem.W.mg_of X G e⟩
 wF:=let⟨t,e⟩:=R.wF;⟨t,PySem.W.mg_of X G e⟩
 wH:=let⟨t,e⟩:=R.wH;⟨t,PySem.W.mg_of X G e⟩
 wI:=let⟨t,e⟩:=R.wI;⟨t,PySem.W.mg_of X G e⟩
 ql:=let⟨t,e⟩:=R.ql;⟨t,PySem.W.mg_of X G e⟩
 wJ:=let⟨t,e⟩:=R.wJ;⟨t,PySem.W.mg_of X G e⟩
 wK:=let⟨t,e⟩:=R.wK;⟨t,PySem.W.mg_of X G e⟩
 wL:=let⟨t,e⟩:=R.wL;⟨t,PySem.W.mg_of X G e⟩
 wM:=let⟨t,e⟩:=R.wM;⟨t,PySem.W.mg_of X G e⟩
 wN:=let⟨t,e⟩:=R.wN;⟨t,PySem.W.mg_of X G e⟩
 qm:=let⟨t,e⟩:=R.qm;⟨t,PySem.W.mg_of X G e⟩
 wO:=PySem.W.mg_of X G R.wO
 wQ:=PySem.W.mg_of X G R.wQ
 wR:=R.wR
 wU:=R.wU
 wV:=PySem.W.mg_none_of X G R.wV
 qo:=PySem.W.mg_none_of X G R.qo
 wW:=PySem.W.mg_none_of X G R.wW
 wX:=PySem.W.mg_none_of X G R.wX
 bY:=PySem.W.mg_none_of X G R.bY
 wY:=PySem.W.mg_none_of X G R.wY
 wZ:=PySem.W.mg_none_of X G R.wZ
 w6:=PySem.W.mg_none_of X G R.w6
 nD:=PySem.W.mg_none_of X G R.nD
 nE:=PySem.W.mg_none_of X G R.nE
 w9:=PySem.W.mg_none_of X G R.w9
 bI:=R.bI
 bC:=R.bC
 bx:=R.bx
 dN:=R.dN
 gy:=R.gy
 eH:=R.eH
 e9:=R.e9
 jo:=R.jo
 c8:=R.c8
 gh:=R.gh
 iX:=R.iX
 gK:=R.gK
 e_:=R.e_
 iY:=R.iY
 kI:=R.kI
 dX:=R.dX
 lM:=R.lM
 gM:=R.gM
 kJ:=R.kJ
 nF:=R.nF
 qp:=R.qp
 qs:=R.qs
 kK:=R.kK
 lN:=R.lN
 iZ:=R.iZ
 jO:=PySem.W.mg_of X G R.jO
 err:=R.err
end Vp
end
section
namespace Vp
open PySem PySem.Spec PyProof.Rows L2
open PySem.W (WData Codec OpenSpec tabObj noTabs)
theorem oE{K:PySem.W.Frag}{q:Program}{loose:List Str}{mean:ExcName→Option Value}{mg mb:Str→Option Value}{h:Heap}{x:Str}{st:Stmt}{T:Addr}(Tp:Top q loose mean mg mb h)(X:K.In h)(D:jC K x st T)(hr:(recsOf q).any (fun e=>e.name==x)=true):h.get? T=some (tabObj #[])∧isCodeTable h T:=by
 obtain⟨f,c,oc,od,kV,doc,pm,an,ct,osl,g,l,co,k,hd⟩:=D;obtain⟨d,hd1,hd2⟩:=List.any_eq_true.mp hr;obtain⟨a,o,fd,c',P',h1,h2,h3,h4,h5,h6⟩:=Tp.tab d hd1;have e1:=PySem.W.mg_of X Tp.g g;rw[beq_iff_eq.mp hd2,e1]at h1;cases h1;have e2:=X _ _ l;rw[h2]at e2;cases e2;cases h3;cases h4;have C:=PySem.W.codeHd_of_K X hd;have C2:=PySem.W.CodeHd.of h5 h6
 have eT:P'=T:=by
  obtain⟨o1,vs1,_,_,_,_,_,_,_,q1,_,q3,q4,_⟩:=C;obtain⟨o2,vs2,_,_,_,_,_,_,_,p1,_,p3,p4,_⟩:=C2;rw[q1]at p1;cases p1;rw[q3]at p3;cases p3;rw[q4]at p4;cases p4;rfl
 subst eT;exact⟨h6.2,(C.tab h6.2).isCodeTable⟩
theorem Qw{r:OpenSpec}{k:Nat}{q:Program}{loose:List Str}{XP:(Str→Option Value)→Heap→Prop}{YP:World→Heap→Prop}{d:DefRec}{K:Params→PySem.W.Frag}{ps:List Str}{sp:World→Sp}{tb:Nat→Addr}
  (hwell:r.wellSaid=true)(hlen:r.args.length=ps.length)(hr:bX k callerA)(hY:∀(w:World)(h:Heap),YP w h→(K w.params).In h)(hnt:∀w:World,noTabs (K w.params)=true)
  (hTab:∀(w:World)(mean:ExcName→Option Value)(loose':List Str)(mg mb:Str→Option Value)(h:Heap),Top q loose' mean mg mb h→(K w.params).In h→∀i<6,h.get? (tb i)=some (tabObj #[])∧isCodeTable h (tb i))
  (F:∀(w:World)(mg:Str→Option Value)(fa:Addr)(h:Heap),(K w.params).In h→h.Ns mainGlobals mg→mg d.name=some (.ref fa)→
   ∃fd:FuncData,(∀(s:Shared)(us:List Value),us.length=ps.length→BindsTo s fd ⟨us,[]⟩ (ps.zip us))∧
    ∀base:Heap,(K w.params).In base→base.Ns mainGlobals mg→BMain mg base→aF r.prog w (K w.params) mg base af k fa fd ps (sp w))
  (hsp:∀(w:World)(H:Hp)(xs:List V)(a:Codec.denoteAll r.args),(∀i<6,H (tb i)=some (.cV #[]))→Codec.withinAll r.args a=true→Codec.app r.args r.asked a=true→g6 (K w.params) H xs (Codec.encAll r.args a)→
   sp w xs H (fun v H'=>Dw (K w.params) H' v (r.ret.enc (Codec.app r.args r.f a))) E0):
  PySem.W.WalkOS q loose XP YP r d [] (fun f vs=>PySem.call f vs):=by
 intro w cR s₁ mg mb G Y fa o pm cd doc dV kV ho hd hcd hD hmg hg args vals as hpre hlay hrd hwl hlo;obtain⟨a,e1,e2⟩:=PySem.W.os_pre_some hpre;obtain⟨e3,hwi⟩:=Codec.encAll_of_decAll r.args args a e1;subst e3;have KX:=hY w _ Y;obtain⟨fd,hb,hF⟩:=F w mg fa _ KX G.T.g hmg;have hT:=hTab w _ _ mg mb _ G.T KX
 refine PySem.W.enter_call (codeAny_mono (P4 (R:=[]) (cl:=classAt cR.heap) (d0:=r.ret.enc (Codec.app r.args r.f a)) (tb:=tb) KX G.T.g G.T.b G.T.builtins G.T.nolimit hg hwl (FP _ _) (K9 hlay) hr (hnt w) (fun i hi=>(hT i hi).1) (fun i hi=>(hT i hi).2) G.T.bmain hF hb (by rw[F1];exact hlen)
  (fun H xs hO hS=>hsp w H xs a hO hwi e2 hS)) fun r' s' hq=>?_)
 obtain⟨u,as',rfl,h1,h2,h3,h4⟩:=hq;exact⟨.inl ⟨u,_,as',rfl,fun _=>rfl,h1,(OpenSpec.post_iff hwell hwi _ _).mpr rfl,fun z=>Bool.noConfusion (show false=true from z)⟩,h2,h3,h4⟩
end Vp
end
section
namespace Vp
open PySem PySem.Spec PyProof.Rows L2
def HY:aH:={dJ:=31,kE:=28,b7:=100,cD:=121,aR:=217,cF:=554,dM:=575,bH:=732,nu:=686,nv:=687}
def rO:Tb
 |0=>148
 |1=>155
 |2=>455
 |3=>462
 |4=>469
 |_=>476
theorem Qx{α:Type}{p:α→Prop}{t:α}(h:p t):∃t,p t:=⟨t,h⟩
theorem Qy{K:PySem.W.Frag}{p:Addr}{xs:List V}{od:Option Addr}{its:Array Value}{n:Nat}{sl:Array (Option Value)}(l:K.lookup p=some ⟨.type "tuple",od,.seq its n,sl⟩)(v:Vals xs its.toList)(z:its.size≤sizeLine):pG K p xs:=⟨_,its,n,l,rfl,rfl,z,v⟩
theorem Qz:∀f∈(["kind","place"]:List Str),typeLookup (.type "Exception") f=pure Option.none:=by
 intro f hf;rcases List.mem_cons.mp hf with rfl|hf
 ·kernel_rfl
 ·rw[List.mem_singleton.mp hf]
  kernel_rfl
theorem QA:∀i<6,∀j<6,rO i=rO j→i=j:=by decide
theorem QB{q:Program}(h:((List.range 6).all fun i=>(recsOf q).any fun e=>e.name==xR i)=true):∀i<6,(recsOf q).any (fun e=>e.name==xR i)=true:=fun i hi=>List.all_eq_true.mp h i (List.mem_range.mpr hi)
theorem QC:bX 36 callerA:=⟨rfl,by decide,by decide⟩
theorem QD{q:Program}{loose:List Str}{XP:(Str→Option Value)→Heap→Prop}{YP:World→Heap→Prop}{d:DefRec}{K:Params→PySem.W.Frag}(hY:∀(w:World)(h:Heap),YP w h→(K w.params).In h)(hdn:d.name="answers")
  (hrec:((List.range 6).all fun i=>(recsOf q).any fun e=>e.name==xR i)=true)(hnt:∀w:World,PySem.W.noTabs (K w.params)=true)(htx:∀w:World,CT (K w.params) HY)(hfn:∀w:World,CS (K w.params) HY rO):
  PySem.W.WalkOS q loose XP YP PySem.Challenge.rw_fieldplan_s01_answers d [] (fun f vs=>PySem.call f vs):=by
 refine Qw (r:=PySem.Challenge.rw_fieldplan_s01_answers) (k:=36) (K:=K) (ps:=["calls"]) (sp:=fun w=>yJ (K w.params) rO) (tb:=rO) said rfl QC hY hnt ?_ ?_ ?_
 ·intro w mean loose' mg mb h Tp X i hi
  have R:=hfn w;have hr:=QB hrec
  match i,hi with
  |0,hi=>exact oE Tp X R.rF (hr 0 hi)
  |1,hi=>exact oE Tp X R.rG (hr 1 hi)
  |2,hi=>exact oE Tp X R.rJ (hr 2 hi)
  |3,hi=>exact oE Tp X R.rN (hr 3 hi)
  |4,hi=>exact oE Tp X R.rK (hr 4 hi)
  |5,hi=>exact oE Tp X R.rM (hr 5 hi)
 ·intro w mg fa h X G hmg
  have R:=hfn w;obtain⟨f,a,oc,od,kV,doc,pm,an,cdv,ct,osl,l,c,k⟩:=R.Ay;rw[hdn]at hmg;have e:=hmg.symm.trans (PySem.W.mg_of X G a);cases e;refine⟨_,fun s us hu=>.of_eq (P_ kV doc pm an cdv ct us hu),fun base hK hG hB=>?_⟩;exact P5 (BQ l c k) ((htx w).txt hK hG) (R.Qv hK hG) hK hB
 ·intro w H xs a hT hwi hask hx
  cases hx with
  |cons h1 h2=>
   cases h2;cases h1 with
   |lst hs ha=>
    have e:=FN a.1 _ ha;subst e;exact⟨_,a.1,rfl,hs,⟨QA,fun i hi=>.inl (hT i hi)⟩,hask,fun H' r _ _ _ hr=>.lst (ay.of hr) (FL _)⟩
end Vp
end
namespace Vp
open PySem PySem.W PyProof.Rows
theorem PySem.W.holds_os{r:OpenSpec}{q:Program}{loose:List Str}{Xt:Shared→Bool}{XP:(Str→Option Value)→Heap→Prop}{α:Type}{Yf:Shared→α}{Ya:World→α}{YP:World→Heap→Prop}{d:DefRec}{kwd:List (Str×Expr)}{N:Nat}
  (left:LeftO r.prog (view r.prog []) r.prog.boundNames (fun _=>true)
   (fun s=>((seen ((recsOf q).map (·.name)) (ownsOf q) [] {s with gens:=#[]},s.heap.bltView),
    (s.heap.keysOk (looseW q loose) ((recsOf q).map (·.name)) ((litsOf q).map (·.1)) ((clssOf q (looseW q loose)).map (·.name)),
     s.heap.accountedOkI (importedModules r.prog.main.body)&&s.heap.isNs mainGlobals&&s.heap.isNs builtinsNs),
    (tablesOk q s.heap,Xt s&&s.gens.size==0),(tabsOk q s,pinSeenD q (drecsOf q) s),
    (plainSeenE q (looseW q loose) s,plainSeenD q loose s),(wideSeen q s,clsSeenW q loose s),Yf s))
   (fun w=>((expectedOf q,bltViewBooted),(true,true),(true,true),(true,pinGoodD (drecsOf q)),
    (plainGoodE q (looseW q loose),plainGoodD q loose),(wideGood q,clsGoodW q loose),Ya w)) N)
  (hY:∀w s,Yf s=Ya w→YP w s.heap)(hYk:∀w h h',YP w h→(∀b o,h.get? b=some o→h'.get? b=some o)→YP w h')
  (hX:∀s,Xt s=true→XP (s.heap.nsMap mainGlobals) s.heap)(hXk:∀mg h h',XP mg h→(∀b o,h.get? b=some o→h'.get? b=some o)→XP mg h')
  (hdef:defOf q r.name=some (d,kwd))(hp:r.prog.theDef r.name=some (d.params,d.body,d.scope))(hk:kwWritten? d.params.kwonlyargs d.params.kw_defaults=some kwd)
  (hRf:∀s,Xt s=true→RecFacts [] s.heap)(hsh:∀as,r.pre as=true→WShape.hasAll [] as (r.args.map Codec.shape)=true)
  (k1:r.wellSaid=true)(ok:(chainsOk q&&opensWell r.prog)=true)(hb:r.prog.bare)(hw:∃args,r.pre args=true∧WData.layableAll args=true)
  (call:WalkOS q loose XP YP r d kwd fun f vs=>PySem.call f vs):r.Holds:=by
 refine _root_.PySem.W.holds_os (q:=q) (loose:=loose) (Xt:=Xt) (XP:=XP) (Yf:=Yf) (Ya:=Ya) (YP:=YP) (N:=N) (fun w=>?_) hY hYk hX hXk hdef hp hk hRf hsh k1 ok hb hw call;obtain⟨s,h1,e⟩:=Option.map_eq_some_iff.mp (left w);have e:=(Prod.mk.inj e).2;simp only[Prod.mk.injEq,Bool.and_eq_true]at e;obtain⟨⟨a1,a2⟩,⟨b1,⟨b2,b3⟩,b4⟩,⟨c1,c2,c3⟩,⟨d1,d2⟩,⟨e1,e2⟩,⟨f1,f2⟩,y⟩:=e;refine Option.map_eq_some_iff.mpr ⟨s,h1,?_⟩;rw[y];unfold openSeen openGood;rw[a1,a2,b1,b2,b3,b4,c1,c2,d1,d2,e1,e2,f1,f2];simp only[if_true,c3,Bool.and_true]
end Vp
namespace Vp
open PySem PySem.W PyProof.Rows
set_option maxHeartbeats 0 in
theorem fin:PySem.Challenge.rw_fieldplan_s01_answers.Holds:=by
 have hsaid:PySem.Challenge.rw_fieldplan_s01_answers.wellSaid=true:=Vp.said
 w_on;k_headS;(case hw=>exact⟨[.list [.int 3]],by decide+kernel,by decide+kernel⟩)
 k_fillS
 refine Vp.QD (fun w h Y=>PySem.W.kIn_of Y) rfl ?hrec ?hnt ?htx ?hfn
 case hrec=>kernel_rfl
 case hnt=>
  intro w
  kernel_rfl
 case htx=>
  intro w;constructor
  all_goals first|k_is|(refine' Vp.Qy ?kl9 ?kv9 ?kz9;(case kl9=>k_is);(case kz9=>decide);(case kv9=>(repeat' (first|exact .nil|refine .cons ⟨_,rfl⟩ ?_))))|(refine' Vp.Qx ?_<;>(try k_is);done)|(refine'⟨?_,?_,?_,?_⟩<;>k_is)|(refine' L2.Lm ?_ ?_ Vp.Qz<;>(first|k_is|kernel_rfl))
 case hfn=>
  intro w;constructor
  any_goals k_is
  all_goals try (refine' Vp.P6 ?_ (Vp.CQ ?_ ?_ ?_)<;>(try k_is)<;>(try k_is))
  all_goals try (refine' Vp.P7 ?_ ?_ (Vp.CQ ?_ ?_ ?_)<;>(try k_is)<;>(try k_is))
  all_goals try (refine' Vp.CQ ?_ ?_ ?_<;>(try k_is)<;>(try k_is))
  all_goals(refine' Vp.P8 ?_ ?_ ?_ ?_ ?_<;>(try k_is)<;>(try k_is)<;>(try kernel_rfl))
end Vp
theorem PySem.Challenge.cw_fieldplan_s01_answers_holds : PySem.Challenge.rw_fieldplan_s01_answers.Holds :=
 Vp.fin
